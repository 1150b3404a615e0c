/- Vocabularies: a line's reader. -/
import Derived.Test.YtmdhendfmhhniaaDoorVb
import Derived.Test.YtmdhendfmhhniaaDoorPw
import Derived.RangeFuncBox
namespace Go.Proofs.YtmdhendfmhhniaaDoor
open Go.RowKit Go.Maps
variable {w w' : World}

abbrev EntB := Nat × ByteArray
def lastE (out : List EntB) : Int := match out.getLast? with
  | some p => (p.1 : Int)
  | none => -1
theorem lastE_snoc (out : List EntB) (p : EntB) : lastE (out ++ [p]) = (p.1 : Int) := by unfold lastE; simp
def rdV (out : List EntB) (s : ByteArray) : EntB ⊕ Int := match entR s with
  | none => .inr 2
  | some p => if (p.1 : Int) ≤ lastE out then .inr 12 else if inB (out.map (·.2)) p.2 then .inr 10 else .inl p
/-- Only the blocks p and m have changed. -/
structure FrV (p m : Nat) (w w' : World) : Prop where
  low : Below 0 w w'
  size : w.heap.size ≤ w'.heap.size
  block : ∀ k, k < w.heap.size → k ≠ p → k ≠ m → w'.heap[k]? = w.heap[k]?
theorem FrV.of_below {p m : Nat} (h : Below w.heap.size w w') : FrV p m w w' := ⟨h.mono (Nat.zero_le _), h.size, fun k hk _ _ => h.block k hk⟩
theorem FrV.trans {p m : Nat} {w'' : World} (h : FrV p m w w') (k : FrV p m w' w'') : FrV p m w w'' :=
  ⟨h.low.trans k.low, Nat.le_trans h.size k.size, fun i hi a b => (k.block i (Nat.lt_of_lt_of_le hi h.size) a b).trans (h.block i hi a b)⟩
theorem FrV.ofM {p m : Nat} (h : FrM m w w') : FrV p m w w' := ⟨h.low, h.size, fun k hk _ b => h.block k hk b⟩
theorem FrV.set {p m i : Nat} (h : FrV p m w w') (v : Value) : FrV p m w (w'.setCell ⟨p, i, none⟩ v) :=
  ⟨h.low.trans ((Below.refl 0 w').setCell (p := ⟨p, i, none⟩) (Nat.zero_le _) v), Nat.le_trans h.size (by simp), fun k hk hb hc => (Below.heap_setCell w' ⟨p, i, none⟩ v k hb).trans (h.block k hk hb hc)⟩
theorem FrV.setNew {p m r i : Nat} (h : FrV p m w w') (hr : w.heap.size ≤ r) (v : Value) : FrV p m w (w'.setCell ⟨r, i, none⟩ v) :=
  ⟨h.low.trans ((Below.refl 0 w').setCell (p := ⟨r, i, none⟩) (Nat.zero_le _) v), Nat.le_trans h.size (by simp), fun k hk hb hc => (Below.heap_setCell w' ⟨r, i, none⟩ v k (by show k ≠ r; omega)).trans (h.block k hk hb hc)⟩
def OffG (k : Nat) : Prop := k ≠ 2 ∧ k ≠ 3 ∧ k ≠ 1
theorem StrAt.frv {p m : Nat} (h : StrAt w) (hp : OffG p) (hm : OffG m) (hf : FrV p m w w') : StrAt w' := by
  obtain ⟨a, b, c⟩ := h.lt
  exact h.keep (hf.block _ a (fun e => hp.1 e.symm) (fun e => hm.1 e.symm)) (hf.block _ b (fun e => hp.2.1 e.symm) (fun e => hm.2.1 e.symm)) (hf.block _ c (fun e => hp.2.2 e.symm) (fun e => hm.2.2 e.symm))
/-- The boxes at p and k hold the last number and the map at m, which is the set of the tokens. -/
structure IsVo (p k m : Nat) (out : List EntB) (w : World) : Prop where
  prev : Boxed w p 3 (.int .i64 (lastE out))
  box : w.cell? ⟨k, 0, none⟩ = some (.map (some m))
  set : IsTx m out.length (out.map (·.2)) w
  str : StrAt w
  op : OffG p
  om : OffG m
  kp : k ≠ p
theorem IsVo.below {p k m : Nat} {out : List EntB} (h : IsVo p k m out w) (hb : Below w.heap.size w w') : IsVo p k m out w' :=
  ⟨(hb.block p h.prev.lt).trans h.prev, (hb.cell (p := ⟨k, 0, none⟩) (World.block_lt_of_cell? w _ h.box)).trans h.box, h.set.keep (hb.block m h.set.lt), h.str.below hb, h.op, h.om, h.kp⟩
theorem IsVo.ne {p k m : Nat} {out : List EntB} (h : IsVo p k m out w) : p ≠ m := by
  obtain ⟨D, ⟨es, clock, h1, h2⟩, h3⟩ := h.set
  intro e
  have h4 := h.prev
  unfold Boxed at h4
  rw [e, h1] at h4; cases h4
theorem IsVo.kne {p k m : Nat} {out : List EntB} (h : IsVo p k m out w) : k ≠ m := by
  obtain ⟨D, ⟨es, clock, h1, h2⟩, h3⟩ := h.set
  intro e
  have h4 := h.box
  rw [e] at h4; simp [World.cell?, h1] at h4
def okReadV (p k m : Nat) (out : List EntB) (w : World) (r : EntB ⊕ Int) (e : Ending) (w' : World) : Prop :=
  match r with
  | .inr x => e = .returned (.tuple #[.agg #[.int .i64 0, .string ⟨#[]⟩], .int .i64 x]) ∧ IsVo p k m out w' ∧ FrV p m w w'
  | .inl q => e = .returned (.tuple #[.agg #[.int .i64 (q.1 : Nat), .string q.2], .int .i64 0]) ∧ IsVo p k m (out ++ [q]) w' ∧ FrV p m w w'
theorem fin_belowV {p k m : Nat} {out : List EntB} (h : IsVo p k m out w) (hb : Below w.heap.size w w') : IsVo p k m out w' ∧ FrV p m w w' := ⟨h.below hb, FrV.of_below hb⟩
theorem own_keep {b n : Nat} {D : DataW Unit} (h : w.ownsMap Tryd.prog 9 unitElem b n D) (hb : w'.heap[b]? = w.heap[b]?) : w'.ownsMap Tryd.prog 9 unitElem b n D := by
  obtain ⟨es, clock, h1, h2⟩ := h
  exact ⟨es, clock, hb.trans h1, h2⟩
theorem cell_keep {a : Addr} (hb : w'.heap[a.block]? = w.heap[a.block]?) : w'.cell? a = w.cell? a := by simp [World.cell?, hb]
theorem IsVo.more {p k m : Nat} {out : List EntB} (h : IsVo p k m out w) (q : EntB) (hf : FrV p m w w') (hp : Boxed w' p 3 (.int .i64 (q.1 : Nat))) (hs : IsTx m (out.length + 1) (out.map (·.2) ++ [q.2]) w') : IsVo p k m (out ++ [q]) w' :=
  ⟨by rw [lastE_snoc]; exact hp, (cell_keep (hf.block k (World.block_lt_of_cell? w _ h.box) h.kp h.kne)).trans h.box, by simpa using hs, h.str.frv h.op h.om hf, h.op, h.om, h.kp⟩
theorem IsVo.other {p k m r : Nat} {out : List EntB} (h : IsVo p k m out w) (hb : ∀ j, j ≠ r → w'.heap[j]? = w.heap[j]?) (hp : p ≠ r) (hk : k ≠ r) (hm : m ≠ r) (hg : OffG r) : IsVo p k m out w' :=
  ⟨(hb p hp).trans h.prev, (cell_keep (hb k hk)).trans h.box, h.set.keep (hb m hm), h.str.keep (hb _ (Ne.symm hg.1)) (hb _ (Ne.symm hg.2.1)) (hb _ (Ne.symm hg.2.2)), h.op, h.om, h.kp⟩
theorem StrAt.off (h : StrAt w) {r : Nat} (hr : w.heap.size ≤ r) : OffG r := by
  obtain ⟨a, b, c⟩ := h.lt
  exact ⟨by omega, by omega, by omega⟩
theorem after_putV {w2 w3 : World} {p m r n : Nat} {tk : ByteArray} {la : Int} {cs : Array Value} (ht : (((w2.setCell ⟨p, 0, none⟩ (.int .i64 (n : Nat))).alloc (.cells #[.int .i64 (n : Nat), .string tk] 56)).alloc (.cells #[] 69)).mapTurned w3 m) (hp : Boxed w2 p 3 (.int .i64 la)) (hpm : p ≠ m) (hr : w2.heap[r]? = some (.cells cs 56 (0, 0))) (hrp : r ≠ p) (hrm : r ≠ m) (hm : m < w2.heap.size) :
    w3.heap[w2.heap.size]? = some (.cells #[.int .i64 (n : Nat), .string tk] 56 (0, 0)) ∧ w3.heap[r]? = some (.cells cs 56 (0, 0)) ∧ FrV p m w2 w3 ∧ Boxed w3 p 3 (.int .i64 (n : Nat)) := by
  have hlr := lt_of_some hr
  have hpl := hp.lt
  have h0 : FrV p m w2 (w2.setCell ⟨p, 0, none⟩ (.int .i64 (n : Nat))) := (FrV.of_below (Below.refl _ w2)).set _
  have hp1 : Boxed (w2.setCell ⟨p, 0, none⟩ (.int .i64 (n : Nat))) p 3 (.int .i64 (n : Nat)) := Boxed.set _ hp
  have hr1 := (Below.heap_setCell w2 ⟨p, 0, none⟩ (.int .i64 (n : Nat)) r hrp).trans hr
  have hs1 : (w2.setCell ⟨p, 0, none⟩ (.int .i64 (n : Nat))).heap.size = w2.heap.size := by simp
  generalize w2.setCell ⟨p, 0, none⟩ (.int .i64 (n : Nat)) = V at ht h0 hp1 hr1 hs1
  have hg := ht.grown
  have hb : Below V.heap.size V ((V.alloc (.cells #[.int .i64 (n : Nat), .string tk] 56)).alloc (.cells #[] 69)) := ((Below.refl _ V).alloc (Nat.le_refl _) _).alloc (by simp) _
  refine ⟨?_, ?_, (h0.trans (FrV.of_below hb)).trans (FrV.ofM (FrM.turned ht)), ?_⟩
  · rw [← hs1, hg.block V.heap.size (by simp; omega) (fun e => by injection e with e; omega)]
    exact (Lib.alloc_old _ _ _ (by simp)).trans (World.alloc_heap_new V _)
  · rw [hg.block r (by simp; omega) (fun e => by injection e with e; exact hrm e)]
    exact (hb.block r (by omega)).trans hr1
  · exact (hg.block p (by simp; omega) (fun e => by injection e with e; exact hpm e)).trans ((hb.block p (by omega)).trans hp1)
theorem vrow_end {r : Nat} {w w2 : World} {x x2 : Int} {y y2 : ByteArray} (o : Obj) (hrow : w2.heap[r]? = some (.cells #[.int .i64 x, .string y] 56 (0, 0))) (hb : Below w.heap.size w w2) (hr : w.heap.size ≤ r) :
    (((w2.setCell ⟨r, 0, none⟩ (.int .i64 x2)).setCell ⟨r, 1, none⟩ (.string y2)).alloc o).cell? ⟨r, 0, none⟩ = some (.int .i64 x2) ∧ (((w2.setCell ⟨r, 0, none⟩ (.int .i64 x2)).setCell ⟨r, 1, none⟩ (.string y2)).alloc o).cell? ⟨r, 1, none⟩ = some (.string y2) ∧ Below w.heap.size w (((w2.setCell ⟨r, 0, none⟩ (.int .i64 x2)).setCell ⟨r, 1, none⟩ (.string y2)).alloc o) := by
  have hw := heap_set (i := 1) (.string y2) (heap_set (i := 0) (.int .i64 x2) hrow)
  have hw2 := (Lib.alloc_old _ o r (lt_of_some hw)).trans hw
  have hb2 := (hb.setCell (p := ⟨r, 0, none⟩) hr (.int .i64 x2)).setCell (p := ⟨r, 1, none⟩) hr (.string y2)
  exact ⟨cell_of_row hw2, cell_of_row hw2, hb2.alloc hb2.size _⟩
set_option maxHeartbeats 2000000 in
set_option maxRecDepth 100000 in
theorem readV_any (p k m : Nat) (out : List EntB) (s : ByteArray) (w : World) (hs : s.size ≤ 262144) (hn : out.length ≤ 5000) (hS : IsVo p k m out w) :
    Calls Tryd.prog 68 #[.string s, .pointer (some ⟨p, 0, none⟩), .pointer (some ⟨k, 0, none⟩)] w fun e w' => okReadV p k m out w (rdV out s) e w' := by
  have HW0 := Lib.hid (show Below w.heap.size w (w.alloc (.cells #[.int .i64 0, .string ⟨#[]⟩] 56)) from (Below.refl _ _).alloc (Nat.le_refl _) _)
  have HSS := Lib.hid hS
  have hPE := fun W hW => parseEntry_any s W hs hW
  have HP := Lib.hid hPE
  obtain ⟨r, hr⟩ : ∃ r, rdV out s = r := ⟨_, rfl⟩
  have HR0 := Lib.hid hr
  rw [hr]
  clear hr hPE
  cases he : entR s with
  | none =>
    have HR := Lib.hid (show r = .inr 2 by rw [← HR0.out]; unfold rdV; rw [he])
    rw [he] at HP
    have HP := Lib.hid (show ∀ W, StrAt W → Calls Tryd.prog 69 #[.string s] W fun e w' => e = .returned (.tuple #[.agg #[.int .i64 0, .string ⟨#[]⟩], .bool false]) ∧ Below W.heap.size W w' from HP.out)
    clear he HR0 hS
    go_enter Tryd.func68, Tryd.ntmps68
    go_wp2_with (go_at_call 69; (with_reducible refine (HP.out _ (HSS.out.str.below HW0.out)).mono ?_); rintro e w2 ⟨rfl, hb2⟩; clear HP; have hb3 := HW0.out.trans (hb2.mono HW0.out.size); have hrow := (hb2.block w.heap.size (by simp)).trans (show (w.alloc (.cells #[.int .i64 0, .string ⟨#[]⟩] 56)).heap[w.heap.size]? = some (.cells #[.int .i64 0, .string ⟨#[]⟩] 56 (0, 0)) from World.alloc_heap_new w _); have r0 : w2.cell? ⟨w.heap.size, 0, none⟩ = some (.int .i64 0) := cell_of_row hrow; have r1 : w2.cell? ⟨w.heap.size, 1, none⟩ = some (.string ⟨#[]⟩) := cell_of_row hrow; have rf : ∀ j, w2.frozen? ⟨w.heap.size, j, none⟩ = false := (fun j => by simp [World.frozen?, hrow]); have rlt : w.heap.size < w2.heap.size := lt_of_some hrow; have hvo := HSS.out.below hb3; have hpv := hvo.prev.cell; have hpf := hvo.prev.frozen; have hpl := hvo.prev.lt; have hkb := hvo.box; have hkl : k < w2.heap.size := World.block_lt_of_cell? _ _ hkb; have HB3 := Lib.hid hb3; have HVO := Lib.hid hvo; have HROW := Lib.hid hrow; clear hb2 hb3 hrow hvo)
    rw [HR.out]
    obtain ⟨z0, z1, z2⟩ := vrow_end (x2 := 0) (y2 := ⟨#[]⟩) (.cells #[.int .i64 0, .string ⟨#[]⟩] 56) HROW.out HB3.out (Nat.le_refl _)
    have HZ2 := Lib.hid (fin_belowV HSS.out z2)
    clear z2 r0 r1 rf
    generalize ((w2.setCell ⟨w.heap.size, 0, none⟩ (.int .i64 0)).setCell ⟨w.heap.size, 1, none⟩ (.string ⟨#[]⟩)).alloc _ = W at z0 z1 HZ2 ⊢
    exact bodyPost_ret (v := .tuple #[.agg #[.int .i64 0, .string ⟨#[]⟩], .int .i64 2]) (by simp [results, Tryd.results68, go_sem, z0, z1]) rfl ⟨rfl, HZ2.out⟩
  | some q =>
    obtain ⟨n, tk⟩ := q
    rw [he] at HP
    have HP := Lib.hid (show ∀ W, StrAt W → Calls Tryd.prog 69 #[.string s] W fun e w' => e = .returned (.tuple #[.agg #[.int .i64 (n : Nat), .string tk], .bool true]) ∧ Below W.heap.size W w' from HP.out)
    have hpw : p < w.heap.size := hS.prev.lt
    have HE0 := Lib.hid he
    obtain ⟨la, hla⟩ : ∃ la, lastE out = la := ⟨_, rfl⟩
    have HLA := Lib.hid hla
    by_cases hle : (n : Int) ≤ la
    · have HR := Lib.hid (show r = .inr 12 by rw [← HR0.out]; unfold rdV; rw [he]; simp only; rw [if_pos (by rw [hla]; exact hle)])
      clear he HR0 hS
      go_enter Tryd.func68, Tryd.ntmps68
      go_wp2_with (go_at_call 69; (with_reducible refine (HP.out _ (HSS.out.str.below HW0.out)).mono ?_); rintro e w2 ⟨rfl, hb2⟩; clear HP; have hb3 := HW0.out.trans (hb2.mono HW0.out.size); have hrow := (hb2.block w.heap.size (by simp)).trans (show (w.alloc (.cells #[.int .i64 0, .string ⟨#[]⟩] 56)).heap[w.heap.size]? = some (.cells #[.int .i64 0, .string ⟨#[]⟩] 56 (0, 0)) from World.alloc_heap_new w _); have r0 : w2.cell? ⟨w.heap.size, 0, none⟩ = some (.int .i64 0) := cell_of_row hrow; have r1 : w2.cell? ⟨w.heap.size, 1, none⟩ = some (.string ⟨#[]⟩) := cell_of_row hrow; have rf : ∀ j, w2.frozen? ⟨w.heap.size, j, none⟩ = false := (fun j => by simp [World.frozen?, hrow]); have rlt : w.heap.size < w2.heap.size := lt_of_some hrow; have hvo := HSS.out.below hb3; have hpv : w2.cell? ⟨p, 0, none⟩ = some (.int .i64 la) := HLA.out ▸ hvo.prev.cell; have hpf := hvo.prev.frozen; have hpl := hvo.prev.lt; have hkb := hvo.box; have hkl : k < w2.heap.size := World.block_lt_of_cell? _ _ hkb; have HB3 := Lib.hid hb3; have HVO := Lib.hid hvo; have HROW := Lib.hid hrow; clear hb2 hb3 hrow hvo)
      rw [HR.out]
      obtain ⟨z0, z1, z2⟩ := vrow_end (x2 := 0) (y2 := ⟨#[]⟩) (.cells #[.int .i64 (n : Nat), .string tk] 56) HROW.out HB3.out (Nat.le_refl _)
      have HZ2 := Lib.hid (fin_belowV HSS.out z2)
      clear z2 r0 r1 rf
      generalize ((w2.setCell ⟨w.heap.size, 0, none⟩ (.int .i64 0)).setCell ⟨w.heap.size, 1, none⟩ (.string ⟨#[]⟩)).alloc _ = W at z0 z1 HZ2 ⊢
      exact bodyPost_ret (v := .tuple #[.agg #[.int .i64 0, .string ⟨#[]⟩], .int .i64 12]) (by simp [results, Tryd.results68, go_sem, z0, z1]) rfl ⟨rfl, HZ2.out⟩
    · have HTK : Hid (tk.size ≤ maxLen) := Lib.hid (by
        have h1 := HE0.out
        unfold entR at h1
        split at h1
        · split at h1
          · rename_i hg
            injection h1 with h1; injection h1 with h1 h2
            have := good_ok hg
            rw [← h2]; unfold maxLen; omega
          · cases h1
        · cases h1)
      have HKB := Lib.hid (keyS HTK.out)
      cases hin : inB (out.map (·.2)) tk with
      | true =>
        have HR := Lib.hid (show r = .inr 10 by rw [← HR0.out]; unfold rdV; rw [he]; simp only; rw [if_neg (by rw [hla]; exact hle), if_pos hin])
        clear he HR0 hS HE0
        go_enter Tryd.func68, Tryd.ntmps68
        go_wp2_with (first
          | (go_at_call 69; (with_reducible refine (HP.out _ (HSS.out.str.below HW0.out)).mono ?_); rintro e w2 ⟨rfl, hb2⟩; clear HP; have hb3 := HW0.out.trans (hb2.mono HW0.out.size); have hrow := (hb2.block w.heap.size (by simp)).trans (show (w.alloc (.cells #[.int .i64 0, .string ⟨#[]⟩] 56)).heap[w.heap.size]? = some (.cells #[.int .i64 0, .string ⟨#[]⟩] 56 (0, 0)) from World.alloc_heap_new w _); have r0 : w2.cell? ⟨w.heap.size, 0, none⟩ = some (.int .i64 0) := cell_of_row hrow; have r1 : w2.cell? ⟨w.heap.size, 1, none⟩ = some (.string ⟨#[]⟩) := cell_of_row hrow; have rf : ∀ j, w2.frozen? ⟨w.heap.size, j, none⟩ = false := (fun j => by simp [World.frozen?, hrow]); have rlt : w.heap.size < w2.heap.size := lt_of_some hrow; have hvo := HSS.out.below hb3; have hpv : w2.cell? ⟨p, 0, none⟩ = some (.int .i64 la) := HLA.out ▸ hvo.prev.cell; have hpf := hvo.prev.frozen; have hpl := hvo.prev.lt; have hkb := hvo.box; have hkl : k < w2.heap.size := World.block_lt_of_cell? _ _ hkb; have HB3 := Lib.hid hb3; have HVO := Lib.hid hvo; have HROW := Lib.hid hrow; obtain ⟨D, hD, hD2⟩ := hvo.set; have HD := Lib.hid hD; have HD2 := Lib.hid hD2; have HH := Lib.hid (hD2 tk HTK.out); clear hb2 hb3 hrow hvo hD hD2)
          | (at_lookup; refine wpList_lookup_own_unit _ rfl _ _ 88 rfl 9 69 keyedS Tryd.underlying88 (Tryd.zeroValue69 _) m out.length D rfl (HD.out.alloc _) _ (.string tk.data.toList) rfl HKB.out ?_; rw [HH.out, hin]))
        rw [HR.out]
        obtain ⟨z0, z1, z2⟩ := vrow_end (x2 := 0) (y2 := ⟨#[]⟩) (.cells #[.int .i64 (n : Nat), .string tk] 56) HROW.out HB3.out (Nat.le_refl _)
        have HZ2 := Lib.hid z2
        clear z2 r0 r1 rf
        generalize ((w2.setCell ⟨w.heap.size, 0, none⟩ (.int .i64 0)).setCell ⟨w.heap.size, 1, none⟩ (.string ⟨#[]⟩)).alloc (.cells #[.int .i64 (n : Nat), .string tk] 56) = W at z0 z1 HZ2 ⊢
        have hb4 := (Below.refl W.heap.size W).alloc (Nat.le_refl _) (.cells #[] 69)
        have y0 := (hb4.cell (p := ⟨w.heap.size, 0, none⟩) (World.block_lt_of_cell? W _ z0)).trans z0
        have y1 := (hb4.cell (p := ⟨w.heap.size, 1, none⟩) (World.block_lt_of_cell? W _ z1)).trans z1
        have HZ3 := Lib.hid (fin_belowV HSS.out (HZ2.out.trans (hb4.mono HZ2.out.size)))
        clear z0 z1 hb4
        generalize W.alloc (.cells #[] 69) = V at y0 y1 HZ3 ⊢
        exact bodyPost_ret (v := .tuple #[.agg #[.int .i64 0, .string ⟨#[]⟩], .int .i64 10]) (by simp [results, Tryd.results68, go_sem, y0, y1]) rfl ⟨rfl, HZ3.out⟩
      | false =>
        have HR := Lib.hid (show r = .inl (n, tk) by rw [← HR0.out]; unfold rdV; rw [he]; simp only; rw [if_neg (by rw [hla]; exact hle), hin]; rfl)
        have hkp : k ≠ p := hS.kp
        have hpk : p ≠ k := fun e => hkp e.symm
        clear he HR0 hS HE0
        go_enter Tryd.func68, Tryd.ntmps68
        go_wp2_with (first
          | (go_at_call 69; (with_reducible refine (HP.out _ (HSS.out.str.below HW0.out)).mono ?_); rintro e w2 ⟨rfl, hb2⟩; clear HP; have hb3 := HW0.out.trans (hb2.mono HW0.out.size); have hrow := (hb2.block w.heap.size (by simp)).trans (show (w.alloc (.cells #[.int .i64 0, .string ⟨#[]⟩] 56)).heap[w.heap.size]? = some (.cells #[.int .i64 0, .string ⟨#[]⟩] 56 (0, 0)) from World.alloc_heap_new w _); have r0 : w2.cell? ⟨w.heap.size, 0, none⟩ = some (.int .i64 0) := cell_of_row hrow; have r1 : w2.cell? ⟨w.heap.size, 1, none⟩ = some (.string ⟨#[]⟩) := cell_of_row hrow; have rf : ∀ j, w2.frozen? ⟨w.heap.size, j, none⟩ = false := (fun j => by simp [World.frozen?, hrow]); have rlt : w.heap.size < w2.heap.size := lt_of_some hrow; have hvo := HSS.out.below hb3; have hpv : w2.cell? ⟨p, 0, none⟩ = some (.int .i64 la) := HLA.out ▸ hvo.prev.cell; have hpf := hvo.prev.frozen; have hpl := hvo.prev.lt; have hkb := hvo.box; have hkl : k < w2.heap.size := World.block_lt_of_cell? _ _ hkb; have HB3 := Lib.hid hb3; have HVO := Lib.hid hvo; have HROW := Lib.hid hrow; obtain ⟨D, hD, hD2⟩ := hvo.set; have HD := Lib.hid hD; have HD2 := Lib.hid hD2; have HH := Lib.hid (hD2 tk HTK.out); clear hb2 hb3 hrow hvo hD hD2)
          | (at_lookup; refine wpList_lookup_own_unit _ rfl _ _ 88 rfl 9 69 keyedS Tryd.underlying88 (Tryd.zeroValue69 _) m out.length D rfl (HD.out.alloc _) _ (.string tk.data.toList) rfl HKB.out ?_; rw [HH.out, hin])
          | (at_mapUpdate; refine wpList_mapUpdate_in _ rfl _ _ _ 88 rfl 9 69 keyedS Tryd.underlying88 unitElem m out.length D rfl (((own_keep HD.out (Below.heap_setCell w2 ⟨p, 0, none⟩ _ m (Ne.symm HVO.out.ne))).alloc _).alloc _) (by unfold maxLen; omega) _ _ (.string tk.data.toList) rfl rfl HKB.out (.agg []) [] unitElem_mk ?_; intro w3 hown3 hturn3; obtain ⟨u1, u2, u3, u4⟩ := after_putV hturn3 HVO.out.prev HVO.out.ne HROW.out (Nat.ne_of_gt hpw) (Nat.ne_of_gt HSS.out.set.lt) HVO.out.set.lt; have x0 : w3.cell? ⟨w2.heap.size, 0, none⟩ = some (.int .i64 (n : Nat)) := cell_of_row u1; have x1 : w3.cell? ⟨w2.heap.size, 1, none⟩ = some (.string tk) := cell_of_row u1; have y0 : w3.cell? ⟨w.heap.size, 0, none⟩ = some (.int .i64 0) := cell_of_row u2; have y1 : w3.cell? ⟨w.heap.size, 1, none⟩ = some (.string ⟨#[]⟩) := cell_of_row u2; have yf : ∀ j, w3.frozen? ⟨w.heap.size, j, none⟩ = false := fun j => (by simp [World.frozen?, u2]); have HU2 := Lib.hid u2; have HU3 := Lib.hid u3; have HU4 := Lib.hid u4; have HO3 := Lib.hid hown3; clear hown3 hturn3 u1 u2 u3 u4))
        rw [HR.out]
        have hvo := HVO.out.more (n, tk) HU3.out HU4.out (IsTx.put HD.out HD2.out HO3.out)
        have hkw : k < w.heap.size := World.block_lt_of_cell? w _ HSS.out.box
        have hmw : m < w.heap.size := HSS.out.set.lt
        have hvo2 : IsVo p k m (out ++ [(n, tk)]) ((w3.setCell ⟨w.heap.size, 0, none⟩ (.int .i64 (n : Nat))).setCell ⟨w.heap.size, 1, none⟩ (.string tk)) := hvo.other (r := w.heap.size) (fun j hj => (Below.heap_setCell _ ⟨w.heap.size, 1, none⟩ _ j hj).trans (Below.heap_setCell _ ⟨w.heap.size, 0, none⟩ _ j hj)) (by omega) (by omega) (by omega) (HSS.out.str.off (Nat.le_refl _))
        have hfr2 := ((((FrV.of_below (p := p) (m := m) HB3.out).trans HU3.out).setNew (i := 0) (Nat.le_refl _) (.int .i64 (n : Nat)))).setNew (i := 1) (Nat.le_refl _) (.string tk)
        have hrow := heap_set (i := 1) (.string tk) (heap_set (i := 0) (.int .i64 (n : Nat)) HU2.out)
        have z0 := cell_of_row (j := 0) hrow
        have z1 := cell_of_row (j := 1) hrow
        have HF := Lib.hid hvo2; have HF2 := Lib.hid hfr2
        clear hvo hvo2 hfr2 hrow
        generalize (w3.setCell ⟨w.heap.size, 0, none⟩ (.int .i64 (n : Nat))).setCell ⟨w.heap.size, 1, none⟩ (.string tk) = W at HF HF2 z0 z1 ⊢
        have z0' : W.cell? ⟨w.heap.size, 0, none⟩ = some (.int .i64 (n : Nat)) := z0
        have z1' : W.cell? ⟨w.heap.size, 1, none⟩ = some (.string tk) := z1
        exact bodyPost_ret (v := .tuple #[.agg #[.int .i64 (n : Nat), .string tk], .int .i64 0]) (by simp [results, Tryd.results68, go_sem, z0', z1']) rfl ⟨rfl, HF.out, HF2.out⟩
end Go.Proofs.YtmdhendfmhhniaaDoor
