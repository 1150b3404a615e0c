/- Vocabularies: a line's reader. Vocabularies: lines.next. Vocabularies: lines.Parse. Vocabularies: Parse. Vocabularies: the closure of Of. Vocabularies: the document's Digits. -/
import Derived.Test.YtmkaecpecikcaaaGreatDoorY2
import Derived.RangeFuncBox
import Derived.Test.YtmkaecpecikcaaaGreatDoorY1
import Derived.StillTailTactics
import Derived.Lib.ConvBytes
import Derived.Lib.ItoaLen
import Derived.Lib.ItoaMem
namespace Go.Proofs.YtmkaecpecikcaaaGreatDoor
open Go.RowKit Go.Maps
variable {w w' : World}

abbrev EntB := Nat × ByteArray
def lastE (out : List EntB) : Int := match out.getLast? with
  | some p => (p.1 : Int)
  | none => -1
theorem lastE_snoc (out : List EntB) (p : EntB) : lastE (out ++ [p]) = (p.1 : Int) := by unfold lastE; simp
def rdV (out : List EntB) (s : ByteArray) : EntB ⊕ Int := match entR s with
  | none => .inr 2
  | some p => if (p.1 : Int) ≤ lastE out then .inr 12 else if inB (out.map (·.2)) p.2 then .inr 10 else .inl p
/-- Only the blocks p and m have changed. -/
structure FrV (p m : Nat) (w w' : World) : Prop where
  low : Below 0 w w'
  size : w.heap.size ≤ w'.heap.size
  block : ∀ k, k < w.heap.size → k ≠ p → k ≠ m → w'.heap[k]? = w.heap[k]?
theorem FrV.of_below {p m : Nat} (h : Below w.heap.size w w') : FrV p m w w' := ⟨h.mono (Nat.zero_le _), h.size, fun k hk _ _ => h.block k hk⟩
theorem FrV.trans {p m : Nat} {w'' : World} (h : FrV p m w w') (k : FrV p m w' w'') : FrV p m w w'' :=
  ⟨h.low.trans k.low, Nat.le_trans h.size k.size, fun i hi a b => (k.block i (Nat.lt_of_lt_of_le hi h.size) a b).trans (h.block i hi a b)⟩
theorem FrV.ofM {p m : Nat} (h : FrM m w w') : FrV p m w w' := ⟨h.low, h.size, fun k hk _ b => h.block k hk b⟩
theorem FrV.set {p m i : Nat} (h : FrV p m w w') (v : Value) : FrV p m w (w'.setCell ⟨p, i, none⟩ v) :=
  ⟨h.low.trans ((Below.refl 0 w').setCell (p := ⟨p, i, none⟩) (Nat.zero_le _) v), Nat.le_trans h.size (by simp), fun k hk hb hc => (Below.heap_setCell w' ⟨p, i, none⟩ v k hb).trans (h.block k hk hb hc)⟩
theorem FrV.setNew {p m r i : Nat} (h : FrV p m w w') (hr : w.heap.size ≤ r) (v : Value) : FrV p m w (w'.setCell ⟨r, i, none⟩ v) :=
  ⟨h.low.trans ((Below.refl 0 w').setCell (p := ⟨r, i, none⟩) (Nat.zero_le _) v), Nat.le_trans h.size (by simp), fun k hk hb hc => (Below.heap_setCell w' ⟨r, i, none⟩ v k (by show k ≠ r; omega)).trans (h.block k hk hb hc)⟩
def OffG (k : Nat) : Prop := k ≠ 1 ∧ k ≠ 2 ∧ k ≠ 3
theorem StrAt.frv {p m : Nat} (h : StrAt w) (hp : OffG p) (hm : OffG m) (hf : FrV p m w w') : StrAt w' := by
  obtain ⟨a, b, c⟩ := h.lt
  exact h.keep (hf.block _ a (fun e => hp.1 e.symm) (fun e => hm.1 e.symm)) (hf.block _ b (fun e => hp.2.1 e.symm) (fun e => hm.2.1 e.symm)) (hf.block _ c (fun e => hp.2.2 e.symm) (fun e => hm.2.2 e.symm))
/-- The boxes at p and k hold the last number and the map at m, which is the set of the tokens. -/
structure IsVo (p k m : Nat) (out : List EntB) (w : World) : Prop where
  prev : Boxed w p 3 (.int .i64 (lastE out))
  box : w.cell? ⟨k, 0, none⟩ = some (.map (some m))
  set : IsTx m out.length (out.map (·.2)) w
  str : StrAt w
  op : OffG p
  om : OffG m
  kp : k ≠ p
theorem IsVo.below {p k m : Nat} {out : List EntB} (h : IsVo p k m out w) (hb : Below w.heap.size w w') : IsVo p k m out w' :=
  ⟨(hb.block p h.prev.lt).trans h.prev, (hb.cell (p := ⟨k, 0, none⟩) (World.block_lt_of_cell? w _ h.box)).trans h.box, h.set.keep (hb.block m h.set.lt), h.str.below hb, h.op, h.om, h.kp⟩
theorem IsVo.ne {p k m : Nat} {out : List EntB} (h : IsVo p k m out w) : p ≠ m := by
  obtain ⟨D, ⟨es, clock, h1, h2⟩, h3⟩ := h.set
  intro e
  have h4 := h.prev
  unfold Boxed at h4
  rw [e, h1] at h4; cases h4
theorem IsVo.kne {p k m : Nat} {out : List EntB} (h : IsVo p k m out w) : k ≠ m := by
  obtain ⟨D, ⟨es, clock, h1, h2⟩, h3⟩ := h.set
  intro e
  have h4 := h.box
  rw [e] at h4; simp [World.cell?, h1] at h4
def okReadV (p k m : Nat) (out : List EntB) (w : World) (r : EntB ⊕ Int) (e : Ending) (w' : World) : Prop :=
  match r with
  | .inr x => e = .returned (.tuple #[.agg #[.int .i64 0, .string ⟨#[]⟩], .int .i64 x]) ∧ IsVo p k m out w' ∧ FrV p m w w'
  | .inl q => e = .returned (.tuple #[.agg #[.int .i64 (q.1 : Nat), .string q.2], .int .i64 0]) ∧ IsVo p k m (out ++ [q]) w' ∧ FrV p m w w'
theorem fin_belowV {p k m : Nat} {out : List EntB} (h : IsVo p k m out w) (hb : Below w.heap.size w w') : IsVo p k m out w' ∧ FrV p m w w' := ⟨h.below hb, FrV.of_below hb⟩
theorem own_keep {b n : Nat} {D : DataW Unit} (h : w.ownsMap Tryz.prog 9 unitElem b n D) (hb : w'.heap[b]? = w.heap[b]?) : w'.ownsMap Tryz.prog 9 unitElem b n D := by
  obtain ⟨es, clock, h1, h2⟩ := h
  exact ⟨es, clock, hb.trans h1, h2⟩
theorem cell_keep {a : Addr} (hb : w'.heap[a.block]? = w.heap[a.block]?) : w'.cell? a = w.cell? a := by simp [World.cell?, hb]
theorem IsVo.more {p k m : Nat} {out : List EntB} (h : IsVo p k m out w) (q : EntB) (hf : FrV p m w w') (hp : Boxed w' p 3 (.int .i64 (q.1 : Nat))) (hs : IsTx m (out.length + 1) (out.map (·.2) ++ [q.2]) w') : IsVo p k m (out ++ [q]) w' :=
  ⟨by rw [lastE_snoc]; exact hp, (cell_keep (hf.block k (World.block_lt_of_cell? w _ h.box) h.kp h.kne)).trans h.box, by simpa using hs, h.str.frv h.op h.om hf, h.op, h.om, h.kp⟩
theorem IsVo.other {p k m r : Nat} {out : List EntB} (h : IsVo p k m out w) (hb : ∀ j, j ≠ r → w'.heap[j]? = w.heap[j]?) (hp : p ≠ r) (hk : k ≠ r) (hm : m ≠ r) (hg : OffG r) : IsVo p k m out w' :=
  ⟨(hb p hp).trans h.prev, (cell_keep (hb k hk)).trans h.box, h.set.keep (hb m hm), h.str.keep (hb _ (Ne.symm hg.1)) (hb _ (Ne.symm hg.2.1)) (hb _ (Ne.symm hg.2.2)), h.op, h.om, h.kp⟩
theorem StrAt.off (h : StrAt w) {r : Nat} (hr : w.heap.size ≤ r) : OffG r := by
  obtain ⟨a, b, c⟩ := h.lt
  exact ⟨by omega, by omega, by omega⟩
theorem after_putV {w2 w3 : World} {p m r n : Nat} {tk : ByteArray} {la : Int} {cs : Array Value} (ht : (((w2.setCell ⟨p, 0, none⟩ (.int .i64 (n : Nat))).alloc (.cells #[.int .i64 (n : Nat), .string tk] 50)).alloc (.cells #[] 53)).mapTurned w3 m) (hp : Boxed w2 p 3 (.int .i64 la)) (hpm : p ≠ m) (hr : w2.heap[r]? = some (.cells cs 50 (0, 0))) (hrp : r ≠ p) (hrm : r ≠ m) (hm : m < w2.heap.size) :
    w3.heap[w2.heap.size]? = some (.cells #[.int .i64 (n : Nat), .string tk] 50 (0, 0)) ∧ w3.heap[r]? = some (.cells cs 50 (0, 0)) ∧ FrV p m w2 w3 ∧ Boxed w3 p 3 (.int .i64 (n : Nat)) := by
  have hlr := lt_of_some hr
  have hpl := hp.lt
  have h0 : FrV p m w2 (w2.setCell ⟨p, 0, none⟩ (.int .i64 (n : Nat))) := (FrV.of_below (Below.refl _ w2)).set _
  have hp1 : Boxed (w2.setCell ⟨p, 0, none⟩ (.int .i64 (n : Nat))) p 3 (.int .i64 (n : Nat)) := Boxed.set _ hp
  have hr1 := (Below.heap_setCell w2 ⟨p, 0, none⟩ (.int .i64 (n : Nat)) r hrp).trans hr
  have hs1 : (w2.setCell ⟨p, 0, none⟩ (.int .i64 (n : Nat))).heap.size = w2.heap.size := by simp
  generalize w2.setCell ⟨p, 0, none⟩ (.int .i64 (n : Nat)) = V at ht h0 hp1 hr1 hs1
  have hg := ht.grown
  have hb : Below V.heap.size V ((V.alloc (.cells #[.int .i64 (n : Nat), .string tk] 50)).alloc (.cells #[] 53)) := ((Below.refl _ V).alloc (Nat.le_refl _) _).alloc (by simp) _
  refine ⟨?_, ?_, (h0.trans (FrV.of_below hb)).trans (FrV.ofM (FrM.turned ht)), ?_⟩
  · rw [← hs1, hg.block V.heap.size (by simp; omega) (fun e => by injection e with e; omega)]
    exact (Lib.alloc_old _ _ _ (by simp)).trans (World.alloc_heap_new V _)
  · rw [hg.block r (by simp; omega) (fun e => by injection e with e; exact hrm e)]
    exact (hb.block r (by omega)).trans hr1
  · exact (hg.block p (by simp; omega) (fun e => by injection e with e; exact hpm e)).trans ((hb.block p (by omega)).trans hp1)
theorem vrow_end {r : Nat} {w w2 : World} {x x2 : Int} {y y2 : ByteArray} (o : Obj) (hrow : w2.heap[r]? = some (.cells #[.int .i64 x, .string y] 50 (0, 0))) (hb : Below w.heap.size w w2) (hr : w.heap.size ≤ r) :
    (((w2.setCell ⟨r, 0, none⟩ (.int .i64 x2)).setCell ⟨r, 1, none⟩ (.string y2)).alloc o).cell? ⟨r, 0, none⟩ = some (.int .i64 x2) ∧ (((w2.setCell ⟨r, 0, none⟩ (.int .i64 x2)).setCell ⟨r, 1, none⟩ (.string y2)).alloc o).cell? ⟨r, 1, none⟩ = some (.string y2) ∧ Below w.heap.size w (((w2.setCell ⟨r, 0, none⟩ (.int .i64 x2)).setCell ⟨r, 1, none⟩ (.string y2)).alloc o) := by
  have hw := heap_set (i := 1) (.string y2) (heap_set (i := 0) (.int .i64 x2) hrow)
  have hw2 := (Lib.alloc_old _ o r (lt_of_some hw)).trans hw
  have hb2 := (hb.setCell (p := ⟨r, 0, none⟩) hr (.int .i64 x2)).setCell (p := ⟨r, 1, none⟩) hr (.string y2)
  exact ⟨cell_of_row hw2, cell_of_row hw2, hb2.alloc hb2.size _⟩
set_option maxHeartbeats 2000000 in
set_option maxRecDepth 100000 in
theorem readV_any (p k m : Nat) (out : List EntB) (s : ByteArray) (w : World) (hs : s.size ≤ 262144) (hn : out.length ≤ 5000) (hS : IsVo p k m out w) :
    Calls Tryz.prog 16 #[.string s, .pointer (some ⟨p, 0, none⟩), .pointer (some ⟨k, 0, none⟩)] w fun e w' => okReadV p k m out w (rdV out s) e w' := by
  have HW0 := Lib.hid (show Below w.heap.size w (w.alloc (.cells #[.int .i64 0, .string ⟨#[]⟩] 50)) from (Below.refl _ _).alloc (Nat.le_refl _) _)
  have HSS := Lib.hid hS
  have hPE := fun W hW => parseEntry_any s W hs hW
  have HP := Lib.hid hPE
  obtain ⟨r, hr⟩ : ∃ r, rdV out s = r := ⟨_, rfl⟩
  have HR0 := Lib.hid hr
  rw [hr]
  clear hr hPE
  cases he : entR s with
  | none =>
    have HR := Lib.hid (show r = .inr 2 by rw [← HR0.out]; unfold rdV; rw [he])
    rw [he] at HP
    have HP := Lib.hid (show ∀ W, StrAt W → Calls Tryz.prog 17 #[.string s] W fun e w' => e = .returned (.tuple #[.agg #[.int .i64 0, .string ⟨#[]⟩], .bool false]) ∧ Below W.heap.size W w' from HP.out)
    clear he HR0 hS
    go_enter Tryz.func16, Tryz.ntmps16
    go_wp2_with (go_at_call 17; (with_reducible refine (HP.out _ (HSS.out.str.below HW0.out)).mono ?_); rintro e w2 ⟨rfl, hb2⟩; clear HP; have hb3 := HW0.out.trans (hb2.mono HW0.out.size); have hrow := (hb2.block w.heap.size (by simp)).trans (show (w.alloc (.cells #[.int .i64 0, .string ⟨#[]⟩] 50)).heap[w.heap.size]? = some (.cells #[.int .i64 0, .string ⟨#[]⟩] 50 (0, 0)) from World.alloc_heap_new w _); have r0 : w2.cell? ⟨w.heap.size, 0, none⟩ = some (.int .i64 0) := cell_of_row hrow; have r1 : w2.cell? ⟨w.heap.size, 1, none⟩ = some (.string ⟨#[]⟩) := cell_of_row hrow; have rf : ∀ j, w2.frozen? ⟨w.heap.size, j, none⟩ = false := (fun j => by simp [World.frozen?, hrow]); have rlt : w.heap.size < w2.heap.size := lt_of_some hrow; have hvo := HSS.out.below hb3; have hpv := hvo.prev.cell; have hpf := hvo.prev.frozen; have hpl := hvo.prev.lt; have hkb := hvo.box; have hkl : k < w2.heap.size := World.block_lt_of_cell? _ _ hkb; have HB3 := Lib.hid hb3; have HVO := Lib.hid hvo; have HROW := Lib.hid hrow; clear hb2 hb3 hrow hvo)
    rw [HR.out]
    obtain ⟨z0, z1, z2⟩ := vrow_end (x2 := 0) (y2 := ⟨#[]⟩) (.cells #[.int .i64 0, .string ⟨#[]⟩] 50) HROW.out HB3.out (Nat.le_refl _)
    have HZ2 := Lib.hid (fin_belowV HSS.out z2)
    clear z2 r0 r1 rf
    generalize ((w2.setCell ⟨w.heap.size, 0, none⟩ (.int .i64 0)).setCell ⟨w.heap.size, 1, none⟩ (.string ⟨#[]⟩)).alloc _ = W at z0 z1 HZ2 ⊢
    exact bodyPost_ret (v := .tuple #[.agg #[.int .i64 0, .string ⟨#[]⟩], .int .i64 2]) (by simp [results, Tryz.results16, go_sem, z0, z1]) rfl ⟨rfl, HZ2.out⟩
  | some q =>
    obtain ⟨n, tk⟩ := q
    rw [he] at HP
    have HP := Lib.hid (show ∀ W, StrAt W → Calls Tryz.prog 17 #[.string s] W fun e w' => e = .returned (.tuple #[.agg #[.int .i64 (n : Nat), .string tk], .bool true]) ∧ Below W.heap.size W w' from HP.out)
    have hpw : p < w.heap.size := hS.prev.lt
    have HE0 := Lib.hid he
    obtain ⟨la, hla⟩ : ∃ la, lastE out = la := ⟨_, rfl⟩
    have HLA := Lib.hid hla
    by_cases hle : (n : Int) ≤ la
    · have HR := Lib.hid (show r = .inr 12 by rw [← HR0.out]; unfold rdV; rw [he]; simp only; rw [if_pos (by rw [hla]; exact hle)])
      clear he HR0 hS
      go_enter Tryz.func16, Tryz.ntmps16
      go_wp2_with (go_at_call 17; (with_reducible refine (HP.out _ (HSS.out.str.below HW0.out)).mono ?_); rintro e w2 ⟨rfl, hb2⟩; clear HP; have hb3 := HW0.out.trans (hb2.mono HW0.out.size); have hrow := (hb2.block w.heap.size (by simp)).trans (show (w.alloc (.cells #[.int .i64 0, .string ⟨#[]⟩] 50)).heap[w.heap.size]? = some (.cells #[.int .i64 0, .string ⟨#[]⟩] 50 (0, 0)) from World.alloc_heap_new w _); have r0 : w2.cell? ⟨w.heap.size, 0, none⟩ = some (.int .i64 0) := cell_of_row hrow; have r1 : w2.cell? ⟨w.heap.size, 1, none⟩ = some (.string ⟨#[]⟩) := cell_of_row hrow; have rf : ∀ j, w2.frozen? ⟨w.heap.size, j, none⟩ = false := (fun j => by simp [World.frozen?, hrow]); have rlt : w.heap.size < w2.heap.size := lt_of_some hrow; have hvo := HSS.out.below hb3; have hpv : w2.cell? ⟨p, 0, none⟩ = some (.int .i64 la) := HLA.out ▸ hvo.prev.cell; have hpf := hvo.prev.frozen; have hpl := hvo.prev.lt; have hkb := hvo.box; have hkl : k < w2.heap.size := World.block_lt_of_cell? _ _ hkb; have HB3 := Lib.hid hb3; have HVO := Lib.hid hvo; have HROW := Lib.hid hrow; clear hb2 hb3 hrow hvo)
      rw [HR.out]
      obtain ⟨z0, z1, z2⟩ := vrow_end (x2 := 0) (y2 := ⟨#[]⟩) (.cells #[.int .i64 (n : Nat), .string tk] 50) HROW.out HB3.out (Nat.le_refl _)
      have HZ2 := Lib.hid (fin_belowV HSS.out z2)
      clear z2 r0 r1 rf
      generalize ((w2.setCell ⟨w.heap.size, 0, none⟩ (.int .i64 0)).setCell ⟨w.heap.size, 1, none⟩ (.string ⟨#[]⟩)).alloc _ = W at z0 z1 HZ2 ⊢
      exact bodyPost_ret (v := .tuple #[.agg #[.int .i64 0, .string ⟨#[]⟩], .int .i64 12]) (by simp [results, Tryz.results16, go_sem, z0, z1]) rfl ⟨rfl, HZ2.out⟩
    · have HTK : Hid (tk.size ≤ maxLen) := Lib.hid (by
        have h1 := HE0.out
        unfold entR at h1
        split at h1
        · split at h1
          · rename_i hg
            injection h1 with h1; injection h1 with h1 h2
            have := good_ok hg
            rw [← h2]; unfold maxLen; omega
          · cases h1
        · cases h1)
      have HKB := Lib.hid (keyS HTK.out)
      cases hin : inB (out.map (·.2)) tk with
      | true =>
        have HR := Lib.hid (show r = .inr 10 by rw [← HR0.out]; unfold rdV; rw [he]; simp only; rw [if_neg (by rw [hla]; exact hle), if_pos hin])
        clear he HR0 hS HE0
        go_enter Tryz.func16, Tryz.ntmps16
        go_wp2_with (first
          | (go_at_call 17; (with_reducible refine (HP.out _ (HSS.out.str.below HW0.out)).mono ?_); rintro e w2 ⟨rfl, hb2⟩; clear HP; have hb3 := HW0.out.trans (hb2.mono HW0.out.size); have hrow := (hb2.block w.heap.size (by simp)).trans (show (w.alloc (.cells #[.int .i64 0, .string ⟨#[]⟩] 50)).heap[w.heap.size]? = some (.cells #[.int .i64 0, .string ⟨#[]⟩] 50 (0, 0)) from World.alloc_heap_new w _); have r0 : w2.cell? ⟨w.heap.size, 0, none⟩ = some (.int .i64 0) := cell_of_row hrow; have r1 : w2.cell? ⟨w.heap.size, 1, none⟩ = some (.string ⟨#[]⟩) := cell_of_row hrow; have rf : ∀ j, w2.frozen? ⟨w.heap.size, j, none⟩ = false := (fun j => by simp [World.frozen?, hrow]); have rlt : w.heap.size < w2.heap.size := lt_of_some hrow; have hvo := HSS.out.below hb3; have hpv : w2.cell? ⟨p, 0, none⟩ = some (.int .i64 la) := HLA.out ▸ hvo.prev.cell; have hpf := hvo.prev.frozen; have hpl := hvo.prev.lt; have hkb := hvo.box; have hkl : k < w2.heap.size := World.block_lt_of_cell? _ _ hkb; have HB3 := Lib.hid hb3; have HVO := Lib.hid hvo; have HROW := Lib.hid hrow; obtain ⟨D, hD, hD2⟩ := hvo.set; have HD := Lib.hid hD; have HD2 := Lib.hid hD2; have HH := Lib.hid (hD2 tk HTK.out); clear hb2 hb3 hrow hvo hD hD2)
          | (at_lookup; refine wpList_lookup_own_unit _ rfl _ _ 47 rfl 9 53 keyedS Tryz.underlying47 (Tryz.zeroValue53 _) m out.length D rfl (HD.out.alloc _) _ (.string tk.data.toList) rfl HKB.out ?_; rw [HH.out, hin]))
        rw [HR.out]
        obtain ⟨z0, z1, z2⟩ := vrow_end (x2 := 0) (y2 := ⟨#[]⟩) (.cells #[.int .i64 (n : Nat), .string tk] 50) HROW.out HB3.out (Nat.le_refl _)
        have HZ2 := Lib.hid z2
        clear z2 r0 r1 rf
        generalize ((w2.setCell ⟨w.heap.size, 0, none⟩ (.int .i64 0)).setCell ⟨w.heap.size, 1, none⟩ (.string ⟨#[]⟩)).alloc (.cells #[.int .i64 (n : Nat), .string tk] 50) = W at z0 z1 HZ2 ⊢
        have hb4 := (Below.refl W.heap.size W).alloc (Nat.le_refl _) (.cells #[] 53)
        have y0 := (hb4.cell (p := ⟨w.heap.size, 0, none⟩) (World.block_lt_of_cell? W _ z0)).trans z0
        have y1 := (hb4.cell (p := ⟨w.heap.size, 1, none⟩) (World.block_lt_of_cell? W _ z1)).trans z1
        have HZ3 := Lib.hid (fin_belowV HSS.out (HZ2.out.trans (hb4.mono HZ2.out.size)))
        clear z0 z1 hb4
        generalize W.alloc (.cells #[] 53) = V at y0 y1 HZ3 ⊢
        exact bodyPost_ret (v := .tuple #[.agg #[.int .i64 0, .string ⟨#[]⟩], .int .i64 10]) (by simp [results, Tryz.results16, go_sem, y0, y1]) rfl ⟨rfl, HZ3.out⟩
      | false =>
        have HR := Lib.hid (show r = .inl (n, tk) by rw [← HR0.out]; unfold rdV; rw [he]; simp only; rw [if_neg (by rw [hla]; exact hle), hin]; rfl)
        have hkp : k ≠ p := hS.kp
        have hpk : p ≠ k := fun e => hkp e.symm
        clear he HR0 hS HE0
        go_enter Tryz.func16, Tryz.ntmps16
        go_wp2_with (first
          | (go_at_call 17; (with_reducible refine (HP.out _ (HSS.out.str.below HW0.out)).mono ?_); rintro e w2 ⟨rfl, hb2⟩; clear HP; have hb3 := HW0.out.trans (hb2.mono HW0.out.size); have hrow := (hb2.block w.heap.size (by simp)).trans (show (w.alloc (.cells #[.int .i64 0, .string ⟨#[]⟩] 50)).heap[w.heap.size]? = some (.cells #[.int .i64 0, .string ⟨#[]⟩] 50 (0, 0)) from World.alloc_heap_new w _); have r0 : w2.cell? ⟨w.heap.size, 0, none⟩ = some (.int .i64 0) := cell_of_row hrow; have r1 : w2.cell? ⟨w.heap.size, 1, none⟩ = some (.string ⟨#[]⟩) := cell_of_row hrow; have rf : ∀ j, w2.frozen? ⟨w.heap.size, j, none⟩ = false := (fun j => by simp [World.frozen?, hrow]); have rlt : w.heap.size < w2.heap.size := lt_of_some hrow; have hvo := HSS.out.below hb3; have hpv : w2.cell? ⟨p, 0, none⟩ = some (.int .i64 la) := HLA.out ▸ hvo.prev.cell; have hpf := hvo.prev.frozen; have hpl := hvo.prev.lt; have hkb := hvo.box; have hkl : k < w2.heap.size := World.block_lt_of_cell? _ _ hkb; have HB3 := Lib.hid hb3; have HVO := Lib.hid hvo; have HROW := Lib.hid hrow; obtain ⟨D, hD, hD2⟩ := hvo.set; have HD := Lib.hid hD; have HD2 := Lib.hid hD2; have HH := Lib.hid (hD2 tk HTK.out); clear hb2 hb3 hrow hvo hD hD2)
          | (at_lookup; refine wpList_lookup_own_unit _ rfl _ _ 47 rfl 9 53 keyedS Tryz.underlying47 (Tryz.zeroValue53 _) m out.length D rfl (HD.out.alloc _) _ (.string tk.data.toList) rfl HKB.out ?_; rw [HH.out, hin])
          | (at_mapUpdate; refine wpList_mapUpdate_in _ rfl _ _ _ 47 rfl 9 53 keyedS Tryz.underlying47 unitElem m out.length D rfl (((own_keep HD.out (Below.heap_setCell w2 ⟨p, 0, none⟩ _ m (Ne.symm HVO.out.ne))).alloc _).alloc _) (by unfold maxLen; omega) _ _ (.string tk.data.toList) rfl rfl HKB.out (.agg []) [] unitElem_mk ?_; intro w3 hown3 hturn3; obtain ⟨u1, u2, u3, u4⟩ := after_putV hturn3 HVO.out.prev HVO.out.ne HROW.out (Nat.ne_of_gt hpw) (Nat.ne_of_gt HSS.out.set.lt) HVO.out.set.lt; have x0 : w3.cell? ⟨w2.heap.size, 0, none⟩ = some (.int .i64 (n : Nat)) := cell_of_row u1; have x1 : w3.cell? ⟨w2.heap.size, 1, none⟩ = some (.string tk) := cell_of_row u1; have y0 : w3.cell? ⟨w.heap.size, 0, none⟩ = some (.int .i64 0) := cell_of_row u2; have y1 : w3.cell? ⟨w.heap.size, 1, none⟩ = some (.string ⟨#[]⟩) := cell_of_row u2; have yf : ∀ j, w3.frozen? ⟨w.heap.size, j, none⟩ = false := fun j => (by simp [World.frozen?, u2]); have HU2 := Lib.hid u2; have HU3 := Lib.hid u3; have HU4 := Lib.hid u4; have HO3 := Lib.hid hown3; clear hown3 hturn3 u1 u2 u3 u4))
        rw [HR.out]
        have hvo := HVO.out.more (n, tk) HU3.out HU4.out (IsTx.put HD.out HD2.out HO3.out)
        have hkw : k < w.heap.size := World.block_lt_of_cell? w _ HSS.out.box
        have hmw : m < w.heap.size := HSS.out.set.lt
        have hvo2 : IsVo p k m (out ++ [(n, tk)]) ((w3.setCell ⟨w.heap.size, 0, none⟩ (.int .i64 (n : Nat))).setCell ⟨w.heap.size, 1, none⟩ (.string tk)) := hvo.other (r := w.heap.size) (fun j hj => (Below.heap_setCell _ ⟨w.heap.size, 1, none⟩ _ j hj).trans (Below.heap_setCell _ ⟨w.heap.size, 0, none⟩ _ j hj)) (by omega) (by omega) (by omega) (HSS.out.str.off (Nat.le_refl _))
        have hfr2 := ((((FrV.of_below (p := p) (m := m) HB3.out).trans HU3.out).setNew (i := 0) (Nat.le_refl _) (.int .i64 (n : Nat)))).setNew (i := 1) (Nat.le_refl _) (.string tk)
        have hrow := heap_set (i := 1) (.string tk) (heap_set (i := 0) (.int .i64 (n : Nat)) HU2.out)
        have z0 := cell_of_row (j := 0) hrow
        have z1 := cell_of_row (j := 1) hrow
        have HF := Lib.hid hvo2; have HF2 := Lib.hid hfr2
        clear hvo hvo2 hfr2 hrow
        generalize (w3.setCell ⟨w.heap.size, 0, none⟩ (.int .i64 (n : Nat))).setCell ⟨w.heap.size, 1, none⟩ (.string tk) = W at HF HF2 z0 z1 ⊢
        have z0' : W.cell? ⟨w.heap.size, 0, none⟩ = some (.int .i64 (n : Nat)) := z0
        have z1' : W.cell? ⟨w.heap.size, 1, none⟩ = some (.string tk) := z1
        exact bodyPost_ret (v := .tuple #[.agg #[.int .i64 (n : Nat), .string tk], .int .i64 0]) (by simp [results, Tryz.results16, go_sem, z0', z1']) rfl ⟨rfl, HF.out, HF2.out⟩
end Go.Proofs.YtmkaecpecikcaaaGreatDoor
namespace Go.Proofs.YtmkaecpecikcaaaGreatDoor
open Go.RowKit
variable {w w' : World}

def lineV (out : List EntB) (S : ByteArray) (k : Nat) : EntB ⊕ Int := if 4096 ≤ out.length then .inr 6 else if nlAt S k = S.size then .inr 2 else rdV out (S.extract k (nlAt S k))
theorem restV_step {out : List EntB} {S : ByteArray} {k : Nat} (h : k < S.size) : restF rdV S k out = match lineV out S k with
    | .inr e => ([], (out.length : Int) + 1, e)
    | .inl x => restF rdV S (nlAt S k + 1) (out ++ [x]) := by
  rw [restF_step rdV out h]
  unfold lineV
  by_cases h1 : 4096 ≤ out.length
  · rw [if_pos h1, if_pos h1]
  · rw [if_neg h1, if_neg h1]
    by_cases h2 : nlAt S k = S.size
    · rw [if_pos h2, if_pos h2]
    · rw [if_neg h2, if_neg h2]
      cases rdV out (S.extract k (nlAt S k)) <;> rfl
theorem FrV.row {pb mb k : Nat} {o : Obj} (h : FrV pb mb w w') (hk : w.heap[k]? = some o) (h1 : k ≠ pb) (h2 : k ≠ mb) : w'.heap[k]? = some o := (h.block k (lt_of_some hk) h1 h2).trans hk
theorem IsVo.lts {pb kb mb : Nat} {out : List EntB} (h : IsVo pb kb mb out w) : pb < w.heap.size ∧ kb < w.heap.size ∧ mb < w.heap.size := ⟨h.prev.lt, World.block_lt_of_cell? w _ h.box, h.set.lt⟩
theorem fin_boxV {pb kb mb r : Nat} {out out0 : List EntB} {w w2 : World} {a p : Int} {b q : ByteArray} (h2 : IsVo pb kb mb out w2) (h3 : FrV pb mb w w2) (hr : w.heap.size ≤ r) (hw : IsVo pb kb mb out0 w) (hrow : w2.heap[r]? = some (.cells #[.int .i64 a, .string b] 50 (0, 0))) :
    ((w2.setCell ⟨r, 0, none⟩ (.int .i64 p)).setCell ⟨r, 1, none⟩ (.string q)).cell? ⟨r, 0, none⟩ = some (.int .i64 p) ∧ ((w2.setCell ⟨r, 0, none⟩ (.int .i64 p)).setCell ⟨r, 1, none⟩ (.string q)).cell? ⟨r, 1, none⟩ = some (.string q) ∧
    IsVo pb kb mb out ((w2.setCell ⟨r, 0, none⟩ (.int .i64 p)).setCell ⟨r, 1, none⟩ (.string q)) ∧ FrV pb mb w ((w2.setCell ⟨r, 0, none⟩ (.int .i64 p)).setCell ⟨r, 1, none⟩ (.string q)) := by
  obtain ⟨a1, a2, a3⟩ := hw.lts
  have hwr := heap_set (i := 1) (.string q) (heap_set (i := 0) (.int .i64 p) hrow)
  exact ⟨cell_of_row hwr, cell_of_row hwr, h2.other (r := r) (fun j hj => (Below.heap_setCell _ ⟨r, 1, none⟩ _ j hj).trans (Below.heap_setCell _ ⟨r, 0, none⟩ _ j hj)) (by omega) (by omega) (by omega) (hw.str.off hr), (h3.setNew hr _).setNew hr _⟩
set_option maxHeartbeats 2000000 in
set_option maxRecDepth 100000 in
theorem nextV_any (pb kb mb : Nat) (out : List EntB) (S : ByteArray) (k : Nat) (w : World) (hS : S.size ≤ 262144) (hk : k < S.size) (hno : out.length ≤ 4096) (hset : IsVo pb kb mb out w) :
    Calls Tryz.prog 30 #[.int .i64 (out.length : Nat), .string (S.extract k (endAt S k)), .func (.func 16) #[] #[.pointer (some ⟨pb, 0, none⟩), .pointer (some ⟨kb, 0, none⟩)]] w fun e w' => okReadV pb kb mb out w (lineV out S k) e w' := by
  have hlts := hset.lts
  have HSET := Lib.hid hset
  obtain ⟨r, hr⟩ : ∃ r, lineV out S k = r := ⟨_, rfl⟩
  obtain ⟨m, hm⟩ : ∃ m, out.length = m := ⟨_, rfl⟩
  obtain ⟨t, ht⟩ : ∃ t, S.extract k (endAt S k) = t := ⟨_, rfl⟩
  have hts : t.size ≤ 262144 := by rw [← ht]; simp; omega
  rw [hr, hm, ht]
  have hw0 : Below w.heap.size w ((w.alloc (.cells #[.int .i64 0, .string ⟨#[]⟩] 50)).alloc (.cells #[.int .i64 0, .string ⟨#[]⟩] 50)) := ((Below.refl _ _).alloc (Nat.le_refl _) _).alloc (by simp) _
  have HW0 := Lib.hid hw0
  have HR := Lib.hid hr; have HM := Lib.hid hm; have HTT := Lib.hid ht
  clear hr hm ht hw0 hset
  by_cases h4 : 4096 ≤ m
  · have HE := Lib.hid (show r = .inr 6 by rw [← HR.out]; unfold lineV; rw [if_pos (by rw [HM.out]; exact h4)])
    have h4i : (4096 : Int) ≤ m := by omega
    go_enter Tryz.func30, Tryz.ntmps30
    go_wp2_with fail
    rw [HE.out]
    refine bodyPost_ret (v := .tuple #[.agg #[.int .i64 0, .string ⟨#[]⟩], .int .i64 6]) (by simp [results, Tryz.results30, go_sem]) rfl ⟨rfl, ?_⟩
    exact fin_belowV HSET.out HW0.out
  have h4i : (m : Int) < 4096 := by omega
  by_cases hnl : nlAt S k = S.size
  · have HE := Lib.hid (show r = .inr 2 by rw [← HR.out]; unfold lineV; rw [if_neg (by rw [HM.out]; exact h4), if_pos hnl])
    have hend : endAt S k = S.size := by unfold endAt; rw [if_neg (by omega)]
    have HS2 : Hid (Lib.hasSuffix t.data.toList [10] = false) := Lib.hid (by rw [← HTT.out, hend]; exact suf_no _ (line_part hnl (by omega)))
    have HC := fun W => Tryz.strings_CutSuffix t ⟨#[10]⟩ W (by omega)
    have HC := Lib.hid HC
    clear hend hnl
    go_enter Tryz.func30, Tryz.ntmps30
    go_wp2_with (go_at_call 41; refine (HC.out _).mono ?_; rintro e w1 ⟨rfl, rfl⟩; rw [show Lib.hasSuffix t.data.toList (⟨#[10]⟩ : ByteArray).data.toList = false from HS2.out])
    rw [HE.out]
    refine bodyPost_ret (v := .tuple #[.agg #[.int .i64 0, .string ⟨#[]⟩], .int .i64 2]) (by simp [results, Tryz.results30, go_sem]) rfl ⟨rfl, ?_⟩
    exact fin_belowV HSET.out HW0.out
  · have hlt : nlAt S k < S.size := by have := nlAt_le (s := S) (k := k) (by omega); omega
    have hend : endAt S k = nlAt S k + 1 := by unfold endAt; rw [if_pos hlt]
    obtain ⟨x, hx⟩ : ∃ x, S.extract k (nlAt S k) = x := ⟨_, rfl⟩
    have hxs : x.size ≤ 262144 := by rw [← hx]; simp; omega
    have hlw := line_whole hk hlt
    rw [hx, ← hend, HTT.out] at hlw
    have HS2 : Hid (Lib.hasSuffix t.data.toList [10] = true) := Lib.hid (by rw [hlw]; exact (suf_yes _).1)
    have HS3 : Hid ((⟨(Lib.trimSuffix t.data.toList [10]).toArray⟩ : ByteArray) = x) := Lib.hid (by rw [hlw, (suf_yes _).2])
    have HE := Lib.hid (show r = rdV out x by rw [← HR.out]; unfold lineV; rw [if_neg (by rw [HM.out]; exact h4), if_neg hnl, hx])
    have HC := fun W => Tryz.strings_CutSuffix t ⟨#[10]⟩ W (by omega)
    have HC := Lib.hid HC
    have HRD : Hid (∀ W, Below w.heap.size w W → Calls Tryz.prog 16 #[.string x, .pointer (some ⟨pb, 0, none⟩), .pointer (some ⟨kb, 0, none⟩)] W fun e w' => okReadV pb kb mb out W (rdV out x) e w') := Lib.hid (fun W hW => readV_any pb kb mb out x W (by omega) (by omega) (HSET.out.below hW))
    have HG : Hid ((((w.alloc (.cells #[.int .i64 0, .string ⟨#[]⟩] 50)).alloc (.cells #[.int .i64 0, .string ⟨#[]⟩] 50))).heap[w.heap.size]? = some (.cells #[.int .i64 0, .string ⟨#[]⟩] 50 (0, 0))) := Lib.hid ((Lib.alloc_old _ _ _ (by simp)).trans (World.alloc_heap_new w _))
    have HLM := Lib.hid HSET.out.lts
    rw [HE.out]
    clear hend hnl hlw hx HE hlt
    cases hrd : rdV out x with
    | inr e =>
      rw [hrd] at HRD
      clear hrd
      go_enter Tryz.func30, Tryz.ntmps30
      go_wp2_with (first
        | (go_at_call 41; refine (HC.out _).mono ?_; rintro e w1 ⟨rfl, rfl⟩; rw [show Lib.hasSuffix t.data.toList (⟨#[10]⟩ : ByteArray).data.toList = true from HS2.out, show (⟨(Lib.trimSuffix t.data.toList (⟨#[10]⟩ : ByteArray).data.toList).toArray⟩ : ByteArray) = x from HS3.out])
        | (go_at_call 16; refine (HRD.out _ HW0.out).mono ?_; rintro e2 w2 ⟨rfl, h2, h3⟩; have hrow := h3.row HG.out (by have := HLM.out; omega) (by have := HLM.out; omega); have z0 := cell_of_row (j := 0) hrow; have z1 := cell_of_row (j := 1) hrow; have zf : ∀ j, w2.frozen? ⟨w.heap.size, j, none⟩ = false := (fun j => by simp [World.frozen?, hrow]); have H2 := Lib.hid h2; have H3 := Lib.hid h3; have HROW := Lib.hid hrow; clear h2 h3 hrow))
      obtain ⟨z0', z1', hf⟩ := fin_boxV (p := 0) (q := ⟨#[]⟩) H2.out ((FrV.of_below HW0.out).trans H3.out) (Nat.le_refl _) HSET.out HROW.out
      have HF := Lib.hid hf
      clear hf
      generalize (w2.setCell ⟨w.heap.size, 0, none⟩ (.int .i64 0)).setCell ⟨w.heap.size, 1, none⟩ (.string ⟨#[]⟩) = W at HF z0' z1' ⊢
      exact bodyPost_ret (v := .tuple #[.agg #[.int .i64 0, .string ⟨#[]⟩], .int .i64 e]) (by simp [results, Tryz.results30, go_sem, z0', z1']) rfl ⟨rfl, HF.out⟩
    | inl p =>
      obtain ⟨p1, p2⟩ := p
      rw [hrd] at HRD
      clear hrd
      go_enter Tryz.func30, Tryz.ntmps30
      go_wp2_with (first
        | (go_at_call 41; refine (HC.out _).mono ?_; rintro e w1 ⟨rfl, rfl⟩; rw [show Lib.hasSuffix t.data.toList (⟨#[10]⟩ : ByteArray).data.toList = true from HS2.out, show (⟨(Lib.trimSuffix t.data.toList (⟨#[10]⟩ : ByteArray).data.toList).toArray⟩ : ByteArray) = x from HS3.out])
        | (go_at_call 16; refine (HRD.out _ HW0.out).mono ?_; rintro e2 w2 ⟨rfl, h2, h3⟩; have hrow := h3.row HG.out (by have := HLM.out; omega) (by have := HLM.out; omega); have z0 := cell_of_row (j := 0) hrow; have z1 := cell_of_row (j := 1) hrow; have zf : ∀ j, w2.frozen? ⟨w.heap.size, j, none⟩ = false := (fun j => by simp [World.frozen?, hrow]); have H2 := Lib.hid h2; have H3 := Lib.hid h3; have HROW := Lib.hid hrow; clear h2 h3 hrow))
      obtain ⟨z0', z1', hf⟩ := fin_boxV (p := (p1 : Nat)) (q := p2) H2.out ((FrV.of_below HW0.out).trans H3.out) (Nat.le_refl _) HSET.out HROW.out
      have HF := Lib.hid hf
      clear hf
      generalize (w2.setCell ⟨w.heap.size, 0, none⟩ (.int .i64 (p1 : Nat))).setCell ⟨w.heap.size, 1, none⟩ (.string p2) = W at HF z0' z1' ⊢
      exact bodyPost_ret (v := .tuple #[.agg #[.int .i64 (p1 : Nat), .string p2], .int .i64 0]) (by simp [results, Tryz.results30, go_sem, z0', z1']) rfl ⟨rfl, HF.out⟩
end Go.Proofs.YtmkaecpecikcaaaGreatDoor
namespace Go.Proofs.YtmkaecpecikcaaaGreatDoor
open Go.RowKit Go.Shelf
attribute [local go_sem] Oper.semAt_some

def parseV (s : ByteArray) : List EntB × Int × Int := parseL rdV s
def flatE (l : List EntB) : List Value := l.flatMap fun p => [Value.int .i64 (p.1 : Nat), Value.string p.2]
theorem flatE_snoc (l : List EntB) (p : EntB) : flatE (l ++ [p]) = flatE l ++ [Value.int .i64 (p.1 : Nat), Value.string p.2] := by unfold flatE; rw [List.flatMap_append]; rfl
theorem two_memE {a : Int} {b : ByteArray} : ∀ u ∈ [Value.int .i64 a, Value.string b], u.oneCell' = true := by
  intro u hu; simp at hu; rcases hu with rfl | rfl <;> rfl
theorem own_ents {w : World} {B n : Nat} {t : TypeId} {v : Value} {xs : List Value} (h : w.ownsRow B t 2 v n xs) : ∃ o cap, v = .slice o n cap ∧ True := by
  rcases h.2 with ⟨h1, h2⟩ | ⟨g, cap, cur, h1, _⟩
  · exact ⟨none, 0, by rw [h1, h2], trivial⟩
  · exact ⟨some ⟨g, 0, none⟩, cap, h1, trivial⟩
theorem FrV.more {pb mb : Nat} {w W W' : World} (h : FrV pb mb w W) (hl : Below 0 W W') (hs : W.heap.size ≤ W'.heap.size) (hb : ∀ k, k < w.heap.size → k ≠ pb → k ≠ mb → W'.heap[k]? = W.heap[k]?) : FrV pb mb w W' :=
  ⟨h.low.trans hl, Nat.le_trans h.size hs, fun k hk a b => (hb k hk a b).trans (h.block k hk a b)⟩
theorem IsVo.kept {pb kb mb B : Nat} {out : List EntB} {W W' : World} (h : IsVo pb kb mb out W) (hb : ∀ j, j < B → W'.heap[j]? = W.heap[j]?) (h1 : pb < B) (h2 : kb < B) (h3 : mb < B) (h4 : 1 < B ∧ 2 < B ∧ 3 < B) : IsVo pb kb mb out W' :=
  ⟨(hb pb h1).trans h.prev, (cell_keep (hb kb h2)).trans h.box, h.set.keep (hb mb h3), h.str.keep (hb _ h4.1) (hb _ h4.2.1) (hb _ h4.2.2), h.op, h.om, h.kp⟩
theorem IsVo.all {pb kb mb : Nat} {out : List EntB} {w : World} (h : IsVo pb kb mb out w) : pb < w.heap.size ∧ kb < w.heap.size ∧ mb < w.heap.size ∧ 1 < w.heap.size ∧ 2 < w.heap.size ∧ 3 < w.heap.size := by
  obtain ⟨a, b, c⟩ := h.lts
  exact ⟨a, b, c, h.str.lt⟩
theorem info_ve : (Tryz.prog.info? 50).map (fun i => (i.zero, i.size, i.bytes)) = some (some (.agg #[.int .i64 0, .string ⟨#[]⟩]), 2, 24) := by kernel_rfl
theorem lineV_err {out : List EntB} {S : ByteArray} {k : Nat} {e : Int} (h : lineV out S k = .inr e) : e = 6 ∨ e = 2 ∨ e = 12 ∨ e = 10 := by
  unfold lineV rdV at h
  split at h
  · injection h with h; omega
  · split at h
    · injection h with h; omega
    · split at h
      · injection h with h; omega
      · split at h
        · injection h with h; omega
        · split at h
          · injection h with h; omega
          · cases h
theorem lineV_ok {out : List EntB} {S : ByteArray} {k : Nat} {p : EntB} (h : lineV out S k = .inl p) (hk : k < S.size) : out.length < 4096 ∧ endAt S k = nlAt S k + 1 := by
  unfold lineV at h
  split at h
  · cases h
  · split at h
    · cases h
    · have := nlAt_le (s := S) (k := k) (by omega)
      exact ⟨by omega, by unfold endAt; rw [if_pos (by omega)]⟩
structure LpIV (pb kb mb D : Nat) (S : ByteArray) (w : World) (out : List EntB) (k : Nat) (W : World) : Prop where
  b3 : Boxed W w.heap.size 55 (.func (.func 16) #[] #[.pointer (some ⟨pb, 0, none⟩), .pointer (some ⟨kb, 0, none⟩)])
  b4 : Boxed W (w.heap.size + 1) 23 (.slice none 0 0)
  b5 : Boxed W (w.heap.size + 1 + 1) 3 (.int .i64 0)
  b6 : Boxed W (w.heap.size + 1 + 1 + 1) 24 (.int .i64 0)
  b7 : ∃ v, Boxed W (w.heap.size + 1 + 1 + 1 + 1) 23 v ∧ W.ownsRow (D + 2) 50 2 v out.length (flatE out)
  set : IsVo pb kb mb out W
  fr : FrV pb mb w W
  rest : restF rdV S 0 [] = restF rdV S k out
  len : out.length ≤ 4096
def LpXV (pb kb mb : Nat) (S : ByteArray) (w : World) (_ : Code) (W : World) : Prop :=
  ∃ n e, restF rdV S 0 [] = ([], n, e) ∧ Boxed W (w.heap.size + 1) 23 (.slice none 0 0) ∧ Boxed W (w.heap.size + 1 + 1) 3 (.int .i64 n) ∧ Boxed W (w.heap.size + 1 + 1 + 1) 24 (.int .i64 e) ∧ FrV pb mb w W
theorem LpIV.stab {pb kb mb D : Nat} {S : ByteArray} {w : World} {k : Nat} (hD : D = w.heap.size + 6) (hm : pb < w.heap.size ∧ kb < w.heap.size ∧ mb < w.heap.size ∧ 1 < w.heap.size ∧ 2 < w.heap.size ∧ 3 < w.heap.size) : Stab (w.heap.size + 1 + 1 + 1 + 1 + 1) D (fun W => ∃ out, LpIV pb kb mb D S w out k W) := by
  rintro W W' ⟨out, h⟩ hl hs hb
  have e : ∀ j, j < W.heap.size → j < w.heap.size + 5 → W'.heap[j]? = W.heap[j]? := fun j h1 h2 => hb j h1 (by omega) (by omega) (by omega)
  obtain ⟨v, hv, hr⟩ := h.b7
  refine ⟨out, boxed_same h.b3 (e _ h.b3.lt (by omega)), boxed_same h.b4 (e _ h.b4.lt (by omega)), boxed_same h.b5 (e _ h.b5.lt (by omega)), boxed_same h.b6 (e _ h.b6.lt (by omega)), ⟨v, boxed_same hv (e _ hv.lt (by omega)), ?_⟩, h.set.kept (B := w.heap.size) (fun j hj => e j (by have := h.fr.size; omega) (by omega)) (by omega) (by omega) (by omega) ⟨by omega, by omega, by omega⟩, h.fr.more hl hs (fun k hk _ _ => e k (Nat.lt_of_lt_of_le hk h.fr.size) (by omega)), h.rest, h.len⟩
  refine ⟨hr.1, ?_⟩
  rcases hr.2 with h1 | ⟨g, cap, cur, h1, h2, h3, h4⟩
  · exact .inl h1
  · exact .inr ⟨g, cap, cur, h1, h2, (hb g (lt_of_some h3) (by omega) (by omega) (by omega)).trans h3, h4⟩
theorem LpXV.stab {pb kb mb D : Nat} {S : ByteArray} {w : World} (hD : D = w.heap.size + 6) (c : Code) : Stab (w.heap.size + 1 + 1 + 1 + 1 + 1) D (LpXV pb kb mb S w c) := by
  rintro W W' ⟨n, x, h1, h2, h3, h4, h5⟩ hl hs hb
  have e : ∀ j, j < W.heap.size → j < w.heap.size + 5 → W'.heap[j]? = W.heap[j]? := fun j h1 h2 => hb j h1 (by omega) (by omega) (by omega)
  exact ⟨n, x, h1, boxed_same h2 (e _ h2.lt (by omega)), boxed_same h3 (e _ h3.lt (by omega)), boxed_same h4 (e _ h4.lt (by omega)), h5.more hl hs (fun k hk _ _ => e k (Nat.lt_of_lt_of_le hk h5.size) (by omega))⟩
theorem lp_startV {pb kb mb : Nat} {S : ByteArray} {w : World} (hset : IsVo pb kb mb [] w) :
    (∀ W, W = (((((w.alloc (.cells #[.func (.func 16) #[] #[.pointer (some ⟨pb, 0, none⟩), .pointer (some ⟨kb, 0, none⟩)]] 55)).alloc (.cells #[.slice none 0 0] 23)).alloc (.cells #[.int .i64 0] 3)).alloc (.cells #[.int .i64 0] 24)).alloc (.cells #[.slice none 0 0] 23)).alloc (.cells #[.string S] 9) →
      LpIV pb kb mb W.heap.size S w [] 0 W ∧ W.heap.size = w.heap.size + 6 ∧ W.cell? ⟨w.heap.size + 1 + 1 + 1 + 1 + 1, 0, none⟩ = some (.string S) ∧ W.frozen? ⟨w.heap.size + 1 + 1 + 1 + 1 + 1, 0, none⟩ = false) := by
  rintro W rfl
  have x1 := Boxed.new w 55 (.func (.func 16) #[] #[.pointer (some ⟨pb, 0, none⟩), .pointer (some ⟨kb, 0, none⟩)])
  obtain ⟨w1, h1⟩ : ∃ w1, w.alloc (.cells #[.func (.func 16) #[] #[.pointer (some ⟨pb, 0, none⟩), .pointer (some ⟨kb, 0, none⟩)]] 55) = w1 := ⟨_, rfl⟩
  have s1 : w1.heap.size = w.heap.size + 1 := by rw [← h1]; simp
  have b1 : Below w.heap.size w w1 := by rw [← h1]; exact (Below.refl _ w).alloc (Nat.le_refl _) _
  rw [h1] at x1 ⊢
  have x2 := Boxed.new w1 23 (.slice none 0 0)
  obtain ⟨w2, h2⟩ : ∃ w2, w1.alloc (.cells #[.slice none 0 0] 23) = w2 := ⟨_, rfl⟩
  have s2 : w2.heap.size = w.heap.size + 1 + 1 := by rw [← h2]; simp [s1]
  have b2 : Below w1.heap.size w1 w2 := by rw [← h2]; exact (Below.refl _ w1).alloc (Nat.le_refl _) _
  rw [h2] at x2 ⊢
  have x3 := Boxed.new w2 3 (.int .i64 0)
  obtain ⟨w3, h3⟩ : ∃ w3, w2.alloc (.cells #[.int .i64 0] 3) = w3 := ⟨_, rfl⟩
  have s3 : w3.heap.size = w.heap.size + 1 + 1 + 1 := by rw [← h3]; simp [s2]
  have b3 : Below w2.heap.size w2 w3 := by rw [← h3]; exact (Below.refl _ w2).alloc (Nat.le_refl _) _
  rw [h3] at x3 ⊢
  have x4 := Boxed.new w3 24 (.int .i64 0)
  obtain ⟨w4, h4⟩ : ∃ w4, w3.alloc (.cells #[.int .i64 0] 24) = w4 := ⟨_, rfl⟩
  have s4 : w4.heap.size = w.heap.size + 1 + 1 + 1 + 1 := by rw [← h4]; simp [s3]
  have b4 : Below w3.heap.size w3 w4 := by rw [← h4]; exact (Below.refl _ w3).alloc (Nat.le_refl _) _
  rw [h4] at x4 ⊢
  have x5 := Boxed.new w4 23 (.slice none 0 0)
  obtain ⟨w5, h5⟩ : ∃ w5, w4.alloc (.cells #[.slice none 0 0] 23) = w5 := ⟨_, rfl⟩
  have s5 : w5.heap.size = w.heap.size + 1 + 1 + 1 + 1 + 1 := by rw [← h5]; simp [s4]
  have b5 : Below w4.heap.size w4 w5 := by rw [← h5]; exact (Below.refl _ w4).alloc (Nat.le_refl _) _
  rw [h5] at x5 ⊢
  have x6 := Boxed.new w5 9 (.string S)
  obtain ⟨w6, h6⟩ : ∃ w6, w5.alloc (.cells #[.string S] 9) = w6 := ⟨_, rfl⟩
  have s6 : w6.heap.size = w.heap.size + 6 := by rw [← h6]; simp [s5]
  have b6 : Below w5.heap.size w5 w6 := by rw [← h6]; exact (Below.refl _ w5).alloc (Nat.le_refl _) _
  rw [h6] at x6 ⊢
  rw [s1] at x2; rw [s2] at x3; rw [s3] at x4; rw [s4] at x5; rw [s5] at x6
  have e6 : ∀ j, j < w5.heap.size → w6.heap[j]? = w5.heap[j]? := fun j h => b6.block j h
  have e5 : ∀ j, j < w4.heap.size → w6.heap[j]? = w4.heap[j]? := fun j h => (e6 j (by omega)).trans (b5.block j h)
  have e4 : ∀ j, j < w3.heap.size → w6.heap[j]? = w3.heap[j]? := fun j h => (e5 j (by omega)).trans (b4.block j h)
  have e3 : ∀ j, j < w2.heap.size → w6.heap[j]? = w2.heap[j]? := fun j h => (e4 j (by omega)).trans (b3.block j h)
  have e2 : ∀ j, j < w1.heap.size → w6.heap[j]? = w1.heap[j]? := fun j h => (e3 j (by omega)).trans (b2.block j h)
  have e1 : Below w.heap.size w w6 := ((((b1.trans (b2.mono (by omega))).trans (b3.mono (by omega))).trans (b4.mono (by omega))).trans (b5.mono (by omega))).trans (b6.mono (by omega))
  exact ⟨⟨boxed_same x1 (e2 _ x1.lt), boxed_same x2 (e3 _ x2.lt), boxed_same x3 (e4 _ x3.lt), boxed_same x4 (e5 _ x4.lt), ⟨_, boxed_same x5 (e6 _ x5.lt), World.ownsRow_nil _ _ _ _⟩, hset.below e1, FrV.of_below e1, rfl, by decide⟩, s6, x6.cell, x6.frozen⟩
/-- What stays and what is laid where a line is wrong. -/
theorem lp_errV {pb kb mb D : Nat} {S : ByteArray} {w W W3 : World} {out : List EntB} {k : Nat} {n e : Int} (hD : D = w.heap.size + 6) (hm : pb < w.heap.size ∧ kb < w.heap.size ∧ mb < w.heap.size ∧ 1 < w.heap.size ∧ 2 < w.heap.size ∧ 3 < w.heap.size) (hL : LpIV pb kb mb D S w out k W) (hDW : D + 1 < W.heap.size) (hf : FrV pb mb W W3) (hr : restF rdV S 0 [] = ([], n, e)) :
    ∀ Wf, Wf = ((W3.setCell ⟨w.heap.size + 1, 0, none⟩ (.slice none 0 0)).setCell ⟨w.heap.size + 1 + 1, 0, none⟩ (.int .i64 n)).setCell ⟨w.heap.size + 1 + 1 + 1, 0, none⟩ (.int .i64 e) →
      (∀ j, j = w.heap.size + 1 + 1 + 1 + 1 + 1 ∨ j = D ∨ j = D + 1 → Wf.heap[j]? = W.heap[j]?) ∧ W.heap.size ≤ Wf.heap.size ∧ LpXV pb kb mb S w .ret Wf ∧ LpXV pb kb mb S w .ret Wf.drew := by
  rintro Wf rfl
  have g4 := boxed_same hL.b4 (hf.block _ hL.b4.lt (by omega) (by omega))
  have g5 := boxed_same hL.b5 (hf.block _ hL.b5.lt (by omega) (by omega))
  have g6 := boxed_same hL.b6 (hf.block _ hL.b6.lt (by omega) (by omega))
  have x : LpXV pb kb mb S w .ret (((W3.setCell ⟨w.heap.size + 1, 0, none⟩ (.slice none 0 0)).setCell ⟨w.heap.size + 1 + 1, 0, none⟩ (.int .i64 n)).setCell ⟨w.heap.size + 1 + 1 + 1, 0, none⟩ (.int .i64 e)) := by
    refine ⟨n, e, hr, ((g4.set _).other (by omega) _).other (by omega) _, ((g5.other (by omega) _).set _).other (by omega) _, ((g6.other (by omega) _).other (by omega) _).set _, ?_⟩
    have hb : Below w.heap.size W3 (((W3.setCell ⟨w.heap.size + 1, 0, none⟩ (.slice none 0 0)).setCell ⟨w.heap.size + 1 + 1, 0, none⟩ (.int .i64 n)).setCell ⟨w.heap.size + 1 + 1 + 1, 0, none⟩ (.int .i64 e)) := (((Below.refl w.heap.size W3).setCell (p := ⟨w.heap.size + 1, 0, none⟩) (by show w.heap.size ≤ w.heap.size + 1; omega) _).setCell (p := ⟨w.heap.size + 1 + 1, 0, none⟩) (by show w.heap.size ≤ w.heap.size + 1 + 1; omega) _).setCell (p := ⟨w.heap.size + 1 + 1 + 1, 0, none⟩) (by show w.heap.size ≤ w.heap.size + 1 + 1 + 1; omega) _
    exact (hL.fr.trans hf).more (hb.mono (Nat.zero_le _)) hb.size (fun k hk _ _ => hb.block k hk)
  refine ⟨fun j hj => ?_, Nat.le_trans hf.size (by simp), x, ?_⟩
  · have e1 := Below.heap_setCell W3 ⟨w.heap.size + 1, 0, none⟩ (.slice none 0 0) j (by show j ≠ w.heap.size + 1; omega)
    have e2 := Below.heap_setCell (W3.setCell ⟨w.heap.size + 1, 0, none⟩ (.slice none 0 0)) ⟨w.heap.size + 1 + 1, 0, none⟩ (.int .i64 n) j (by show j ≠ w.heap.size + 1 + 1; omega)
    have e3 := Below.heap_setCell ((W3.setCell ⟨w.heap.size + 1, 0, none⟩ (.slice none 0 0)).setCell ⟨w.heap.size + 1 + 1, 0, none⟩ (.int .i64 n)) ⟨w.heap.size + 1 + 1 + 1, 0, none⟩ (.int .i64 e) j (by show j ≠ w.heap.size + 1 + 1 + 1; omega)
    exact e3.trans (e2.trans (e1.trans (hf.block j (by omega) (by omega) (by omega))))
  · obtain ⟨n', e', y1, y2, y3, y4, y5⟩ := x
    exact ⟨n', e', y1, y2, y3, y4, y5.more ((Below.refl 0 _).drew) (Nat.le_refl _) (fun _ _ _ _ => rfl)⟩
theorem own_frmV {pb mb B n : Nat} {W W' : World} {v : Value} {xs : List Value} (h : W.ownsRow B 50 2 v n xs) (hf : FrV pb mb W W') (hb : pb < B ∧ mb < B) : W'.ownsRow B 50 2 v n xs := by
  refine ⟨h.1, ?_⟩
  rcases h.2 with h1 | ⟨g, cap, cur, h1, h2, h3, h4⟩
  · exact .inl h1
  · exact .inr ⟨g, cap, cur, h1, h2, (hf.block g (lt_of_some h3) (by omega) (by omega)).trans h3, h4⟩
/-- A pair more. -/
theorem lp_moreV {pb kb mb D : Nat} {S : ByteArray} {w W W2 W3 W4 : World} {out : List EntB} {k E : Nat} {p : EntB} {v v' : Value} (hD : D = w.heap.size + 6) (hm : pb < w.heap.size ∧ kb < w.heap.size ∧ mb < w.heap.size ∧ 1 < w.heap.size ∧ 2 < w.heap.size ∧ 3 < w.heap.size) (hL : LpIV pb kb mb D S w out k W) (hDW : D + 1 < W.heap.size) (hf2 : FrV pb mb W W2) (hs2 : IsVo pb kb mb (out ++ [p]) W2)
    (hW3 : W2.alloc (.cells #[.int .i64 (p.1 : Nat), .string p.2] 50) = W3) (hbox : Boxed W3 (w.heap.size + 1 + 1 + 1 + 1) 23 v) (hrow : W3.ownsRow (D + 2) 50 2 v out.length (flatE out))
    (hown : W4.ownsRow (D + 2) 50 2 v' (out.length + 1) (flatE out ++ [.int .i64 (p.1 : Nat), .string p.2])) {tmp : Obj} (hg : (W3.alloc tmp).grownBy W4 v.ownBlock) (hr : restF rdV S 0 [] = restF rdV S E (out ++ [p])) (hl : out.length < 4096) :
    Boxed W4 (w.heap.size + 1 + 1 + 1 + 1) 23 v ∧
    (∀ Wf, Wf = W4.setCell ⟨w.heap.size + 1 + 1 + 1 + 1, 0, none⟩ v' →
      (∀ j, j = w.heap.size + 1 + 1 + 1 + 1 + 1 ∨ j = D ∨ j = D + 1 → Wf.heap[j]? = W.heap[j]?) ∧ W.heap.size ≤ Wf.heap.size ∧ ∃ out, LpIV pb kb mb D S w out E Wf) := by
  have e23 : ∀ j, j < W2.heap.size → W3.heap[j]? = W2.heap[j]? := fun j h => by rw [← hW3]; exact Lib.alloc_old _ _ _ h
  have s23 : W2.heap.size ≤ W3.heap.size := by rw [← hW3]; simp
  have nb : ∀ j, j < D + 2 → some j ≠ v.ownBlock := fun j hj e => by have := own_base hrow j e.symm; omega
  have e34 : ∀ j, j < D + 2 → j < W3.heap.size → W4.heap[j]? = W3.heap[j]? := fun j h1 h2 => (hg.block j (by simp; omega) (nb j h1)).trans (Lib.alloc_old _ _ _ h2)
  have s34 : W3.heap.size ≤ W4.heap.size := Nat.le_trans (by simp) hg.size
  have e24 : ∀ j, j < D + 2 → j < W2.heap.size → W4.heap[j]? = W2.heap[j]? := fun j h1 h2 => (e34 j h1 (by omega)).trans (e23 j h2)
  have e14 : ∀ j, j < D + 2 → j < W.heap.size → j ≠ pb → j ≠ mb → W4.heap[j]? = W.heap[j]? := fun j h1 h2 h3 h4 => (e24 j h1 (Nat.lt_of_lt_of_le h2 hf2.size)).trans (hf2.block j h2 h3 h4)
  have b4 : Boxed W4 (w.heap.size + 1 + 1 + 1 + 1) 23 v := boxed_same hbox (e34 _ (by omega) hbox.lt)
  refine ⟨b4, ?_⟩
  rintro Wf rfl
  have eF : ∀ j, j ≠ w.heap.size + 1 + 1 + 1 + 1 → (W4.setCell ⟨w.heap.size + 1 + 1 + 1 + 1, 0, none⟩ v').heap[j]? = W4.heap[j]? := fun j h => Below.heap_setCell W4 ⟨w.heap.size + 1 + 1 + 1 + 1, 0, none⟩ v' j h
  refine ⟨fun j hj => (eF j (by omega)).trans (e14 j (by omega) (by omega) (by omega) (by omega)), ?_, out ++ [p], ?_⟩
  · have := hf2.size; simp; omega
  · have k3 := hL.b3.lt; have k4 := hL.b4.lt; have k5 := hL.b5.lt; have k6 := hL.b6.lt
    refine ⟨boxed_same hL.b3 ((eF _ (by omega)).trans (e14 _ (by omega) (by omega) (by omega) (by omega))), boxed_same hL.b4 ((eF _ (by omega)).trans (e14 _ (by omega) (by omega) (by omega) (by omega))), boxed_same hL.b5 ((eF _ (by omega)).trans (e14 _ (by omega) (by omega) (by omega) (by omega))), boxed_same hL.b6 ((eF _ (by omega)).trans (e14 _ (by omega) (by omega) (by omega) (by omega))), ⟨v', b4.set v', ?_⟩, ?_, ?_, hr, by rw [List.length_append]; show out.length + 1 ≤ 4096; omega⟩
    · rw [List.length_append, flatE_snoc]
      exact hown.kept (grownBy_setCell' W4 _ v') (.inr (fun e => by have := own_base hown _ e; omega))
    · skip
      exact hs2.kept (B := w.heap.size) (fun j hj => (eF j (by omega)).trans (e24 j (by omega) (by have := hL.fr.size; have := hf2.size; omega))) (by omega) (by omega) (by omega) ⟨by omega, by omega, by omega⟩
    · have lo : Below 0 W2 W4 := by
        have l1 : Below 0 W2 W3 := by rw [← hW3]; exact (Below.refl 0 W2).alloc (Nat.zero_le _) _
        exact (l1.alloc (Nat.zero_le _) tmp).grown hg (Nat.zero_le _) (fun _ _ => Nat.zero_le _)
      exact (hL.fr.trans hf2).more (lo.trans ((Below.refl 0 W4).setCell (p := ⟨w.heap.size + 1 + 1 + 1 + 1, 0, none⟩) (Nat.zero_le _) v')) (by simp; omega) (fun k hk _ _ => (eF k (by omega)).trans (e24 k (by omega) (Nat.lt_of_lt_of_le hk (hL.fr.trans hf2).size)))
theorem lp_doneV {pb kb mb D : Nat} {w W : World} {v : Value} {L : List EntB} {v4 : Value} {n e : Int} (hD : D = w.heap.size + 6) (g4 : Boxed W (w.heap.size + 1) 23 v4) (g5 : Boxed W (w.heap.size + 1 + 1) 3 (.int .i64 n)) (g6 : Boxed W (w.heap.size + 1 + 1 + 1) 24 (.int .i64 e)) (hf : FrV pb mb w W) (ho : W.ownsRow w.heap.size 50 2 v L.length (flatE L)) (hne : v.ownBlock ≠ some D) (o' : Obj) :
    (W.putObj D o').cell? ⟨w.heap.size + 1, 0, none⟩ = some v4 ∧ (W.putObj D o').cell? ⟨w.heap.size + 1 + 1, 0, none⟩ = some (.int .i64 n) ∧ (W.putObj D o').cell? ⟨w.heap.size + 1 + 1 + 1, 0, none⟩ = some (.int .i64 e) ∧ (W.putObj D o').ownsRow w.heap.size 50 2 v L.length (flatE L) ∧ FrV pb mb w (W.putObj D o') := by
  have e1 : ∀ j, j ≠ D → (W.putObj D o').heap[j]? = W.heap[j]? := fun j h => put_other W o' h
  refine ⟨(boxed_same g4 (e1 _ (by omega))).cell, (boxed_same g5 (e1 _ (by omega))).cell, (boxed_same g6 (e1 _ (by omega))).cell, ?_, hf.more (put_low W D o') (by simp) (fun k hk _ _ => e1 k (by omega))⟩
  exact ho.kept (grownBy_putObj' W D o') (.inr hne)
set_option maxHeartbeats 4000000 in
set_option maxRecDepth 100000 in
theorem lparse_anyV (pb kb mb : Nat) (S : ByteArray) (w : World) (hS : S.size ≤ maxLen) (hset : IsVo pb kb mb [] w) :
    Calls Tryz.prog 15 #[.string S, .func (.func 16) #[] #[.pointer (some ⟨pb, 0, none⟩), .pointer (some ⟨kb, 0, none⟩)]] w fun e w' =>
      ∃ v, e = .returned (.tuple #[v, .int .i64 (parseV S).2.1, .int .i64 (parseV S).2.2]) ∧ w'.ownsRow w.heap.size 50 2 v (parseV S).1.length (flatE (parseV S).1) ∧ FrV pb mb w w' := by
  refine callsIn_wide.1 (?_ : CallsIn Fence.wide 5 _ _ _ _ _)
  refine callsIn_of_wp_marks Tryz.func15 rfl trivial ?_ rfl
  simp only [Tryz.ntmps15, List.size_toArray, List.length_cons, List.length_nil, Nat.reduceAdd, Nat.reduceSub, Array.replicate_succ, Array.replicate_zero, List.push_toArray, List.append_toArray, List.nil_append, List.cons_append]
  unfold maxLen at hS
  by_cases hbig : 262144 < S.size
  · have hb : (262144 : Int) < S.size := by omega
    have hend : Hid (parseV S = ([], 0, 6)) := Lib.hid (by unfold parseV parseL; rw [if_pos hbig])
    rw [hend.out]
    gi_wp2
    refine ⟨.tuple #[.slice none 0 0, .int .i64 0, .int .i64 6], by simp [results, Tryz.results15, go_sem], _, rfl, World.ownsRow_nil _ _ _ _, FrV.of_below ?_⟩
    exact ((((Below.refl _ w).alloc (Nat.le_refl _) _).alloc (by simp) _).alloc (by simp; omega) _).alloc (by simp; omega) _
  · have hb : (S.size : Int) ≤ 262144 := by omega
    have h1 : 1 ≤ 5 := by omega
    have hpm : parseV S = restF rdV S 0 [] := parseL_eq rdV (by omega)
    rw [hpm]
    have HPM := Lib.hid hpm
    have hm := hset.all
    clear hpm
    gi_wp2_with (refine ⟨trivial, ?_⟩; gi_at_call 29; refine (callsIn_wide.2 (Lines_any S _)).mono ?_; rintro e w1 ⟨rfl, rfl⟩)
    obtain ⟨hI, hsz, hcB, hfB⟩ := lp_startV (pb := pb) (kb := kb) (mb := mb) (S := S) hset _ rfl
    generalize World.alloc _ (.cells #[.string S] 9) = w5 at hI hsz hcB hfB ⊢
    have HI := Lib.hid hI; have HSZ := Lib.hid hsz
    clear hI hset
    refine range_lines (w := w5) (n := 5) (by omega) (w.heap.size + 1 + 1 + 1 + 1 + 1) S (by omega) rfl rfl hcB hfB
      (fun k W => ∃ out, LpIV pb kb mb w5.heap.size S w out k W) (LpXV pb kb mb S w) (fun k => LpIV.stab hsz hm) (fun c => LpXV.stab hsz c) ⟨[], HI.out⟩
      (fun k => { tmps := #[.string S, .func (.func 16) #[] #[.pointer (some ⟨pb, 0, none⟩), .pointer (some ⟨kb, 0, none⟩)], undef, .pointer (some ⟨w.heap.size, 0, none⟩), .pointer (some ⟨w.heap.size + 1, 0, none⟩), .pointer (some ⟨w.heap.size + 1 + 1, 0, none⟩), .pointer (some ⟨w.heap.size + 1 + 1 + 1, 0, none⟩), .pointer (some ⟨w.heap.size + 1 + 1 + 1 + 1, 0, none⟩), .string (S.extract k (endAt S k)), undef, undef, .string S, .int .i64 S.size, .bool (decide (262144 < (S.size : Int))), .string S, .func (.func 39) #[] #[.pointer (some ⟨w.heap.size + 1 + 1 + 1 + 1 + 1, 0, none⟩)], .string (S.extract k (endAt S k)), undef, undef, undef, undef, undef, undef, undef, undef, undef, undef, undef, undef, undef, undef, undef, undef, undef, undef, undef], defers := [] }) ?assign ?body ?done ?stop
    case assign =>
      intro l k W K hK
      gi_wp2
      exact hK
    case body =>
      rintro l k W hks ⟨out, hL⟩ hDW
      obtain ⟨v, hv7, hr7⟩ := hL.b7
      obtain ⟨o, cap, rfl, _⟩ := own_ents hr7
      have c3 := hL.b3.cell
      have c7 := hL.b7
      have c7 := hv7.cell
      have HNX := Lib.hid (nextV_any pb kb mb out S k W (by omega) hks hL.len hL.set)
      obtain ⟨m, hm'⟩ : ∃ m, out.length = m := ⟨_, rfl⟩
      have HOL := Lib.hid hm'
      have HL := Lib.hid hL; have HV7 := Lib.hid hv7; have HR7 := Lib.hid hr7
      have HRS := Lib.hid (restV_step (out := out) hks)
      rw [hm'] at HNX c7 HR7 HV7 HRS
      have hm5 : m ≤ 4096 := by have := hL.len; omega
      have hmm : m ≤ 4096 := hm5
      clear hL hv7 hr7 hm'
      have hn1 : 1 ≤ 5 - 1 - 1 := by decide
      have hmx : Tryz.prog.follows .mixedOrders = true := by kernel_rfl
      cases hlr : lineV out S k with
      | inr e =>
        rw [hlr] at HNX HRS
        have he := lineV_err hlr
        have hne0 : (e != 0) = true := by rw [bne_iff_ne]; omega
        have hne1 : ¬ e = 0 := by omega
        clear hlr
        gi_wp2_with (refine ⟨trivial, ?_⟩; gi_at_call 30; refine (CallsIn.inRound l (callsIn_wide.2 HNX.out)).mono ?_; rintro e3 W2 ⟨rfl, h2, h3⟩)
        obtain ⟨W3, hW3⟩ : ∃ W3, W2.alloc (.cells #[.int .i64 0, .string ⟨#[]⟩] 50) = W3 := ⟨_, rfl⟩
        rw [hW3]
        have hf3 : FrV pb mb W W3 := by rw [← hW3]; exact h3.trans (FrV.of_below ((Below.refl _ W2).alloc (Nat.le_refl _) _))
        have HF3 := Lib.hid hf3
        have g4 := boxed_same HL.out.b4 (hf3.block _ HL.out.b4.lt (by omega) (by omega))
        have g5 := boxed_same HL.out.b5 (hf3.block _ HL.out.b5.lt (by omega) (by omega))
        have g6 := boxed_same HL.out.b6 (hf3.block _ HL.out.b6.lt (by omega) (by omega))
        have g7 := boxed_same HV7.out (hf3.block _ HV7.out.lt (by omega) (by omega))
        have d4 := g4.cell; have d5 := g5.cell; have d6 := g6.cell; have d7 := g7.cell
        have f4 := g4.frozen; have f5 := g5.frozen; have f6 := g6.frozen
        have HEND := Lib.hid (lp_errV HSZ.out hm HL.out hDW hf3 (n := IntKind.i64.wrap ((m : Int) + 1)) (e := e) (by rw [HL.out.rest, show IntKind.i64.wrap ((m : Int) + 1) = (m : Int) + 1 by rw [IntKind.wrap_i64]; omega]; exact HRS.out) _ rfl)
        clear hW3 hf3 g4 g5 g6 g7 h2 h3 c3 c7
        gi_region_o
        all_goals
          gi_wp2
          exact ⟨HEND.out.1, HEND.out.2.1, HEND.out.2.2.2⟩
      | inl p =>
        obtain ⟨p1, p2⟩ := p
        rw [hlr] at HNX HRS
        obtain ⟨hm6, hend⟩ := lineV_ok hlr hks
        rw [HOL.out] at hm6
        have HEND := Lib.hid hend
        obtain ⟨i1, hi1, hz0, hz1, hz2⟩ := info_parts info_ve
        have HI1 := Lib.hid hi1; have HZ0 := Lib.hid hz0; have HZ1 := Lib.hid hz1; have HZ2 := Lib.hid hz2
        clear hlr hend hi1 hz0 hz1 hz2
        have hmb : pb < w5.heap.size + 2 ∧ mb < w5.heap.size + 2 := ⟨by omega, by omega⟩
        gi_wp2_with (first
          | (refine ⟨trivial, ?_⟩; gi_at_call 30; refine (CallsIn.inRound l (callsIn_wide.2 HNX.out)).mono ?_; rintro e3 W2 ⟨rfl, h2, h3⟩; obtain ⟨W3, hW3⟩ : ∃ W3, W2.alloc (.cells #[.int .i64 (p1 : Nat), .string p2] 50) = W3 := ⟨_, rfl⟩; have hf3 : FrV pb mb W W3 := (by rw [← hW3]; exact h3.trans (FrV.of_below ((Below.refl _ W2).alloc (Nat.le_refl _) _))); have g7 := boxed_same HV7.out (hf3.block _ HV7.out.lt (by omega) (by omega)); have HG7 := Lib.hid g7; have d7 := g7.cell; have HROW := Lib.hid (own_frmV HR7.out hf3 hmb); have i0 : W3.cell? ⟨W2.heap.size, 0, none⟩ = some (.int .i64 (p1 : Nat)) := (by rw [← hW3]; exact cell_of_row (World.alloc_heap_new W2 _)); have i1' : W3.cell? ⟨W2.heap.size, 1, none⟩ = some (.string p2) := (by rw [← hW3]; exact cell_of_row (World.alloc_heap_new W2 _)); have H2 := Lib.hid h2; have H3 := Lib.hid h3; have HW3 := Lib.hid hW3; have HS3 : Hid (w5.heap.size + 2 ≤ W3.heap.size) := Lib.hid (by have := hf3.size; omega); clear h2 h3 hf3 g7)
          | (gi_at_builtin; refine wpListIn_append_own _ rfl _ _ 23 rfl (w5.heap.size + 2) 50 i1 (.agg #[.int .i64 0, .string ⟨#[]⟩]) 2 24 Tryz.underlying23 HI1.out HZ0.out HZ1.out HZ2.out rfl (by decide) _ _ _ rfl (HROW.out.alloc _) ⟨W3.heap.size, 0, none⟩ 1 1 [.int .i64 (p1 : Nat), .string p2] rfl rfl (cell_two_new _ _ _ _) two_memE (by unfold maxLen; omega) (by omega) (by have := HS3.out; simp; omega) ?_; intro v' W4 hown hgrow _; obtain ⟨b4, hfin⟩ := lp_moreV (p := (p1, p2)) (E := endAt S k) HSZ.out hm HL.out hDW H3.out H2.out HW3.out HG7.out (HOL.out ▸ HROW.out) (HOL.out ▸ hown) hgrow (by rw [HL.out.rest, HRS.out, HEND.out]) (HOL.out ▸ hm6); have z7 := b4.cell; have y7 := b4.frozen; have HFIN := Lib.hid (hfin _ rfl); obtain ⟨g', cap', rfl⟩ := ownsRow_succ hown; clear hown hgrow b4 hfin))
        exact HFIN.out
    case done =>
      rintro W ⟨out, hL⟩ hD
      obtain ⟨v, hv7, hr7⟩ := hL.b7
      have d4 := hL.b4.cell; have d5 := hL.b5.cell; have d6 := hL.b6.cell; have d7 := hv7.cell
      have f4 := hL.b4.frozen; have f5 := hL.b5.frozen; have f6 := hL.b6.frozen
      have HR7 := Lib.hid hr7
      have HE := Lib.hid (show restF rdV S 0 [] = (out, 0, 0) by rw [hL.rest, restF_end rdV out (Nat.le_refl _)])
      obtain ⟨o, cap, rfl, _⟩ := own_ents hr7
      have hb7 : w5.heap.size + 2 ≤ w5.heap.size + 2 := Nat.le_refl _
      have hne7 : (Value.slice o out.length cap).ownBlock ≠ some w5.heap.size := fun e => by have := own_base hr7 _ e; omega
      have hFx := lp_doneV (w := w) (W := ((W.setCell ⟨w.heap.size + 1, 0, none⟩ (.slice o out.length cap)).setCell ⟨w.heap.size + 1 + 1, 0, none⟩ (.int .i64 0)).setCell ⟨w.heap.size + 1 + 1 + 1, 0, none⟩ (.int .i64 0)) (pb := pb) (kb := kb) (mb := mb) (D := w5.heap.size) (v := .slice o out.length cap) (L := out) HSZ.out
        (((hL.b4.set _).other (by omega) _).other (by omega) _) (((hL.b5.other (by omega) _).set _).other (by omega) _) (((hL.b6.other (by omega) _).other (by omega) _).set _)
        (by
          have hb : Below w.heap.size W (((W.setCell ⟨w.heap.size + 1, 0, none⟩ (.slice o out.length cap)).setCell ⟨w.heap.size + 1 + 1, 0, none⟩ (.int .i64 0)).setCell ⟨w.heap.size + 1 + 1 + 1, 0, none⟩ (.int .i64 0)) := (((Below.refl w.heap.size W).setCell (p := ⟨w.heap.size + 1, 0, none⟩) (by show w.heap.size ≤ w.heap.size + 1; omega) _).setCell (p := ⟨w.heap.size + 1 + 1, 0, none⟩) (by show w.heap.size ≤ w.heap.size + 1 + 1; omega) _).setCell (p := ⟨w.heap.size + 1 + 1 + 1, 0, none⟩) (by show w.heap.size ≤ w.heap.size + 1 + 1 + 1; omega) _
          exact hL.fr.more (hb.mono (Nat.zero_le _)) hb.size (fun k hk _ _ => hb.block k hk))
        (own_lower (((hr7.kept (grownBy_setCell' W _ _) (.inr (fun e => by have := own_base hr7 _ e; omega))).kept (grownBy_setCell' _ _ _) (.inr (fun e => by have := own_base hr7 _ e; omega))).kept (grownBy_setCell' _ _ _) (.inr (fun e => by have := own_base hr7 _ e; omega))) (by omega)) hne7 (.deferred none)
      have hDx : (((W.setCell ⟨w.heap.size + 1, 0, none⟩ (.slice o out.length cap)).setCell ⟨w.heap.size + 1 + 1, 0, none⟩ (.int .i64 0)).setCell ⟨w.heap.size + 1 + 1 + 1, 0, none⟩ (.int .i64 0)).heap[w5.heap.size]? = some (.deferred (some [])) :=
        (Below.heap_setCell _ ⟨w.heap.size + 1 + 1 + 1, 0, none⟩ _ _ (by show w5.heap.size ≠ w.heap.size + 1 + 1 + 1; omega)).trans ((Below.heap_setCell _ ⟨w.heap.size + 1 + 1, 0, none⟩ _ _ (by show w5.heap.size ≠ w.heap.size + 1 + 1; omega)).trans ((Below.heap_setCell _ ⟨w.heap.size + 1, 0, none⟩ _ _ (by show w5.heap.size ≠ w.heap.size + 1; omega)).trans hD))
      have HFX := Lib.hid hFx; have HDX := Lib.hid hDx
      clear hr7 hL hD hv7 hFx hDx
      gi_wp2
      obtain ⟨z4, z5, z6, zo, zf⟩ := HFX.out
      rw [HE.out]
      refine ⟨by simp, .inl ⟨_, _, rfl, run_takeDeferred HDX.out, ?_⟩⟩
      have HZ := Lib.hid zo; have HZF := Lib.hid zf
      clear zo zf HFX HDX
      generalize World.putObj _ w5.heap.size (.deferred none) = V at z4 z5 z6 HZ HZF ⊢
      exact ⟨.tuple #[.slice o out.length cap, .int .i64 0, .int .i64 0], by simp [results, Tryz.results15, go_sem, z4, z5, z6], _, rfl, HZ.out, HZF.out⟩
    case stop =>
      rintro W ⟨n, x, h1, h2, h3, h4, h5⟩ hD
      have d4 := h2.cell; have d5 := h3.cell; have d6 := h4.cell
      have HE := Lib.hid h1; have HF := Lib.hid h5; have HD := Lib.hid hD
      have hFx := lp_doneV (w := w) (W := W) (pb := pb) (kb := kb) (mb := mb) (D := w5.heap.size) (v := .slice none 0 0) (L := []) HSZ.out h2 h3 h4 h5 (World.ownsRow_nil _ _ _ _) (by simp [Value.ownBlock]) (.deferred none)
      have HFX := Lib.hid hFx
      clear h1 h5 hD hFx
      gi_wp2
      obtain ⟨z4, z5, z6, zo, zf⟩ := HFX.out
      rw [HE.out]
      refine ⟨by simp, .inl ⟨_, _, rfl, run_takeDeferred HD.out, ?_⟩⟩
      have HZ := Lib.hid zo; have HZF := Lib.hid zf
      clear zo zf HFX HD
      generalize World.putObj _ w5.heap.size (.deferred none) = V at z4 z5 z6 HZ HZF ⊢
      exact ⟨.tuple #[.slice none 0 0, .int .i64 n, .int .i64 x], by simp [results, Tryz.results15, go_sem, z4, z5, z6], _, rfl, HZ.out, HZF.out⟩
end Go.Proofs.YtmkaecpecikcaaaGreatDoor
namespace Go.Proofs.YtmkaecpecikcaaaGreatDoor
open Go.RowKit
variable {w w' : World}

theorem FrV.below {pb mb B : Nat} (h : FrV pb mb w w') (h1 : B ≤ pb) (h2 : B ≤ mb) (h3 : B ≤ w.heap.size) : Below B w w' :=
  ⟨h.low.os, h.low.tape, h.low.output, h.size, fun k hk => h.block k (by omega) (by omega) (by omega)⟩
theorem run_makeMapV (w : World) : (Sem.run Tryz.prog (Instr.makeMap 47 none) w) = .ok (.map (some w.heap.size)) (w.alloc (.map #[] 0)) := by
  have := Tryz.underlying47
  first | rfl | kernel_rfl | simp [Sem.run, this]
set_option maxHeartbeats 1000000 in
set_option maxRecDepth 100000 in
theorem ParseV_any (S : ByteArray) (w : World) (hS : S.size ≤ maxLen) (hw : StrAt w) :
    Calls Tryz.prog 6 #[.string S] w fun e w' => ∃ v, e = .returned (.tuple #[v, .int .i64 (parseV S).2.1, .int .i64 (parseV S).2.2]) ∧ w'.ownsRow w.heap.size 50 2 v (parseV S).1.length (flatE (parseV S).1) ∧ Below w.heap.size w w' := by
  have hmm := run_makeMapV
  obtain ⟨W, hW⟩ : ∃ W, ((w.alloc (.cells #[.int .i64 (-1)] 3)).alloc (.map #[] 0)).alloc (.cells #[.map (some (w.heap.size + 1))] 47) = W := ⟨_, rfl⟩
  have hb : Below w.heap.size w W := by rw [← hW]; exact (((Below.refl _ _).alloc (Nat.le_refl _) _).alloc (by simp) _).alloc (by simp; omega) _
  have hs : IsVo w.heap.size (w.heap.size + 2) (w.heap.size + 1) [] W := by
    have g1 := World.alloc_heap_new w (.cells #[.int .i64 (-1)] 3)
    obtain ⟨w1, h1⟩ : ∃ w1, w.alloc (.cells #[.int .i64 (-1)] 3) = w1 := ⟨_, rfl⟩
    have s1 : w1.heap.size = w.heap.size + 1 := by rw [← h1]; simp
    rw [h1] at g1 hW
    have g2 := IsTx.new w1
    have g2' : (w1.alloc (.map #[] 0)).heap[w.heap.size]? = w1.heap[w.heap.size]? := Lib.alloc_old _ _ _ (by omega)
    obtain ⟨w2, h2⟩ : ∃ w2, w1.alloc (.map #[] 0) = w2 := ⟨_, rfl⟩
    have s2 : w2.heap.size = w.heap.size + 2 := by rw [← h2]; simp [s1]
    rw [h2] at g2 g2' hW
    rw [s1] at g2
    have g3 := World.alloc_heap_new w2 (.cells #[.map (some (w.heap.size + 1))] 47)
    have g4 : ∀ j, j < w2.heap.size → (w2.alloc (.cells #[.map (some (w.heap.size + 1))] 47)).heap[j]? = w2.heap[j]? := fun j hj => Lib.alloc_old _ _ _ hj
    rw [hW] at g3 g4
    rw [s2] at g3
    refine ⟨((g4 _ (by omega)).trans g2').trans g1, cell_of_row g3, g2.keep (g4 _ (by omega)), hw.below hb, hw.off (Nat.le_refl _), hw.off (Nat.le_succ _), by omega⟩
  have HP := Lib.hid (lparse_anyV w.heap.size (w.heap.size + 2) (w.heap.size + 1) S W hS hs)
  have HB := Lib.hid hb
  clear hb hs
  go_enter Tryz.func6, Tryz.ntmps6
  go_wp2_with (go_at_call 15; go_loud (refine HP.out.mono ?_))
  first | rintro e w2 v rfl ho hf | rintro e w2 ⟨v, rfl, ho, hf⟩
  have HE := Lib.hid (show w2.ownsRow w.heap.size 50 2 v (parseV S).1.length (flatE (parseV S).1) ∧ Below w.heap.size w w2 from ⟨own_lower ho HB.out.size, HB.out.trans (hf.below (Nat.le_refl _) (by omega) HB.out.size)⟩)
  clear ho hf
  go_wp2_with fail
  exact bodyPost_ret (v := .tuple #[v, .int .i64 (parseV S).2.1, .int .i64 (parseV S).2.2]) (by simp [results, Tryz.results6, go_sem]) rfl ⟨v, rfl, HE.out⟩
end Go.Proofs.YtmkaecpecikcaaaGreatDoor
namespace Go.Proofs.YtmkaecpecikcaaaGreatDoor
open Go.RowKit Go.Maps
variable {w w' : World}

/-- A token more, if it is one that there isn't yet. -/
def addE (out : List EntB) (s : ByteArray) : List EntB := if inB (out.map (·.2)) s || !goodB s then out else out ++ [(out.length, s)]
/-- The boxes at k and p hold the map at m, which is the set of the tokens, and the entries. -/
structure OfAt (k p m B : Nat) (out : List EntB) (w : World) : Prop where
  box : Boxed w k 47 (.map (some m))
  set : IsTx m out.length (out.map (·.2)) w
  ent : ∃ v, Boxed w p 23 v ∧ w.ownsRow B 50 2 v out.length (flatE out)
  km : k ≠ m
  pm : p ≠ m
  kp : k ≠ p
  kB : k < B
  pB : p < B
  mB : m < B
  low : B ≤ w.heap.size
/-- Below B only the blocks p and m have changed. -/
structure FrO (p m B : Nat) (w w' : World) : Prop where
  low : Below 0 w w'
  size : w.heap.size ≤ w'.heap.size
  block : ∀ j, j < B → j ≠ p → j ≠ m → w'.heap[j]? = w.heap[j]?
theorem FrO.of_below {p m B : Nat} (h : Below B w w') (hB : B ≤ w.heap.size) : FrO p m B w w' := ⟨h.mono (Nat.zero_le _), h.size, fun j hj _ _ => h.block j hj⟩
theorem OfAt.below {k p m B : Nat} {out : List EntB} (h : OfAt k p m B out w) (hb : Below w.heap.size w w') : OfAt k p m B out w' := by
  obtain ⟨v, h1, h2⟩ := h.ent
  exact ⟨(hb.block k h.box.lt).trans h.box, h.set.keep (hb.block m h.set.lt), ⟨v, (hb.block p h1.lt).trans h1, own_below h2 hb⟩, h.km, h.pm, h.kp, h.kB, h.pB, h.mB, Nat.le_trans h.low hb.size⟩
set_option maxHeartbeats 2000000 in
set_option maxRecDepth 100000 in
theorem addOf_any (k p m B : Nat) (out : List EntB) (s : ByteArray) (w : World) (hs : s.size ≤ maxLen) (hn : out.length ≤ 100000) (hS : OfAt k p m B out w) :
    Calls Tryz.prog 23 #[.string s, .pointer (some ⟨k, 0, none⟩), .pointer (some ⟨p, 0, none⟩)] w fun e w' => e = .returned (.tuple #[]) ∧ OfAt k p m B (addE out s) w' ∧ FrO p m B w w' := by
  have HS := Lib.hid hS
  obtain ⟨D, hD, hD2⟩ := hS.set
  have HD := Lib.hid hD
  have HKB := Lib.hid (keyS hs)
  have ck : w.cell? ⟨k, 0, none⟩ = some (.map (some m)) := hS.box.cell
  have HG := Lib.hid (fun W => Good_any s W hs)
  cases hin : inB (out.map (·.2)) s with
  | true =>
    have HA : Hid (addE out s = out) := Lib.hid (by unfold addE; rw [hin]; rfl)
    have HH := Lib.hid ((hD2 s hs).trans hin)
    clear hin hD2 hD hS
    go_enter Tryz.func23, Tryz.ntmps23
    go_wp2_with (at_lookup; refine wpList_lookup_own_unit _ rfl _ _ 47 rfl 9 53 keyedS Tryz.underlying47 (Tryz.zeroValue53 _) m out.length D rfl HD.out _ (.string s.data.toList) rfl HKB.out ?_; rw [HH.out])
    have hb := (Below.refl w.heap.size w).alloc (Nat.le_refl _) (.cells #[] 53)
    refine bodyPost_ret (results_none rfl _ _ _) rfl ⟨rfl, by rw [HA.out]; exact HS.out.below hb, FrO.of_below (hb.mono HS.out.low) HS.out.low⟩
  | false =>
    have HH := Lib.hid ((hD2 s hs).trans hin)
    have hb := (Below.refl w.heap.size w).alloc (Nat.le_refl _) (.cells #[] 53)
    have HB := Lib.hid hb
    clear hb
    cases hg : goodB s with
    | false =>
      have HA : Hid (addE out s = out) := Lib.hid (by unfold addE; rw [hin, hg]; rfl)
      rw [hg] at HG
      clear hin hD2 hD hS hg
      go_enter Tryz.func23, Tryz.ntmps23
      go_wp2_with (first
        | (at_lookup; refine wpList_lookup_own_unit _ rfl _ _ 47 rfl 9 53 keyedS Tryz.underlying47 (Tryz.zeroValue53 _) m out.length D rfl HD.out _ (.string s.data.toList) rfl HKB.out ?_; rw [HH.out])
        | (go_at_call 24; (with_reducible refine (HG.out _).mono ?_); rintro e w2 ⟨rfl, hw2⟩; subst hw2))
      refine bodyPost_ret (results_none rfl _ _ _) rfl ⟨rfl, by rw [HA.out]; exact HS.out.below HB.out, FrO.of_below (HB.out.mono HS.out.low) HS.out.low⟩
    | true =>
      have HA : Hid (addE out s = out ++ [(out.length, s)]) := Lib.hid (by unfold addE; rw [hin, hg]; rfl)
      rw [hg] at HG
      obtain ⟨v, hbx, hrow⟩ := hS.ent
      have HBX := Lib.hid hbx; have HROW := Lib.hid hrow; have HD2 := Lib.hid hD2
      obtain ⟨o, cap, hv, _⟩ := own_ents hrow
      obtain ⟨i1, hi1, hz0, hz1, hz2⟩ := info_parts info_ve
      have HI1 := Lib.hid hi1; have HZ0 := Lib.hid hz0; have HZ1 := Lib.hid hz1; have HZ2 := Lib.hid hz2
      obtain ⟨n, hnn⟩ : ∃ n, out.length = n := ⟨_, rfl⟩
      have HN := Lib.hid hnn
      rw [hnn] at hn hv
      subst hv
      have ck2 : (w.alloc (.cells #[] 53)).cell? ⟨k, 0, none⟩ = some (.map (some m)) := (HB.out.cell (p := ⟨k, 0, none⟩) hS.box.lt).trans ck
      have hpl := hbx.lt
      clear hin hD2 hD hS hg hbx hrow hi1 hz0 hz1 hz2 hnn
      go_enter Tryz.func23, Tryz.ntmps23
      go_wp2_with (first
        | (at_lookup; refine wpList_lookup_own_unit _ rfl _ _ 47 rfl 9 53 keyedS Tryz.underlying47 (Tryz.zeroValue53 _) m out.length D rfl HD.out _ (.string s.data.toList) rfl HKB.out ?_; rw [HH.out])
        | (go_at_call 24; (with_reducible refine (HG.out _).mono ?_); rintro e w2 ⟨rfl, hw2⟩; subst hw2)
        | (at_mapUpdate; refine wpList_mapUpdate_in _ rfl _ _ _ 47 rfl 9 53 keyedS Tryz.underlying47 unitElem m out.length D rfl (HD.out.alloc _) (by have := HN.out; unfold maxLen; omega) _ _ (.string s.data.toList) rfl rfl HKB.out (.agg []) [] unitElem_mk ?_; intro w3 hown3 hturn3; have hf3 := FrM.turned hturn3; have HO3 := Lib.hid hown3; have hbx3 : Boxed w3 p 23 (.slice o n cap) := (hf3.block p (by simp; omega) HS.out.pm).trans ((HB.out.block p hpl).trans HBX.out); have cp3 : w3.cell? ⟨p, 0, none⟩ = some (.slice o n cap) := hbx3.cell; have HBX3 := Lib.hid hbx3; have HR3 := Lib.hid (own_frmV (own_below HROW.out HB.out) (FrV.ofM (p := p) hf3) ⟨HS.out.pB, HS.out.mB⟩); have HS3 := Lib.hid (Nat.le_trans HB.out.size hf3.size); have HF3 := Lib.hid hf3; clear hown3 hturn3 hbx3 hf3)
        | (at_builtin; refine wpList_append_own _ rfl _ _ 23 rfl B 50 i1 (.agg #[.int .i64 0, .string ⟨#[]⟩]) 2 24 Tryz.underlying23 HI1.out HZ0.out HZ1.out HZ2.out rfl (by decide) _ _ _ rfl ((show w3.ownsRow B 50 2 (.slice o n cap) n (flatE out) from (by have h := HR3.out; rw [HN.out] at h; exact h)).alloc _) ⟨w3.heap.size, 0, none⟩ 1 1 [.int .i64 (n : Nat), .string s] rfl rfl (cell_two_new _ _ _ _) two_memE (by unfold maxLen; omega) (by omega) (by have h1 := HS.out.low; have h2 := HS3.out; simp; omega) ?_; intro v' w4 hown hgrow _; obtain ⟨o2, cap2, hv2, _⟩ := own_ents hown; subst hv2; have HW4 : Hid (Below B w3 w4) := Lib.hid (((Below.refl B w3).alloc (by have h1 := HS.out.low; have h2 := HS3.out; omega) _).grown hgrow (by have h1 := HS.out.low; have h2 := HS3.out; simp; omega) (own_base HR3.out)); have hbx4 : Boxed w4 p 23 (.slice o n cap) := (HW4.out.block p HS.out.pB).trans HBX3.out; have cp4 : w4.cell? ⟨p, 0, none⟩ = some (.slice o n cap) := hbx4.cell; have cf4 : ∀ j, w4.frozen? ⟨p, j, none⟩ = false := (fun j => by simp [World.frozen?, show w4.heap[p]? = _ from hbx4]); have HBX4 := Lib.hid hbx4; have HO4 := Lib.hid hown; clear hown hgrow hbx4))
      have HX := Lib.hid ((FrV.of_below (p := p) (m := m) (Below.refl _ w4)).set (i := 0) (.slice o2 (n + 1) cap2))
      have hset : IsTx m (out.length + 1) (out.map (·.2) ++ [s]) w3 := IsTx.put HD.out HD2.out HO3.out
      have hset4 := hset.keep (HW4.out.block m HS.out.mB)
      have hset5 := hset4.keep (Below.heap_setCell w4 ⟨p, 0, none⟩ (.slice o2 (n + 1) cap2) m (fun e => HS.out.pm e.symm))
      have hk3 : w3.heap[k]? = w.heap[k]? := (HF3.out.block k (by have := HS.out.box.lt; simp; omega) HS.out.km).trans (HB.out.block k HS.out.box.lt)
      have hk5 := ((Below.heap_setCell w4 ⟨p, 0, none⟩ (.slice o2 (n + 1) cap2) k HS.out.kp).trans ((HW4.out.block k HS.out.kB).trans hk3)).trans HS.out.box
      have hrow5 := own_frmV HO4.out HX.out ⟨HS.out.pB, HS.out.mB⟩
      have hsz : B ≤ (w4.setCell ⟨p, 0, none⟩ (.slice o2 (n + 1) cap2)).heap.size := by
        have h1 := HS.out.low; have h2 := HS3.out; have h3 := HW4.out.size; simp; omega
      go_end0
      refine ⟨rfl, ?_, ?_⟩
      · rw [HA.out]
        refine ⟨hk5, by rw [List.length_append, List.map_append]; exact hset5, ⟨_, Boxed.set _ HBX4.out, ?_⟩, HS.out.km, HS.out.pm, HS.out.kp, HS.out.kB, HS.out.pB, HS.out.mB, hsz⟩
        rw [List.length_append, HN.out, flatE_snoc]
        exact hrow5
      · refine ⟨?_, ?_, fun j hj hjp hjm => ?_⟩
        · exact ((HB.out.mono (Nat.zero_le _)).trans HF3.out.low).trans ((HW4.out.mono (Nat.zero_le _)).trans HX.out.low)
        · have h2 := HS3.out; have h3 := HW4.out.size; simp; omega
        · have hjw : j < w.heap.size := Nat.lt_of_lt_of_le hj HS.out.low
          exact (Below.heap_setCell w4 ⟨p, 0, none⟩ (.slice o2 (n + 1) cap2) j hjp).trans ((HW4.out.block j hj).trans ((HF3.out.block j (by simp; omega) hjm).trans (HB.out.block j hjw)))
end Go.Proofs.YtmkaecpecikcaaaGreatDoor
namespace Go.Proofs.YtmkaecpecikcaaaGreatDoor
open Go.RowKit
variable {w w' : World}

theorem conv_one (W : World) (b : Nat) (x : UInt8) (hb : b = W.heap.size) : (convert 60 9 (.slice (some ⟨b, 0, none⟩) 1 1)).run Tryz.prog (W.alloc (.cells #[.int .u8 (x.toNat : Int)] 5)) = .ok (.string ⟨#[x]⟩) (W.alloc (.cells #[.int .u8 (x.toNat : Int)] 5)) := by
  subst hb
  have e : strOfNums [(x.toNat : Int)] = ⟨#[x]⟩ := by simp [strOfNums]
  rw [← e]
  refine run_convert_bytes_arg (P := Tryz.prog) _ 60 5 Tryz.underlying60 Tryz.underlying5 W.heap.size 0 1 1 [(x.toNat : Int)] rfl (fun i hi => ?_) 9 Tryz.underlying9
  obtain rfl : i = 0 := by omega
  rw [cell_of_row (World.alloc_heap_new W _)]
  rfl
theorem one_cat (x : UInt8) (t : ByteArray) : ((⟨#[x]⟩ : ByteArray) ++ t).data.toList = x :: t.data.toList := by simp
theorem one_size (x : UInt8) (t : ByteArray) : ((⟨#[x]⟩ : ByteArray) ++ t).size = 1 + t.size := by rw [ByteArray.size_append]; rfl
theorem dec_len (n : Nat) (hn : n ≤ 100000000000) : (Lib.decDigits n).length ≤ 21 := by
  rw [← Lib.itoa_nonneg]; exact Lib.itoa_length_le _ (by omega) (by omega)
def emptyV : Value → Nat
  | .string t => if t.size = 0 then 1 else 0
  | _ => 0
/-- What is behind of the digits of n while m is still to be written. -/
def DgS (n0 : Nat) (w : World) (s n : Value) (wr : World) : Prop := ∃ (m : Nat) (t : ByteArray), m ≤ n0 ∧ n = .int .i64 m ∧ s = .string t ∧ t.size ≤ 64 ∧ (0 < m → Lib.decDigits n0 = Lib.decDigits m ++ t.data.toList) ∧ (m = 0 → (t.size = 0 ∧ n0 = 0) ∨ (0 < t.size ∧ t.data.toList = Lib.decDigits n0)) ∧ Below w.heap.size w wr
theorem dg_step {n0 m : Nat} {t : ByteArray} {x : UInt8} {w wr : World} (o : Obj) (h0 : 0 < m) (hm : m ≤ n0) (hn : n0 ≤ 100000000000) (hx : UInt8.ofNat (48 + m % 10) = x) (h1 : Lib.decDigits n0 = Lib.decDigits m ++ t.data.toList) (hb : Below w.heap.size w wr) :
    DgS n0 w (.string ((⟨#[x]⟩ : ByteArray) ++ t)) (.int .i64 ((m : Int) / 10)) (wr.alloc o) ∧ (intOf (.int .i64 ((m : Int) / 10))).toNat + emptyV (.string ((⟨#[x]⟩ : ByteArray) ++ t)) < (intOf (.int .i64 (m : Int))).toNat + emptyV (.string t) := by
  have hl := dec_len n0 hn
  have h2 := congrArg List.length h1
  rw [List.length_append, size_len] at h2
  have hpos : 0 < (Lib.decDigits m).length := List.length_pos_iff.2 (dec_ne m)
  refine ⟨⟨m / 10, _, by omega, by rw [Int.natCast_ediv]; rfl, rfl, by rw [one_size]; omega, fun h => ?_, fun h => .inr ⟨by rw [one_size]; omega, ?_⟩, hb.alloc hb.size _⟩, ?_⟩
  · rw [h1, one_cat, dec_unfold m, if_neg (by omega), hx, List.append_assoc]; rfl
  · rw [h1, one_cat, dec_unfold m, if_pos (by omega), ← hx, show m % 10 = m by omega]; rfl
  · have e : emptyV (.string ((⟨#[x]⟩ : ByteArray) ++ t)) = 0 := by unfold emptyV; simp only; rw [if_neg (by rw [one_size]; omega)]
    rw [e]; simp [intOf]; omega
set_option maxHeartbeats 2000000 in
set_option maxRecDepth 100000 in
theorem Digits_any (n0 : Nat) (w : World) (hn : n0 ≤ 100000000000) :
    Calls Tryz.prog 33 #[.int .i64 n0] w fun e w' => e = .returned (.string ⟨(Lib.decDigits n0).toArray⟩) ∧ Below w.heap.size w w' := by
  have hn0 : (n0 : Int) ≤ 100000000000 := by omega
  go_enter Tryz.func33, Tryz.ntmps33
  go_wp2_with fail
  go_loopw [3, 0] (fun s n wr => DgS n0 w s n wr) (fun s n _ => (intOf n).toNat + emptyV s)
  case atStart => exact ⟨n0, ⟨#[]⟩, Nat.le_refl _, rfl, rfl, by decide, fun _ => by simp, fun h => .inl ⟨rfl, h⟩, Below.refl _ _⟩
  case round =>
    obtain ⟨m, t, hm, rfl, rfl, ht, h1, h2, hb⟩ := hrel
    by_cases h0 : 0 < m
    · have h0i : (0 : Int) < m := by omega
      have hmi : (m : Int) ≤ 100000000000 := by omega
      have H1 := Lib.hid (h1 h0); have HB := Lib.hid hb
      obtain ⟨x, hx⟩ : ∃ x, UInt8.ofNat (48 + m % 10) = x := ⟨_, rfl⟩
      have hxv : (x.toNat : Int) = 48 + (m : Int) % 10 := by rw [← hx, dg_nat _ (by omega)]; omega
      have hcv := conv_one wr wr.heap.size x rfl
      rw [hxv] at hcv
      have hcat : ¬ 9223372036854775807 < (⟨#[x]⟩ : ByteArray).size + t.size := by show ¬ _ < 1 + t.size; omega
      have HX := Lib.hid hx
      clear h1 h2 hb hx
      go_wp2_with fail
      exact dg_step _ h0 hm hn HX.out H1.out HB.out
    · have hm0 : m = 0 := by omega
      subst hm0
      have HB := Lib.hid hb
      rcases h2 rfl with ⟨h3, h4⟩ | ⟨h3, h4⟩
      · obtain rfl : t = ⟨#[]⟩ := ByteArray.ext (Array.eq_empty_of_size_eq_zero h3)
        subst h4
        have hcv := conv_one wr wr.heap.size 48 rfl
        rw [show (((48 : UInt8).toNat : Nat) : Int) = 48 from rfl] at hcv
        clear h1 h2 hb h3
        go_wp2_with fail
        exact ⟨⟨0, _, Nat.le_refl _, rfl, rfl, by rw [one_size]; decide, fun h => absurd h (by decide), fun _ => .inr ⟨by rw [one_size]; decide, by rw [dec_unfold]; rfl⟩, HB.out.alloc HB.out.size _⟩, by decide⟩
      · have hne : ¬ t = ⟨#[]⟩ := fun e => by rw [e] at h3; exact absurd h3 (by decide)
        have hemp : t.toList.isEmpty = false := by
          rw [ByteArray.toList_eq, Bool.eq_false_iff, Ne, List.isEmpty_iff_length_eq_zero, size_len]; omega
        have H4 := Lib.hid (show (⟨(Lib.decDigits n0).toArray⟩ : ByteArray) = t from ByteArray.ext (by rw [← h4]))
        clear h1 h2 hb h4
        go_wp2_with fail
        rw [H4.out]
        exact bodyPost_ret (v := .string t) (by simp [results, Tryz.results33, go_sem]) rfl ⟨rfl, HB.out⟩
end Go.Proofs.YtmkaecpecikcaaaGreatDoor
