/- Vocabularies: a line's reader. Vocabularies: lines.next. Vocabularies: lines.Parse. Vocabularies: Parse. Vocabularies: the closure of Of. Vocabularies: the document's Digits. -/
import Derived.Test.YtdpfpdpaamjefaaDoorY2
import Derived.RangeFuncBox
import Derived.Test.YtdpfpdpaamjefaaDoorY1
import Derived.StillTailTactics
import Derived.Lib.ConvBytes
import Derived.Lib.ItoaLen
import Derived.Lib.ItoaMem
namespace Go.Proofs.YtdpfpdpaamjefaaDoor
open Go.RowKit Go.Maps
variable {w w' : World}

abbrev EntB := Nat × ByteArray
def lastE (out : List EntB) : Int := match out.getLast? with
  | some p => (p.1 : Int)
  | none => -1
theorem lastE_snoc (out : List EntB) (p : EntB) : lastE (out ++ [p]) = (p.1 : Int) := by unfold lastE; simp
def rdV (out : List EntB) (s : ByteArray) : EntB ⊕ Int := match entR s with
  | none => .inr 2
  | some p => if (p.1 : Int) ≤ lastE out then .inr 12 else if inB (out.map (·.2)) p.2 then .inr 10 else .inl p
/-- Only the blocks p and m have changed. -/
structure FrV (p m : Nat) (w w' : World) : Prop where
  low : Below 0 w w'
  size : w.heap.size ≤ w'.heap.size
  block : ∀ k, k < w.heap.size → k ≠ p → k ≠ m → w'.heap[k]? = w.heap[k]?
theorem FrV.of_below {p m : Nat} (h : Below w.heap.size w w') : FrV p m w w' := ⟨h.mono (Nat.zero_le _), h.size, fun k hk _ _ => h.block k hk⟩
theorem FrV.trans {p m : Nat} {w'' : World} (h : FrV p m w w') (k : FrV p m w' w'') : FrV p m w w'' :=
  ⟨h.low.trans k.low, Nat.le_trans h.size k.size, fun i hi a b => (k.block i (Nat.lt_of_lt_of_le hi h.size) a b).trans (h.block i hi a b)⟩
theorem FrV.ofM {p m : Nat} (h : FrM m w w') : FrV p m w w' := ⟨h.low, h.size, fun k hk _ b => h.block k hk b⟩
theorem FrV.set {p m i : Nat} (h : FrV p m w w') (v : Value) : FrV p m w (w'.setCell ⟨p, i, none⟩ v) :=
  ⟨h.low.trans ((Below.refl 0 w').setCell (p := ⟨p, i, none⟩) (Nat.zero_le _) v), Nat.le_trans h.size (by simp), fun k hk hb hc => (Below.heap_setCell w' ⟨p, i, none⟩ v k hb).trans (h.block k hk hb hc)⟩
theorem FrV.setNew {p m r i : Nat} (h : FrV p m w w') (hr : w.heap.size ≤ r) (v : Value) : FrV p m w (w'.setCell ⟨r, i, none⟩ v) :=
  ⟨h.low.trans ((Below.refl 0 w').setCell (p := ⟨r, i, none⟩) (Nat.zero_le _) v), Nat.le_trans h.size (by simp), fun k hk hb hc => (Below.heap_setCell w' ⟨r, i, none⟩ v k (by show k ≠ r; omega)).trans (h.block k hk hb hc)⟩
theorem own_keep {b n : Nat} {D : DataW Unit} (h : w.ownsMap Tryd.prog 9 unitElem b n D) (hb : w'.heap[b]? = w.heap[b]?) : w'.ownsMap Tryd.prog 9 unitElem b n D := by
  obtain ⟨es, clock, h1, h2⟩ := h
  exact ⟨es, clock, hb.trans h1, h2⟩
theorem cell_keep {a : Addr} (hb : w'.heap[a.block]? = w.heap[a.block]?) : w'.cell? a = w.cell? a := by simp [World.cell?, hb]
theorem after_putV {w2 w3 : World} {p m r n : Nat} {tk : ByteArray} {la : Int} {cs : Array Value} (ht : (((w2.setCell ⟨p, 0, none⟩ (.int .i64 (n : Nat))).alloc (.cells #[.int .i64 (n : Nat), .string tk] 55)).alloc (.cells #[] 50)).mapTurned w3 m) (hp : Boxed w2 p 3 (.int .i64 la)) (hpm : p ≠ m) (hr : w2.heap[r]? = some (.cells cs 55 (0, 0))) (hrp : r ≠ p) (hrm : r ≠ m) (hm : m < w2.heap.size) :
    w3.heap[w2.heap.size]? = some (.cells #[.int .i64 (n : Nat), .string tk] 55 (0, 0)) ∧ w3.heap[r]? = some (.cells cs 55 (0, 0)) ∧ FrV p m w2 w3 ∧ Boxed w3 p 3 (.int .i64 (n : Nat)) := by
  have hlr := lt_of_some hr
  have hpl := hp.lt
  have h0 : FrV p m w2 (w2.setCell ⟨p, 0, none⟩ (.int .i64 (n : Nat))) := (FrV.of_below (Below.refl _ w2)).set _
  have hp1 : Boxed (w2.setCell ⟨p, 0, none⟩ (.int .i64 (n : Nat))) p 3 (.int .i64 (n : Nat)) := Boxed.set _ hp
  have hr1 := (Below.heap_setCell w2 ⟨p, 0, none⟩ (.int .i64 (n : Nat)) r hrp).trans hr
  have hs1 : (w2.setCell ⟨p, 0, none⟩ (.int .i64 (n : Nat))).heap.size = w2.heap.size := by simp
  generalize w2.setCell ⟨p, 0, none⟩ (.int .i64 (n : Nat)) = V at ht h0 hp1 hr1 hs1
  have hg := ht.grown
  have hb : Below V.heap.size V ((V.alloc (.cells #[.int .i64 (n : Nat), .string tk] 55)).alloc (.cells #[] 50)) := ((Below.refl _ V).alloc (Nat.le_refl _) _).alloc (by simp) _
  refine ⟨?_, ?_, (h0.trans (FrV.of_below hb)).trans (FrV.ofM (FrM.turned ht)), ?_⟩
  · rw [← hs1, hg.block V.heap.size (by simp; omega) (fun e => by injection e with e; omega)]
    exact (Lib.alloc_old _ _ _ (by simp)).trans (World.alloc_heap_new V _)
  · rw [hg.block r (by simp; omega) (fun e => by injection e with e; exact hrm e)]
    exact (hb.block r (by omega)).trans hr1
  · exact (hg.block p (by simp; omega) (fun e => by injection e with e; exact hpm e)).trans ((hb.block p (by omega)).trans hp1)
theorem vrow_end {r : Nat} {w w2 : World} {x x2 : Int} {y y2 : ByteArray} (o : Obj) (hrow : w2.heap[r]? = some (.cells #[.int .i64 x, .string y] 55 (0, 0))) (hb : Below w.heap.size w w2) (hr : w.heap.size ≤ r) :
    (((w2.setCell ⟨r, 0, none⟩ (.int .i64 x2)).setCell ⟨r, 1, none⟩ (.string y2)).alloc o).cell? ⟨r, 0, none⟩ = some (.int .i64 x2) ∧ (((w2.setCell ⟨r, 0, none⟩ (.int .i64 x2)).setCell ⟨r, 1, none⟩ (.string y2)).alloc o).cell? ⟨r, 1, none⟩ = some (.string y2) ∧ Below w.heap.size w (((w2.setCell ⟨r, 0, none⟩ (.int .i64 x2)).setCell ⟨r, 1, none⟩ (.string y2)).alloc o) := by
  have hw := heap_set (i := 1) (.string y2) (heap_set (i := 0) (.int .i64 x2) hrow)
  have hw2 := (Lib.alloc_old _ o r (lt_of_some hw)).trans hw
  have hb2 := (hb.setCell (p := ⟨r, 0, none⟩) hr (.int .i64 x2)).setCell (p := ⟨r, 1, none⟩) hr (.string y2)
  exact ⟨cell_of_row hw2, cell_of_row hw2, hb2.alloc hb2.size _⟩
end Go.Proofs.YtdpfpdpaamjefaaDoor
namespace Go.Proofs.YtdpfpdpaamjefaaDoor
open Go.RowKit
variable {w w' : World}

def lineV (out : List EntB) (S : ByteArray) (k : Nat) : EntB ⊕ Int := if 4096 ≤ out.length then .inr 6 else if nlAt S k = S.size then .inr 2 else rdV out (S.extract k (nlAt S k))
theorem restV_step {out : List EntB} {S : ByteArray} {k : Nat} (h : k < S.size) : restF rdV S k out = match lineV out S k with
    | .inr e => ([], (out.length : Int) + 1, e)
    | .inl x => restF rdV S (nlAt S k + 1) (out ++ [x]) := by
  rw [restF_step rdV out h]
  unfold lineV
  by_cases h1 : 4096 ≤ out.length
  · rw [if_pos h1, if_pos h1]
  · rw [if_neg h1, if_neg h1]
    by_cases h2 : nlAt S k = S.size
    · rw [if_pos h2, if_pos h2]
    · rw [if_neg h2, if_neg h2]
      cases rdV out (S.extract k (nlAt S k)) <;> rfl
theorem FrV.row {pb mb k : Nat} {o : Obj} (h : FrV pb mb w w') (hk : w.heap[k]? = some o) (h1 : k ≠ pb) (h2 : k ≠ mb) : w'.heap[k]? = some o := (h.block k (lt_of_some hk) h1 h2).trans hk
end Go.Proofs.YtdpfpdpaamjefaaDoor
namespace Go.Proofs.YtdpfpdpaamjefaaDoor
open Go.RowKit Go.Shelf
attribute [local go_sem] Oper.semAt_some

def parseV (s : ByteArray) : List EntB × Int × Int := parseL rdV s
def flatE (l : List EntB) : List Value := l.flatMap fun p => [Value.int .i64 (p.1 : Nat), Value.string p.2]
theorem flatE_snoc (l : List EntB) (p : EntB) : flatE (l ++ [p]) = flatE l ++ [Value.int .i64 (p.1 : Nat), Value.string p.2] := by unfold flatE; rw [List.flatMap_append]; rfl
theorem two_memE {a : Int} {b : ByteArray} : ∀ u ∈ [Value.int .i64 a, Value.string b], u.oneCell' = true := by
  intro u hu; simp at hu; rcases hu with rfl | rfl <;> rfl
theorem own_ents {w : World} {B n : Nat} {t : TypeId} {v : Value} {xs : List Value} (h : w.ownsRow B t 2 v n xs) : ∃ o cap, v = .slice o n cap ∧ True := by
  rcases h.2 with ⟨h1, h2⟩ | ⟨g, cap, cur, h1, _⟩
  · exact ⟨none, 0, by rw [h1, h2], trivial⟩
  · exact ⟨some ⟨g, 0, none⟩, cap, h1, trivial⟩
theorem FrV.more {pb mb : Nat} {w W W' : World} (h : FrV pb mb w W) (hl : Below 0 W W') (hs : W.heap.size ≤ W'.heap.size) (hb : ∀ k, k < w.heap.size → k ≠ pb → k ≠ mb → W'.heap[k]? = W.heap[k]?) : FrV pb mb w W' :=
  ⟨h.low.trans hl, Nat.le_trans h.size hs, fun k hk a b => (hb k hk a b).trans (h.block k hk a b)⟩
theorem info_ve : (Tryd.prog.info? 55).map (fun i => (i.zero, i.size, i.bytes)) = some (some (.agg #[.int .i64 0, .string ⟨#[]⟩]), 2, 24) := by kernel_rfl
theorem lineV_err {out : List EntB} {S : ByteArray} {k : Nat} {e : Int} (h : lineV out S k = .inr e) : e = 6 ∨ e = 2 ∨ e = 12 ∨ e = 10 := by
  unfold lineV rdV at h
  split at h
  · injection h with h; omega
  · split at h
    · injection h with h; omega
    · split at h
      · injection h with h; omega
      · split at h
        · injection h with h; omega
        · split at h
          · injection h with h; omega
          · cases h
theorem lineV_ok {out : List EntB} {S : ByteArray} {k : Nat} {p : EntB} (h : lineV out S k = .inl p) (hk : k < S.size) : out.length < 4096 ∧ endAt S k = nlAt S k + 1 := by
  unfold lineV at h
  split at h
  · cases h
  · split at h
    · cases h
    · have := nlAt_le (s := S) (k := k) (by omega)
      exact ⟨by omega, by unfold endAt; rw [if_pos (by omega)]⟩
theorem own_frmV {pb mb B n : Nat} {W W' : World} {v : Value} {xs : List Value} (h : W.ownsRow B 55 2 v n xs) (hf : FrV pb mb W W') (hb : pb < B ∧ mb < B) : W'.ownsRow B 55 2 v n xs := by
  refine ⟨h.1, ?_⟩
  rcases h.2 with h1 | ⟨g, cap, cur, h1, h2, h3, h4⟩
  · exact .inl h1
  · exact .inr ⟨g, cap, cur, h1, h2, (hf.block g (lt_of_some h3) (by omega) (by omega)).trans h3, h4⟩
end Go.Proofs.YtdpfpdpaamjefaaDoor
namespace Go.Proofs.YtdpfpdpaamjefaaDoor
open Go.RowKit
variable {w w' : World}

theorem FrV.below {pb mb B : Nat} (h : FrV pb mb w w') (h1 : B ≤ pb) (h2 : B ≤ mb) (h3 : B ≤ w.heap.size) : Below B w w' :=
  ⟨h.low.os, h.low.tape, h.low.output, h.size, fun k hk => h.block k (by omega) (by omega) (by omega)⟩
theorem run_makeMapV (w : World) : (Sem.run Tryd.prog (Instr.makeMap 49 none) w) = .ok (.map (some w.heap.size)) (w.alloc (.map #[] 0)) := by
  have := Tryd.underlying49
  first | rfl | kernel_rfl | simp [Sem.run, this]
end Go.Proofs.YtdpfpdpaamjefaaDoor
namespace Go.Proofs.YtdpfpdpaamjefaaDoor
open Go.RowKit Go.Maps
variable {w w' : World}

/-- A token more, if it is one that there isn't yet. -/
def addE (out : List EntB) (s : ByteArray) : List EntB := if inB (out.map (·.2)) s || !goodB s then out else out ++ [(out.length, s)]
/-- The boxes at k and p hold the map at m, which is the set of the tokens, and the entries. -/
structure OfAt (k p m B : Nat) (out : List EntB) (w : World) : Prop where
  box : Boxed w k 49 (.map (some m))
  set : IsTx m out.length (out.map (·.2)) w
  ent : ∃ v, Boxed w p 35 v ∧ w.ownsRow B 55 2 v out.length (flatE out)
  km : k ≠ m
  pm : p ≠ m
  kp : k ≠ p
  kB : k < B
  pB : p < B
  mB : m < B
  low : B ≤ w.heap.size
/-- Below B only the blocks p and m have changed. -/
structure FrO (p m B : Nat) (w w' : World) : Prop where
  low : Below 0 w w'
  size : w.heap.size ≤ w'.heap.size
  block : ∀ j, j < B → j ≠ p → j ≠ m → w'.heap[j]? = w.heap[j]?
theorem FrO.of_below {p m B : Nat} (h : Below B w w') (hB : B ≤ w.heap.size) : FrO p m B w w' := ⟨h.mono (Nat.zero_le _), h.size, fun j hj _ _ => h.block j hj⟩
theorem OfAt.below {k p m B : Nat} {out : List EntB} (h : OfAt k p m B out w) (hb : Below w.heap.size w w') : OfAt k p m B out w' := by
  obtain ⟨v, h1, h2⟩ := h.ent
  exact ⟨(hb.block k h.box.lt).trans h.box, h.set.keep (hb.block m h.set.lt), ⟨v, (hb.block p h1.lt).trans h1, own_below h2 hb⟩, h.km, h.pm, h.kp, h.kB, h.pB, h.mB, Nat.le_trans h.low hb.size⟩
set_option maxHeartbeats 2000000 in
set_option maxRecDepth 100000 in
theorem addOf_any (k p m B : Nat) (out : List EntB) (s : ByteArray) (w : World) (hs : s.size ≤ maxLen) (hn : out.length ≤ 100000) (hS : OfAt k p m B out w) :
    Calls Tryd.prog 18 #[.string s, .pointer (some ⟨k, 0, none⟩), .pointer (some ⟨p, 0, none⟩)] w fun e w' => e = .returned (.tuple #[]) ∧ OfAt k p m B (addE out s) w' ∧ FrO p m B w w' := by
  have HS := Lib.hid hS
  obtain ⟨D, hD, hD2⟩ := hS.set
  have HD := Lib.hid hD
  have HKB := Lib.hid (keyS hs)
  have ck : w.cell? ⟨k, 0, none⟩ = some (.map (some m)) := hS.box.cell
  have HG := Lib.hid (fun W => Good_any s W hs)
  cases hin : inB (out.map (·.2)) s with
  | true =>
    have HA : Hid (addE out s = out) := Lib.hid (by unfold addE; rw [hin]; rfl)
    have HH := Lib.hid ((hD2 s hs).trans hin)
    clear hin hD2 hD hS
    go_enter Tryd.func18, Tryd.ntmps18
    go_wp2_with (at_lookup; refine wpList_lookup_own_unit _ rfl _ _ 49 rfl 9 50 keyedS Tryd.underlying49 (Tryd.zeroValue50 _) m out.length D rfl HD.out _ (.string s.data.toList) rfl HKB.out ?_; rw [HH.out])
    have hb := (Below.refl w.heap.size w).alloc (Nat.le_refl _) (.cells #[] 50)
    refine bodyPost_ret (results_none rfl _ _ _) rfl ⟨rfl, by rw [HA.out]; exact HS.out.below hb, FrO.of_below (hb.mono HS.out.low) HS.out.low⟩
  | false =>
    have HH := Lib.hid ((hD2 s hs).trans hin)
    have hb := (Below.refl w.heap.size w).alloc (Nat.le_refl _) (.cells #[] 50)
    have HB := Lib.hid hb
    clear hb
    cases hg : goodB s with
    | false =>
      have HA : Hid (addE out s = out) := Lib.hid (by unfold addE; rw [hin, hg]; rfl)
      rw [hg] at HG
      clear hin hD2 hD hS hg
      go_enter Tryd.func18, Tryd.ntmps18
      go_wp2_with (first
        | (at_lookup; refine wpList_lookup_own_unit _ rfl _ _ 49 rfl 9 50 keyedS Tryd.underlying49 (Tryd.zeroValue50 _) m out.length D rfl HD.out _ (.string s.data.toList) rfl HKB.out ?_; rw [HH.out])
        | (go_at_call 6; (with_reducible refine (HG.out _).mono ?_); rintro e w2 ⟨rfl, hw2⟩; subst hw2))
      refine bodyPost_ret (results_none rfl _ _ _) rfl ⟨rfl, by rw [HA.out]; exact HS.out.below HB.out, FrO.of_below (HB.out.mono HS.out.low) HS.out.low⟩
    | true =>
      have HA : Hid (addE out s = out ++ [(out.length, s)]) := Lib.hid (by unfold addE; rw [hin, hg]; rfl)
      rw [hg] at HG
      obtain ⟨v, hbx, hrow⟩ := hS.ent
      have HBX := Lib.hid hbx; have HROW := Lib.hid hrow; have HD2 := Lib.hid hD2
      obtain ⟨o, cap, hv, _⟩ := own_ents hrow
      obtain ⟨i1, hi1, hz0, hz1, hz2⟩ := info_parts info_ve
      have HI1 := Lib.hid hi1; have HZ0 := Lib.hid hz0; have HZ1 := Lib.hid hz1; have HZ2 := Lib.hid hz2
      obtain ⟨n, hnn⟩ : ∃ n, out.length = n := ⟨_, rfl⟩
      have HN := Lib.hid hnn
      rw [hnn] at hn hv
      subst hv
      have ck2 : (w.alloc (.cells #[] 50)).cell? ⟨k, 0, none⟩ = some (.map (some m)) := (HB.out.cell (p := ⟨k, 0, none⟩) hS.box.lt).trans ck
      have hpl := hbx.lt
      clear hin hD2 hD hS hg hbx hrow hi1 hz0 hz1 hz2 hnn
      go_enter Tryd.func18, Tryd.ntmps18
      go_wp2_with (first
        | (at_lookup; refine wpList_lookup_own_unit _ rfl _ _ 49 rfl 9 50 keyedS Tryd.underlying49 (Tryd.zeroValue50 _) m out.length D rfl HD.out _ (.string s.data.toList) rfl HKB.out ?_; rw [HH.out])
        | (go_at_call 6; (with_reducible refine (HG.out _).mono ?_); rintro e w2 ⟨rfl, hw2⟩; subst hw2)
        | (at_mapUpdate; refine wpList_mapUpdate_in _ rfl _ _ _ 49 rfl 9 50 keyedS Tryd.underlying49 unitElem m out.length D rfl (HD.out.alloc _) (by have := HN.out; unfold maxLen; omega) _ _ (.string s.data.toList) rfl rfl HKB.out (.agg []) [] unitElem_mk ?_; intro w3 hown3 hturn3; have hf3 := FrM.turned hturn3; have HO3 := Lib.hid hown3; have hbx3 : Boxed w3 p 35 (.slice o n cap) := (hf3.block p (by simp; omega) HS.out.pm).trans ((HB.out.block p hpl).trans HBX.out); have cp3 : w3.cell? ⟨p, 0, none⟩ = some (.slice o n cap) := hbx3.cell; have HBX3 := Lib.hid hbx3; have HR3 := Lib.hid (own_frmV (own_below HROW.out HB.out) (FrV.ofM (p := p) hf3) ⟨HS.out.pB, HS.out.mB⟩); have HS3 := Lib.hid (Nat.le_trans HB.out.size hf3.size); have HF3 := Lib.hid hf3; clear hown3 hturn3 hbx3 hf3)
        | (at_builtin; refine wpList_append_own _ rfl _ _ 35 rfl B 55 i1 (.agg #[.int .i64 0, .string ⟨#[]⟩]) 2 24 Tryd.underlying35 HI1.out HZ0.out HZ1.out HZ2.out rfl (by decide) _ _ _ rfl ((show w3.ownsRow B 55 2 (.slice o n cap) n (flatE out) from (by have h := HR3.out; rw [HN.out] at h; exact h)).alloc _) ⟨w3.heap.size, 0, none⟩ 1 1 [.int .i64 (n : Nat), .string s] rfl rfl (cell_two_new _ _ _ _) two_memE (by unfold maxLen; omega) (by omega) (by have h1 := HS.out.low; have h2 := HS3.out; simp; omega) ?_; intro v' w4 hown hgrow _; obtain ⟨o2, cap2, hv2, _⟩ := own_ents hown; subst hv2; have HW4 : Hid (Below B w3 w4) := Lib.hid (((Below.refl B w3).alloc (by have h1 := HS.out.low; have h2 := HS3.out; omega) _).grown hgrow (by have h1 := HS.out.low; have h2 := HS3.out; simp; omega) (own_base HR3.out)); have hbx4 : Boxed w4 p 35 (.slice o n cap) := (HW4.out.block p HS.out.pB).trans HBX3.out; have cp4 : w4.cell? ⟨p, 0, none⟩ = some (.slice o n cap) := hbx4.cell; have cf4 : ∀ j, w4.frozen? ⟨p, j, none⟩ = false := (fun j => by simp [World.frozen?, show w4.heap[p]? = _ from hbx4]); have HBX4 := Lib.hid hbx4; have HO4 := Lib.hid hown; clear hown hgrow hbx4))
      have HX := Lib.hid ((FrV.of_below (p := p) (m := m) (Below.refl _ w4)).set (i := 0) (.slice o2 (n + 1) cap2))
      have hset : IsTx m (out.length + 1) (out.map (·.2) ++ [s]) w3 := IsTx.put HD.out HD2.out HO3.out
      have hset4 := hset.keep (HW4.out.block m HS.out.mB)
      have hset5 := hset4.keep (Below.heap_setCell w4 ⟨p, 0, none⟩ (.slice o2 (n + 1) cap2) m (fun e => HS.out.pm e.symm))
      have hk3 : w3.heap[k]? = w.heap[k]? := (HF3.out.block k (by have := HS.out.box.lt; simp; omega) HS.out.km).trans (HB.out.block k HS.out.box.lt)
      have hk5 := ((Below.heap_setCell w4 ⟨p, 0, none⟩ (.slice o2 (n + 1) cap2) k HS.out.kp).trans ((HW4.out.block k HS.out.kB).trans hk3)).trans HS.out.box
      have hrow5 := own_frmV HO4.out HX.out ⟨HS.out.pB, HS.out.mB⟩
      have hsz : B ≤ (w4.setCell ⟨p, 0, none⟩ (.slice o2 (n + 1) cap2)).heap.size := by
        have h1 := HS.out.low; have h2 := HS3.out; have h3 := HW4.out.size; simp; omega
      go_end0
      refine ⟨rfl, ?_, ?_⟩
      · rw [HA.out]
        refine ⟨hk5, by rw [List.length_append, List.map_append]; exact hset5, ⟨_, Boxed.set _ HBX4.out, ?_⟩, HS.out.km, HS.out.pm, HS.out.kp, HS.out.kB, HS.out.pB, HS.out.mB, hsz⟩
        rw [List.length_append, HN.out, flatE_snoc]
        exact hrow5
      · refine ⟨?_, ?_, fun j hj hjp hjm => ?_⟩
        · exact ((HB.out.mono (Nat.zero_le _)).trans HF3.out.low).trans ((HW4.out.mono (Nat.zero_le _)).trans HX.out.low)
        · have h2 := HS3.out; have h3 := HW4.out.size; simp; omega
        · have hjw : j < w.heap.size := Nat.lt_of_lt_of_le hj HS.out.low
          exact (Below.heap_setCell w4 ⟨p, 0, none⟩ (.slice o2 (n + 1) cap2) j hjp).trans ((HW4.out.block j hj).trans ((HF3.out.block j (by simp; omega) hjm).trans (HB.out.block j hjw)))
end Go.Proofs.YtdpfpdpaamjefaaDoor
namespace Go.Proofs.YtdpfpdpaamjefaaDoor
open Go.RowKit
variable {w w' : World}

theorem conv_one (W : World) (b : Nat) (x : UInt8) (hb : b = W.heap.size) : (convert 24 9 (.slice (some ⟨b, 0, none⟩) 1 1)).run Tryd.prog (W.alloc (.cells #[.int .u8 (x.toNat : Int)] 5)) = .ok (.string ⟨#[x]⟩) (W.alloc (.cells #[.int .u8 (x.toNat : Int)] 5)) := by
  subst hb
  have e : strOfNums [(x.toNat : Int)] = ⟨#[x]⟩ := by simp [strOfNums]
  rw [← e]
  refine run_convert_bytes_arg (P := Tryd.prog) _ 24 5 Tryd.underlying24 Tryd.underlying5 W.heap.size 0 1 1 [(x.toNat : Int)] rfl (fun i hi => ?_) 9 Tryd.underlying9
  obtain rfl : i = 0 := by omega
  rw [cell_of_row (World.alloc_heap_new W _)]
  rfl
theorem one_cat (x : UInt8) (t : ByteArray) : ((⟨#[x]⟩ : ByteArray) ++ t).data.toList = x :: t.data.toList := by simp
theorem one_size (x : UInt8) (t : ByteArray) : ((⟨#[x]⟩ : ByteArray) ++ t).size = 1 + t.size := by rw [ByteArray.size_append]; rfl
theorem dec_len (n : Nat) (hn : n ≤ 100000000000) : (Lib.decDigits n).length ≤ 21 := by
  rw [← Lib.itoa_nonneg]; exact Lib.itoa_length_le _ (by omega) (by omega)
def emptyV : Value → Nat
  | .string t => if t.size = 0 then 1 else 0
  | _ => 0
/-- What is behind of the digits of n while m is still to be written. -/
def DgS (n0 : Nat) (w : World) (s n : Value) (wr : World) : Prop := ∃ (m : Nat) (t : ByteArray), m ≤ n0 ∧ n = .int .i64 m ∧ s = .string t ∧ t.size ≤ 64 ∧ (0 < m → Lib.decDigits n0 = Lib.decDigits m ++ t.data.toList) ∧ (m = 0 → (t.size = 0 ∧ n0 = 0) ∨ (0 < t.size ∧ t.data.toList = Lib.decDigits n0)) ∧ Below w.heap.size w wr
theorem dg_step {n0 m : Nat} {t : ByteArray} {x : UInt8} {w wr : World} (o : Obj) (h0 : 0 < m) (hm : m ≤ n0) (hn : n0 ≤ 100000000000) (hx : UInt8.ofNat (48 + m % 10) = x) (h1 : Lib.decDigits n0 = Lib.decDigits m ++ t.data.toList) (hb : Below w.heap.size w wr) :
    DgS n0 w (.string ((⟨#[x]⟩ : ByteArray) ++ t)) (.int .i64 ((m : Int) / 10)) (wr.alloc o) ∧ (intOf (.int .i64 ((m : Int) / 10))).toNat + emptyV (.string ((⟨#[x]⟩ : ByteArray) ++ t)) < (intOf (.int .i64 (m : Int))).toNat + emptyV (.string t) := by
  have hl := dec_len n0 hn
  have h2 := congrArg List.length h1
  rw [List.length_append, size_len] at h2
  have hpos : 0 < (Lib.decDigits m).length := List.length_pos_iff.2 (dec_ne m)
  refine ⟨⟨m / 10, _, by omega, by rw [Int.natCast_ediv]; rfl, rfl, by rw [one_size]; omega, fun h => ?_, fun h => .inr ⟨by rw [one_size]; omega, ?_⟩, hb.alloc hb.size _⟩, ?_⟩
  · rw [h1, one_cat, dec_unfold m, if_neg (by omega), hx, List.append_assoc]; rfl
  · rw [h1, one_cat, dec_unfold m, if_pos (by omega), ← hx, show m % 10 = m by omega]; rfl
  · have e : emptyV (.string ((⟨#[x]⟩ : ByteArray) ++ t)) = 0 := by unfold emptyV; simp only; rw [if_neg (by rw [one_size]; omega)]
    rw [e]; simp [intOf]; omega
end Go.Proofs.YtdpfpdpaamjefaaDoor
