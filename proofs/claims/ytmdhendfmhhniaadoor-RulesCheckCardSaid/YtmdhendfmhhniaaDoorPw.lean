/- Merges: Parse; sets of texts; Invalid. -/
import Derived.Test.YtmdhendfmhhniaaDoorPv
namespace Go.Proofs.YtmdhendfmhhniaaDoor
open Go.RowKit Go.Maps
variable {w w' : World}

theorem FrM.below {b B : Nat} (h : FrM b w w') (h1 : B ≤ b) (h2 : B ≤ w.heap.size) : Below B w w' :=
  ⟨h.low.os, h.low.tape, h.low.output, h.size, fun k hk => h.block k (by omega) (by omega)⟩
set_option maxHeartbeats 1000000 in
set_option maxRecDepth 100000 in
theorem Parse_any (S : ByteArray) (w : World) (hS : S.size ≤ maxLen) :
    Calls Tryd.prog 66 #[.string S] w fun e w' => ∃ v, e = .returned (.tuple #[v, .int .i64 (parseM S).2.1, .int .i64 (parseM S).2.2]) ∧ w'.ownsRow w.heap.size 48 2 v (parseM S).1.length (flatP (parseM S).1) ∧ Below w.heap.size w w' := by
  have hmm := @run_makeMap Tryd.prog
  obtain ⟨W, hW⟩ : ∃ W, (w.alloc (.map #[] 0)).alloc (.cells #[.map (some w.heap.size)] 166) = W := ⟨_, rfl⟩
  have hb : Below w.heap.size w W := by rw [← hW]; exact ((Below.refl _ _).alloc (Nat.le_refl _) _).alloc (by simp) _
  have hs : IsSet w.heap.size 0 [] W := by rw [← hW]; exact (IsSet.new w).keep (Lib.alloc_old _ _ _ (by simp))
  have hk : W.cell? ⟨w.heap.size + 1, 0, none⟩ = some (.map (some w.heap.size)) := by
    rw [← hW]
    have := World.alloc_heap_new (w.alloc (.map #[] 0)) (.cells #[.map (some w.heap.size)] 166)
    rw [World.size_alloc] at this
    exact cell_of_row this
  have HP := Lib.hid (lparse_any (w.heap.size + 1) w.heap.size S W hS hk hs (by omega))
  have HB := Lib.hid hb
  clear hb hs hk
  go_enter Tryd.func66, Tryd.ntmps66
  go_wp2_with (go_at_call 87; refine HP.out.mono ?_)
  first | rintro e w2 v rfl ho hf | rintro e w2 ⟨v, rfl, ho, hf⟩
  have HE := Lib.hid (show w2.ownsRow w.heap.size 48 2 v (parseM S).1.length (flatP (parseM S).1) ∧ Below w.heap.size w w2 from ⟨own_lower ho HB.out.size, HB.out.trans (hf.below (Nat.le_refl _) HB.out.size)⟩)
  clear ho hf
  go_wp2_with fail
  exact bodyPost_ret (v := .tuple #[v, .int .i64 (parseM S).2.1, .int .i64 (parseM S).2.2]) (by simp [results, Tryd.results66, go_sem]) rfl ⟨v, rfl, HE.out⟩

theorem keyedS : Keyed Tryd.prog 9 := Maps.string_keyed Tryd.underlying9
theorem keyS {s : ByteArray} (h : s.size ≤ maxLen) : keyOf Tryd.prog 9 (.string s) = some (.string s.data.toList) := by
  unfold keyOf
  simp only [Tryd.underlying9]
  simp [mapKey, Tryd.underlying9, h]
def inB (rs : List ByteArray) (s : ByteArray) : Bool := rs.any fun r => decide (r = s)
theorem inB_snoc (rs : List ByteArray) (q s : ByteArray) : inB (rs ++ [q]) s = (inB rs s || decide (q = s)) := by unfold inB; rw [List.any_append]; simp
/-- The map at b is the set of the texts rs. -/
def IsTx (b n : Nat) (rs : List ByteArray) (w : World) : Prop :=
  ∃ D : DataW Unit, w.ownsMap Tryd.prog 9 unitElem b n D ∧ ∀ s : ByteArray, s.size ≤ maxLen → has D (.string s.data.toList) = inB rs s
theorem IsTx.keep {b n : Nat} {rs : List ByteArray} (h : IsTx b n rs w) (hb : w'.heap[b]? = w.heap[b]?) : IsTx b n rs w' := by
  obtain ⟨D, ⟨es, clock, h1, h2⟩, h3⟩ := h
  exact ⟨D, ⟨es, clock, hb.trans h1, h2⟩, h3⟩
theorem IsTx.lt {b n : Nat} {rs : List ByteArray} (h : IsTx b n rs w) : b < w.heap.size := by
  obtain ⟨D, h1, _⟩ := h
  exact h1.lt
theorem IsTx.new (w : World) : IsTx w.heap.size 0 [] (w.alloc (.map #[] 0)) := ⟨.map [], World.ownsMap_made w _ _ _, fun _ _ => rfl⟩
theorem IsTx.put {b n : Nat} {rs : List ByteArray} {q : ByteArray} {D : DataW Unit} (hD : w.ownsMap Tryd.prog 9 unitElem b n D) (h2 : ∀ s : ByteArray, s.size ≤ maxLen → has D (.string s.data.toList) = inB rs s)
    (h' : w'.ownsMap Tryd.prog 9 unitElem b (n + 1) (D.put (.string q.data.toList) (.agg []))) : IsTx b (n + 1) (rs ++ [q]) w' := by
  refine ⟨_, h', fun p hp => ?_⟩
  have hm : IsMap D := hD.isMap
  rw [inB_snoc]
  by_cases e : p = q
  · subst e
    rw [has_put_same hm (by trivial)]; simp
  · rw [has_put_other (fun hk => e (by injection hk with hk; exact ByteArray.ext (Array.ext' hk))), h2 p hp]
    have : decide (q = p) = false := decide_eq_false (fun h => e h.symm)
    rw [this, Bool.or_false]
def partOk (rs : List ByteArray) (x : ByteArray) : Bool := inB rs x || decide (x.size ≤ 1)
def invF : Nat → List ByteArray → List PairB → Int
  | _, _, [] => -1
  | i, rs, p :: r => if partOk rs p.1 && partOk rs p.2 then invF (i + 1) (rs ++ [p.1 ++ p.2]) r else (i : Int)
def invM (l : List PairB) : Int := invF 0 [] l
def resL (l : List PairB) : List ByteArray := l.map fun p => p.1 ++ p.2
set_option maxHeartbeats 1000000 in
set_option maxRecDepth 100000 in
theorem exists_any (bk bm n : Nat) (rs : List ByteArray) (s : ByteArray) (w : World) (hs : s.size ≤ maxLen) (hk : w.cell? ⟨bk, 0, none⟩ = some (.map (some bm))) (hS : IsTx bm n rs w) :
    Calls Tryd.prog 37 #[.string s, .pointer (some ⟨bk, 0, none⟩)] w fun e w' => e = .returned (.bool (partOk rs s)) ∧ Below w.heap.size w w' := by
  obtain ⟨D, hD, hD2⟩ := hS
  have HD := Lib.hid hD; have HH := Lib.hid (hD2 s hs); have HK := Lib.hid (keyS hs)
  unfold maxLen at hs
  have HB := Lib.hid ((Below.refl w.heap.size w).alloc (Nat.le_refl _) (.cells #[] 69))
  clear hD hD2
  cases hc : inB rs s with
  | true =>
    have HE := Lib.hid (show partOk rs s = true by unfold partOk; rw [hc]; rfl)
    go_enter Tryd.func37, Tryd.ntmps37
    go_wp2_with (at_lookup; refine wpList_lookup_own_unit _ rfl _ _ 88 rfl 9 69 keyedS Tryd.underlying88 (Tryd.zeroValue69 _) bm n D rfl HD.out _ (.string s.data.toList) rfl HK.out ?_; rw [HH.out, hc])
    go_ret
    exact ⟨ret_bool HE.out.symm, HB.out⟩
  | false =>
    by_cases h1 : s.size ≤ 1
    · have HE := Lib.hid (show partOk rs s = true by unfold partOk; simp [h1])
      have h1i : (s.size : Int) ≤ 1 := by omega
      go_enter Tryd.func37, Tryd.ntmps37
      go_wp2_with (at_lookup; refine wpList_lookup_own_unit _ rfl _ _ 88 rfl 9 69 keyedS Tryd.underlying88 (Tryd.zeroValue69 _) bm n D rfl HD.out _ (.string s.data.toList) rfl HK.out ?_; rw [HH.out, hc])
      go_ret
      first | exact ⟨ret_bool HE.out.symm, HB.out⟩ | exact ⟨ret_bool (by rw [HE.out]; simp; omega), HB.out⟩
    · have HE := Lib.hid (show partOk rs s = false by unfold partOk; rw [hc]; simp; omega)
      go_enter Tryd.func37, Tryd.ntmps37
      go_wp2_with (at_lookup; refine wpList_lookup_own_unit _ rfl _ _ 88 rfl 9 69 keyedS Tryd.underlying88 (Tryd.zeroValue69 _) bm n D rfl HD.out _ (.string s.data.toList) rfl HK.out ?_; rw [HH.out, hc])
      go_ret
      first | exact ⟨ret_bool HE.out.symm, HB.out⟩ | exact ⟨ret_bool (by rw [HE.out]; simp; omega), HB.out⟩
theorem result_any (a b : ByteArray) (w : World) (h : a.size + b.size ≤ maxLen) :
    Calls Tryd.prog 38 #[.agg #[.string a, .string b]] w fun e w' => e = .returned (.string (a ++ b)) ∧ Below w.heap.size w w' := by
  unfold maxLen at h
  have hs : ¬ (9223372036854775807 < a.size + b.size) := by omega
  go_enter Tryd.func38, Tryd.ntmps38
  go_wp2_with fail
  go_ret
  exact ⟨rfl, (Below.refl _ _).alloc (Nat.le_refl _) _⟩
end Go.Proofs.YtmdhendfmhhniaaDoor
