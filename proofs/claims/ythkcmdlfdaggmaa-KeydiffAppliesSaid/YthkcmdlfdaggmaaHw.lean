/- A region whose orders are many: an invariant over what has come up. -/
import Derived.Test.YthkcmdlfdaggmaaHb
import Derived.Deep.RegionHeld3
set_option linter.unusedVariables false
set_option linter.unusedSimpArgs false
namespace Go.Proofs.Ythkcmdlfdaggmaa
open Go.RowKit

/-- How many have not come up yet. -/
def unl (L : Array Bool) : Nat := L.toList.countP fun b => !b
theorem countP_set : ∀ (l : List Bool) (i : Nat), l[i]? = some false → (l.set i true).countP (fun b => !b) + 1 = l.countP fun b => !b
  | [], i, h => by simp at h
  | b :: l, 0, h => by simp at h; subst h; simp
  | b :: l, i + 1, h => by
    have ih := countP_set l i (by simpa using h)
    simp only [List.set_cons_succ, List.countP_cons]
    omega
theorem unl_set {L : Array Bool} {i : Nat} (h : L.getD i true = false) : unl (L.setIfInBounds i true) + 1 = unl L := by
  unfold unl
  rw [Array.toList_setIfInBounds]
  refine countP_set _ _ ?_
  rw [Array.getElem?_toList]
  rcases Nat.lt_or_ge i L.size with hl | hl
  · simp [hl] at h ⊢; exact h
  · simp [Array.getElem?_eq_none hl, Nat.not_lt.2 hl] at h
theorem wpAnyH_inv {P : Program} {md : Region.Mode} {ops : Array Oper} {Q : Exit → Act → World → Prop} {S : World → Prop} (J : Array Bool → Act → World → Prop) (hS : ∀ L a w, J L a w → S w)
    (hstep : ∀ L a w, J L a w → ∀ i ∈ Region.ready md ops L, wpOp P ops Q i (fun a' w' => J (L.setIfInBounds i true) a' w') a w)
    (hdone : ∀ L a w, J L a w → Region.ready md ops L = [] → Q .normal a w) : ∀ (fuel : Nat) (L : Array Bool) (a : Act) (w : World), J L a w → unl L ≤ fuel → wpAnyH P md ops Q S fuel L a w
  | 0, L, a, w, hJ, hf => by
    have h0 : Region.ready md ops L = [] := by
      refine List.eq_nil_iff_forall_not_mem.2 fun i hi => ?_
      have := unl_set (mem_ready.1 hi).1
      omega
    exact ⟨h0, hdone L a w hJ h0⟩
  | fuel + 1, L, a, w, hJ, hf => by
    refine ⟨hdone L a w hJ, fun i hi => wpOp_mono (fun a' w' h => ⟨hS _ _ _ h, wpAnyH_inv J hS hstep hdone fuel _ a' w' h ?_⟩) (hstep L a w hJ i hi)⟩
    have := unl_set (mem_ready.1 hi).1
    omega
theorem set_at {L : Array Bool} {i j : Nat} (hi : i < L.size) : (L.setIfInBounds i true).getD j false = if i = j then true else L.getD j false := by
  by_cases h : i = j
  · subst h; simp [hi]
  · simp [Array.getElem?_setIfInBounds, h]
theorem put_at {T : Array Value} {i j : Nat} {v : Value} (hi : i < T.size) : (T.setIfInBounds i v).getD j undef = if i = j then v else T.getD j undef := by
  by_cases h : i = j
  · subst h; simp [hi]
  · simp [Array.getElem?_setIfInBounds, h]
end Go.Proofs.Ythkcmdlfdaggmaa
