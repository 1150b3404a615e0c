/- Merges, the document's Rank. -/
import Derived.Test.YtbegjgceemffcaaPe
import Derived.Laws.StructEq
namespace Go.Proofs.Ytbegjgceemffcaa
open Go.RowKit

def dRank (l : List PairB) (p : PairB) : Int := match rankN l p with | some i => (i : Int) | none => -1
theorem rank_at {l : List PairB} {p q : PairB} {k : Nat} (h : l[k]? = some q) (h0 : rankN (l.take k) p = none) : (q = p → rankN l p = some k) ∧ (q ≠ p → rankN (l.take (k + 1)) p = none) := by
  have e : l.take (k + 1) = l.take k ++ [q] := by rw [List.take_add_one, h]; rfl
  have hk := (List.getElem?_eq_some_iff.1 h).1
  have h1 := rankN_snoc (l.take k) q p
  rw [h0] at h1
  simp only at h1
  have hlen : (l.take k).length = k := by rw [List.length_take]; omega
  refine ⟨fun hq => ?_, fun hq => ?_⟩
  · rw [if_pos hq, hlen, ← e] at h1
    have h2 := rankN_append (l.take (k + 1)) (l.drop (k + 1)) p
    rw [List.take_append_drop, h1] at h2
    exact h2
  · rw [if_neg hq, ← e] at h1; exact h1
theorem ba_beq (a b : ByteArray) : (a.toList == b.toList) = decide (a = b) := by
  rw [ByteArray.toList_eq, ByteArray.toList_eq, Bool.eq_iff_iff]
  simp only [beq_iff_eq, decide_eq_true_eq]
  exact ⟨fun h => ByteArray.ext (Array.ext' h), fun h => by rw [h]⟩
end Go.Proofs.Ytbegjgceemffcaa
