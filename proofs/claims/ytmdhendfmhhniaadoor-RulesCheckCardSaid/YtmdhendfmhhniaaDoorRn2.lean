/- Merges: what is read without an error is the text of what was read. -/
import Derived.Test.YtmdhendfmhhniaaDoorRa
namespace Go.Proofs.YtmdhendfmhhniaaDoor
open Go.RowKit
theorem rdM_ok {out : List PairB} {s : ByteArray} {p : PairB} (h : rdM out s = .inl p) : p = pairOf s ∧ spAt s < s.size := by
  unfold rdM at h
  by_cases h1 : goodB (pairOf s).1 && goodB (pairOf s).2
  · rw [if_pos h1] at h
    split at h
    · cases h
    · injection h with h
      refine ⟨h.symm, ?_⟩
      simp only [Bool.and_eq_true] at h1
      have h2 := h1.2
      unfold goodB at h2
      simp only [Bool.and_eq_true, decide_eq_true_eq] at h2
      have e : (pairOf s).2.size = s.size - (spAt s + 1) := by unfold pairOf; simp
      omega
  · rw [if_neg h1] at h; cases h
theorem rdM_err {out : List PairB} {s : ByteArray} {e : Int} (h : rdM out s = .inr e) : e = 2 ∨ e = 10 := by
  unfold rdM at h
  split at h
  · split at h
    · injection h with h; exact .inr h.symm
    · cases h
  · injection h with h; exact .inl h.symm
theorem parseM_show {S : ByteArray} {res : List PairB} {n : Int} (h : parseM S = (res, n, 0)) : showM res = S.data.toList ∧ res.length ≤ 4096 := by
  have hsz : S.size ≤ 262144 := by
    by_cases hb : 262144 < S.size
    · unfold parseM parseL at h
      rw [if_pos hb] at h
      injection h with _ h; injection h with _ h; cases h
    · omega
  unfold parseM at h
  rw [parseL_eq rdM hsz] at h
  have e2 : ∀ out s e, rdM out s = .inr e → e ≠ 0 := fun _ _ _ h => by rcases rdM_err h with rfl | rfl <;> decide
  refine ⟨?_, (parse_len S _ _ _ _ _ _ rfl (by simp) h).1⟩
  have := parse_show (fun out s p h => rdM_ok h) e2 S _ _ _ _ _ rfl (Nat.zero_le _) h
  rw [this]; rfl
end Go.Proofs.YtmdhendfmhhniaaDoor
