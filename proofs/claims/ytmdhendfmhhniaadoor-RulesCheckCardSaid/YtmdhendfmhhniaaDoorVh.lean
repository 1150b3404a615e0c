/- Vocabularies, plain facts: where the document's reader of a line stops. -/
import Derived.Test.YtmdhendfmhhniaaDoorVg
import Derived.Test.YtmdhendfmhhniaaDoorMl
namespace Go.Proofs.YtmdhendfmhhniaaDoor
open Go.RowKit

/-- The first k bytes are digits, of the number n. -/
structure DgTo (s : ByteArray) (k n : Nat) : Prop where
  le : k ≤ s.size
  ten : k ≤ 10
  all : ∀ j, (h : j < s.size) → j < k → isDg s[j] = true
  num : n = horA (s.data.toList.take k) 0
  lt : n < 10 ^ k
theorem DgTo.zero (s : ByteArray) : DgTo s 0 0 := ⟨Nat.zero_le _, by decide, fun j _ h => absurd h (by omega), rfl, by decide⟩
theorem DgTo.step {s : ByteArray} {k n : Nat} (h : DgTo s k n) (hk : k < s.size) (h10 : k < 10) (hd : isDg s[k] = true) : DgTo s (k + 1) (n * 10 + (s[k].toNat - 48)) := by
  have hb : 48 ≤ s[k].toNat ∧ s[k].toNat ≤ 57 := of_decide_eq_true hd
  refine ⟨hk, h10, fun j hj hjk => ?_, ?_, ?_⟩
  · rcases Nat.lt_or_ge j k with h1 | h1
    · exact h.all j hj h1
    · have : j = k := by omega
      subst this; exact hd
  · rw [List.take_succ_eq_append_getElem (by rw [size_len]; exact hk), horA_app, ← h.num]; rfl
  · have := h.lt
    rw [Nat.pow_succ]; omega
/-- The reader's loop has stopped at k. -/
def DgEnd (s : ByteArray) (k : Nat) : Prop := k = s.size ∨ k = 10 ∨ ∃ h : k < s.size, isDg s[k] = false
theorem ent_space {s : ByteArray} {k n : Nat} (h : DgTo s k n) (h0 : 0 < k) (hk : k < s.size) (hs : s[k] = 32) : pairOf s = (s.extract 0 k, s.extract (k + 1) s.size) := by
  have : spAt s = k := by
    rcases Nat.lt_trichotomy (spAt s) k with h1 | h1 | h1
    · have h2 := sp_hit (s := s) (by omega)
      have h3 := h.all (spAt s) (by omega) h1
      rw [h2] at h3; exact absurd h3 (by decide)
    · exact h1
    · exact absurd hs (sp_not h1 hk)
  unfold pairOf; rw [this]
theorem ent_num {s : ByteArray} {k n : Nat} (h : DgTo s k n) : numR (s.extract 0 k) = if n ≤ 1073741824 ∧ Lib.decDigits n = (s.extract 0 k).data.toList then some n else none := by
  have he : (s.extract 0 k).data.toList = s.data.toList.take k := by simp
  split
  · rename_i hc
    exact (numR_iff _ _).2 ⟨hc.1, hc.2.symm⟩
  · rename_i hc
    cases hr : numR (s.extract 0 k) with
    | none => rfl
    | some m =>
      obtain ⟨h1, h2⟩ := (numR_iff _ _).1 hr
      have : m = n := by rw [h.num, ← he, h2, dec_hor m m (Nat.le_refl _)]
      subst this
      exact absurd ⟨h1, h2.symm⟩ hc
theorem dec_len_pow : ∀ (d k u : Nat), u ≤ d → 1 ≤ k → u < 10 ^ k → (Lib.decDigits u).length ≤ k
  | d, k, u, h, hk, hu => by
    rw [dec_unfold]
    split
    · exact hk
    · rename_i h10
      cases d with
      | zero => omega
      | succ d =>
        cases k with
        | zero => omega
        | succ k =>
          cases k with
          | zero => simp at hu; omega
          | succ k =>
            rw [Nat.pow_succ] at hu
            have := dec_len_pow d (k + 1) (u / 10) (by omega) (by omega) (by omega)
            rw [List.length_append]; simp; omega
theorem ent_stop {s : ByteArray} {k n : Nat} (h : DgTo s k n) (he : DgEnd s k) (hc : k = 0 ∨ k = s.size ∨ ∃ hk : k < s.size, s[k] ≠ 32) : entR s = none := by
  unfold entR
  cases hr : numR (pairOf s).1 with
  | none => rfl
  | some m =>
    simp only
    rw [if_neg]
    intro hg
    obtain ⟨h1, h2⟩ := (numR_iff _ _).1 hr
    have hle := spAt_le s
    have hq : spAt s < s.size := by
      rcases Nat.lt_or_ge (spAt s) s.size with h3 | h3
      · exact h3
      · have h4 : (pairOf s).2 = ⟨#[]⟩ := by unfold pairOf; exact ext_none (by omega)
        rw [h4] at hg; exact absurd hg (by decide)
    have h2' : s.data.toList.take (spAt s) = Lib.decDigits m := by rw [← h2]; unfold pairOf; simp
    have hlen := congrArg List.length h2'
    rw [List.length_take, size_len, Nat.min_eq_left hle] at hlen
    have hq10 : spAt s ≤ 10 := by rw [hlen]; exact dec_len_pow m 10 m (Nat.le_refl _) (by decide) (by omega)
    have hq0 : 0 < spAt s := by rw [hlen]; exact List.length_pos_iff.2 (dec_ne m)
    have hall : ∀ j, (hj : j < s.size) → j < spAt s → isDg s[j] = true := fun j hj hjq => by
      have h5 := List.all_eq_true.1 (dec_all m m (Nat.le_refl _))
      rw [← h2'] at h5
      refine h5 _ (List.mem_of_getElem? (i := j) ?_)
      rw [List.getElem?_take, if_pos hjq, List.getElem?_eq_getElem (by rw [size_len]; exact hj)]
      rfl
    rcases Nat.lt_trichotomy k (spAt s) with h6 | h6 | h6
    · rcases he with h7 | h7 | ⟨h7, h8⟩
      · omega
      · omega
      · rw [hall k h7 h6] at h8; cases h8
    · rcases hc with h7 | h7 | ⟨h7, h8⟩
      · omega
      · omega
      · subst h6; exact h8 (sp_hit hq)
    · have h7 := h.all (spAt s) hq h6
      rw [sp_hit hq] at h7; exact absurd h7 (by decide)
theorem ent_go {s : ByteArray} {k n : Nat} (h : DgTo s k n) (h0 : 0 < k) (hk : k < s.size) (hs : s[k] = 32) :
    entR s = if n ≤ 1073741824 ∧ Lib.decDigits n = (s.extract 0 k).data.toList then if goodB (s.extract (k + 1) s.size) then some (n, s.extract (k + 1) s.size) else none else none := by
  unfold entR
  rw [ent_space h h0 hk hs]
  simp only
  rw [ent_num h]
  by_cases hc : n ≤ 1073741824 ∧ Lib.decDigits n = (s.extract 0 k).data.toList
  · rw [if_pos hc, if_pos hc]
  · rw [if_neg hc, if_neg hc]
end Go.Proofs.YtmdhendfmhhniaaDoor
