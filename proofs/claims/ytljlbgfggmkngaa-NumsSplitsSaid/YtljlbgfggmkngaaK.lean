/- Plain facts on the bytes of numbers and on joined texts: without the program. -/
import Derived.Test.YtljlbgfggmkngaaI
namespace Go.Proofs.Ytljlbgfggmkngaa
open Go.RowKit

theorem ba_ext (a b : ByteArray) (h : a.data.toList = b.data.toList) : a = b := by
  apply ByteArray.ext; exact Array.toList_inj.1 h
theorem byt_app_left (a b : ByteArray) (i : Nat) (h : i < a.size) : byt (a ++ b) i = byt a i := by
  have h' : i < a.data.size := h
  unfold byt
  rw [Array.getD_eq_getD_getElem?, Array.getD_eq_getD_getElem?]
  simp [ByteArray.data_append, Array.getElem?_append_left h']
theorem byt_nums (xs : List Int) (i : Nat) (x : Int) (h : xs[i]? = some x) (h0 : 0 ≤ x) (h1 : x < 256) : byt (strOfNums xs) i = x := by
  unfold byt strOfNums
  rw [Array.getD_eq_getD_getElem?]
  simp [h]
  omega
theorem putI_size (n : Int) : ((strOfNums (putI n)).size : Int) = folI n + 1 := by rw [strOfNums_size]; exact len_put n

theorem fol_cases (n : Int) : folI n = 0 ∨ folI n = 1 ∨ folI n = 2 ∨ folI n = 3 ∨ folI n = 4 ∨ folI n = 5 := by
  unfold folI
  repeat' (first | omega | split)

/-- The bytes of a number, whatever stands behind them, are read as that number. -/
theorem getI_put (n : Int) (t : ByteArray) (h0 : 0 ≤ n) (h1 : n ≤ 1099511627776) : getI (strOfNums (putI n) ++ t) = (n, folI n + 1, 0) := by
  have hsz : ((strOfNums (putI n) ++ t).size : Int) = folI n + 1 + t.size := by rw [ByteArray.size_append]; have := putI_size n; omega
  obtain ⟨S, hS⟩ : ∃ S, strOfNums (putI n) ++ t = S := ⟨_, rfl⟩
  have hs1 := putI_size n
  have hb : ∀ i x, (putI n)[i]? = some x → 0 ≤ x → x < 256 → byt S i = x := by
    intro i x hi h0 h1
    rw [← hS, byt_app_left _ _ _ (by rw [strOfNums_size]; exact (List.getElem?_eq_some_iff.1 hi).1)]
    exact byt_nums _ _ _ hi h0 h1
  rw [hS] at hsz ⊢
  have key : leadI (byt S 0) = folI n ∧ valI S = n := by
    rcases fol_cases n with hf | hf | hf | hf | hf | hf
    · have e := put_fol0 n h0 hf
      have hr : n < 128 := by unfold folI at hf; repeat' (split at hf <;> try omega)
      rw [e] at hb
      have b0 := hb 0 _ rfl (by omega) (by omega)
      have hl : leadI (byt S 0) = 0 := by rw [b0]; unfold leadI; rw [if_pos (by omega)]
      exact ⟨by omega, by rw [val_0 S hl]; omega⟩
    · have e := put_fol1 n h0 hf
      have hr : 128 ≤ n ∧ n < 16384 := by unfold folI at hf; repeat' (split at hf <;> try omega)
      rw [e] at hb
      have b0 := hb 0 _ rfl (by omega) (by omega)
      have b1 := hb 1 _ rfl (by omega) (by omega)
      have hl : leadI (byt S 0) = 1 := by rw [b0]; unfold leadI; repeat' (first | rw [if_pos (by omega)] | rw [if_neg (by omega)])
      exact ⟨by omega, by rw [val_1 S hl]; omega⟩
    · have e := put_fol2 n h0 hf
      have hr : 16384 ≤ n ∧ n < 2097152 := by unfold folI at hf; repeat' (split at hf <;> try omega)
      rw [e] at hb
      have b0 := hb 0 _ rfl (by omega) (by omega)
      have b1 := hb 1 _ rfl (by omega) (by omega)
      have b2 := hb 2 _ rfl (by omega) (by omega)
      have hl : leadI (byt S 0) = 2 := by rw [b0]; unfold leadI; repeat' (first | rw [if_pos (by omega)] | rw [if_neg (by omega)])
      exact ⟨by omega, by rw [val_2 S hl]; omega⟩
    · have e := put_fol3 n h0 hf
      have hr : 2097152 ≤ n ∧ n < 268435456 := by unfold folI at hf; repeat' (split at hf <;> try omega)
      rw [e] at hb
      have b0 := hb 0 _ rfl (by omega) (by omega)
      have b1 := hb 1 _ rfl (by omega) (by omega)
      have b2 := hb 2 _ rfl (by omega) (by omega)
      have b3 := hb 3 _ rfl (by omega) (by omega)
      have hl : leadI (byt S 0) = 3 := by rw [b0]; unfold leadI; repeat' (first | rw [if_pos (by omega)] | rw [if_neg (by omega)])
      exact ⟨by omega, by rw [val_3 S hl]; omega⟩
    · have e := put_fol4 n h0 hf
      have hr : 268435456 ≤ n ∧ n < 34359738368 := by unfold folI at hf; repeat' (split at hf <;> try omega)
      rw [e] at hb
      have b0 := hb 0 _ rfl (by omega) (by omega)
      have b1 := hb 1 _ rfl (by omega) (by omega)
      have b2 := hb 2 _ rfl (by omega) (by omega)
      have b3 := hb 3 _ rfl (by omega) (by omega)
      have b4 := hb 4 _ rfl (by omega) (by omega)
      have hl : leadI (byt S 0) = 4 := by rw [b0]; unfold leadI; repeat' (first | rw [if_pos (by omega)] | rw [if_neg (by omega)])
      exact ⟨by omega, by rw [val_4 S hl]; omega⟩
    · have e := put_fol5 n h0 hf
      have hr : 34359738368 ≤ n := by unfold folI at hf; repeat' (split at hf <;> try omega)
      rw [e] at hb
      have b0 := hb 0 _ rfl (by omega) (by omega)
      have b1 := hb 1 _ rfl (by omega) (by omega)
      have b2 := hb 2 _ rfl (by omega) (by omega)
      have b3 := hb 3 _ rfl (by omega) (by omega)
      have b4 := hb 4 _ rfl (by omega) (by omega)
      have b5 := hb 5 _ rfl (by omega) (by omega)
      have hl : leadI (byt S 0) = 5 := by rw [b0]; unfold leadI; repeat' (first | rw [if_pos (by omega)] | rw [if_neg (by omega)])
      exact ⟨by omega, by rw [val_5 S hl]; omega⟩
  have hf5 : 0 ≤ folI n ∧ folI n ≤ 5 := by rcases fol_cases n with h | h | h | h | h | h <;> omega
  unfold getI
  rw [key.1, key.2, if_neg (by omega), if_neg (by omega), if_neg (by omega), if_neg (by omega), if_neg (by omega)]

/-- What is read as a number is its bytes. -/
theorem getI_bytes (s : ByteArray) (n k : Int) (h : getI s = (n, k, 0)) : strOfNums (putI n) = s.extract 0 k.toNat := by
  unfold getI at h
  split at h
  · injection h with _ h; injection h with _ h; cases h
  split at h
  · injection h with _ h; injection h with _ h; cases h
  split at h
  · injection h with _ h; injection h with _ h; cases h
  split at h
  · injection h with _ h; injection h with _ h; cases h
  split at h
  · injection h with _ h; injection h with _ h; cases h
  · rename_i a1 a2 a3 a4 a5
    have h1 := congrArg Prod.fst h
    have h2 := congrArg (fun x => x.2.1) h
    dsimp only at h1 h2
    subst h1 h2
    have a5' : folI (valI s) = leadI (byt s 0) := by
      by_cases hh : folI (valI s) = leadI (byt s 0)
      · exact hh
      · exact absurd hh a5
    rcases lead_cases (byt s 0) with hk | hk | hk | hk | hk | hk | hk | hk | hk <;> rw [hk] at a5' a2 a3 ⊢
    · rw [show ((0 : Int) + 1).toNat = 1 from rfl]; exact cmp_ok0 s (by omega) hk a5'
    · rw [show ((1 : Int) + 1).toNat = 2 from rfl]; exact cmp_ok1 s (by omega) hk a5'
    · rw [show ((2 : Int) + 1).toNat = 3 from rfl]; exact cmp_ok2 s (by omega) hk a5'
    · rw [show ((3 : Int) + 1).toNat = 4 from rfl]; exact cmp_ok3 s (by omega) hk a5'
    · rw [show ((4 : Int) + 1).toNat = 5 from rfl]; exact cmp_ok4 s (by omega) hk a5'
    · rw [show ((5 : Int) + 1).toNat = 6 from rfl]; exact cmp_ok5 s (by omega) hk a5'
    all_goals omega
end Go.Proofs.Ytljlbgfggmkngaa
