/- Plain facts on the bytes of numbers and on a text behind its length: without the program. -/
import Derived.Test.YtmdhendfmhhniaaF
import Derived.Test.YtmdhendfmhhniaaH
namespace Go.Proofs.Ytmdhendfmhhniaa
open Go.RowKit

theorem nextI_ok (s t : ByteArray) (n : Int) (h : nextI s = (t, n, 0)) : 1 ≤ n ∧ n ≤ s.size ∧ t.size < s.size := by
  obtain ⟨m, k, er, hg⟩ : ∃ n k er, getI s = (n, k, er) := ⟨_, _, _, rfl⟩
  have hb := getI_bounds s m k er hg
  unfold nextI at h
  rw [hg] at h
  dsimp only at h
  split at h
  · rename_i h1
    injection h with _ h2; injection h2 with _ h3; exact absurd h3 h1
  split at h
  · injection h with _ h2; injection h2 with _ h3; cases h3
  split at h
  · injection h with _ h2; injection h2 with _ h3; cases h3
  · rename_i h1 h2 h3
    have h1' : er = 0 := by omega
    have hk := hb.2.2.2.2.2 h1'
    injection h with ha hb'
    injection hb' with hb' hc
    subst ha hb'
    refine ⟨by omega, by omega, ?_⟩
    simp only [ByteArray.size_extract]
    omega


theorem ba_ext (a b : ByteArray) (h : a.data.toList = b.data.toList) : a = b := by
  apply ByteArray.ext; exact Array.toList_inj.1 h
theorem byt_app_left (a b : ByteArray) (i : Nat) (h : i < a.size) : byt (a ++ b) i = byt a i := by
  have h' : i < a.data.size := h
  unfold byt
  rw [Array.getD_eq_getD_getElem?, Array.getD_eq_getD_getElem?]
  simp [ByteArray.data_append, Array.getElem?_append_left h']
theorem byt_nums (xs : List Int) (i : Nat) (x : Int) (h : xs[i]? = some x) (h0 : 0 ≤ x) (h1 : x < 256) : byt (strOfNums xs) i = x := by
  unfold byt strOfNums
  rw [Array.getD_eq_getD_getElem?]
  simp [h]
  omega
theorem putI_size (n : Int) : ((strOfNums (putI n)).size : Int) = folI n + 1 := by rw [strOfNums_size]; exact len_put n

theorem fol_cases (n : Int) : folI n = 0 ∨ folI n = 1 ∨ folI n = 2 ∨ folI n = 3 ∨ folI n = 4 ∨ folI n = 5 := by
  unfold folI
  repeat' (first | omega | split)

/-- The bytes of a number, whatever stands behind them, are read as that number. -/
theorem getI_put (n : Int) (t : ByteArray) (h0 : 0 ≤ n) (h1 : n ≤ 1099511627776) : getI (strOfNums (putI n) ++ t) = (n, folI n + 1, 0) := by
  have hsz : ((strOfNums (putI n) ++ t).size : Int) = folI n + 1 + t.size := by rw [ByteArray.size_append]; have := putI_size n; omega
  obtain ⟨S, hS⟩ : ∃ S, strOfNums (putI n) ++ t = S := ⟨_, rfl⟩
  have hs1 := putI_size n
  have hb : ∀ i x, (putI n)[i]? = some x → 0 ≤ x → x < 256 → byt S i = x := by
    intro i x hi h0 h1
    rw [← hS, byt_app_left _ _ _ (by rw [strOfNums_size]; exact (List.getElem?_eq_some_iff.1 hi).1)]
    exact byt_nums _ _ _ hi h0 h1
  rw [hS] at hsz ⊢
  have key : leadI (byt S 0) = folI n ∧ valI S = n := by
    rcases fol_cases n with hf | hf | hf | hf | hf | hf
    · have e := put_fol0 n h0 hf
      have hr : n < 128 := by unfold folI at hf; repeat' (split at hf <;> try omega)
      rw [e] at hb
      have b0 := hb 0 _ rfl (by omega) (by omega)
      have hl : leadI (byt S 0) = 0 := by rw [b0]; unfold leadI; rw [if_pos (by omega)]
      exact ⟨by omega, by rw [val_0 S hl]; omega⟩
    · have e := put_fol1 n h0 hf
      have hr : 128 ≤ n ∧ n < 16384 := by unfold folI at hf; repeat' (split at hf <;> try omega)
      rw [e] at hb
      have b0 := hb 0 _ rfl (by omega) (by omega)
      have b1 := hb 1 _ rfl (by omega) (by omega)
      have hl : leadI (byt S 0) = 1 := by rw [b0]; unfold leadI; repeat' (first | rw [if_pos (by omega)] | rw [if_neg (by omega)])
      exact ⟨by omega, by rw [val_1 S hl]; omega⟩
    · have e := put_fol2 n h0 hf
      have hr : 16384 ≤ n ∧ n < 2097152 := by unfold folI at hf; repeat' (split at hf <;> try omega)
      rw [e] at hb
      have b0 := hb 0 _ rfl (by omega) (by omega)
      have b1 := hb 1 _ rfl (by omega) (by omega)
      have b2 := hb 2 _ rfl (by omega) (by omega)
      have hl : leadI (byt S 0) = 2 := by rw [b0]; unfold leadI; repeat' (first | rw [if_pos (by omega)] | rw [if_neg (by omega)])
      exact ⟨by omega, by rw [val_2 S hl]; omega⟩
    · have e := put_fol3 n h0 hf
      have hr : 2097152 ≤ n ∧ n < 268435456 := by unfold folI at hf; repeat' (split at hf <;> try omega)
      rw [e] at hb
      have b0 := hb 0 _ rfl (by omega) (by omega)
      have b1 := hb 1 _ rfl (by omega) (by omega)
      have b2 := hb 2 _ rfl (by omega) (by omega)
      have b3 := hb 3 _ rfl (by omega) (by omega)
      have hl : leadI (byt S 0) = 3 := by rw [b0]; unfold leadI; repeat' (first | rw [if_pos (by omega)] | rw [if_neg (by omega)])
      exact ⟨by omega, by rw [val_3 S hl]; omega⟩
    · have e := put_fol4 n h0 hf
      have hr : 268435456 ≤ n ∧ n < 34359738368 := by unfold folI at hf; repeat' (split at hf <;> try omega)
      rw [e] at hb
      have b0 := hb 0 _ rfl (by omega) (by omega)
      have b1 := hb 1 _ rfl (by omega) (by omega)
      have b2 := hb 2 _ rfl (by omega) (by omega)
      have b3 := hb 3 _ rfl (by omega) (by omega)
      have b4 := hb 4 _ rfl (by omega) (by omega)
      have hl : leadI (byt S 0) = 4 := by rw [b0]; unfold leadI; repeat' (first | rw [if_pos (by omega)] | rw [if_neg (by omega)])
      exact ⟨by omega, by rw [val_4 S hl]; omega⟩
    · have e := put_fol5 n h0 hf
      have hr : 34359738368 ≤ n := by unfold folI at hf; repeat' (split at hf <;> try omega)
      rw [e] at hb
      have b0 := hb 0 _ rfl (by omega) (by omega)
      have b1 := hb 1 _ rfl (by omega) (by omega)
      have b2 := hb 2 _ rfl (by omega) (by omega)
      have b3 := hb 3 _ rfl (by omega) (by omega)
      have b4 := hb 4 _ rfl (by omega) (by omega)
      have b5 := hb 5 _ rfl (by omega) (by omega)
      have hl : leadI (byt S 0) = 5 := by rw [b0]; unfold leadI; repeat' (first | rw [if_pos (by omega)] | rw [if_neg (by omega)])
      exact ⟨by omega, by rw [val_5 S hl]; omega⟩
  have hf5 : 0 ≤ folI n ∧ folI n ≤ 5 := by rcases fol_cases n with h | h | h | h | h | h <;> omega
  unfold getI
  rw [key.1, key.2, if_neg (by omega), if_neg (by omega), if_neg (by omega), if_neg (by omega), if_neg (by omega)]

/-- What is read as a number is its bytes. -/
theorem getI_bytes (s : ByteArray) (n k : Int) (h : getI s = (n, k, 0)) : strOfNums (putI n) = s.extract 0 k.toNat := by
  unfold getI at h
  split at h
  · injection h with _ h; injection h with _ h; cases h
  split at h
  · injection h with _ h; injection h with _ h; cases h
  split at h
  · injection h with _ h; injection h with _ h; cases h
  split at h
  · injection h with _ h; injection h with _ h; cases h
  split at h
  · injection h with _ h; injection h with _ h; cases h
  · rename_i a1 a2 a3 a4 a5
    have h1 := congrArg Prod.fst h
    have h2 := congrArg (fun x => x.2.1) h
    dsimp only at h1 h2
    subst h1 h2
    have a5' : folI (valI s) = leadI (byt s 0) := by
      by_cases hh : folI (valI s) = leadI (byt s 0)
      · exact hh
      · exact absurd hh a5
    rcases lead_cases (byt s 0) with hk | hk | hk | hk | hk | hk | hk | hk | hk <;> rw [hk] at a5' a2 a3 ⊢
    · rw [show ((0 : Int) + 1).toNat = 1 from rfl]; exact cmp_ok0 s (by omega) hk a5'
    · rw [show ((1 : Int) + 1).toNat = 2 from rfl]; exact cmp_ok1 s (by omega) hk a5'
    · rw [show ((2 : Int) + 1).toNat = 3 from rfl]; exact cmp_ok2 s (by omega) hk a5'
    · rw [show ((3 : Int) + 1).toNat = 4 from rfl]; exact cmp_ok3 s (by omega) hk a5'
    · rw [show ((4 : Int) + 1).toNat = 5 from rfl]; exact cmp_ok4 s (by omega) hk a5'
    · rw [show ((5 : Int) + 1).toNat = 6 from rfl]; exact cmp_ok5 s (by omega) hk a5'
    all_goals omega
def mkB (l : List UInt8) : ByteArray := ⟨l.toArray⟩
theorem mkB_size (l : List UInt8) : (mkB l).size = l.length := by simp [mkB, ByteArray.size]
theorem mkB_list (s : ByteArray) : mkB s.data.toList = s := ba_ext _ _ (by simp [mkB])
theorem mkB_data (l : List UInt8) : (mkB l).data.toList = l := by simp [mkB]
theorem mkB_app (a b : List UInt8) : mkB (a ++ b) = mkB a ++ mkB b := ba_ext _ _ (by simp [mkB])
theorem ext_list (s : ByteArray) (a b : Nat) : (s.extract a b).data.toList = (s.data.toList.drop a).take (b - a) := by
  simp [ByteArray.data_extract, List.take_drop]

theorem next_parts (s t : ByteArray) (n : Int) (h : nextI s = (t, n, 0)) : ∃ m k : Int, getI s = (m, k, 0) ∧ 0 ≤ m ∧ m ≤ 262144 ∧ 1 ≤ k ∧ k + m ≤ s.size ∧ t = s.extract k.toNat (k + m).toNat ∧ n = k + m := by
  obtain ⟨m, k, er, hg⟩ : ∃ n k er, getI s = (n, k, er) := ⟨_, _, _, rfl⟩
  have hb := getI_bounds s m k er hg
  unfold nextI at h
  rw [hg] at h
  dsimp only at h
  split at h
  · rename_i h1
    have h3 := congrArg (fun x => x.2.2) h
    dsimp only at h3
    exact absurd h3 h1
  rename_i h1
  have h1' : er = 0 := by omega
  have hk := hb.2.2.2.2.2 h1'
  split at h
  · have h3 := congrArg (fun x => x.2.2) h
    dsimp only at h3
    omega
  split at h
  · have h3 := congrArg (fun x => x.2.2) h
    dsimp only at h3
    omega
  · have h2 := congrArg Prod.fst h
    have h3 := congrArg (fun x => x.2.1) h
    dsimp only at h2 h3
    subst h1'
    exact ⟨m, k, hg, hb.1, by omega, hk.1, by omega, h2.symm, h3.symm⟩

theorem next_enc (s t : ByteArray) (n : Int) (h : nextI s = (t, n, 0)) : s.data.toList = encL t ++ (s.extract n.toNat s.size).data.toList := by
  obtain ⟨m, k, hg, hm0, hm1, hk, hks, rfl, rfl⟩ := next_parts s t n h
  have hb := getI_bytes s m k hg
  have hts : ((s.extract k.toNat (k + m).toNat).size : Int) = m := by simp only [ByteArray.size_extract]; omega
  unfold encL
  rw [hts, hb, ext_list, ext_list, ext_list]
  have hl : s.data.toList.length = s.size := by simp
  obtain ⟨L, hL⟩ : ∃ L, s.data.toList = L := ⟨_, rfl⟩
  rw [hL] at hl ⊢
  have e1 : (k + m).toNat - k.toNat = m.toNat := by omega
  have e2 : (k + m).toNat = k.toNat + m.toNat := by omega
  rw [e1, e2, List.drop_zero, Nat.sub_zero]
  rw [List.take_of_length_le (l := L.drop (k.toNat + m.toNat)) (by simp; omega), ← List.drop_drop, List.append_assoc, List.take_append_drop, List.take_append_drop]

theorem next_of_enc (t : ByteArray) (r : List UInt8) (ht : t.size ≤ 262144) : nextI (mkB (encL t ++ r)) = (t, ((encL t).length : Int), 0) := by
  have hs : mkB (encL t ++ r) = strOfNums (putI t.size) ++ mkB (t.data.toList ++ r) := ba_ext _ _ (by simp [mkB, encL])
  have hg : getI (mkB (encL t ++ r)) = ((t.size : Int), folI t.size + 1, 0) := by rw [hs]; exact getI_put _ _ (by omega) (by omega)
  have hl : (((encL t).length : Nat) : Int) = folI t.size + 1 + t.size := by rw [encL_length]; have := len_put (t.size : Int); omega
  have hz : (((mkB (encL t ++ r)).size : Nat) : Int) = folI t.size + 1 + t.size + r.length := by rw [mkB_size, List.length_append]; omega
  have hf : 0 ≤ folI t.size := by rcases fol_cases (t.size : Int) with h | h | h | h | h | h <;> omega
  unfold nextI
  rw [hg]
  dsimp only
  rw [if_neg (by omega), if_neg (by omega), if_neg (by omega), hl]
  have hp := len_put (t.size : Int)
  have e : (mkB (encL t ++ r)).extract (folI t.size + 1).toNat (folI t.size + 1 + t.size).toNat = t := by
    apply ba_ext
    rw [ext_list, mkB_data]
    unfold encL
    have e1 : (folI t.size + 1).toNat = ((strOfNums (putI t.size)).data.toList).length := by rw [show ((strOfNums (putI t.size)).data.toList).length = (putI t.size).length by simp [strOfNums]]; omega
    have e2 : (folI t.size + 1 + t.size).toNat - (folI t.size + 1).toNat = t.data.toList.length := by rw [show t.data.toList.length = t.size by simp]; omega
    rw [e2, e1, List.append_assoc, List.drop_left, List.take_left]
  rw [e]

theorem next_of_cut (t : ByteArray) (c : Nat) (ht : t.size ≤ 262144) (h0 : 0 < c) (h1 : c < (encL t).length) : nextI (mkB ((encL t).take c)) = (⟨#[]⟩, 0, 3) := by
  have hl : (((encL t).length : Nat) : Int) = folI t.size + 1 + t.size := by rw [encL_length]; have := len_put (t.size : Int); omega
  have hp := len_put (t.size : Int)
  have hf : 0 ≤ folI t.size ∧ folI t.size ≤ 5 := by rcases fol_cases (t.size : Int) with h | h | h | h | h | h <;> omega
  have hz : (mkB ((encL t).take c)).size = c := by rw [mkB_size, List.length_take]; omega
  by_cases hc : (c : Int) ≤ folI t.size
  · have hlead : leadI (byt (mkB ((encL t).take c)) 0) = folI t.size := by
      have hg : getI (mkB (encL t)) = ((t.size : Int), folI t.size + 1, 0) := by
        have hs : mkB (encL t) = strOfNums (putI t.size) ++ t := ba_ext _ _ (by simp [mkB, encL])
        rw [hs]; exact getI_put _ _ (by omega) (by omega)
      have hb : byt (mkB ((encL t).take c)) 0 = byt (mkB (encL t)) 0 := by
        have hs : mkB (encL t) = mkB ((encL t).take c) ++ mkB ((encL t).drop c) := by rw [← mkB_app, List.take_append_drop]
        rw [hs, byt_app_left _ _ _ (by omega)]
      rw [hb]
      unfold getI at hg
      split at hg
      · have := congrArg (fun x => x.2.1) hg; dsimp only at this; omega
      split at hg
      · have := congrArg (fun x => x.2.1) hg; dsimp only at this; omega
      split at hg
      · have := congrArg (fun x => x.2.1) hg; dsimp only at this; omega
      split at hg
      · have := congrArg (fun x => x.2.1) hg; dsimp only at this; omega
      split at hg
      · have := congrArg (fun x => x.2.1) hg; dsimp only at this; omega
      · have := congrArg (fun x => x.2.1) hg; dsimp only at this; omega
    have hg : getI (mkB ((encL t).take c)) = (0, 0, 3) := by
      unfold getI
      rw [if_neg (by omega), hlead, if_neg (by omega), if_pos (by omega)]
    unfold nextI
    rw [hg]
    exact if_pos (by decide)
  · have hs : mkB ((encL t).take c) = strOfNums (putI t.size) ++ mkB ((t.data.toList).take (c - (putI t.size).length)) := by
      apply ba_ext
      have e1 : ((strOfNums (putI t.size)).data.toList).length = (putI t.size).length := by simp [strOfNums]
      rw [mkB_data]
      unfold encL
      rw [List.take_append, List.take_of_length_le (by omega), e1]
      simp [mkB]
    have hg : getI (mkB ((encL t).take c)) = ((t.size : Int), folI t.size + 1, 0) := by rw [hs]; exact getI_put _ _ (by omega) (by omega)
    unfold nextI
    rw [hg]
    dsimp only
    rw [if_neg (by omega), if_neg (by omega), if_pos (by omega)]

end Go.Proofs.Ytmdhendfmhhniaa
