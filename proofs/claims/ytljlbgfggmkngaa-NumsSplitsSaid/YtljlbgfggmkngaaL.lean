/- Plain facts: joined texts are split again, also where they are cut off; what is split is what is joined of the parts: without the program. -/
import Derived.Test.YtljlbgfggmkngaaK
namespace Go.Proofs.Ytljlbgfggmkngaa
open Go.RowKit

def mkB (l : List UInt8) : ByteArray := ⟨l.toArray⟩
theorem mkB_size (l : List UInt8) : (mkB l).size = l.length := by simp [mkB, ByteArray.size]
theorem mkB_list (s : ByteArray) : mkB s.data.toList = s := ba_ext _ _ (by simp [mkB])
theorem mkB_data (l : List UInt8) : (mkB l).data.toList = l := by simp [mkB]
theorem mkB_app (a b : List UInt8) : mkB (a ++ b) = mkB a ++ mkB b := ba_ext _ _ (by simp [mkB])
theorem ext_list (s : ByteArray) (a b : Nat) : (s.extract a b).data.toList = (s.data.toList.drop a).take (b - a) := by
  simp [ByteArray.data_extract, List.take_drop]

theorem next_parts (s t : ByteArray) (n : Int) (h : nextI s = (t, n, 0)) : ∃ m k : Int, getI s = (m, k, 0) ∧ 0 ≤ m ∧ m ≤ 262144 ∧ 1 ≤ k ∧ k + m ≤ s.size ∧ t = s.extract k.toNat (k + m).toNat ∧ n = k + m := by
  obtain ⟨m, k, er, hg⟩ : ∃ n k er, getI s = (n, k, er) := ⟨_, _, _, rfl⟩
  have hb := getI_bounds s m k er hg
  unfold nextI at h
  rw [hg] at h
  dsimp only at h
  split at h
  · rename_i h1
    have h3 := congrArg (fun x => x.2.2) h
    dsimp only at h3
    exact absurd h3 h1
  rename_i h1
  have h1' : er = 0 := by omega
  have hk := hb.2.2.2.2.2 h1'
  split at h
  · have h3 := congrArg (fun x => x.2.2) h
    dsimp only at h3
    omega
  split at h
  · have h3 := congrArg (fun x => x.2.2) h
    dsimp only at h3
    omega
  · have h2 := congrArg Prod.fst h
    have h3 := congrArg (fun x => x.2.1) h
    dsimp only at h2 h3
    subst h1'
    exact ⟨m, k, hg, hb.1, by omega, hk.1, by omega, h2.symm, h3.symm⟩

theorem next_enc (s t : ByteArray) (n : Int) (h : nextI s = (t, n, 0)) : s.data.toList = encL t ++ (s.extract n.toNat s.size).data.toList := by
  obtain ⟨m, k, hg, hm0, hm1, hk, hks, rfl, rfl⟩ := next_parts s t n h
  have hb := getI_bytes s m k hg
  have hts : ((s.extract k.toNat (k + m).toNat).size : Int) = m := by simp only [ByteArray.size_extract]; omega
  unfold encL
  rw [hts, hb, ext_list, ext_list, ext_list]
  have hl : s.data.toList.length = s.size := by simp
  obtain ⟨L, hL⟩ : ∃ L, s.data.toList = L := ⟨_, rfl⟩
  rw [hL] at hl ⊢
  have e1 : (k + m).toNat - k.toNat = m.toNat := by omega
  have e2 : (k + m).toNat = k.toNat + m.toNat := by omega
  rw [e1, e2, List.drop_zero, Nat.sub_zero]
  rw [List.take_of_length_le (l := L.drop (k.toNat + m.toNat)) (by simp; omega), ← List.drop_drop, List.append_assoc, List.take_append_drop, List.take_append_drop]

theorem split_join (f : Nat) : ∀ (acc l : List ByteArray) (s : ByteArray), s.size < f → splitF f acc s = (l, 0) → joinL l = joinL acc ++ s.data.toList := by
  induction f with
  | zero => intro acc l s h; omega
  | succ f ih =>
    intro acc l s hf h
    unfold splitF at h
    split at h
    · rename_i h0
      have h1 := congrArg Prod.fst h
      dsimp only at h1
      have : s.data.toList = [] := List.eq_nil_of_length_eq_zero (by simpa using h0)
      rw [← h1, this, List.append_nil]
    split at h
    · rename_i h0 h1
      have h3 := congrArg Prod.snd h
      exact absurd h3 h1
    · rename_i h0 h1
      obtain ⟨t, n, er, hn⟩ : ∃ t n er, nextI s = (t, n, er) := ⟨_, _, _, rfl⟩
      rw [hn] at h1 h
      dsimp only at h1 h
      obtain rfl : er = 0 := by omega
      have hk := nextI_ok s t n hn
      have hs : (s.extract n.toNat s.size).size < s.size := by simp only [ByteArray.size_extract]; omega
      have := ih _ _ _ (by omega) h
      rw [this, joinL_app, next_enc s t n hn]
      simp [joinL]

theorem split_err (f : Nat) : ∀ (acc l : List ByteArray) (s : ByteArray) (er : Int), splitF f acc s = (l, er) → er ≠ 0 → l = [] ∧ s.size ≠ 0 := by
  induction f with
  | zero =>
    intro acc l s er h he
    have h3 := congrArg Prod.snd h
    exact absurd h3.symm he
  | succ f ih =>
    intro acc l s er h he
    unfold splitF at h
    split at h
    · have h3 := congrArg Prod.snd h
      exact absurd h3.symm he
    rename_i h0
    split at h
    · have h3 := congrArg Prod.fst h
      exact ⟨h3.symm, h0⟩
    · exact ⟨(ih _ _ _ _ h he).1, h0⟩

theorem next_of_enc (t : ByteArray) (r : List UInt8) (ht : t.size ≤ 262144) : nextI (mkB (encL t ++ r)) = (t, ((encL t).length : Int), 0) := by
  have hs : mkB (encL t ++ r) = strOfNums (putI t.size) ++ mkB (t.data.toList ++ r) := ba_ext _ _ (by simp [mkB, encL])
  have hg : getI (mkB (encL t ++ r)) = ((t.size : Int), folI t.size + 1, 0) := by rw [hs]; exact getI_put _ _ (by omega) (by omega)
  have hl : (((encL t).length : Nat) : Int) = folI t.size + 1 + t.size := by rw [encL_length]; have := len_put (t.size : Int); omega
  have hz : (((mkB (encL t ++ r)).size : Nat) : Int) = folI t.size + 1 + t.size + r.length := by rw [mkB_size, List.length_append]; omega
  have hf : 0 ≤ folI t.size := by rcases fol_cases (t.size : Int) with h | h | h | h | h | h <;> omega
  unfold nextI
  rw [hg]
  dsimp only
  rw [if_neg (by omega), if_neg (by omega), if_neg (by omega), hl]
  have hp := len_put (t.size : Int)
  have e : (mkB (encL t ++ r)).extract (folI t.size + 1).toNat (folI t.size + 1 + t.size).toNat = t := by
    apply ba_ext
    rw [ext_list, mkB_data]
    unfold encL
    have e1 : (folI t.size + 1).toNat = ((strOfNums (putI t.size)).data.toList).length := by rw [show ((strOfNums (putI t.size)).data.toList).length = (putI t.size).length by simp [strOfNums]]; omega
    have e2 : (folI t.size + 1 + t.size).toNat - (folI t.size + 1).toNat = t.data.toList.length := by rw [show t.data.toList.length = t.size by simp]; omega
    rw [e2, e1, List.append_assoc, List.drop_left, List.take_left]
  rw [e]

theorem next_of_cut (t : ByteArray) (c : Nat) (ht : t.size ≤ 262144) (h0 : 0 < c) (h1 : c < (encL t).length) : nextI (mkB ((encL t).take c)) = (⟨#[]⟩, 0, 3) := by
  have hl : (((encL t).length : Nat) : Int) = folI t.size + 1 + t.size := by rw [encL_length]; have := len_put (t.size : Int); omega
  have hp := len_put (t.size : Int)
  have hf : 0 ≤ folI t.size ∧ folI t.size ≤ 5 := by rcases fol_cases (t.size : Int) with h | h | h | h | h | h <;> omega
  have hz : (mkB ((encL t).take c)).size = c := by rw [mkB_size, List.length_take]; omega
  by_cases hc : (c : Int) ≤ folI t.size
  · have hlead : leadI (byt (mkB ((encL t).take c)) 0) = folI t.size := by
      have hg : getI (mkB (encL t)) = ((t.size : Int), folI t.size + 1, 0) := by
        have hs : mkB (encL t) = strOfNums (putI t.size) ++ t := ba_ext _ _ (by simp [mkB, encL])
        rw [hs]; exact getI_put _ _ (by omega) (by omega)
      have hb : byt (mkB ((encL t).take c)) 0 = byt (mkB (encL t)) 0 := by
        have hs : mkB (encL t) = mkB ((encL t).take c) ++ mkB ((encL t).drop c) := by rw [← mkB_app, List.take_append_drop]
        rw [hs, byt_app_left _ _ _ (by omega)]
      rw [hb]
      unfold getI at hg
      split at hg
      · have := congrArg (fun x => x.2.1) hg; dsimp only at this; omega
      split at hg
      · have := congrArg (fun x => x.2.1) hg; dsimp only at this; omega
      split at hg
      · have := congrArg (fun x => x.2.1) hg; dsimp only at this; omega
      split at hg
      · have := congrArg (fun x => x.2.1) hg; dsimp only at this; omega
      split at hg
      · have := congrArg (fun x => x.2.1) hg; dsimp only at this; omega
      · have := congrArg (fun x => x.2.1) hg; dsimp only at this; omega
    have hg : getI (mkB ((encL t).take c)) = (0, 0, 3) := by
      unfold getI
      rw [if_neg (by omega), hlead, if_neg (by omega), if_pos (by omega)]
    unfold nextI
    rw [hg]
    exact if_pos (by decide)
  · have hs : mkB ((encL t).take c) = strOfNums (putI t.size) ++ mkB ((t.data.toList).take (c - (putI t.size).length)) := by
      apply ba_ext
      have e1 : ((strOfNums (putI t.size)).data.toList).length = (putI t.size).length := by simp [strOfNums]
      rw [mkB_data]
      unfold encL
      rw [List.take_append, List.take_of_length_le (by omega), e1]
      simp [mkB]
    have hg : getI (mkB ((encL t).take c)) = ((t.size : Int), folI t.size + 1, 0) := by rw [hs]; exact getI_put _ _ (by omega) (by omega)
    unfold nextI
    rw [hg]
    dsimp only
    rw [if_neg (by omega), if_neg (by omega), if_pos (by omega)]

theorem splitF_step (t : ByteArray) (r : List UInt8) (acc : List ByteArray) (f : Nat) (ht : t.size ≤ 262144) : splitF (f + 1) acc (mkB (encL t ++ r)) = splitF f (acc ++ [t]) (mkB r) := by
  have hp := len_put (t.size : Int)
  have hf : 0 ≤ folI t.size := by rcases fol_cases (t.size : Int) with h | h | h | h | h | h <;> omega
  have hl := encL_length t
  conv => lhs; unfold splitF
  rw [if_neg (by rw [mkB_size, List.length_append]; omega), next_of_enc t r ht]
  dsimp only
  rw [if_neg (by omega)]
  refine congrArg (splitF f (acc ++ [t])) ?_
  apply ba_ext
  rw [ext_list, mkB_data, mkB_data, Int.toNat_natCast, List.drop_left, mkB_size, List.length_append]
  exact List.take_of_length_le (by omega)

theorem splitF_pre (ss : List ByteArray) : ∀ (acc : List ByteArray) (r : List UInt8) (f : Nat), (∀ t ∈ ss, t.size ≤ 262144) → splitF (f + ss.length) acc (mkB (joinL ss ++ r)) = splitF f (acc ++ ss) (mkB r) := by
  induction ss with
  | nil => intro acc r f _; simp [joinL]
  | cons t ss ih =>
    intro acc r f h
    rw [joinL, List.append_assoc, List.length_cons, ← Nat.add_assoc, splitF_step t _ acc _ (h t (by simp)), ih _ _ _ (fun t ht => h t (by simp [ht]))]
    simp

theorem joinL_ge (ss : List ByteArray) : ss.length ≤ (joinL ss).length := by
  induction ss with
  | nil => simp [joinL]
  | cons t ss ih =>
    have hp := len_put (t.size : Int)
    have hf : 0 ≤ folI t.size := by rcases fol_cases (t.size : Int) with h | h | h | h | h | h <;> omega
    have := encL_length t
    rw [joinL, List.length_append, List.length_cons]; omega

theorem split_whole (ss : List ByteArray) (h : ∀ t ∈ ss, t.size ≤ 262144) : splitI (mkB (joinL ss)) = (ss, 0) := by
  have hj := joinL_ge ss
  unfold splitI
  rw [splitF_fuel _ _ ((joinL ss).length + 1 + ss.length) _ (by omega) (by rw [mkB_size]; omega)]
  have := splitF_pre ss [] [] ((joinL ss).length + 1) h
  rw [List.append_nil] at this
  rw [this]
  unfold splitF
  exact if_pos rfl

theorem split_part (ss : List ByteArray) (t : ByteArray) (c : Nat) (h : ∀ t ∈ ss, t.size ≤ 262144) (ht : t.size ≤ 262144) (h0 : 0 < c) (h1 : c < (encL t).length) : splitI (mkB (joinL ss ++ (encL t).take c)) = ([], 3) := by
  have hj := joinL_ge ss
  unfold splitI
  rw [splitF_fuel _ _ ((joinL ss).length + (encL t).length + 2 + ss.length) _ (by omega) (by rw [mkB_size, List.length_append, List.length_take]; omega), splitF_pre ss [] _ _ h]
  unfold splitF
  rw [if_neg (by rw [mkB_size, List.length_take]; omega), next_of_cut t c ht h0 h1]
  exact if_pos (by decide)
end Go.Proofs.Ytljlbgfggmkngaa
