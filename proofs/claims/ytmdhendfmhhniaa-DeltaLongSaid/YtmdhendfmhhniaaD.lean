/- Contracts of the document's answer for nums.Get: it is 'getI', too; and nums.Get as one contract. -/
import Derived.Test.YtmdhendfmhhniaaC
import Derived.Deep.QuietTactic
import Derived.BigQuiet
import Derived.Deep.RegionWith
namespace Go.Proofs.Ytmdhendfmhhniaa
open Go.RowKit

theorem lead_bits : ∀ b : Fin 256, ∀ j : Fin 8, (j.val : Int) ≤ leadI b.val → (bits .and .u8 ((b.val : Int) / 2 ^ (7 - j.val)) 1 == 1) = decide ((j.val : Int) < leadI b.val) := by decide +kernel

theorem lead_yes (b : UInt8) (j : Nat) (k : Int) (p : Int) (hp : p = 2 ^ (7 - j)) (hk : leadI b.toNat = k) (hj : j < 8) (h : (j : Int) < k) : bits .and .u8 ((b.toNat : Int) / p) 1 = 1 := by
  have := lead_bits ⟨b.toNat, b.toNat_lt⟩ ⟨j, hj⟩
  simp only at this
  rw [hk] at this
  have h2 := this (by omega)
  rw [decide_eq_true h, beq_iff_eq] at h2
  rw [hp]; exact h2
theorem lead_no (b : UInt8) (j : Nat) (k : Int) (p : Int) (hp : p = 2 ^ (7 - j)) (hk : leadI b.toNat = k) (hj : j < 8) (h : (j : Int) = k) : (bits .and .u8 ((b.toNat : Int) / p) 1 == 1) = false := by
  have := lead_bits ⟨b.toNat, b.toNat_lt⟩ ⟨j, hj⟩
  simp only at this
  rw [hk] at this
  have h2 := this (by omega)
  rw [decide_eq_false (by omega)] at h2
  rw [hp]; exact h2
theorem lead_yes7 (b : UInt8) (k : Int) (hk : leadI b.toNat = k) (h : 7 < k) : bits .and .u8 (b.toNat : Int) 1 = 1 := by
  have := lead_yes b 7 k 1 rfl hk (by omega) (by omega)
  rwa [Int.ediv_one] at this
theorem lead_no7 (b : UInt8) (hk : leadI b.toNat = 7) : (bits .and .u8 (b.toNat : Int) 1 == 1) = false := by
  have := lead_no b 7 7 1 rfl hk (by omega) (by omega)
  rwa [Int.ediv_one] at this

theorem rput_str (n : Int) (p : ByteArray) (w : World) (h0 : 0 ≤ n) (h1 : n ≤ 1099511627776) (hp : strOfNums (putI n) = p) :
    Calls Try.prog 28 #[.int .i64 n] w fun e w' => e = .returned (.string p) ∧ Below w.heap.size w w' := by
  subst hp; exact rput_any n w h0 h1
theorem rput_bare (n : Int) (p : ByteArray) (w : World) (h1 : 1099511627776 < n) (hp : strOfNums [] = p) :
    Calls Try.prog 28 #[.int .i64 n] w fun e w' => e = .returned (.string p) ∧ Below w.heap.size w w' := by
  subst hp; exact (rput_high n w h1).mono fun e w' ⟨a, b⟩ => ⟨a, b ▸ bel_refl _⟩

theorem ext_str (s : ByteArray) (n : Nat) (h : n ≤ s.size) : s.extract 0 n = strOfNums ((List.range n).map (byt s)) := by
  have h' : n ≤ s.data.size := h
  apply ByteArray.ext
  apply Array.ext
  · simp [strOfNums]; omega
  · intro i h1 h2
    have h3 : i < n := by simpa [strOfNums] using h2
    have h4 : i < s.data.size := by omega
    simp [strOfNums, byt, Array.getElem?_eq_getElem h4]
theorem ext_size (s : ByteArray) (n : Nat) (h : n ≤ s.size) : (s.extract 0 n).size = n := by
  rw [ext_str s n h, strOfNums_size]; simp
theorem len_put (n : Int) : ((putI n).length : Int) = folI n + 1 := by
  unfold putI folI
  repeat' (first | rfl | split)
theorem cmp_ne (s : ByteArray) (k : Nat) (v : Int) (hs : k < s.size) (hf : folI v ≠ k) : ((strOfNums (putI v)).toList == (s.extract 0 (k + 1)).toList) = false := by
  rw [beq_eq_false_iff_ne]
  intro h
  rw [ByteArray.toList_eq, ByteArray.toList_eq] at h
  have h2 := congrArg List.length h
  have h3 : (strOfNums (putI v)).size = (s.extract 0 (k + 1)).size := by simpa using h2
  rw [ext_size s _ (by omega), strOfNums_size] at h3
  have := len_put v
  omega
theorem cmp_none (s : ByteArray) (k : Nat) (hs : k < s.size) : ((strOfNums []).toList == (s.extract 0 (k + 1)).toList) = false := by
  rw [beq_eq_false_iff_ne]
  intro h
  rw [ByteArray.toList_eq, ByteArray.toList_eq] at h
  have h2 := congrArg List.length h
  have h3 : (strOfNums []).size = (s.extract 0 (k + 1)).size := by simpa using h2
  rw [ext_size s _ (by omega), strOfNums_size] at h3
  simp at h3

theorem put_fol0 (n : Int) (h0 : 0 ≤ n) (hf : folI n = 0) : putI n = [n] := by
  have h : 0 ≤ n ∧ n < 128 := by unfold folI at hf; repeat' (split at hf <;> try omega)
  unfold putI; repeat' (first | rw [if_pos (by omega)] | rw [if_neg (by omega)])
theorem lead_rng0 (b : Int) (h0 : 0 ≤ b) (h1 : b ≤ 255) (hk : leadI b = 0) : 0 ≤ b ∧ b < 128 := by
  unfold leadI at hk; repeat' (split at hk <;> try omega)
theorem val_0 (s : ByteArray) (hk : leadI (byt s 0) = 0) : valI s = (byt s 0 - 0) := by
  unfold valI; rw [hk] <;> rfl
theorem cmp_ok0 (s : ByteArray) (hs : 0 < s.size) (hk : leadI (byt s 0) = 0) (hf : folI (valI s) = 0) : strOfNums (putI (valI s)) = s.extract 0 1 := by
  have hb := lead_rng0 _ (byt_lo s 0) (byt_hi s 0) hk
  have hv := val_0 s hk
  have l0 := byt_lo s 0; have u0 := byt_hi s 0
  rw [put_fol0 _ (by rw [hv]; omega) hf, ext_str s 1 (by omega), hv]
  show strOfNums _ = strOfNums [byt s 0]
  exact congrArg strOfNums (by repeat (first | rfl | refine cons_eq (by omega) ?_))

theorem put_fol1 (n : Int) (_h0 : 0 ≤ n) (hf : folI n = 1) : putI n = [128 + n / 256, n % 256] := by
  have h : 128 ≤ n ∧ n < 16384 := by unfold folI at hf; repeat' (split at hf <;> try omega)
  unfold putI; repeat' (first | rw [if_pos (by omega)] | rw [if_neg (by omega)])
theorem lead_rng1 (b : Int) (h0 : 0 ≤ b) (h1 : b ≤ 255) (hk : leadI b = 1) : 128 ≤ b ∧ b < 192 := by
  unfold leadI at hk; repeat' (split at hk <;> try omega)
theorem val_1 (s : ByteArray) (hk : leadI (byt s 0) = 1) : valI s = ((byt s 0 - 128) * 256 + byt s 1) := by
  unfold valI; rw [hk] <;> rfl
theorem cmp_ok1 (s : ByteArray) (hs : 1 < s.size) (hk : leadI (byt s 0) = 1) (hf : folI (valI s) = 1) : strOfNums (putI (valI s)) = s.extract 0 2 := by
  have hb := lead_rng1 _ (byt_lo s 0) (byt_hi s 0) hk
  have hv := val_1 s hk
  have l0 := byt_lo s 0; have u0 := byt_hi s 0
  have l1 := byt_lo s 1; have u1 := byt_hi s 1
  rw [put_fol1 _ (by rw [hv]; omega) hf, ext_str s 2 (by omega), hv]
  show strOfNums _ = strOfNums [byt s 0, byt s 1]
  exact congrArg strOfNums (by repeat (first | rfl | refine cons_eq (by omega) ?_))

theorem put_fol2 (n : Int) (_h0 : 0 ≤ n) (hf : folI n = 2) : putI n = [192 + n / 65536, n / 256 % 256, n % 256] := by
  have h : 16384 ≤ n ∧ n < 2097152 := by unfold folI at hf; repeat' (split at hf <;> try omega)
  unfold putI; repeat' (first | rw [if_pos (by omega)] | rw [if_neg (by omega)])
theorem lead_rng2 (b : Int) (h0 : 0 ≤ b) (h1 : b ≤ 255) (hk : leadI b = 2) : 192 ≤ b ∧ b < 224 := by
  unfold leadI at hk; repeat' (split at hk <;> try omega)
theorem val_2 (s : ByteArray) (hk : leadI (byt s 0) = 2) : valI s = (((byt s 0 - 192) * 256 + byt s 1) * 256 + byt s 2) := by
  unfold valI; rw [hk] <;> rfl
theorem cmp_ok2 (s : ByteArray) (hs : 2 < s.size) (hk : leadI (byt s 0) = 2) (hf : folI (valI s) = 2) : strOfNums (putI (valI s)) = s.extract 0 3 := by
  have hb := lead_rng2 _ (byt_lo s 0) (byt_hi s 0) hk
  have hv := val_2 s hk
  have l0 := byt_lo s 0; have u0 := byt_hi s 0
  have l1 := byt_lo s 1; have u1 := byt_hi s 1
  have l2 := byt_lo s 2; have u2 := byt_hi s 2
  rw [put_fol2 _ (by rw [hv]; omega) hf, ext_str s 3 (by omega), hv]
  show strOfNums _ = strOfNums [byt s 0, byt s 1, byt s 2]
  exact congrArg strOfNums (by repeat (first | rfl | refine cons_eq (by omega) ?_))

theorem put_fol3 (n : Int) (_h0 : 0 ≤ n) (hf : folI n = 3) : putI n = [224 + n / 16777216, n / 65536 % 256, n / 256 % 256, n % 256] := by
  have h : 2097152 ≤ n ∧ n < 268435456 := by unfold folI at hf; repeat' (split at hf <;> try omega)
  unfold putI; repeat' (first | rw [if_pos (by omega)] | rw [if_neg (by omega)])
theorem lead_rng3 (b : Int) (h0 : 0 ≤ b) (h1 : b ≤ 255) (hk : leadI b = 3) : 224 ≤ b ∧ b < 240 := by
  unfold leadI at hk; repeat' (split at hk <;> try omega)
theorem val_3 (s : ByteArray) (hk : leadI (byt s 0) = 3) : valI s = ((((byt s 0 - 224) * 256 + byt s 1) * 256 + byt s 2) * 256 + byt s 3) := by
  unfold valI; rw [hk] <;> rfl
theorem cmp_ok3 (s : ByteArray) (hs : 3 < s.size) (hk : leadI (byt s 0) = 3) (hf : folI (valI s) = 3) : strOfNums (putI (valI s)) = s.extract 0 4 := by
  have hb := lead_rng3 _ (byt_lo s 0) (byt_hi s 0) hk
  have hv := val_3 s hk
  have l0 := byt_lo s 0; have u0 := byt_hi s 0
  have l1 := byt_lo s 1; have u1 := byt_hi s 1
  have l2 := byt_lo s 2; have u2 := byt_hi s 2
  have l3 := byt_lo s 3; have u3 := byt_hi s 3
  rw [put_fol3 _ (by rw [hv]; omega) hf, ext_str s 4 (by omega), hv]
  show strOfNums _ = strOfNums [byt s 0, byt s 1, byt s 2, byt s 3]
  exact congrArg strOfNums (by repeat (first | rfl | refine cons_eq (by omega) ?_))

theorem put_fol4 (n : Int) (_h0 : 0 ≤ n) (hf : folI n = 4) : putI n = [240 + n / 4294967296, n / 16777216 % 256, n / 65536 % 256, n / 256 % 256, n % 256] := by
  have h : 268435456 ≤ n ∧ n < 34359738368 := by unfold folI at hf; repeat' (split at hf <;> try omega)
  unfold putI; repeat' (first | rw [if_pos (by omega)] | rw [if_neg (by omega)])
theorem lead_rng4 (b : Int) (h0 : 0 ≤ b) (h1 : b ≤ 255) (hk : leadI b = 4) : 240 ≤ b ∧ b < 248 := by
  unfold leadI at hk; repeat' (split at hk <;> try omega)
theorem val_4 (s : ByteArray) (hk : leadI (byt s 0) = 4) : valI s = (((((byt s 0 - 240) * 256 + byt s 1) * 256 + byt s 2) * 256 + byt s 3) * 256 + byt s 4) := by
  unfold valI; rw [hk] <;> rfl
theorem cmp_ok4 (s : ByteArray) (hs : 4 < s.size) (hk : leadI (byt s 0) = 4) (hf : folI (valI s) = 4) : strOfNums (putI (valI s)) = s.extract 0 5 := by
  have hb := lead_rng4 _ (byt_lo s 0) (byt_hi s 0) hk
  have hv := val_4 s hk
  have l0 := byt_lo s 0; have u0 := byt_hi s 0
  have l1 := byt_lo s 1; have u1 := byt_hi s 1
  have l2 := byt_lo s 2; have u2 := byt_hi s 2
  have l3 := byt_lo s 3; have u3 := byt_hi s 3
  have l4 := byt_lo s 4; have u4 := byt_hi s 4
  rw [put_fol4 _ (by rw [hv]; omega) hf, ext_str s 5 (by omega), hv]
  show strOfNums _ = strOfNums [byt s 0, byt s 1, byt s 2, byt s 3, byt s 4]
  exact congrArg strOfNums (by repeat (first | rfl | refine cons_eq (by omega) ?_))

theorem put_fol5 (n : Int) (_h0 : 0 ≤ n) (hf : folI n = 5) : putI n = [248 + n / 1099511627776, n / 4294967296 % 256, n / 16777216 % 256, n / 65536 % 256, n / 256 % 256, n % 256] := by
  have h : 34359738368 ≤ n := by unfold folI at hf; repeat' (split at hf <;> try omega)
  unfold putI; repeat' (first | rw [if_pos (by omega)] | rw [if_neg (by omega)])
theorem lead_rng5 (b : Int) (h0 : 0 ≤ b) (h1 : b ≤ 255) (hk : leadI b = 5) : 248 ≤ b ∧ b < 252 := by
  unfold leadI at hk; repeat' (split at hk <;> try omega)
theorem val_5 (s : ByteArray) (hk : leadI (byt s 0) = 5) : valI s = ((((((byt s 0 - 248) * 256 + byt s 1) * 256 + byt s 2) * 256 + byt s 3) * 256 + byt s 4) * 256 + byt s 5) := by
  unfold valI; rw [hk] <;> rfl
theorem cmp_ok5 (s : ByteArray) (hs : 5 < s.size) (hk : leadI (byt s 0) = 5) (hf : folI (valI s) = 5) : strOfNums (putI (valI s)) = s.extract 0 6 := by
  have hb := lead_rng5 _ (byt_lo s 0) (byt_hi s 0) hk
  have hv := val_5 s hk
  have l0 := byt_lo s 0; have u0 := byt_hi s 0
  have l1 := byt_lo s 1; have u1 := byt_hi s 1
  have l2 := byt_lo s 2; have u2 := byt_hi s 2
  have l3 := byt_lo s 3; have u3 := byt_hi s 3
  have l4 := byt_lo s 4; have u4 := byt_hi s 4
  have l5 := byt_lo s 5; have u5 := byt_hi s 5
  rw [put_fol5 _ (by rw [hv]; omega) hf, ext_str s 6 (by omega), hv]
  show strOfNums _ = strOfNums [byt s 0, byt s 1, byt s 2, byt s 3, byt s 4, byt s 5]
  exact congrArg strOfNums (by repeat (first | rfl | refine cons_eq (by omega) ?_))

/-- What the second loop keeps. -/
def HorRel (s : ByteArray) (X : Int) (j x : Int) : Prop := x = horner s X (j - 1).toNat ∧ 0 ≤ X ∧ X < 128
def HorSlot (s : ByteArray) (X k : Int) (n i : Value) : Prop := ∃ j x : Int, 1 ≤ j ∧ j ≤ k ∧ i = .int .i64 j ∧ n = .int .i64 x ∧ HorRel s X j x
theorem hor_start (s : ByteArray) (X : Int) (h0 : 0 ≤ X) (h1 : X < 128) : HorRel s X 1 X := ⟨rfl, h0, h1⟩
theorem hor_step (s : ByteArray) (X j x y : Int) (h : HorRel s X j x) (hj : 1 ≤ j) (hy : byt s j.toNat = y) : HorRel s X (j + 1) (256 * x + y) := by
  obtain ⟨hx, h0, h1⟩ := h
  obtain ⟨i, rfl⟩ : ∃ i : Nat, j = (i : Int) + 1 := ⟨(j - 1).toNat, by omega⟩
  have e1 : (((i : Int) + 1) - 1).toNat = i := by omega
  have e2 : (((i : Int) + 1 + 1) - 1).toNat = i + 1 := by omega
  have e3 : ((i : Int) + 1).toNat = i + 1 := by omega
  rw [e1] at hx; rw [e3] at hy
  refine ⟨?_, h0, h1⟩
  rw [e2, horner, ← hx, hy]; omega
theorem hor_bnd (s : ByteArray) (X j x : Int) (h : HorRel s X j x) (hj : j ≤ 6) : 0 ≤ x ∧ x < 281474976710656 := by
  obtain ⟨hx, h0, h1⟩ := h
  have l1 := byt_lo s 1; have u1 := byt_hi s 1; have l2 := byt_lo s 2; have u2 := byt_hi s 2
  have l3 := byt_lo s 3; have u3 := byt_hi s 3; have l4 := byt_lo s 4; have u4 := byt_hi s 4; have l5 := byt_lo s 5; have u5 := byt_hi s 5
  have hc : (j - 1).toNat = 0 ∨ (j - 1).toNat = 1 ∨ (j - 1).toNat = 2 ∨ (j - 1).toNat = 3 ∨ (j - 1).toNat = 4 ∨ (j - 1).toNat = 5 := by omega
  rcases hc with h | h | h | h | h | h <;> rw [h] at hx <;> simp only [horner, Nat.zero_add, Nat.reduceAdd] at hx <;> omega

end Go.Proofs.Ytmdhendfmhhniaa
