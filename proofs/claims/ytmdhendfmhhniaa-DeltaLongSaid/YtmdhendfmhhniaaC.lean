/- Contracts of nums.Get: for every text that can be, the number at its beginning, how many bytes, the error's number, as 'getI' has them. -/
import Derived.Test.YtmdhendfmhhniaaB
import Derived.Test.YtmdhendfmhhniaaS
namespace Go.Proofs.Ytmdhendfmhhniaa
open Go.RowKit

def leadI (b : Int) : Int := if b < 128 then 0 else if b < 192 then 1 else if b < 224 then 2 else if b < 240 then 3 else if b < 248 then 4 else if b < 252 then 5 else if b < 254 then 6 else if b < 255 then 7 else 8
def markI (k : Int) : Int := if k ≤ 0 then 0 else if k = 1 then 128 else if k = 2 then 192 else if k = 3 then 224 else if k = 4 then 240 else 248
def byt (s : ByteArray) (i : Nat) : Int := ((s.data.getD i 0).toNat : Int)
def horner (s : ByteArray) (x : Int) : Nat → Int
  | 0 => x
  | k + 1 => horner s x k * 256 + byt s (k + 1)
def valI (s : ByteArray) : Int := horner s (byt s 0 - markI (leadI (byt s 0))) (leadI (byt s 0)).toNat
/-- Number, bytes, error of the beginning of a text. -/
def getI (s : ByteArray) : Int × Int × Int :=
  if s.size = 0 then (0, 0, 3) else
  if 5 < leadI (byt s 0) then (0, 0, 2) else
  if (s.size : Int) ≤ leadI (byt s 0) then (0, 0, 3) else
  if 1099511627776 < valI s then (0, 0, 2) else
  if folI (valI s) ≠ leadI (byt s 0) then (0, 0, 2) else (valI s, leadI (byt s 0) + 1, 0)

theorem byt_eq (s : ByteArray) (i : Nat) (h : i < s.size) : (s[i].toNat : Int) = byt s i := by
  have h' : i < s.data.size := h
  unfold byt
  rw [Array.getD_eq_getD_getElem?, Array.getElem?_eq_getElem h']
  rfl
theorem byt_lo (s : ByteArray) (i : Nat) : 0 ≤ byt s i := by unfold byt; omega
theorem byt_hi (s : ByteArray) (i : Nat) : byt s i ≤ 255 := by unfold byt; have := (s.data.getD i 0).toNat_lt; omega

theorem lead_tab : ∀ b : Fin 256, (0 ≤ bits .xor .u8 IntKind.u8.max (b.val : Int) ∧ bits .xor .u8 IntKind.u8.max (b.val : Int) ≤ 255) ∧ 8 - (Lib.bitLen (bits .xor .u8 IntKind.u8.max (b.val : Int)).toNat : Int) = leadI b.val := by decide +kernel

theorem lz_byte (b : UInt8) (k : Int) (w : World) (hk : leadI b.toNat = k) :
    Calls Try.prog 34 #[.int .u8 (bits .xor .u8 IntKind.u8.max b.toNat)] w fun e w' => e = .returned (.int .i64 k) ∧ w = w' := by
  have h := lead_tab ⟨b.toNat, b.toNat_lt⟩
  simp only at h
  subst hk
  exact (Try.bits_LeadingZeros8 _ w h.1.1 h.1.2).mono fun e w' ⟨a, b⟩ => ⟨a.trans (ret_int h.2), b.symm⟩

theorem ba_empty (s : ByteArray) (h : s.size = 0) : s.toList.isEmpty = true := by
  rw [ByteArray.toList_eq, List.isEmpty_iff_length_eq_zero]; simpa using h
theorem ba_some (s : ByteArray) (h : 0 < s.size) : s.toList.isEmpty = false := by
  cases hc : s.toList.isEmpty
  · rfl
  · rw [ByteArray.toList_eq, List.isEmpty_iff_length_eq_zero] at hc
    have : s.size = 0 := by simpa using hc
    omega

theorem wraps_i64 (n : Int) (h₀ : 0 ≤ n) (h₁ : n < 2 ^ 63) : IntKind.i64.wrap n = n := by rw [IntKind.wrap_i64]; omega
theorem wrap64_byt (b : UInt8) : wrap64 (b.toNat : Int) = (b.toNat : Int) := by have := b.toNat_lt; unfold wrap64; omega
theorem or_byte (x : Int) (b : UInt8) (h0 : 0 ≤ x) (h1 : x < 1125899906842624) : bits .or .i64 (x * 256) (wrap64 (b.toNat : Int)) = x * 256 + b.toNat := by
  have := b.toNat_lt
  rw [wrap64_byt]
  exact bits_join .i64 63 (by decide) wraps_i64 8 _ _ (by omega) (by omega) (by omega) (by omega) (by omega) (by omega)
theorem and_byte (i : Nat) (hi : i ≤ 63) (b : UInt8) : bits .and .i64 (wrap64 (b.toNat : Int)) (2 ^ i - 1) = (b.toNat : Int) % 2 ^ i := by
  have := b.toNat_lt
  rw [wrap64_byt]
  exact bits_mask .i64 63 (by decide) wraps_i64 i hi _ (by omega) (by omega)
theorem ret3_of {a b c : Int} {r : Int × Int × Int} (h : r = (a, b, c)) : Ending.returned (.tuple #[.int .i64 a, .int .i64 b, .int .i64 c]) = .returned (.tuple #[.int .i64 r.1, .int .i64 r.2.1, .int .i64 r.2.2]) := by rw [h]

theorem get_empty (s : ByteArray) (w : World) (hs : s.size = 0) :
    Calls Try.prog 24 #[.string s] w fun e w' => e = .returned (.tuple #[.int .i64 (getI s).1, .int .i64 (getI s).2.1, .int .i64 (getI s).2.2]) ∧ Below w.heap.size w w' := by
  have hem := ba_empty s hs
  have hg := Lib.hid (show getI s = (0, 0, 3) by unfold getI; rw [if_pos hs])
  clear hs
  go_enter Try.func24, Try.ntmps24
  go_wp2_with fail
  go_ret3
  exact ⟨ret3_of hg.out, bel_refl _⟩

set_option maxRecDepth 100000 in
theorem get_form (s : ByteArray) (k : Int) (w : World) (hs : 0 < s.size) (hm : s.size ≤ maxLen) (hk : leadI (byt s 0) = k) (h5 : 5 < k) :
    Calls Try.prog 24 #[.string s] w fun e w' => e = .returned (.tuple #[.int .i64 (getI s).1, .int .i64 (getI s).2.1, .int .i64 (getI s).2.2]) ∧ Below w.heap.size w w' := by
  unfold maxLen at hm
  have hem := ba_some s hs
  have hg := Lib.hid (show getI s = (0, 0, 2) by unfold getI; rw [if_neg (by omega), if_pos (by omega)])
  have H0 := Lib.hid (show leadI (s[0].toNat : Int) = k by rw [byt_eq]; exact hk)
  clear hk
  go_enter Try.func24, Try.ntmps24
  go_wp2_with (go_at_call 34; refine (lz_byte _ k _ H0.out).mono ?_; rintro e w' ⟨rfl, rfl⟩)
  go_ret3
  exact ⟨ret3_of hg.out, bel_refl _⟩

set_option maxRecDepth 100000 in
theorem get_short (s : ByteArray) (k : Int) (w : World) (hs : 0 < s.size) (hm : s.size ≤ maxLen) (hk : leadI (byt s 0) = k) (h5 : k ≤ 5) (hl : (s.size : Int) ≤ k) :
    Calls Try.prog 24 #[.string s] w fun e w' => e = .returned (.tuple #[.int .i64 (getI s).1, .int .i64 (getI s).2.1, .int .i64 (getI s).2.2]) ∧ Below w.heap.size w w' := by
  unfold maxLen at hm
  have hem := ba_some s hs
  have hg := Lib.hid (show getI s = (0, 0, 3) by unfold getI; rw [if_neg (by omega), if_neg (by omega), if_pos (by omega)])
  have H0 := Lib.hid (show leadI (s[0].toNat : Int) = k by rw [byt_eq]; exact hk)
  clear hk
  go_enter Try.func24, Try.ntmps24
  go_wp2_with (go_at_call 34; refine (lz_byte _ k _ H0.out).mono ?_; rintro e w' ⟨rfl, rfl⟩)
  go_ret3
  exact ⟨ret3_of hg.out, bel_refl _⟩

set_option maxRecDepth 100000 in
theorem get_0_odd (s : ByteArray) (w : World) (hs : 0 < s.size) (hm : s.size ≤ maxLen) (hk : leadI (byt s 0) = 0) (hv : valI s ≤ 1099511627776) (hf : folI (valI s) ≠ 0) :
    Calls Try.prog 24 #[.string s] w fun e w' => e = .returned (.tuple #[.int .i64 (getI s).1, .int .i64 (getI s).2.1, .int .i64 (getI s).2.2]) ∧ Below w.heap.size w w' := by
  unfold maxLen at hm
  have hem := ba_some s (by omega)
  have hne0 : ¬ s = ByteArray.empty := by intro h; rw [h] at hs; simp at hs
  have hg := Lib.hid (show getI s = (0, 0, 2) by unfold getI; rw [if_neg (by omega), if_neg (by omega), if_neg (by omega), if_neg (by omega), if_pos (by rw [hk]; exact hf)] <;> rfl)
  have H0 := Lib.hid (show leadI (s[0].toNat : Int) = 0 by rw [byt_eq]; exact hk)
  have hval : valI s = horner s (byt s 0 - 0) 0 := by unfold valI; rw [hk] <;> rfl
  have hb : 0 ≤ byt s 0 ∧ byt s 0 < 128 := by have h := byt_lo s 0; have h2 := byt_hi s 0; unfold leadI at hk; repeat' (split at hk <;> try omega)
  obtain ⟨x0, hx0, hy0⟩ : ∃ x0, bits .and .i64 (wrap64 (s[0].toNat : Int)) 127 = x0 ∧ x0 = horner s (byt s 0 - 0) 0 := ⟨_, (and_byte 7 (by omega) s[0]).trans (by rw [byt_eq]), by show byt s 0 % 2 ^ 7 = byt s 0 - 0; omega⟩
  have hz0 : 0 ≤ x0 ∧ x0 < 128 := by rw [hy0]; show 0 ≤ byt s 0 - 0 ∧ byt s 0 - 0 < 128; omega
  obtain ⟨hl0, hh0⟩ := hz0
  have hxv : x0 = valI s := by rw [hval, hy0]
  rw [← hxv] at hv hf
  have HF := Lib.hid hf
  clear hk hval hb hxv hy0 hf
  obtain ⟨f, hfol, hne⟩ : ∃ f, folI x0 = f ∧ (f != 0) = true := ⟨_, rfl, by rw [bne_iff_ne]; exact HF.out⟩
  have HL := Lib.hid hfol
  clear hfol
  go_enter Try.func24, Try.ntmps24
  go_wp2_with (go_at_call 34; refine (lz_byte _ 0 _ H0.out).mono ?_; rintro e w' ⟨rfl, rfl⟩)
  go_region
  go_wp2
  refine wp_loop_rounds 1 ?_
  iterate 1 (rw [rounds_succ]; go_wp2_with (go_at_call 23; refine (following_k _ f _ (by omega) (by omega) HL.out).mono ?_; rintro e w' ⟨rfl, rfl⟩))
  go_ret3
  exact ⟨ret3_of hg.out, bel_drew (bel_refl _)⟩

set_option maxRecDepth 100000 in
theorem get_0_ok (s : ByteArray) (w : World) (hs : 0 < s.size) (hm : s.size ≤ maxLen) (hk : leadI (byt s 0) = 0) (hv : valI s ≤ 1099511627776) (hf : folI (valI s) = 0) :
    Calls Try.prog 24 #[.string s] w fun e w' => e = .returned (.tuple #[.int .i64 (getI s).1, .int .i64 (getI s).2.1, .int .i64 (getI s).2.2]) ∧ Below w.heap.size w w' := by
  unfold maxLen at hm
  have hem := ba_some s (by omega)
  have hne0 : ¬ s = ByteArray.empty := by intro h; rw [h] at hs; simp at hs
  have hg := Lib.hid (show getI s = (valI s, 1, 0) by unfold getI; rw [if_neg (by omega), if_neg (by omega), if_neg (by omega), if_neg (by omega), if_neg (by rw [hk]; omega), hk] <;> rfl)
  have H0 := Lib.hid (show leadI (s[0].toNat : Int) = 0 by rw [byt_eq]; exact hk)
  have hval : valI s = horner s (byt s 0 - 0) 0 := by unfold valI; rw [hk] <;> rfl
  have hb : 0 ≤ byt s 0 ∧ byt s 0 < 128 := by have h := byt_lo s 0; have h2 := byt_hi s 0; unfold leadI at hk; repeat' (split at hk <;> try omega)
  obtain ⟨x0, hx0, hy0⟩ : ∃ x0, bits .and .i64 (wrap64 (s[0].toNat : Int)) 127 = x0 ∧ x0 = horner s (byt s 0 - 0) 0 := ⟨_, (and_byte 7 (by omega) s[0]).trans (by rw [byt_eq]), by show byt s 0 % 2 ^ 7 = byt s 0 - 0; omega⟩
  have hz0 : 0 ≤ x0 ∧ x0 < 128 := by rw [hy0]; show 0 ≤ byt s 0 - 0 ∧ byt s 0 - 0 < 128; omega
  obtain ⟨hl0, hh0⟩ := hz0
  have hxv : x0 = valI s := by rw [hval, hy0]
  rw [← hxv] at hv hf hg
  have HF := Lib.hid hf
  clear hk hval hb hxv hy0 hf
  go_enter Try.func24, Try.ntmps24
  go_wp2_with (go_at_call 34; refine (lz_byte _ 0 _ H0.out).mono ?_; rintro e w' ⟨rfl, rfl⟩)
  go_region
  go_wp2
  refine wp_loop_rounds 1 ?_
  iterate 1 (rw [rounds_succ]; go_wp2_with (go_at_call 23; refine (following_k _ 0 _ (by omega) (by omega) HF.out).mono ?_; rintro e w' ⟨rfl, rfl⟩))
  go_ret3
  exact ⟨ret3_of hg.out, bel_drew (bel_refl _)⟩

set_option maxRecDepth 100000 in
theorem get_1_odd (s : ByteArray) (w : World) (hs : 1 < s.size) (hm : s.size ≤ maxLen) (hk : leadI (byt s 0) = 1) (hv : valI s ≤ 1099511627776) (hf : folI (valI s) ≠ 1) :
    Calls Try.prog 24 #[.string s] w fun e w' => e = .returned (.tuple #[.int .i64 (getI s).1, .int .i64 (getI s).2.1, .int .i64 (getI s).2.2]) ∧ Below w.heap.size w w' := by
  unfold maxLen at hm
  have hem := ba_some s (by omega)
  have hg := Lib.hid (show getI s = (0, 0, 2) by unfold getI; rw [if_neg (by omega), if_neg (by omega), if_neg (by omega), if_neg (by omega), if_pos (by rw [hk]; exact hf)] <;> rfl)
  have H0 := Lib.hid (show leadI (s[0].toNat : Int) = 1 by rw [byt_eq]; exact hk)
  have hval : valI s = horner s (byt s 0 - 128) 1 := by unfold valI; rw [hk] <;> rfl
  have hb : 128 ≤ byt s 0 ∧ byt s 0 < 192 := by have h := byt_lo s 0; have h2 := byt_hi s 0; unfold leadI at hk; repeat' (split at hk <;> try omega)
  obtain ⟨x0, hx0, hy0⟩ : ∃ x0, bits .and .i64 (wrap64 (s[0].toNat : Int)) 63 = x0 ∧ x0 = horner s (byt s 0 - 128) 0 := ⟨_, (and_byte 6 (by omega) s[0]).trans (by rw [byt_eq]), by show byt s 0 % 2 ^ 6 = byt s 0 - 128; omega⟩
  have hz0 : 0 ≤ x0 ∧ x0 < 64 := by rw [hy0]; show 0 ≤ byt s 0 - 128 ∧ byt s 0 - 128 < 64; omega
  obtain ⟨hl0, hh0⟩ := hz0
  obtain ⟨x1, hx1, hy1⟩ : ∃ x, bits .or .i64 (x0 * 256) (wrap64 (s[1].toNat : Int)) = x ∧ x = horner s (byt s 0 - 128) 1 := ⟨_, (or_byte x0 s[1] (by omega) (by omega)).trans (by rw [byt_eq, hy0]; rfl), rfl⟩
  have hz1 : 0 ≤ x1 ∧ x1 < 16384 := by rw [hy1]; show 0 ≤ horner s (byt s 0 - 128) 0 * 256 + byt s 1 ∧ horner s (byt s 0 - 128) 0 * 256 + byt s 1 < _; rw [← hy0]; have h := byt_lo s 1; have h2 := byt_hi s 1; omega
  obtain ⟨hl1, hh1⟩ := hz1
  have hxv : x1 = valI s := by rw [hval, hy1]
  rw [← hxv] at hv hf
  have HF := Lib.hid hf
  clear hk hval hb hxv hy0 hy1 hf
  obtain ⟨f, hfol, hne⟩ : ∃ f, folI x1 = f ∧ (f != 1) = true := ⟨_, rfl, by rw [bne_iff_ne]; exact HF.out⟩
  have HL := Lib.hid hfol
  clear hfol
  go_enter Try.func24, Try.ntmps24
  go_wp2_with (go_at_call 34; refine (lz_byte _ 1 _ H0.out).mono ?_; rintro e w' ⟨rfl, rfl⟩)
  go_region
  go_wp2
  refine wp_loop_rounds 2 ?_
  iterate 2 (rw [rounds_succ]; go_wp2_with (go_at_call 23; refine (following_k _ f _ (by omega) (by omega) HL.out).mono ?_; rintro e w' ⟨rfl, rfl⟩))
  go_ret3
  exact ⟨ret3_of hg.out, bel_drew (bel_refl _)⟩

set_option maxRecDepth 100000 in
theorem get_1_ok (s : ByteArray) (w : World) (hs : 1 < s.size) (hm : s.size ≤ maxLen) (hk : leadI (byt s 0) = 1) (hv : valI s ≤ 1099511627776) (hf : folI (valI s) = 1) :
    Calls Try.prog 24 #[.string s] w fun e w' => e = .returned (.tuple #[.int .i64 (getI s).1, .int .i64 (getI s).2.1, .int .i64 (getI s).2.2]) ∧ Below w.heap.size w w' := by
  unfold maxLen at hm
  have hem := ba_some s (by omega)
  have hg := Lib.hid (show getI s = (valI s, 2, 0) by unfold getI; rw [if_neg (by omega), if_neg (by omega), if_neg (by omega), if_neg (by omega), if_neg (by rw [hk]; omega), hk] <;> rfl)
  have H0 := Lib.hid (show leadI (s[0].toNat : Int) = 1 by rw [byt_eq]; exact hk)
  have hval : valI s = horner s (byt s 0 - 128) 1 := by unfold valI; rw [hk] <;> rfl
  have hb : 128 ≤ byt s 0 ∧ byt s 0 < 192 := by have h := byt_lo s 0; have h2 := byt_hi s 0; unfold leadI at hk; repeat' (split at hk <;> try omega)
  obtain ⟨x0, hx0, hy0⟩ : ∃ x0, bits .and .i64 (wrap64 (s[0].toNat : Int)) 63 = x0 ∧ x0 = horner s (byt s 0 - 128) 0 := ⟨_, (and_byte 6 (by omega) s[0]).trans (by rw [byt_eq]), by show byt s 0 % 2 ^ 6 = byt s 0 - 128; omega⟩
  have hz0 : 0 ≤ x0 ∧ x0 < 64 := by rw [hy0]; show 0 ≤ byt s 0 - 128 ∧ byt s 0 - 128 < 64; omega
  obtain ⟨hl0, hh0⟩ := hz0
  obtain ⟨x1, hx1, hy1⟩ : ∃ x, bits .or .i64 (x0 * 256) (wrap64 (s[1].toNat : Int)) = x ∧ x = horner s (byt s 0 - 128) 1 := ⟨_, (or_byte x0 s[1] (by omega) (by omega)).trans (by rw [byt_eq, hy0]; rfl), rfl⟩
  have hz1 : 0 ≤ x1 ∧ x1 < 16384 := by rw [hy1]; show 0 ≤ horner s (byt s 0 - 128) 0 * 256 + byt s 1 ∧ horner s (byt s 0 - 128) 0 * 256 + byt s 1 < _; rw [← hy0]; have h := byt_lo s 1; have h2 := byt_hi s 1; omega
  obtain ⟨hl1, hh1⟩ := hz1
  have hxv : x1 = valI s := by rw [hval, hy1]
  rw [← hxv] at hv hf hg
  have HF := Lib.hid hf
  clear hk hval hb hxv hy0 hy1 hf
  go_enter Try.func24, Try.ntmps24
  go_wp2_with (go_at_call 34; refine (lz_byte _ 1 _ H0.out).mono ?_; rintro e w' ⟨rfl, rfl⟩)
  go_region
  go_wp2
  refine wp_loop_rounds 2 ?_
  iterate 2 (rw [rounds_succ]; go_wp2_with (go_at_call 23; refine (following_k _ 1 _ (by omega) (by omega) HF.out).mono ?_; rintro e w' ⟨rfl, rfl⟩))
  go_ret3
  exact ⟨ret3_of hg.out, bel_drew (bel_refl _)⟩

set_option maxRecDepth 100000 in
theorem get_2_odd (s : ByteArray) (w : World) (hs : 2 < s.size) (hm : s.size ≤ maxLen) (hk : leadI (byt s 0) = 2) (hv : valI s ≤ 1099511627776) (hf : folI (valI s) ≠ 2) :
    Calls Try.prog 24 #[.string s] w fun e w' => e = .returned (.tuple #[.int .i64 (getI s).1, .int .i64 (getI s).2.1, .int .i64 (getI s).2.2]) ∧ Below w.heap.size w w' := by
  unfold maxLen at hm
  have hem := ba_some s (by omega)
  have hg := Lib.hid (show getI s = (0, 0, 2) by unfold getI; rw [if_neg (by omega), if_neg (by omega), if_neg (by omega), if_neg (by omega), if_pos (by rw [hk]; exact hf)] <;> rfl)
  have H0 := Lib.hid (show leadI (s[0].toNat : Int) = 2 by rw [byt_eq]; exact hk)
  have hval : valI s = horner s (byt s 0 - 192) 2 := by unfold valI; rw [hk] <;> rfl
  have hb : 192 ≤ byt s 0 ∧ byt s 0 < 224 := by have h := byt_lo s 0; have h2 := byt_hi s 0; unfold leadI at hk; repeat' (split at hk <;> try omega)
  obtain ⟨x0, hx0, hy0⟩ : ∃ x0, bits .and .i64 (wrap64 (s[0].toNat : Int)) 31 = x0 ∧ x0 = horner s (byt s 0 - 192) 0 := ⟨_, (and_byte 5 (by omega) s[0]).trans (by rw [byt_eq]), by show byt s 0 % 2 ^ 5 = byt s 0 - 192; omega⟩
  have hz0 : 0 ≤ x0 ∧ x0 < 32 := by rw [hy0]; show 0 ≤ byt s 0 - 192 ∧ byt s 0 - 192 < 32; omega
  obtain ⟨hl0, hh0⟩ := hz0
  obtain ⟨x1, hx1, hy1⟩ : ∃ x, bits .or .i64 (x0 * 256) (wrap64 (s[1].toNat : Int)) = x ∧ x = horner s (byt s 0 - 192) 1 := ⟨_, (or_byte x0 s[1] (by omega) (by omega)).trans (by rw [byt_eq, hy0]; rfl), rfl⟩
  have hz1 : 0 ≤ x1 ∧ x1 < 8192 := by rw [hy1]; show 0 ≤ horner s (byt s 0 - 192) 0 * 256 + byt s 1 ∧ horner s (byt s 0 - 192) 0 * 256 + byt s 1 < _; rw [← hy0]; have h := byt_lo s 1; have h2 := byt_hi s 1; omega
  obtain ⟨hl1, hh1⟩ := hz1
  obtain ⟨x2, hx2, hy2⟩ : ∃ x, bits .or .i64 (x1 * 256) (wrap64 (s[2].toNat : Int)) = x ∧ x = horner s (byt s 0 - 192) 2 := ⟨_, (or_byte x1 s[2] (by omega) (by omega)).trans (by rw [byt_eq, hy1]; rfl), rfl⟩
  have hz2 : 0 ≤ x2 ∧ x2 < 2097152 := by rw [hy2]; show 0 ≤ horner s (byt s 0 - 192) 1 * 256 + byt s 2 ∧ horner s (byt s 0 - 192) 1 * 256 + byt s 2 < _; rw [← hy1]; have h := byt_lo s 2; have h2 := byt_hi s 2; omega
  obtain ⟨hl2, hh2⟩ := hz2
  have hxv : x2 = valI s := by rw [hval, hy2]
  rw [← hxv] at hv hf
  have HF := Lib.hid hf
  clear hk hval hb hxv hy0 hy1 hy2 hf
  obtain ⟨f, hfol, hne⟩ : ∃ f, folI x2 = f ∧ (f != 2) = true := ⟨_, rfl, by rw [bne_iff_ne]; exact HF.out⟩
  have HL := Lib.hid hfol
  clear hfol
  go_enter Try.func24, Try.ntmps24
  go_wp2_with (go_at_call 34; refine (lz_byte _ 2 _ H0.out).mono ?_; rintro e w' ⟨rfl, rfl⟩)
  go_region
  go_wp2
  refine wp_loop_rounds 3 ?_
  iterate 3 (rw [rounds_succ]; go_wp2_with (go_at_call 23; refine (following_k _ f _ (by omega) (by omega) HL.out).mono ?_; rintro e w' ⟨rfl, rfl⟩))
  go_ret3
  exact ⟨ret3_of hg.out, bel_drew (bel_refl _)⟩

set_option maxRecDepth 100000 in
theorem get_2_ok (s : ByteArray) (w : World) (hs : 2 < s.size) (hm : s.size ≤ maxLen) (hk : leadI (byt s 0) = 2) (hv : valI s ≤ 1099511627776) (hf : folI (valI s) = 2) :
    Calls Try.prog 24 #[.string s] w fun e w' => e = .returned (.tuple #[.int .i64 (getI s).1, .int .i64 (getI s).2.1, .int .i64 (getI s).2.2]) ∧ Below w.heap.size w w' := by
  unfold maxLen at hm
  have hem := ba_some s (by omega)
  have hg := Lib.hid (show getI s = (valI s, 3, 0) by unfold getI; rw [if_neg (by omega), if_neg (by omega), if_neg (by omega), if_neg (by omega), if_neg (by rw [hk]; omega), hk] <;> rfl)
  have H0 := Lib.hid (show leadI (s[0].toNat : Int) = 2 by rw [byt_eq]; exact hk)
  have hval : valI s = horner s (byt s 0 - 192) 2 := by unfold valI; rw [hk] <;> rfl
  have hb : 192 ≤ byt s 0 ∧ byt s 0 < 224 := by have h := byt_lo s 0; have h2 := byt_hi s 0; unfold leadI at hk; repeat' (split at hk <;> try omega)
  obtain ⟨x0, hx0, hy0⟩ : ∃ x0, bits .and .i64 (wrap64 (s[0].toNat : Int)) 31 = x0 ∧ x0 = horner s (byt s 0 - 192) 0 := ⟨_, (and_byte 5 (by omega) s[0]).trans (by rw [byt_eq]), by show byt s 0 % 2 ^ 5 = byt s 0 - 192; omega⟩
  have hz0 : 0 ≤ x0 ∧ x0 < 32 := by rw [hy0]; show 0 ≤ byt s 0 - 192 ∧ byt s 0 - 192 < 32; omega
  obtain ⟨hl0, hh0⟩ := hz0
  obtain ⟨x1, hx1, hy1⟩ : ∃ x, bits .or .i64 (x0 * 256) (wrap64 (s[1].toNat : Int)) = x ∧ x = horner s (byt s 0 - 192) 1 := ⟨_, (or_byte x0 s[1] (by omega) (by omega)).trans (by rw [byt_eq, hy0]; rfl), rfl⟩
  have hz1 : 0 ≤ x1 ∧ x1 < 8192 := by rw [hy1]; show 0 ≤ horner s (byt s 0 - 192) 0 * 256 + byt s 1 ∧ horner s (byt s 0 - 192) 0 * 256 + byt s 1 < _; rw [← hy0]; have h := byt_lo s 1; have h2 := byt_hi s 1; omega
  obtain ⟨hl1, hh1⟩ := hz1
  obtain ⟨x2, hx2, hy2⟩ : ∃ x, bits .or .i64 (x1 * 256) (wrap64 (s[2].toNat : Int)) = x ∧ x = horner s (byt s 0 - 192) 2 := ⟨_, (or_byte x1 s[2] (by omega) (by omega)).trans (by rw [byt_eq, hy1]; rfl), rfl⟩
  have hz2 : 0 ≤ x2 ∧ x2 < 2097152 := by rw [hy2]; show 0 ≤ horner s (byt s 0 - 192) 1 * 256 + byt s 2 ∧ horner s (byt s 0 - 192) 1 * 256 + byt s 2 < _; rw [← hy1]; have h := byt_lo s 2; have h2 := byt_hi s 2; omega
  obtain ⟨hl2, hh2⟩ := hz2
  have hxv : x2 = valI s := by rw [hval, hy2]
  rw [← hxv] at hv hf hg
  have HF := Lib.hid hf
  clear hk hval hb hxv hy0 hy1 hy2 hf
  go_enter Try.func24, Try.ntmps24
  go_wp2_with (go_at_call 34; refine (lz_byte _ 2 _ H0.out).mono ?_; rintro e w' ⟨rfl, rfl⟩)
  go_region
  go_wp2
  refine wp_loop_rounds 3 ?_
  iterate 3 (rw [rounds_succ]; go_wp2_with (go_at_call 23; refine (following_k _ 2 _ (by omega) (by omega) HF.out).mono ?_; rintro e w' ⟨rfl, rfl⟩))
  go_ret3
  exact ⟨ret3_of hg.out, bel_drew (bel_refl _)⟩

set_option maxRecDepth 100000 in
theorem get_3_odd (s : ByteArray) (w : World) (hs : 3 < s.size) (hm : s.size ≤ maxLen) (hk : leadI (byt s 0) = 3) (hv : valI s ≤ 1099511627776) (hf : folI (valI s) ≠ 3) :
    Calls Try.prog 24 #[.string s] w fun e w' => e = .returned (.tuple #[.int .i64 (getI s).1, .int .i64 (getI s).2.1, .int .i64 (getI s).2.2]) ∧ Below w.heap.size w w' := by
  unfold maxLen at hm
  have hem := ba_some s (by omega)
  have hg := Lib.hid (show getI s = (0, 0, 2) by unfold getI; rw [if_neg (by omega), if_neg (by omega), if_neg (by omega), if_neg (by omega), if_pos (by rw [hk]; exact hf)] <;> rfl)
  have H0 := Lib.hid (show leadI (s[0].toNat : Int) = 3 by rw [byt_eq]; exact hk)
  have hval : valI s = horner s (byt s 0 - 224) 3 := by unfold valI; rw [hk] <;> rfl
  have hb : 224 ≤ byt s 0 ∧ byt s 0 < 240 := by have h := byt_lo s 0; have h2 := byt_hi s 0; unfold leadI at hk; repeat' (split at hk <;> try omega)
  obtain ⟨x0, hx0, hy0⟩ : ∃ x0, bits .and .i64 (wrap64 (s[0].toNat : Int)) 15 = x0 ∧ x0 = horner s (byt s 0 - 224) 0 := ⟨_, (and_byte 4 (by omega) s[0]).trans (by rw [byt_eq]), by show byt s 0 % 2 ^ 4 = byt s 0 - 224; omega⟩
  have hz0 : 0 ≤ x0 ∧ x0 < 16 := by rw [hy0]; show 0 ≤ byt s 0 - 224 ∧ byt s 0 - 224 < 16; omega
  obtain ⟨hl0, hh0⟩ := hz0
  obtain ⟨x1, hx1, hy1⟩ : ∃ x, bits .or .i64 (x0 * 256) (wrap64 (s[1].toNat : Int)) = x ∧ x = horner s (byt s 0 - 224) 1 := ⟨_, (or_byte x0 s[1] (by omega) (by omega)).trans (by rw [byt_eq, hy0]; rfl), rfl⟩
  have hz1 : 0 ≤ x1 ∧ x1 < 4096 := by rw [hy1]; show 0 ≤ horner s (byt s 0 - 224) 0 * 256 + byt s 1 ∧ horner s (byt s 0 - 224) 0 * 256 + byt s 1 < _; rw [← hy0]; have h := byt_lo s 1; have h2 := byt_hi s 1; omega
  obtain ⟨hl1, hh1⟩ := hz1
  obtain ⟨x2, hx2, hy2⟩ : ∃ x, bits .or .i64 (x1 * 256) (wrap64 (s[2].toNat : Int)) = x ∧ x = horner s (byt s 0 - 224) 2 := ⟨_, (or_byte x1 s[2] (by omega) (by omega)).trans (by rw [byt_eq, hy1]; rfl), rfl⟩
  have hz2 : 0 ≤ x2 ∧ x2 < 1048576 := by rw [hy2]; show 0 ≤ horner s (byt s 0 - 224) 1 * 256 + byt s 2 ∧ horner s (byt s 0 - 224) 1 * 256 + byt s 2 < _; rw [← hy1]; have h := byt_lo s 2; have h2 := byt_hi s 2; omega
  obtain ⟨hl2, hh2⟩ := hz2
  obtain ⟨x3, hx3, hy3⟩ : ∃ x, bits .or .i64 (x2 * 256) (wrap64 (s[3].toNat : Int)) = x ∧ x = horner s (byt s 0 - 224) 3 := ⟨_, (or_byte x2 s[3] (by omega) (by omega)).trans (by rw [byt_eq, hy2]; rfl), rfl⟩
  have hz3 : 0 ≤ x3 ∧ x3 < 268435456 := by rw [hy3]; show 0 ≤ horner s (byt s 0 - 224) 2 * 256 + byt s 3 ∧ horner s (byt s 0 - 224) 2 * 256 + byt s 3 < _; rw [← hy2]; have h := byt_lo s 3; have h2 := byt_hi s 3; omega
  obtain ⟨hl3, hh3⟩ := hz3
  have hxv : x3 = valI s := by rw [hval, hy3]
  rw [← hxv] at hv hf
  have HF := Lib.hid hf
  clear hk hval hb hxv hy0 hy1 hy2 hy3 hf
  obtain ⟨f, hfol, hne⟩ : ∃ f, folI x3 = f ∧ (f != 3) = true := ⟨_, rfl, by rw [bne_iff_ne]; exact HF.out⟩
  have HL := Lib.hid hfol
  clear hfol
  go_enter Try.func24, Try.ntmps24
  go_wp2_with (go_at_call 34; refine (lz_byte _ 3 _ H0.out).mono ?_; rintro e w' ⟨rfl, rfl⟩)
  go_region
  go_wp2
  refine wp_loop_rounds 4 ?_
  iterate 4 (rw [rounds_succ]; go_wp2_with (go_at_call 23; refine (following_k _ f _ (by omega) (by omega) HL.out).mono ?_; rintro e w' ⟨rfl, rfl⟩))
  go_ret3
  exact ⟨ret3_of hg.out, bel_drew (bel_refl _)⟩

set_option maxRecDepth 100000 in
theorem get_3_ok (s : ByteArray) (w : World) (hs : 3 < s.size) (hm : s.size ≤ maxLen) (hk : leadI (byt s 0) = 3) (hv : valI s ≤ 1099511627776) (hf : folI (valI s) = 3) :
    Calls Try.prog 24 #[.string s] w fun e w' => e = .returned (.tuple #[.int .i64 (getI s).1, .int .i64 (getI s).2.1, .int .i64 (getI s).2.2]) ∧ Below w.heap.size w w' := by
  unfold maxLen at hm
  have hem := ba_some s (by omega)
  have hg := Lib.hid (show getI s = (valI s, 4, 0) by unfold getI; rw [if_neg (by omega), if_neg (by omega), if_neg (by omega), if_neg (by omega), if_neg (by rw [hk]; omega), hk] <;> rfl)
  have H0 := Lib.hid (show leadI (s[0].toNat : Int) = 3 by rw [byt_eq]; exact hk)
  have hval : valI s = horner s (byt s 0 - 224) 3 := by unfold valI; rw [hk] <;> rfl
  have hb : 224 ≤ byt s 0 ∧ byt s 0 < 240 := by have h := byt_lo s 0; have h2 := byt_hi s 0; unfold leadI at hk; repeat' (split at hk <;> try omega)
  obtain ⟨x0, hx0, hy0⟩ : ∃ x0, bits .and .i64 (wrap64 (s[0].toNat : Int)) 15 = x0 ∧ x0 = horner s (byt s 0 - 224) 0 := ⟨_, (and_byte 4 (by omega) s[0]).trans (by rw [byt_eq]), by show byt s 0 % 2 ^ 4 = byt s 0 - 224; omega⟩
  have hz0 : 0 ≤ x0 ∧ x0 < 16 := by rw [hy0]; show 0 ≤ byt s 0 - 224 ∧ byt s 0 - 224 < 16; omega
  obtain ⟨hl0, hh0⟩ := hz0
  obtain ⟨x1, hx1, hy1⟩ : ∃ x, bits .or .i64 (x0 * 256) (wrap64 (s[1].toNat : Int)) = x ∧ x = horner s (byt s 0 - 224) 1 := ⟨_, (or_byte x0 s[1] (by omega) (by omega)).trans (by rw [byt_eq, hy0]; rfl), rfl⟩
  have hz1 : 0 ≤ x1 ∧ x1 < 4096 := by rw [hy1]; show 0 ≤ horner s (byt s 0 - 224) 0 * 256 + byt s 1 ∧ horner s (byt s 0 - 224) 0 * 256 + byt s 1 < _; rw [← hy0]; have h := byt_lo s 1; have h2 := byt_hi s 1; omega
  obtain ⟨hl1, hh1⟩ := hz1
  obtain ⟨x2, hx2, hy2⟩ : ∃ x, bits .or .i64 (x1 * 256) (wrap64 (s[2].toNat : Int)) = x ∧ x = horner s (byt s 0 - 224) 2 := ⟨_, (or_byte x1 s[2] (by omega) (by omega)).trans (by rw [byt_eq, hy1]; rfl), rfl⟩
  have hz2 : 0 ≤ x2 ∧ x2 < 1048576 := by rw [hy2]; show 0 ≤ horner s (byt s 0 - 224) 1 * 256 + byt s 2 ∧ horner s (byt s 0 - 224) 1 * 256 + byt s 2 < _; rw [← hy1]; have h := byt_lo s 2; have h2 := byt_hi s 2; omega
  obtain ⟨hl2, hh2⟩ := hz2
  obtain ⟨x3, hx3, hy3⟩ : ∃ x, bits .or .i64 (x2 * 256) (wrap64 (s[3].toNat : Int)) = x ∧ x = horner s (byt s 0 - 224) 3 := ⟨_, (or_byte x2 s[3] (by omega) (by omega)).trans (by rw [byt_eq, hy2]; rfl), rfl⟩
  have hz3 : 0 ≤ x3 ∧ x3 < 268435456 := by rw [hy3]; show 0 ≤ horner s (byt s 0 - 224) 2 * 256 + byt s 3 ∧ horner s (byt s 0 - 224) 2 * 256 + byt s 3 < _; rw [← hy2]; have h := byt_lo s 3; have h2 := byt_hi s 3; omega
  obtain ⟨hl3, hh3⟩ := hz3
  have hxv : x3 = valI s := by rw [hval, hy3]
  rw [← hxv] at hv hf hg
  have HF := Lib.hid hf
  clear hk hval hb hxv hy0 hy1 hy2 hy3 hf
  go_enter Try.func24, Try.ntmps24
  go_wp2_with (go_at_call 34; refine (lz_byte _ 3 _ H0.out).mono ?_; rintro e w' ⟨rfl, rfl⟩)
  go_region
  go_wp2
  refine wp_loop_rounds 4 ?_
  iterate 4 (rw [rounds_succ]; go_wp2_with (go_at_call 23; refine (following_k _ 3 _ (by omega) (by omega) HF.out).mono ?_; rintro e w' ⟨rfl, rfl⟩))
  go_ret3
  exact ⟨ret3_of hg.out, bel_drew (bel_refl _)⟩

set_option maxRecDepth 100000 in
theorem get_4_odd (s : ByteArray) (w : World) (hs : 4 < s.size) (hm : s.size ≤ maxLen) (hk : leadI (byt s 0) = 4) (hv : valI s ≤ 1099511627776) (hf : folI (valI s) ≠ 4) :
    Calls Try.prog 24 #[.string s] w fun e w' => e = .returned (.tuple #[.int .i64 (getI s).1, .int .i64 (getI s).2.1, .int .i64 (getI s).2.2]) ∧ Below w.heap.size w w' := by
  unfold maxLen at hm
  have hem := ba_some s (by omega)
  have hg := Lib.hid (show getI s = (0, 0, 2) by unfold getI; rw [if_neg (by omega), if_neg (by omega), if_neg (by omega), if_neg (by omega), if_pos (by rw [hk]; exact hf)] <;> rfl)
  have H0 := Lib.hid (show leadI (s[0].toNat : Int) = 4 by rw [byt_eq]; exact hk)
  have hval : valI s = horner s (byt s 0 - 240) 4 := by unfold valI; rw [hk] <;> rfl
  have hb : 240 ≤ byt s 0 ∧ byt s 0 < 248 := by have h := byt_lo s 0; have h2 := byt_hi s 0; unfold leadI at hk; repeat' (split at hk <;> try omega)
  obtain ⟨x0, hx0, hy0⟩ : ∃ x0, bits .and .i64 (wrap64 (s[0].toNat : Int)) 7 = x0 ∧ x0 = horner s (byt s 0 - 240) 0 := ⟨_, (and_byte 3 (by omega) s[0]).trans (by rw [byt_eq]), by show byt s 0 % 2 ^ 3 = byt s 0 - 240; omega⟩
  have hz0 : 0 ≤ x0 ∧ x0 < 8 := by rw [hy0]; show 0 ≤ byt s 0 - 240 ∧ byt s 0 - 240 < 8; omega
  obtain ⟨hl0, hh0⟩ := hz0
  obtain ⟨x1, hx1, hy1⟩ : ∃ x, bits .or .i64 (x0 * 256) (wrap64 (s[1].toNat : Int)) = x ∧ x = horner s (byt s 0 - 240) 1 := ⟨_, (or_byte x0 s[1] (by omega) (by omega)).trans (by rw [byt_eq, hy0]; rfl), rfl⟩
  have hz1 : 0 ≤ x1 ∧ x1 < 2048 := by rw [hy1]; show 0 ≤ horner s (byt s 0 - 240) 0 * 256 + byt s 1 ∧ horner s (byt s 0 - 240) 0 * 256 + byt s 1 < _; rw [← hy0]; have h := byt_lo s 1; have h2 := byt_hi s 1; omega
  obtain ⟨hl1, hh1⟩ := hz1
  obtain ⟨x2, hx2, hy2⟩ : ∃ x, bits .or .i64 (x1 * 256) (wrap64 (s[2].toNat : Int)) = x ∧ x = horner s (byt s 0 - 240) 2 := ⟨_, (or_byte x1 s[2] (by omega) (by omega)).trans (by rw [byt_eq, hy1]; rfl), rfl⟩
  have hz2 : 0 ≤ x2 ∧ x2 < 524288 := by rw [hy2]; show 0 ≤ horner s (byt s 0 - 240) 1 * 256 + byt s 2 ∧ horner s (byt s 0 - 240) 1 * 256 + byt s 2 < _; rw [← hy1]; have h := byt_lo s 2; have h2 := byt_hi s 2; omega
  obtain ⟨hl2, hh2⟩ := hz2
  obtain ⟨x3, hx3, hy3⟩ : ∃ x, bits .or .i64 (x2 * 256) (wrap64 (s[3].toNat : Int)) = x ∧ x = horner s (byt s 0 - 240) 3 := ⟨_, (or_byte x2 s[3] (by omega) (by omega)).trans (by rw [byt_eq, hy2]; rfl), rfl⟩
  have hz3 : 0 ≤ x3 ∧ x3 < 134217728 := by rw [hy3]; show 0 ≤ horner s (byt s 0 - 240) 2 * 256 + byt s 3 ∧ horner s (byt s 0 - 240) 2 * 256 + byt s 3 < _; rw [← hy2]; have h := byt_lo s 3; have h2 := byt_hi s 3; omega
  obtain ⟨hl3, hh3⟩ := hz3
  obtain ⟨x4, hx4, hy4⟩ : ∃ x, bits .or .i64 (x3 * 256) (wrap64 (s[4].toNat : Int)) = x ∧ x = horner s (byt s 0 - 240) 4 := ⟨_, (or_byte x3 s[4] (by omega) (by omega)).trans (by rw [byt_eq, hy3]; rfl), rfl⟩
  have hz4 : 0 ≤ x4 ∧ x4 < 34359738368 := by rw [hy4]; show 0 ≤ horner s (byt s 0 - 240) 3 * 256 + byt s 4 ∧ horner s (byt s 0 - 240) 3 * 256 + byt s 4 < _; rw [← hy3]; have h := byt_lo s 4; have h2 := byt_hi s 4; omega
  obtain ⟨hl4, hh4⟩ := hz4
  have hxv : x4 = valI s := by rw [hval, hy4]
  rw [← hxv] at hv hf
  have HF := Lib.hid hf
  clear hk hval hb hxv hy0 hy1 hy2 hy3 hy4 hf
  obtain ⟨f, hfol, hne⟩ : ∃ f, folI x4 = f ∧ (f != 4) = true := ⟨_, rfl, by rw [bne_iff_ne]; exact HF.out⟩
  have HL := Lib.hid hfol
  clear hfol
  go_enter Try.func24, Try.ntmps24
  go_wp2_with (go_at_call 34; refine (lz_byte _ 4 _ H0.out).mono ?_; rintro e w' ⟨rfl, rfl⟩)
  go_region
  go_wp2
  refine wp_loop_rounds 5 ?_
  iterate 5 (rw [rounds_succ]; go_wp2_with (go_at_call 23; refine (following_k _ f _ (by omega) (by omega) HL.out).mono ?_; rintro e w' ⟨rfl, rfl⟩))
  go_ret3
  exact ⟨ret3_of hg.out, bel_drew (bel_refl _)⟩

set_option maxRecDepth 100000 in
theorem get_4_ok (s : ByteArray) (w : World) (hs : 4 < s.size) (hm : s.size ≤ maxLen) (hk : leadI (byt s 0) = 4) (hv : valI s ≤ 1099511627776) (hf : folI (valI s) = 4) :
    Calls Try.prog 24 #[.string s] w fun e w' => e = .returned (.tuple #[.int .i64 (getI s).1, .int .i64 (getI s).2.1, .int .i64 (getI s).2.2]) ∧ Below w.heap.size w w' := by
  unfold maxLen at hm
  have hem := ba_some s (by omega)
  have hg := Lib.hid (show getI s = (valI s, 5, 0) by unfold getI; rw [if_neg (by omega), if_neg (by omega), if_neg (by omega), if_neg (by omega), if_neg (by rw [hk]; omega), hk] <;> rfl)
  have H0 := Lib.hid (show leadI (s[0].toNat : Int) = 4 by rw [byt_eq]; exact hk)
  have hval : valI s = horner s (byt s 0 - 240) 4 := by unfold valI; rw [hk] <;> rfl
  have hb : 240 ≤ byt s 0 ∧ byt s 0 < 248 := by have h := byt_lo s 0; have h2 := byt_hi s 0; unfold leadI at hk; repeat' (split at hk <;> try omega)
  obtain ⟨x0, hx0, hy0⟩ : ∃ x0, bits .and .i64 (wrap64 (s[0].toNat : Int)) 7 = x0 ∧ x0 = horner s (byt s 0 - 240) 0 := ⟨_, (and_byte 3 (by omega) s[0]).trans (by rw [byt_eq]), by show byt s 0 % 2 ^ 3 = byt s 0 - 240; omega⟩
  have hz0 : 0 ≤ x0 ∧ x0 < 8 := by rw [hy0]; show 0 ≤ byt s 0 - 240 ∧ byt s 0 - 240 < 8; omega
  obtain ⟨hl0, hh0⟩ := hz0
  obtain ⟨x1, hx1, hy1⟩ : ∃ x, bits .or .i64 (x0 * 256) (wrap64 (s[1].toNat : Int)) = x ∧ x = horner s (byt s 0 - 240) 1 := ⟨_, (or_byte x0 s[1] (by omega) (by omega)).trans (by rw [byt_eq, hy0]; rfl), rfl⟩
  have hz1 : 0 ≤ x1 ∧ x1 < 2048 := by rw [hy1]; show 0 ≤ horner s (byt s 0 - 240) 0 * 256 + byt s 1 ∧ horner s (byt s 0 - 240) 0 * 256 + byt s 1 < _; rw [← hy0]; have h := byt_lo s 1; have h2 := byt_hi s 1; omega
  obtain ⟨hl1, hh1⟩ := hz1
  obtain ⟨x2, hx2, hy2⟩ : ∃ x, bits .or .i64 (x1 * 256) (wrap64 (s[2].toNat : Int)) = x ∧ x = horner s (byt s 0 - 240) 2 := ⟨_, (or_byte x1 s[2] (by omega) (by omega)).trans (by rw [byt_eq, hy1]; rfl), rfl⟩
  have hz2 : 0 ≤ x2 ∧ x2 < 524288 := by rw [hy2]; show 0 ≤ horner s (byt s 0 - 240) 1 * 256 + byt s 2 ∧ horner s (byt s 0 - 240) 1 * 256 + byt s 2 < _; rw [← hy1]; have h := byt_lo s 2; have h2 := byt_hi s 2; omega
  obtain ⟨hl2, hh2⟩ := hz2
  obtain ⟨x3, hx3, hy3⟩ : ∃ x, bits .or .i64 (x2 * 256) (wrap64 (s[3].toNat : Int)) = x ∧ x = horner s (byt s 0 - 240) 3 := ⟨_, (or_byte x2 s[3] (by omega) (by omega)).trans (by rw [byt_eq, hy2]; rfl), rfl⟩
  have hz3 : 0 ≤ x3 ∧ x3 < 134217728 := by rw [hy3]; show 0 ≤ horner s (byt s 0 - 240) 2 * 256 + byt s 3 ∧ horner s (byt s 0 - 240) 2 * 256 + byt s 3 < _; rw [← hy2]; have h := byt_lo s 3; have h2 := byt_hi s 3; omega
  obtain ⟨hl3, hh3⟩ := hz3
  obtain ⟨x4, hx4, hy4⟩ : ∃ x, bits .or .i64 (x3 * 256) (wrap64 (s[4].toNat : Int)) = x ∧ x = horner s (byt s 0 - 240) 4 := ⟨_, (or_byte x3 s[4] (by omega) (by omega)).trans (by rw [byt_eq, hy3]; rfl), rfl⟩
  have hz4 : 0 ≤ x4 ∧ x4 < 34359738368 := by rw [hy4]; show 0 ≤ horner s (byt s 0 - 240) 3 * 256 + byt s 4 ∧ horner s (byt s 0 - 240) 3 * 256 + byt s 4 < _; rw [← hy3]; have h := byt_lo s 4; have h2 := byt_hi s 4; omega
  obtain ⟨hl4, hh4⟩ := hz4
  have hxv : x4 = valI s := by rw [hval, hy4]
  rw [← hxv] at hv hf hg
  have HF := Lib.hid hf
  clear hk hval hb hxv hy0 hy1 hy2 hy3 hy4 hf
  go_enter Try.func24, Try.ntmps24
  go_wp2_with (go_at_call 34; refine (lz_byte _ 4 _ H0.out).mono ?_; rintro e w' ⟨rfl, rfl⟩)
  go_region
  go_wp2
  refine wp_loop_rounds 5 ?_
  iterate 5 (rw [rounds_succ]; go_wp2_with (go_at_call 23; refine (following_k _ 4 _ (by omega) (by omega) HF.out).mono ?_; rintro e w' ⟨rfl, rfl⟩))
  go_ret3
  exact ⟨ret3_of hg.out, bel_drew (bel_refl _)⟩

set_option maxRecDepth 100000 in
theorem get_5_big (s : ByteArray) (w : World) (hs : 5 < s.size) (hm : s.size ≤ maxLen) (hk : leadI (byt s 0) = 5) (hv : 1099511627776 < valI s) :
    Calls Try.prog 24 #[.string s] w fun e w' => e = .returned (.tuple #[.int .i64 (getI s).1, .int .i64 (getI s).2.1, .int .i64 (getI s).2.2]) ∧ Below w.heap.size w w' := by
  unfold maxLen at hm
  have hem := ba_some s (by omega)
  have hg := Lib.hid (show getI s = (0, 0, 2) by unfold getI; rw [if_neg (by omega), if_neg (by omega), if_neg (by omega), if_pos hv] <;> rfl)
  have H0 := Lib.hid (show leadI (s[0].toNat : Int) = 5 by rw [byt_eq]; exact hk)
  have hval : valI s = horner s (byt s 0 - 248) 5 := by unfold valI; rw [hk] <;> rfl
  have hb : 248 ≤ byt s 0 ∧ byt s 0 < 252 := by have h := byt_lo s 0; have h2 := byt_hi s 0; unfold leadI at hk; repeat' (split at hk <;> try omega)
  obtain ⟨x0, hx0, hy0⟩ : ∃ x0, bits .and .i64 (wrap64 (s[0].toNat : Int)) 3 = x0 ∧ x0 = horner s (byt s 0 - 248) 0 := ⟨_, (and_byte 2 (by omega) s[0]).trans (by rw [byt_eq]), by show byt s 0 % 2 ^ 2 = byt s 0 - 248; omega⟩
  have hz0 : 0 ≤ x0 ∧ x0 < 4 := by rw [hy0]; show 0 ≤ byt s 0 - 248 ∧ byt s 0 - 248 < 4; omega
  obtain ⟨hl0, hh0⟩ := hz0
  obtain ⟨x1, hx1, hy1⟩ : ∃ x, bits .or .i64 (x0 * 256) (wrap64 (s[1].toNat : Int)) = x ∧ x = horner s (byt s 0 - 248) 1 := ⟨_, (or_byte x0 s[1] (by omega) (by omega)).trans (by rw [byt_eq, hy0]; rfl), rfl⟩
  have hz1 : 0 ≤ x1 ∧ x1 < 1024 := by rw [hy1]; show 0 ≤ horner s (byt s 0 - 248) 0 * 256 + byt s 1 ∧ horner s (byt s 0 - 248) 0 * 256 + byt s 1 < _; rw [← hy0]; have h := byt_lo s 1; have h2 := byt_hi s 1; omega
  obtain ⟨hl1, hh1⟩ := hz1
  obtain ⟨x2, hx2, hy2⟩ : ∃ x, bits .or .i64 (x1 * 256) (wrap64 (s[2].toNat : Int)) = x ∧ x = horner s (byt s 0 - 248) 2 := ⟨_, (or_byte x1 s[2] (by omega) (by omega)).trans (by rw [byt_eq, hy1]; rfl), rfl⟩
  have hz2 : 0 ≤ x2 ∧ x2 < 262144 := by rw [hy2]; show 0 ≤ horner s (byt s 0 - 248) 1 * 256 + byt s 2 ∧ horner s (byt s 0 - 248) 1 * 256 + byt s 2 < _; rw [← hy1]; have h := byt_lo s 2; have h2 := byt_hi s 2; omega
  obtain ⟨hl2, hh2⟩ := hz2
  obtain ⟨x3, hx3, hy3⟩ : ∃ x, bits .or .i64 (x2 * 256) (wrap64 (s[3].toNat : Int)) = x ∧ x = horner s (byt s 0 - 248) 3 := ⟨_, (or_byte x2 s[3] (by omega) (by omega)).trans (by rw [byt_eq, hy2]; rfl), rfl⟩
  have hz3 : 0 ≤ x3 ∧ x3 < 67108864 := by rw [hy3]; show 0 ≤ horner s (byt s 0 - 248) 2 * 256 + byt s 3 ∧ horner s (byt s 0 - 248) 2 * 256 + byt s 3 < _; rw [← hy2]; have h := byt_lo s 3; have h2 := byt_hi s 3; omega
  obtain ⟨hl3, hh3⟩ := hz3
  obtain ⟨x4, hx4, hy4⟩ : ∃ x, bits .or .i64 (x3 * 256) (wrap64 (s[4].toNat : Int)) = x ∧ x = horner s (byt s 0 - 248) 4 := ⟨_, (or_byte x3 s[4] (by omega) (by omega)).trans (by rw [byt_eq, hy3]; rfl), rfl⟩
  have hz4 : 0 ≤ x4 ∧ x4 < 17179869184 := by rw [hy4]; show 0 ≤ horner s (byt s 0 - 248) 3 * 256 + byt s 4 ∧ horner s (byt s 0 - 248) 3 * 256 + byt s 4 < _; rw [← hy3]; have h := byt_lo s 4; have h2 := byt_hi s 4; omega
  obtain ⟨hl4, hh4⟩ := hz4
  obtain ⟨x5, hx5, hy5⟩ : ∃ x, bits .or .i64 (x4 * 256) (wrap64 (s[5].toNat : Int)) = x ∧ x = horner s (byt s 0 - 248) 5 := ⟨_, (or_byte x4 s[5] (by omega) (by omega)).trans (by rw [byt_eq, hy4]; rfl), rfl⟩
  have hz5 : 0 ≤ x5 ∧ x5 < 4398046511104 := by rw [hy5]; show 0 ≤ horner s (byt s 0 - 248) 4 * 256 + byt s 5 ∧ horner s (byt s 0 - 248) 4 * 256 + byt s 5 < _; rw [← hy4]; have h := byt_lo s 5; have h2 := byt_hi s 5; omega
  obtain ⟨hl5, hh5⟩ := hz5
  have hxv : x5 = valI s := by rw [hval, hy5]
  rw [← hxv] at hv
  have HF := Lib.hid hv
  clear hk hval hb hxv hy0 hy1 hy2 hy3 hy4 hy5
  go_enter Try.func24, Try.ntmps24
  go_wp2_with (go_at_call 34; refine (lz_byte _ 5 _ H0.out).mono ?_; rintro e w' ⟨rfl, rfl⟩)
  go_region
  go_wp2
  refine wp_loop_rounds 6 ?_
  iterate 6 (rw [rounds_succ]; go_wp2)
  go_ret3
  exact ⟨ret3_of hg.out, bel_drew (bel_refl _)⟩

set_option maxRecDepth 100000 in
theorem get_5_odd (s : ByteArray) (w : World) (hs : 5 < s.size) (hm : s.size ≤ maxLen) (hk : leadI (byt s 0) = 5) (hv : valI s ≤ 1099511627776) (hf : folI (valI s) ≠ 5) :
    Calls Try.prog 24 #[.string s] w fun e w' => e = .returned (.tuple #[.int .i64 (getI s).1, .int .i64 (getI s).2.1, .int .i64 (getI s).2.2]) ∧ Below w.heap.size w w' := by
  unfold maxLen at hm
  have hem := ba_some s (by omega)
  have hg := Lib.hid (show getI s = (0, 0, 2) by unfold getI; rw [if_neg (by omega), if_neg (by omega), if_neg (by omega), if_neg (by omega), if_pos (by rw [hk]; exact hf)] <;> rfl)
  have H0 := Lib.hid (show leadI (s[0].toNat : Int) = 5 by rw [byt_eq]; exact hk)
  have hval : valI s = horner s (byt s 0 - 248) 5 := by unfold valI; rw [hk] <;> rfl
  have hb : 248 ≤ byt s 0 ∧ byt s 0 < 252 := by have h := byt_lo s 0; have h2 := byt_hi s 0; unfold leadI at hk; repeat' (split at hk <;> try omega)
  obtain ⟨x0, hx0, hy0⟩ : ∃ x0, bits .and .i64 (wrap64 (s[0].toNat : Int)) 3 = x0 ∧ x0 = horner s (byt s 0 - 248) 0 := ⟨_, (and_byte 2 (by omega) s[0]).trans (by rw [byt_eq]), by show byt s 0 % 2 ^ 2 = byt s 0 - 248; omega⟩
  have hz0 : 0 ≤ x0 ∧ x0 < 4 := by rw [hy0]; show 0 ≤ byt s 0 - 248 ∧ byt s 0 - 248 < 4; omega
  obtain ⟨hl0, hh0⟩ := hz0
  obtain ⟨x1, hx1, hy1⟩ : ∃ x, bits .or .i64 (x0 * 256) (wrap64 (s[1].toNat : Int)) = x ∧ x = horner s (byt s 0 - 248) 1 := ⟨_, (or_byte x0 s[1] (by omega) (by omega)).trans (by rw [byt_eq, hy0]; rfl), rfl⟩
  have hz1 : 0 ≤ x1 ∧ x1 < 1024 := by rw [hy1]; show 0 ≤ horner s (byt s 0 - 248) 0 * 256 + byt s 1 ∧ horner s (byt s 0 - 248) 0 * 256 + byt s 1 < _; rw [← hy0]; have h := byt_lo s 1; have h2 := byt_hi s 1; omega
  obtain ⟨hl1, hh1⟩ := hz1
  obtain ⟨x2, hx2, hy2⟩ : ∃ x, bits .or .i64 (x1 * 256) (wrap64 (s[2].toNat : Int)) = x ∧ x = horner s (byt s 0 - 248) 2 := ⟨_, (or_byte x1 s[2] (by omega) (by omega)).trans (by rw [byt_eq, hy1]; rfl), rfl⟩
  have hz2 : 0 ≤ x2 ∧ x2 < 262144 := by rw [hy2]; show 0 ≤ horner s (byt s 0 - 248) 1 * 256 + byt s 2 ∧ horner s (byt s 0 - 248) 1 * 256 + byt s 2 < _; rw [← hy1]; have h := byt_lo s 2; have h2 := byt_hi s 2; omega
  obtain ⟨hl2, hh2⟩ := hz2
  obtain ⟨x3, hx3, hy3⟩ : ∃ x, bits .or .i64 (x2 * 256) (wrap64 (s[3].toNat : Int)) = x ∧ x = horner s (byt s 0 - 248) 3 := ⟨_, (or_byte x2 s[3] (by omega) (by omega)).trans (by rw [byt_eq, hy2]; rfl), rfl⟩
  have hz3 : 0 ≤ x3 ∧ x3 < 67108864 := by rw [hy3]; show 0 ≤ horner s (byt s 0 - 248) 2 * 256 + byt s 3 ∧ horner s (byt s 0 - 248) 2 * 256 + byt s 3 < _; rw [← hy2]; have h := byt_lo s 3; have h2 := byt_hi s 3; omega
  obtain ⟨hl3, hh3⟩ := hz3
  obtain ⟨x4, hx4, hy4⟩ : ∃ x, bits .or .i64 (x3 * 256) (wrap64 (s[4].toNat : Int)) = x ∧ x = horner s (byt s 0 - 248) 4 := ⟨_, (or_byte x3 s[4] (by omega) (by omega)).trans (by rw [byt_eq, hy3]; rfl), rfl⟩
  have hz4 : 0 ≤ x4 ∧ x4 < 17179869184 := by rw [hy4]; show 0 ≤ horner s (byt s 0 - 248) 3 * 256 + byt s 4 ∧ horner s (byt s 0 - 248) 3 * 256 + byt s 4 < _; rw [← hy3]; have h := byt_lo s 4; have h2 := byt_hi s 4; omega
  obtain ⟨hl4, hh4⟩ := hz4
  obtain ⟨x5, hx5, hy5⟩ : ∃ x, bits .or .i64 (x4 * 256) (wrap64 (s[5].toNat : Int)) = x ∧ x = horner s (byt s 0 - 248) 5 := ⟨_, (or_byte x4 s[5] (by omega) (by omega)).trans (by rw [byt_eq, hy4]; rfl), rfl⟩
  have hz5 : 0 ≤ x5 ∧ x5 < 4398046511104 := by rw [hy5]; show 0 ≤ horner s (byt s 0 - 248) 4 * 256 + byt s 5 ∧ horner s (byt s 0 - 248) 4 * 256 + byt s 5 < _; rw [← hy4]; have h := byt_lo s 5; have h2 := byt_hi s 5; omega
  obtain ⟨hl5, hh5⟩ := hz5
  have hxv : x5 = valI s := by rw [hval, hy5]
  rw [← hxv] at hv hf
  have HF := Lib.hid hf
  clear hk hval hb hxv hy0 hy1 hy2 hy3 hy4 hy5 hf
  obtain ⟨f, hfol, hne⟩ : ∃ f, folI x5 = f ∧ (f != 5) = true := ⟨_, rfl, by rw [bne_iff_ne]; exact HF.out⟩
  have HL := Lib.hid hfol
  clear hfol
  go_enter Try.func24, Try.ntmps24
  go_wp2_with (go_at_call 34; refine (lz_byte _ 5 _ H0.out).mono ?_; rintro e w' ⟨rfl, rfl⟩)
  go_region
  go_wp2
  refine wp_loop_rounds 6 ?_
  iterate 6 (rw [rounds_succ]; go_wp2_with (go_at_call 23; refine (following_k _ f _ (by omega) (by omega) HL.out).mono ?_; rintro e w' ⟨rfl, rfl⟩))
  go_ret3
  exact ⟨ret3_of hg.out, bel_drew (bel_refl _)⟩

set_option maxRecDepth 100000 in
theorem get_5_ok (s : ByteArray) (w : World) (hs : 5 < s.size) (hm : s.size ≤ maxLen) (hk : leadI (byt s 0) = 5) (hv : valI s ≤ 1099511627776) (hf : folI (valI s) = 5) :
    Calls Try.prog 24 #[.string s] w fun e w' => e = .returned (.tuple #[.int .i64 (getI s).1, .int .i64 (getI s).2.1, .int .i64 (getI s).2.2]) ∧ Below w.heap.size w w' := by
  unfold maxLen at hm
  have hem := ba_some s (by omega)
  have hg := Lib.hid (show getI s = (valI s, 6, 0) by unfold getI; rw [if_neg (by omega), if_neg (by omega), if_neg (by omega), if_neg (by omega), if_neg (by rw [hk]; omega), hk] <;> rfl)
  have H0 := Lib.hid (show leadI (s[0].toNat : Int) = 5 by rw [byt_eq]; exact hk)
  have hval : valI s = horner s (byt s 0 - 248) 5 := by unfold valI; rw [hk] <;> rfl
  have hb : 248 ≤ byt s 0 ∧ byt s 0 < 252 := by have h := byt_lo s 0; have h2 := byt_hi s 0; unfold leadI at hk; repeat' (split at hk <;> try omega)
  obtain ⟨x0, hx0, hy0⟩ : ∃ x0, bits .and .i64 (wrap64 (s[0].toNat : Int)) 3 = x0 ∧ x0 = horner s (byt s 0 - 248) 0 := ⟨_, (and_byte 2 (by omega) s[0]).trans (by rw [byt_eq]), by show byt s 0 % 2 ^ 2 = byt s 0 - 248; omega⟩
  have hz0 : 0 ≤ x0 ∧ x0 < 4 := by rw [hy0]; show 0 ≤ byt s 0 - 248 ∧ byt s 0 - 248 < 4; omega
  obtain ⟨hl0, hh0⟩ := hz0
  obtain ⟨x1, hx1, hy1⟩ : ∃ x, bits .or .i64 (x0 * 256) (wrap64 (s[1].toNat : Int)) = x ∧ x = horner s (byt s 0 - 248) 1 := ⟨_, (or_byte x0 s[1] (by omega) (by omega)).trans (by rw [byt_eq, hy0]; rfl), rfl⟩
  have hz1 : 0 ≤ x1 ∧ x1 < 1024 := by rw [hy1]; show 0 ≤ horner s (byt s 0 - 248) 0 * 256 + byt s 1 ∧ horner s (byt s 0 - 248) 0 * 256 + byt s 1 < _; rw [← hy0]; have h := byt_lo s 1; have h2 := byt_hi s 1; omega
  obtain ⟨hl1, hh1⟩ := hz1
  obtain ⟨x2, hx2, hy2⟩ : ∃ x, bits .or .i64 (x1 * 256) (wrap64 (s[2].toNat : Int)) = x ∧ x = horner s (byt s 0 - 248) 2 := ⟨_, (or_byte x1 s[2] (by omega) (by omega)).trans (by rw [byt_eq, hy1]; rfl), rfl⟩
  have hz2 : 0 ≤ x2 ∧ x2 < 262144 := by rw [hy2]; show 0 ≤ horner s (byt s 0 - 248) 1 * 256 + byt s 2 ∧ horner s (byt s 0 - 248) 1 * 256 + byt s 2 < _; rw [← hy1]; have h := byt_lo s 2; have h2 := byt_hi s 2; omega
  obtain ⟨hl2, hh2⟩ := hz2
  obtain ⟨x3, hx3, hy3⟩ : ∃ x, bits .or .i64 (x2 * 256) (wrap64 (s[3].toNat : Int)) = x ∧ x = horner s (byt s 0 - 248) 3 := ⟨_, (or_byte x2 s[3] (by omega) (by omega)).trans (by rw [byt_eq, hy2]; rfl), rfl⟩
  have hz3 : 0 ≤ x3 ∧ x3 < 67108864 := by rw [hy3]; show 0 ≤ horner s (byt s 0 - 248) 2 * 256 + byt s 3 ∧ horner s (byt s 0 - 248) 2 * 256 + byt s 3 < _; rw [← hy2]; have h := byt_lo s 3; have h2 := byt_hi s 3; omega
  obtain ⟨hl3, hh3⟩ := hz3
  obtain ⟨x4, hx4, hy4⟩ : ∃ x, bits .or .i64 (x3 * 256) (wrap64 (s[4].toNat : Int)) = x ∧ x = horner s (byt s 0 - 248) 4 := ⟨_, (or_byte x3 s[4] (by omega) (by omega)).trans (by rw [byt_eq, hy3]; rfl), rfl⟩
  have hz4 : 0 ≤ x4 ∧ x4 < 17179869184 := by rw [hy4]; show 0 ≤ horner s (byt s 0 - 248) 3 * 256 + byt s 4 ∧ horner s (byt s 0 - 248) 3 * 256 + byt s 4 < _; rw [← hy3]; have h := byt_lo s 4; have h2 := byt_hi s 4; omega
  obtain ⟨hl4, hh4⟩ := hz4
  obtain ⟨x5, hx5, hy5⟩ : ∃ x, bits .or .i64 (x4 * 256) (wrap64 (s[5].toNat : Int)) = x ∧ x = horner s (byt s 0 - 248) 5 := ⟨_, (or_byte x4 s[5] (by omega) (by omega)).trans (by rw [byt_eq, hy4]; rfl), rfl⟩
  have hz5 : 0 ≤ x5 ∧ x5 < 4398046511104 := by rw [hy5]; show 0 ≤ horner s (byt s 0 - 248) 4 * 256 + byt s 5 ∧ horner s (byt s 0 - 248) 4 * 256 + byt s 5 < _; rw [← hy4]; have h := byt_lo s 5; have h2 := byt_hi s 5; omega
  obtain ⟨hl5, hh5⟩ := hz5
  have hxv : x5 = valI s := by rw [hval, hy5]
  rw [← hxv] at hv hf hg
  have HF := Lib.hid hf
  clear hk hval hb hxv hy0 hy1 hy2 hy3 hy4 hy5 hf
  go_enter Try.func24, Try.ntmps24
  go_wp2_with (go_at_call 34; refine (lz_byte _ 5 _ H0.out).mono ?_; rintro e w' ⟨rfl, rfl⟩)
  go_region
  go_wp2
  refine wp_loop_rounds 6 ?_
  iterate 6 (rw [rounds_succ]; go_wp2_with (go_at_call 23; refine (following_k _ 5 _ (by omega) (by omega) HF.out).mono ?_; rintro e w' ⟨rfl, rfl⟩))
  go_ret3
  exact ⟨ret3_of hg.out, bel_drew (bel_refl _)⟩

end Go.Proofs.Ytmdhendfmhhniaa
