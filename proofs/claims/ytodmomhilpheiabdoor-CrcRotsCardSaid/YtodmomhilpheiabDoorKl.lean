/- Plain facts: a frame of which up to four bytes in a row were changed is none. -/
import Derived.Test.YtodmomhilpheiabDoorKi
namespace Go.Proofs.YtodmomhilpheiabDoor
open Go.RowKit

/-- Bytes as a number, the lowest first. -/
def wordL : List UInt8 → B32
  | [] => 0#32
  | x :: l => BitVec.ofNat 32 x.toNat ^^^ (wordL l <<< 8)
theorem s1n_shl8 (q : B32) (h : q.toNat < 16777216) : s1n 8 (q <<< 8) = q := by
  have e : ∀ k, k ≤ 8 → s1n k (q <<< 8) = q <<< (8 - k) := by
    intro k
    induction k with
    | zero => intro _; rfl
    | succ k ih =>
      intro hk
      show s1 (s1n k (q <<< 8)) = _
      rw [ih (by omega), s1_even _ (by rw [BitVec.getLsbD_shiftLeft]; simp; omega)]
      apply BitVec.eq_of_toNat_eq
      rw [BitVec.toNat_ushiftRight, BitVec.toNat_shiftLeft, BitVec.toNat_shiftLeft, Nat.shiftRight_eq_div_pow, Nat.shiftLeft_eq, Nat.shiftLeft_eq]
      rcases (show k = 0 ∨ k = 1 ∨ k = 2 ∨ k = 3 ∨ k = 4 ∨ k = 5 ∨ k = 6 ∨ k = 7 by omega) with rfl | rfl | rfl | rfl | rfl | rfl | rfl | rfl <;> simp <;> omega
  have := e 8 (by omega)
  rw [this]; apply BitVec.eq_of_toNat_eq; simp
theorem byte_lt (x : UInt8) : (BitVec.ofNat 32 x.toNat).toNat < 256 := by
  have := x.toNat_lt; rw [BitVec.toNat_ofNat]; omega
theorem xor_low (x : UInt8) (q : B32) (h : q.toNat < 16777216) : (BitVec.ofNat 32 x.toNat ^^^ (q <<< 8)).toNat = q.toNat * 256 + x.toNat := by
  have hx := x.toNat_lt
  have e : BitVec.ofNat 32 x.toNat ^^^ (q <<< 8) = (q <<< 8) ||| BitVec.ofNat 32 x.toNat := by
    apply BitVec.eq_of_getLsbD_eq
    intro i hi
    simp only [BitVec.getLsbD_xor, BitVec.getLsbD_or, BitVec.getLsbD_shiftLeft, BitVec.getLsbD_ofNat]
    by_cases h4 : i < 8
    · simp [h4]
    · have : x.toNat.testBit i = false := Nat.testBit_lt_two_pow (Nat.lt_of_lt_of_le hx (show 2 ^ 8 ≤ 2 ^ i from Nat.pow_le_pow_right (by decide) (by omega)))
      simp [this]
  rw [e, BitVec.toNat_or, BitVec.toNat_shiftLeft, BitVec.toNat_ofNat, Nat.shiftLeft_eq]
  rw [Nat.mod_eq_of_lt (show q.toNat * 2 ^ 8 < 2 ^ 32 by omega), Nat.mod_eq_of_lt (show x.toNat < 2 ^ 32 by omega), ← Nat.shiftLeft_eq, ← Nat.shiftLeft_add_eq_or_of_lt (show x.toNat < 2 ^ 8 by omega), Nat.shiftLeft_eq]
theorem wordL_lt : ∀ (l : List UInt8), l.length ≤ 3 → (wordL l).toNat < 256 ^ l.length
  | [], _ => by decide
  | x :: l, h => by
    have hl : l.length ≤ 2 := by simp at h; omega
    have ih := wordL_lt l (by omega)
    have hp : 256 ^ l.length ≤ 256 ^ 2 := Nat.pow_le_pow_right (by decide) hl
    have hx := x.toNat_lt
    unfold wordL
    rw [xor_low x _ (by omega), List.length_cons, Nat.pow_succ]
    omega
theorem wordL_small (l : List UInt8) (h : l.length ≤ 3) : (wordL l).toNat < 16777216 := by
  have h1 := wordL_lt l h
  have hp : 256 ^ l.length ≤ 256 ^ 3 := Nat.pow_le_pow_right (by decide) h
  omega
theorem reg_word : ∀ (l : List UInt8) (r : B32), l.length ≤ 4 → regL r l = s1n (8 * l.length) (r ^^^ wordL l)
  | [], r, _ => by unfold wordL; simp [regL, s1n]
  | x :: l, r, h => by
    have hl : l.length ≤ 3 := by simp at h; omega
    show regL (reg1 r x) l = _
    rw [reg_word l _ (by omega), List.length_cons, show 8 * (l.length + 1) = 8 * l.length + 8 by omega, s1n_add]
    rw [show wordL (x :: l) = BitVec.ofNat 32 x.toNat ^^^ (wordL l <<< 8) from rfl]
    unfold reg1
    rw [← BitVec.xor_assoc, s1n_xor 8 (r ^^^ BitVec.ofNat 32 x.toNat), s1n_shl8 _ (wordL_small l hl)]
theorem wordL_inj : ∀ (a b : List UInt8), a.length = b.length → a.length ≤ 4 → wordL a = wordL b → a = b
  | [], [], _, _, _ => rfl
  | x :: a, y :: b, hl, h4, h => by
    have ha : a.length ≤ 3 := by simp at h4; omega
    have hb : a.length = b.length := by simpa using hl
    have e := congrArg BitVec.toNat h
    unfold wordL at e
    rw [xor_low x _ (wordL_small a ha), xor_low y _ (wordL_small b (by omega))] at e
    have hx := x.toNat_lt
    have hy := y.toNat_lt
    have e1 : x.toNat = y.toNat := by omega
    have e2 : (wordL a).toNat = (wordL b).toNat := by omega
    rw [wordL_inj a b hb (by omega) (BitVec.eq_of_toNat_eq e2), UInt8.toNat_inj.1 e1]
theorem word_sum (c : B32) : wordL (leB c).data.toList = c := by
  have hc := c.isLt
  have hl : (leB c).data.toList = [UInt8.ofNat (c.toNat % 256), UInt8.ofNat (c.toNat / 256 % 256), UInt8.ofNat (c.toNat / 65536 % 256), UInt8.ofNat (c.toNat / 16777216 % 256)] := by
    unfold leB leI strOfNums
    simp only [List.map_cons, List.map_nil]
    refine List.cons_eq_cons.2 ⟨by congr 1, List.cons_eq_cons.2 ⟨by congr 1, List.cons_eq_cons.2 ⟨by congr 1, List.cons_eq_cons.2 ⟨by congr 1, rfl⟩⟩⟩⟩
  rw [hl]
  apply BitVec.eq_of_toNat_eq
  have h0 : (wordL [UInt8.ofNat (c.toNat / 16777216 % 256)]).toNat = c.toNat / 16777216 % 256 := by
    unfold wordL
    rw [xor_low _ _ (by decide)]
    unfold wordL
    rw [UInt8.toNat_ofNat']
    show 0 * 256 + _ = _
    omega
  have h1 : (wordL [UInt8.ofNat (c.toNat / 65536 % 256), UInt8.ofNat (c.toNat / 16777216 % 256)]).toNat = c.toNat / 16777216 % 256 * 256 + c.toNat / 65536 % 256 := by
    rw [show wordL [UInt8.ofNat (c.toNat / 65536 % 256), UInt8.ofNat (c.toNat / 16777216 % 256)] = BitVec.ofNat 32 (UInt8.ofNat (c.toNat / 65536 % 256)).toNat ^^^ (wordL [UInt8.ofNat (c.toNat / 16777216 % 256)] <<< 8) from rfl]
    rw [xor_low _ _ (by omega), h0, UInt8.toNat_ofNat']; omega
  have h2 : (wordL [UInt8.ofNat (c.toNat / 256 % 256), UInt8.ofNat (c.toNat / 65536 % 256), UInt8.ofNat (c.toNat / 16777216 % 256)]).toNat = (c.toNat / 16777216 % 256 * 256 + c.toNat / 65536 % 256) * 256 + c.toNat / 256 % 256 := by
    rw [show wordL [UInt8.ofNat (c.toNat / 256 % 256), UInt8.ofNat (c.toNat / 65536 % 256), UInt8.ofNat (c.toNat / 16777216 % 256)] = BitVec.ofNat 32 (UInt8.ofNat (c.toNat / 256 % 256)).toNat ^^^ (wordL [UInt8.ofNat (c.toNat / 65536 % 256), UInt8.ofNat (c.toNat / 16777216 % 256)] <<< 8) from rfl]
    rw [xor_low _ _ (by omega), h1, UInt8.toNat_ofNat']; omega
  rw [show wordL [UInt8.ofNat (c.toNat % 256), UInt8.ofNat (c.toNat / 256 % 256), UInt8.ofNat (c.toNat / 65536 % 256), UInt8.ofNat (c.toNat / 16777216 % 256)] = BitVec.ofNat 32 (UInt8.ofNat (c.toNat % 256)).toNat ^^^ (wordL [UInt8.ofNat (c.toNat / 256 % 256), UInt8.ofNat (c.toNat / 65536 % 256), UInt8.ofNat (c.toNat / 16777216 % 256)] <<< 8) from rfl]
  rw [xor_low _ _ (by omega), h2, UInt8.toNat_ofNat']
  omega

def ones : B32 := 0xffffffff#32
/-- A checksum is right just where the register behind it all is the one and only. -/
theorem sum_iff (h c : List UInt8) (hc : c.length = 4) : c = sumL h ↔ regL ones (h ++ c) = s1n 32 ones := by
  rw [regL_app, reg_word c _ (by omega), hc]
  constructor
  · rintro rfl
    unfold sumL
    rw [word_sum]
    unfold crcL ones
    congr 1
    rw [← BitVec.allOnes_xor]
    rw [BitVec.xor_comm (BitVec.allOnes 32), ← BitVec.xor_assoc, BitVec.xor_self, BitVec.zero_xor]
    rfl
  · intro e
    have e1 := s1n_inj _ _ _ e
    refine wordL_inj _ _ (by rw [hc, sumL_len]) (by omega) ?_
    unfold sumL
    rw [word_sum]
    unfold crcL
    have e2 := congrArg (regL ones h ^^^ ·) e1
    rw [← BitVec.xor_assoc, BitVec.xor_self, BitVec.zero_xor] at e2
    rw [e2, ← BitVec.allOnes_xor, BitVec.xor_comm]
    rfl
theorem burst (h c h' c' A W W' Z : List UInt8) (hc : c = sumL h) (hl : c'.length = 4) (e : h ++ c = A ++ W ++ Z) (e' : h' ++ c' = A ++ W' ++ Z) (hw : W.length = W'.length) (h4 : W.length ≤ 4) (hs : c' = sumL h') : W = W' := by
  have e1 := (sum_iff h c (by rw [hc, sumL_len])).1 hc
  have e2 := (sum_iff h' c' hl).1 hs
  rw [e, regL_app, regL_app] at e1
  rw [e', regL_app, regL_app] at e2
  have e3 := regL_inj Z _ _ (e1.trans e2.symm)
  rw [reg_word W _ h4, reg_word W' _ (by omega), hw] at e3
  have e4 := s1n_inj _ _ _ e3
  have e5 := congrArg (regL ones A ^^^ ·) e4
  rw [← BitVec.xor_assoc, ← BitVec.xor_assoc, BitVec.xor_self, BitVec.zero_xor, BitVec.zero_xor] at e5
  exact wordL_inj _ _ hw h4 e5

theorem nextF_sum (k : UInt8) (body : ByteArray) (c : List UInt8) (hb : body.size ≤ 262144) (hc : c.length = 4) : nextF (mkB (headL k body ++ c)) = if c = sumL (headL k body) then ((k.toNat : Int), body, ((headL k body).length : Int) + 4, 0) else (0, ⟨#[]⟩, 0, 5) := by
  have hl : headL k body ++ c = k :: (encL body ++ c) := rfl
  have hlen : (headL k body).length = (encL body).length + 1 := by unfold headL; simp
  have hz : (mkB (headL k body ++ c)).size = (encL body).length + 5 := by rw [mkB_size, List.length_append, hlen]; omega
  have h1 : (mkB (headL k body ++ c)).extract 1 (mkB (headL k body ++ c)).size = mkB (encL body ++ c) := by
    rw [mkB_drop _ 1 (by rw [hl]; simp), hl]; rfl
  have hn := next_of_enc body c hb
  unfold nextF
  rw [h1, hn]
  dsimp only
  rw [if_neg (by rw [hz]; omega), if_neg (by decide), if_neg (by rw [hz]; omega)]
  have e1 : (1 + ((encL body).length : Int)).toNat = (encL body).length + 1 := by omega
  have e2 : (1 + ((encL body).length : Int) + 4).toNat = (encL body).length + 1 + 4 := by omega
  have hh : (headL k body ++ c).take ((encL body).length + 1) = headL k body := by
    rw [← hlen, List.take_left]
  have hd : (headL k body ++ c).drop ((encL body).length + 1) = c := by
    rw [← hlen, List.drop_left]
  rw [beq_lists, ext_list, mkB_data, e1, e2, hh, hd, Nat.add_sub_cancel_left, List.take_of_length_le (by omega)]
  have hb0 : byt (mkB (headL k body ++ c)) 0 = (k.toNat : Int) := by rw [hl]; exact mkB_at0 _ _
  rw [hb0]
  show (if decide (c = sumL (headL k body)) = true then ((k.toNat : Int), body, ((encL body).length : Int) + 5, (0 : Int)) else (0, ⟨#[]⟩, 0, 5)) = _
  by_cases h : c = sumL (headL k body)
  · have e3 : ((headL k body).length : Int) + 4 = ((encL body).length : Int) + 5 := by rw [hlen]; omega
    rw [if_pos h, if_pos (decide_eq_true h), e3]
  · rw [if_neg h, if_neg (by rw [decide_eq_false h]; decide)]
end Go.Proofs.YtodmomhilpheiabDoor
