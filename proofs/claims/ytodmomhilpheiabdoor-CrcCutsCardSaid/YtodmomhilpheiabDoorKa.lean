/- CRC: plain facts on numbers of 32 bits: a shift at a time, four at a time by a table, eight by the document's; the register behind a text; no two registers come to one. -/
import Derived.Test.YtodmomhilpheiabDoorRows
import Derived.WalkKit
import Derived.WalkSpells
import Derived.Lib.Hide
import Derived.WalkLawsBesides
namespace Go.Proofs.YtodmomhilpheiabDoor
open Go.RowKit

abbrev B32 := BitVec 32
def polyB : B32 := 0xedb88320#32
/-- One shift of the register. -/
def s1 (r : B32) : B32 := (r >>> 1) ^^^ (if r.getLsbD 0 then polyB else 0#32)
def s1n : Nat → B32 → B32
  | 0, r => r
  | k + 1, r => s1 (s1n k r)
theorem s1n_add (a b : Nat) (r : B32) : s1n (a + b) r = s1n a (s1n b r) := by
  induction a with
  | zero => rw [Nat.zero_add]; rfl
  | succ a ih => rw [show a + 1 + b = (a + b) + 1 by omega]; show s1 _ = s1 _; rw [ih]
theorem s1_xor (a b : B32) : s1 (a ^^^ b) = s1 a ^^^ s1 b := by
  unfold s1
  rw [BitVec.getLsbD_xor]
  cases ha : a.getLsbD 0 <;> cases hb : b.getLsbD 0 <;> (apply BitVec.eq_of_getLsbD_eq; intro i hi; simp [BitVec.getLsbD_ushiftRight]; try (cases a.getLsbD (1 + i) <;> cases b.getLsbD (1 + i) <;> cases polyB.getLsbD i <;> rfl))
theorem s1n_xor (k : Nat) (a b : B32) : s1n k (a ^^^ b) = s1n k a ^^^ s1n k b := by
  induction k with
  | zero => rfl
  | succ k ih => show s1 _ = s1 _ ^^^ s1 _; rw [ih, s1_xor]
theorem s1_top (r : B32) : (s1 r).getLsbD 31 = r.getLsbD 0 := by
  unfold s1
  rw [BitVec.getLsbD_xor, BitVec.getLsbD_ushiftRight]
  cases r.getLsbD 0 <;> simp [polyB]
theorem s1_inj (a b : B32) (h : s1 a = s1 b) : a = b := by
  have h0 : a.getLsbD 0 = b.getLsbD 0 := by rw [← s1_top a, ← s1_top b, h]
  have h1 : a >>> 1 = b >>> 1 := by
    unfold s1 at h
    rw [h0] at h
    have := congrArg (· ^^^ (if b.getLsbD 0 then polyB else 0#32)) h
    simpa [BitVec.xor_assoc] using this
  apply BitVec.eq_of_getLsbD_eq
  intro i hi
  cases i with
  | zero => exact h0
  | succ i =>
    have := congrArg (fun x => x.getLsbD i) h1
    simpa [BitVec.getLsbD_ushiftRight, Nat.add_comm] using this
theorem s1n_inj (k : Nat) (a b : B32) (h : s1n k a = s1n k b) : a = b := by
  induction k with
  | zero => exact h
  | succ k ih => exact ih (s1_inj _ _ h)
/-- The register behind a byte, behind a text. -/
def reg1 (r : B32) (x : UInt8) : B32 := s1n 8 (r ^^^ BitVec.ofNat 32 x.toNat)
def regL (r : B32) (l : List UInt8) : B32 := l.foldl reg1 r
theorem reg1_inj (x : UInt8) (a b : B32) (h : reg1 a x = reg1 b x) : a = b := by
  have := s1n_inj 8 _ _ h
  have := congrArg (· ^^^ BitVec.ofNat 32 x.toNat) this
  simpa [BitVec.xor_assoc] using this
theorem regL_inj (l : List UInt8) : ∀ a b, regL a l = regL b l → a = b := by
  induction l with
  | nil => intro a b h; exact h
  | cons x l ih => intro a b h; exact reg1_inj x _ _ (ih _ _ h)
theorem regL_app (r : B32) (a b : List UInt8) : regL r (a ++ b) = regL (regL r a) b := by unfold regL; rw [List.foldl_append]
def crcL (l : List UInt8) : B32 := ~~~ (regL 0xffffffff#32 l)
/-- A number's bytes, the lowest first. -/
def leL (c : B32) : List UInt8 := [UInt8.ofNat (c.toNat % 256), UInt8.ofNat (c.toNat / 256 % 256), UInt8.ofNat (c.toNat / 65536 % 256), UInt8.ofNat (c.toNat / 16777216 % 256)]

theorem u32_wrap (a : B32) : IntKind.u32.wrap (a.toNat : Int) = (a.toNat : Int) := by
  rw [IntKind.wrap_u32]; have := a.isLt; omega
theorem ofInt_b (a : B32) : BitVec.ofInt 32 (a.toNat : Int) = a := by
  rw [BitVec.ofInt_natCast, BitVec.ofNat_toNat]; simp
theorem u32_xor (a b : B32) : bits .xor .u32 (a.toNat : Int) (b.toNat : Int) = ((a ^^^ b).toNat : Int) := by
  show IntKind.u32.wrap ((BitVec.ofInt 32 (a.toNat : Int) ^^^ BitVec.ofInt 32 (b.toNat : Int)).toNat : Int) = _
  rw [ofInt_b, ofInt_b, u32_wrap]
theorem u32_and (a b : B32) : bits .and .u32 (a.toNat : Int) (b.toNat : Int) = ((a &&& b).toNat : Int) := by
  show IntKind.u32.wrap ((BitVec.ofInt 32 (a.toNat : Int) &&& BitVec.ofInt 32 (b.toNat : Int)).toNat : Int) = _
  rw [ofInt_b, ofInt_b, u32_wrap]
theorem and15 (a : B32) : bits .and .u32 (a.toNat : Int) 15 = ((a.toNat % 16 : Nat) : Int) := by
  have h := u32_and a 15#32
  rw [show (((15#32 : B32).toNat : Nat) : Int) = 15 from rfl] at h
  rw [h, BitVec.toNat_and]
  congr 1
  exact Nat.and_two_pow_sub_one_eq_mod a.toNat 4
theorem and1 (a : B32) : bits .and .u32 (a.toNat : Int) 1 = ((a.toNat % 2 : Nat) : Int) := by
  have h := u32_and a 1#32
  rw [show (((1#32 : B32).toNat : Nat) : Int) = 1 from rfl] at h
  rw [h, BitVec.toNat_and]
  congr 1
  exact Nat.and_two_pow_sub_one_eq_mod a.toNat 1
theorem shr4 (a : B32) : Int.ediv (a.toNat : Int) 16 = ((a >>> 4).toNat : Int) := by
  show (a.toNat : Int) / (16 : Int) = _
  rw [BitVec.toNat_ushiftRight, Nat.shiftRight_eq_div_pow]; omega
theorem shr1 (a : B32) : Int.ediv (a.toNat : Int) 2 = ((a >>> 1).toNat : Int) := by
  show (a.toNat : Int) / (2 : Int) = _
  rw [BitVec.toNat_ushiftRight, Nat.shiftRight_eq_div_pow]; omega
theorem not_b (a : B32) : (4294967295 : Int) - (a.toNat : Int) = ((~~~ a).toNat : Int) := by
  rw [BitVec.toNat_not]; have := a.isLt; omega
theorem xor_max (a : B32) : bits .xor .u32 IntKind.u32.max (a.toNat : Int) = ((~~~ a).toNat : Int) := by
  have h := u32_xor 0xffffffff#32 a
  rw [show (((0xffffffff#32 : B32).toNat : Nat) : Int) = IntKind.u32.max from rfl] at h
  rw [h, ← BitVec.allOnes_xor]
  rfl

/-- Four shifts by a table. -/
def tabV (i : Nat) : B32 := s1n 4 (BitVec.ofNat 32 i)
def remF (i : Nat) : Int := ((tabV i).toNat : Int)
theorem s1_even (x : B32) (h : x.getLsbD 0 = false) : s1 x = x >>> 1 := by unfold s1; rw [h]; simp
theorem split16 (r : B32) : r = ((r >>> 4) <<< 4) ^^^ BitVec.ofNat 32 (r.toNat % 16) := by
  apply BitVec.eq_of_toNat_eq
  have h : r.toNat < 4294967296 := r.isLt
  have e : ((r >>> 4) <<< 4) ^^^ BitVec.ofNat 32 (r.toNat % 16) = ((r >>> 4) <<< 4) ||| BitVec.ofNat 32 (r.toNat % 16) := by
    apply BitVec.eq_of_getLsbD_eq
    intro i hi
    simp only [BitVec.getLsbD_xor, BitVec.getLsbD_or, BitVec.getLsbD_shiftLeft, BitVec.getLsbD_ofNat]
    by_cases h4 : i < 4
    · simp [h4]
    · have : (r.toNat % 16).testBit i = false := Nat.testBit_lt_two_pow (Nat.lt_of_lt_of_le (Nat.mod_lt _ (by decide)) (show 2 ^ 4 ≤ 2 ^ i from Nat.pow_le_pow_right (by decide) (by omega)))
      simp [this]
  rw [e, BitVec.toNat_or, BitVec.toNat_shiftLeft, BitVec.toNat_ushiftRight, BitVec.toNat_ofNat, Nat.shiftRight_eq_div_pow, Nat.shiftLeft_eq]
  rw [Nat.mod_eq_of_lt (show r.toNat / 2 ^ 4 * 2 ^ 4 < 2 ^ 32 by omega), Nat.mod_eq_of_lt (show r.toNat % 16 < 2 ^ 32 by omega)]
  rw [← Nat.shiftLeft_eq, ← Nat.shiftLeft_add_eq_or_of_lt (show r.toNat % 16 < 2 ^ 4 by omega), Nat.shiftLeft_eq]
  omega
theorem s1n_shl (q : B32) (h : q.toNat < 268435456) : s1n 4 (q <<< 4) = q := by
  have e : ∀ k, k ≤ 4 → s1n k (q <<< 4) = q <<< (4 - k) := by
    intro k
    induction k with
    | zero => intro _; rfl
    | succ k ih =>
      intro hk
      show s1 (s1n k (q <<< 4)) = _
      rw [ih (by omega), s1_even _ (by rw [BitVec.getLsbD_shiftLeft]; simp; omega)]
      apply BitVec.eq_of_toNat_eq
      rw [BitVec.toNat_ushiftRight, BitVec.toNat_shiftLeft, BitVec.toNat_shiftLeft, Nat.shiftRight_eq_div_pow, Nat.shiftLeft_eq, Nat.shiftLeft_eq]
      rcases (show k = 0 ∨ k = 1 ∨ k = 2 ∨ k = 3 by omega) with rfl | rfl | rfl | rfl <;> simp <;> omega
  have := e 4 (by omega)
  rw [this]; apply BitVec.eq_of_toNat_eq; simp
theorem tab_s1 (r : B32) : (r >>> 4) ^^^ tabV (r.toNat % 16) = s1n 4 r := by
  conv => rhs; rw [split16 r]
  rw [s1n_xor, s1n_shl _ (by rw [BitVec.toNat_ushiftRight, Nat.shiftRight_eq_div_pow]; have := r.isLt; omega)]
  rfl
/-- One step by the table, on numbers. -/
theorem tab_step (r : B32) : bits .xor .u32 ((r.toNat : Int) / 16) (remF (r.toNat % 16)) = ((s1n 4 r).toNat : Int) := by
  unfold remF; rw [show (r.toNat : Int) / (16 : Int) = ((r >>> 4).toNat : Int) from shr4 r, u32_xor, tab_s1]
theorem tab_twice (r : B32) : s1n 4 (s1n 4 r) = s1n 8 r := (s1n_add 4 4 r).symm

/-- The document's way: bit by bit. -/
def refN (r b : B32) : Nat → B32
  | 0 => r
  | k + 1 => (refN r b k >>> 1) ^^^ (if (refN r b k ^^^ (b >>> k)).getLsbD 0 then polyB else 0#32)
theorem refN_s1 (r b : B32) (k : Nat) : refN r b k ^^^ (b >>> k) = s1n k (r ^^^ b) := by
  induction k with
  | zero => show r ^^^ b >>> 0 = r ^^^ b; simp
  | succ k ih =>
    show (refN r b k >>> 1 ^^^ _) ^^^ (b >>> (k + 1)) = s1 (s1n k (r ^^^ b))
    rw [← ih]
    unfold s1
    rw [show (refN r b k ^^^ b >>> k) >>> 1 = refN r b k >>> 1 ^^^ b >>> (k + 1) by rw [BitVec.ushiftRight_xor_distrib, BitVec.shiftRight_add]]
    rw [BitVec.xor_assoc, BitVec.xor_comm _ (b >>> (k + 1)), ← BitVec.xor_assoc]
theorem refN_8 (r : B32) (x : UInt8) : refN r (BitVec.ofNat 32 x.toNat) 8 = reg1 r x := by
  have h := refN_s1 r (BitVec.ofNat 32 x.toNat) 8
  have e : BitVec.ofNat 32 x.toNat >>> 8 = 0#32 := by
    apply BitVec.eq_of_toNat_eq
    have : x.toNat < 256 := x.toNat_lt
    rw [BitVec.toNat_ushiftRight, Nat.shiftRight_eq_div_pow, BitVec.toNat_ofNat]
    show _ = 0
    omega
  rw [e] at h
  simpa [reg1] using h
end Go.Proofs.YtodmomhilpheiabDoor
