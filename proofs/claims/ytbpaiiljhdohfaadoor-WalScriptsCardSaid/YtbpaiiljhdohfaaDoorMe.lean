/- CRC: plain facts on numbers of 32 bits: a shift at a time, four at a time by a table, eight by the document's; the register behind a text; no two registers come to one. Contracts: crc.Sum, and the document's: the register behind every text, turned over. Contracts of the functions of package nums and of the document's answer for it: following, Put (both), for every int from 0 to 2 to the power of 40; no condition besides. Contracts of the document's answer for package nums: Put, for every int; no condition besides. Contracts of the library's Builder (its check for copies, WriteString) at a Builder that the call itself has made, up to 2 to the power of 47 bytes. The contract of nums.Join: of a slice of texts of the call's own, together at most 2 to the power of 40 bytes with their lengths: each behind its length. The contract of crc.littleEndian: a number's four bytes, the lowest first. Contracts of the library's Builder at a Builder that the call itself has made, read by String() or not: its check for copies, WriteByte, WriteString. -/
import Derived.Test.YtbpaiiljhdohfaaDoorRows
import Derived.WalkKit
import Derived.WalkSpells
import Derived.Lib.Hide
import Derived.WalkLawsBesides
import Derived.Test.YtbpaiiljhdohfaaDoorS
import Derived.Lib.Builder
import Derived.Lib.AppendStr
import Derived.Lib.FrozenHead
namespace Go.Proofs.YtbpaiiljhdohfaaDoor
open Go.RowKit

abbrev B32 := BitVec 32
def polyB : B32 := 0xedb88320#32
/-- One shift of the register. -/
def s1 (r : B32) : B32 := (r >>> 1) ^^^ (if r.getLsbD 0 then polyB else 0#32)
def s1n : Nat → B32 → B32
  | 0, r => r
  | k + 1, r => s1 (s1n k r)
theorem s1n_add (a b : Nat) (r : B32) : s1n (a + b) r = s1n a (s1n b r) := by
  induction a with
  | zero => rw [Nat.zero_add]; rfl
  | succ a ih => rw [show a + 1 + b = (a + b) + 1 by omega]; show s1 _ = s1 _; rw [ih]
theorem s1_xor (a b : B32) : s1 (a ^^^ b) = s1 a ^^^ s1 b := by
  unfold s1
  rw [BitVec.getLsbD_xor]
  cases ha : a.getLsbD 0 <;> cases hb : b.getLsbD 0 <;> (apply BitVec.eq_of_getLsbD_eq; intro i hi; simp [BitVec.getLsbD_ushiftRight]; try (cases a.getLsbD (1 + i) <;> cases b.getLsbD (1 + i) <;> cases polyB.getLsbD i <;> rfl))
theorem s1n_xor (k : Nat) (a b : B32) : s1n k (a ^^^ b) = s1n k a ^^^ s1n k b := by
  induction k with
  | zero => rfl
  | succ k ih => show s1 _ = s1 _ ^^^ s1 _; rw [ih, s1_xor]
theorem s1_top (r : B32) : (s1 r).getLsbD 31 = r.getLsbD 0 := by
  unfold s1
  rw [BitVec.getLsbD_xor, BitVec.getLsbD_ushiftRight]
  cases r.getLsbD 0 <;> simp [polyB]
theorem s1_inj (a b : B32) (h : s1 a = s1 b) : a = b := by
  have h0 : a.getLsbD 0 = b.getLsbD 0 := by rw [← s1_top a, ← s1_top b, h]
  have h1 : a >>> 1 = b >>> 1 := by
    unfold s1 at h
    rw [h0] at h
    have := congrArg (· ^^^ (if b.getLsbD 0 then polyB else 0#32)) h
    simpa [BitVec.xor_assoc] using this
  apply BitVec.eq_of_getLsbD_eq
  intro i hi
  cases i with
  | zero => exact h0
  | succ i =>
    have := congrArg (fun x => x.getLsbD i) h1
    simpa [BitVec.getLsbD_ushiftRight, Nat.add_comm] using this
theorem s1n_inj (k : Nat) (a b : B32) (h : s1n k a = s1n k b) : a = b := by
  induction k with
  | zero => exact h
  | succ k ih => exact ih (s1_inj _ _ h)
/-- The register behind a byte, behind a text. -/
def reg1 (r : B32) (x : UInt8) : B32 := s1n 8 (r ^^^ BitVec.ofNat 32 x.toNat)
def regL (r : B32) (l : List UInt8) : B32 := l.foldl reg1 r
theorem reg1_inj (x : UInt8) (a b : B32) (h : reg1 a x = reg1 b x) : a = b := by
  have := s1n_inj 8 _ _ h
  have := congrArg (· ^^^ BitVec.ofNat 32 x.toNat) this
  simpa [BitVec.xor_assoc] using this
theorem regL_inj (l : List UInt8) : ∀ a b, regL a l = regL b l → a = b := by
  induction l with
  | nil => intro a b h; exact h
  | cons x l ih => intro a b h; exact reg1_inj x _ _ (ih _ _ h)
theorem regL_app (r : B32) (a b : List UInt8) : regL r (a ++ b) = regL (regL r a) b := by unfold regL; rw [List.foldl_append]
def crcL (l : List UInt8) : B32 := ~~~ (regL 0xffffffff#32 l)
/-- A number's bytes, the lowest first. -/
def leL (c : B32) : List UInt8 := [UInt8.ofNat (c.toNat % 256), UInt8.ofNat (c.toNat / 256 % 256), UInt8.ofNat (c.toNat / 65536 % 256), UInt8.ofNat (c.toNat / 16777216 % 256)]

theorem u32_wrap (a : B32) : IntKind.u32.wrap (a.toNat : Int) = (a.toNat : Int) := by
  rw [IntKind.wrap_u32]; have := a.isLt; omega
theorem ofInt_b (a : B32) : BitVec.ofInt 32 (a.toNat : Int) = a := by
  rw [BitVec.ofInt_natCast, BitVec.ofNat_toNat]; simp
theorem u32_xor (a b : B32) : bits .xor .u32 (a.toNat : Int) (b.toNat : Int) = ((a ^^^ b).toNat : Int) := by
  show IntKind.u32.wrap ((BitVec.ofInt 32 (a.toNat : Int) ^^^ BitVec.ofInt 32 (b.toNat : Int)).toNat : Int) = _
  rw [ofInt_b, ofInt_b, u32_wrap]
theorem u32_and (a b : B32) : bits .and .u32 (a.toNat : Int) (b.toNat : Int) = ((a &&& b).toNat : Int) := by
  show IntKind.u32.wrap ((BitVec.ofInt 32 (a.toNat : Int) &&& BitVec.ofInt 32 (b.toNat : Int)).toNat : Int) = _
  rw [ofInt_b, ofInt_b, u32_wrap]
theorem and15 (a : B32) : bits .and .u32 (a.toNat : Int) 15 = ((a.toNat % 16 : Nat) : Int) := by
  have h := u32_and a 15#32
  rw [show (((15#32 : B32).toNat : Nat) : Int) = 15 from rfl] at h
  rw [h, BitVec.toNat_and]
  congr 1
  exact Nat.and_two_pow_sub_one_eq_mod a.toNat 4
theorem and1 (a : B32) : bits .and .u32 (a.toNat : Int) 1 = ((a.toNat % 2 : Nat) : Int) := by
  have h := u32_and a 1#32
  rw [show (((1#32 : B32).toNat : Nat) : Int) = 1 from rfl] at h
  rw [h, BitVec.toNat_and]
  congr 1
  exact Nat.and_two_pow_sub_one_eq_mod a.toNat 1
theorem shr4 (a : B32) : Int.ediv (a.toNat : Int) 16 = ((a >>> 4).toNat : Int) := by
  show (a.toNat : Int) / (16 : Int) = _
  rw [BitVec.toNat_ushiftRight, Nat.shiftRight_eq_div_pow]; omega
theorem shr1 (a : B32) : Int.ediv (a.toNat : Int) 2 = ((a >>> 1).toNat : Int) := by
  show (a.toNat : Int) / (2 : Int) = _
  rw [BitVec.toNat_ushiftRight, Nat.shiftRight_eq_div_pow]; omega
theorem not_b (a : B32) : (4294967295 : Int) - (a.toNat : Int) = ((~~~ a).toNat : Int) := by
  rw [BitVec.toNat_not]; have := a.isLt; omega
theorem xor_max (a : B32) : bits .xor .u32 IntKind.u32.max (a.toNat : Int) = ((~~~ a).toNat : Int) := by
  have h := u32_xor 0xffffffff#32 a
  rw [show (((0xffffffff#32 : B32).toNat : Nat) : Int) = IntKind.u32.max from rfl] at h
  rw [h, ← BitVec.allOnes_xor]
  rfl

/-- Four shifts by a table. -/
def tabV (i : Nat) : B32 := s1n 4 (BitVec.ofNat 32 i)
def remF (i : Nat) : Int := ((tabV i).toNat : Int)
theorem s1_even (x : B32) (h : x.getLsbD 0 = false) : s1 x = x >>> 1 := by unfold s1; rw [h]; simp
theorem split16 (r : B32) : r = ((r >>> 4) <<< 4) ^^^ BitVec.ofNat 32 (r.toNat % 16) := by
  apply BitVec.eq_of_toNat_eq
  have h : r.toNat < 4294967296 := r.isLt
  have e : ((r >>> 4) <<< 4) ^^^ BitVec.ofNat 32 (r.toNat % 16) = ((r >>> 4) <<< 4) ||| BitVec.ofNat 32 (r.toNat % 16) := by
    apply BitVec.eq_of_getLsbD_eq
    intro i hi
    simp only [BitVec.getLsbD_xor, BitVec.getLsbD_or, BitVec.getLsbD_shiftLeft, BitVec.getLsbD_ofNat]
    by_cases h4 : i < 4
    · simp [h4]
    · have : (r.toNat % 16).testBit i = false := Nat.testBit_lt_two_pow (Nat.lt_of_lt_of_le (Nat.mod_lt _ (by decide)) (show 2 ^ 4 ≤ 2 ^ i from Nat.pow_le_pow_right (by decide) (by omega)))
      simp [this]
  rw [e, BitVec.toNat_or, BitVec.toNat_shiftLeft, BitVec.toNat_ushiftRight, BitVec.toNat_ofNat, Nat.shiftRight_eq_div_pow, Nat.shiftLeft_eq]
  rw [Nat.mod_eq_of_lt (show r.toNat / 2 ^ 4 * 2 ^ 4 < 2 ^ 32 by omega), Nat.mod_eq_of_lt (show r.toNat % 16 < 2 ^ 32 by omega)]
  rw [← Nat.shiftLeft_eq, ← Nat.shiftLeft_add_eq_or_of_lt (show r.toNat % 16 < 2 ^ 4 by omega), Nat.shiftLeft_eq]
  omega
theorem s1n_shl (q : B32) (h : q.toNat < 268435456) : s1n 4 (q <<< 4) = q := by
  have e : ∀ k, k ≤ 4 → s1n k (q <<< 4) = q <<< (4 - k) := by
    intro k
    induction k with
    | zero => intro _; rfl
    | succ k ih =>
      intro hk
      show s1 (s1n k (q <<< 4)) = _
      rw [ih (by omega), s1_even _ (by rw [BitVec.getLsbD_shiftLeft]; simp; omega)]
      apply BitVec.eq_of_toNat_eq
      rw [BitVec.toNat_ushiftRight, BitVec.toNat_shiftLeft, BitVec.toNat_shiftLeft, Nat.shiftRight_eq_div_pow, Nat.shiftLeft_eq, Nat.shiftLeft_eq]
      rcases (show k = 0 ∨ k = 1 ∨ k = 2 ∨ k = 3 by omega) with rfl | rfl | rfl | rfl <;> simp <;> omega
  have := e 4 (by omega)
  rw [this]; apply BitVec.eq_of_toNat_eq; simp
theorem tab_s1 (r : B32) : (r >>> 4) ^^^ tabV (r.toNat % 16) = s1n 4 r := by
  conv => rhs; rw [split16 r]
  rw [s1n_xor, s1n_shl _ (by rw [BitVec.toNat_ushiftRight, Nat.shiftRight_eq_div_pow]; have := r.isLt; omega)]
  rfl
/-- One step by the table, on numbers. -/
theorem tab_step (r : B32) : bits .xor .u32 ((r.toNat : Int) / 16) (remF (r.toNat % 16)) = ((s1n 4 r).toNat : Int) := by
  unfold remF; rw [show (r.toNat : Int) / (16 : Int) = ((r >>> 4).toNat : Int) from shr4 r, u32_xor, tab_s1]
theorem tab_twice (r : B32) : s1n 4 (s1n 4 r) = s1n 8 r := (s1n_add 4 4 r).symm

/-- The document's way: bit by bit. -/
def refN (r b : B32) : Nat → B32
  | 0 => r
  | k + 1 => (refN r b k >>> 1) ^^^ (if (refN r b k ^^^ (b >>> k)).getLsbD 0 then polyB else 0#32)
theorem refN_s1 (r b : B32) (k : Nat) : refN r b k ^^^ (b >>> k) = s1n k (r ^^^ b) := by
  induction k with
  | zero => show r ^^^ b >>> 0 = r ^^^ b; simp
  | succ k ih =>
    show (refN r b k >>> 1 ^^^ _) ^^^ (b >>> (k + 1)) = s1 (s1n k (r ^^^ b))
    rw [← ih]
    unfold s1
    rw [show (refN r b k ^^^ b >>> k) >>> 1 = refN r b k >>> 1 ^^^ b >>> (k + 1) by rw [BitVec.ushiftRight_xor_distrib, BitVec.shiftRight_add]]
    rw [BitVec.xor_assoc, BitVec.xor_comm _ (b >>> (k + 1)), ← BitVec.xor_assoc]
theorem refN_8 (r : B32) (x : UInt8) : refN r (BitVec.ofNat 32 x.toNat) 8 = reg1 r x := by
  have h := refN_s1 r (BitVec.ofNat 32 x.toNat) 8
  have e : BitVec.ofNat 32 x.toNat >>> 8 = 0#32 := by
    apply BitVec.eq_of_toNat_eq
    have : x.toNat < 256 := x.toNat_lt
    rw [BitVec.toNat_ushiftRight, Nat.shiftRight_eq_div_pow, BitVec.toNat_ofNat]
    show _ = 0
    omega
  rw [e] at h
  simpa [reg1] using h
end Go.Proofs.YtbpaiiljhdohfaaDoor
namespace Go.Proofs.YtbpaiiljhdohfaaDoor
open Go.RowKit

def CrcVars (w : World) : Prop := (∀ i, i < 16 → w.cell? ⟨0, i, none⟩ = some (.int .u32 (remF i))) ∧ 0 < w.heap.size
theorem CrcVars.below {w w' : World} (h : CrcVars w) (hb : Below w.heap.size w w') : CrcVars w' :=
  ⟨fun i hi => (hb.cell (p := ⟨0, i, none⟩) (by show 0 < _; exact h.2)).trans (h.1 i hi), by have := hb.size; have := h.2; omega⟩

theorem sum_round (R : B32) (x : UInt8) : ∃ (x1 x2 : Int) (j1 j2 : Nat), bits .xor .u32 (R.toNat : Int) (x.toNat : Int) = x1 ∧ 0 ≤ x1 ∧ x1 < 4294967296 ∧ bits .and .u32 x1 15 = (j1 : Int) ∧ j1 < 16 ∧ bits .xor .u32 (x1 / 16) (remF j1) = x2 ∧
    0 ≤ x2 ∧ x2 < 4294967296 ∧ bits .and .u32 x2 15 = (j2 : Int) ∧ j2 < 16 ∧ bits .xor .u32 (x2 / 16) (remF j2) = ((reg1 R x).toNat : Int) := by
  have hx : ((BitVec.ofNat 32 x.toNat).toNat : Int) = (x.toNat : Int) := by
    have : x.toNat < 256 := x.toNat_lt
    rw [BitVec.toNat_ofNat]; omega
  have h1 := u32_xor R (BitVec.ofNat 32 x.toNat)
  rw [hx] at h1
  have h2 := tab_step (R ^^^ BitVec.ofNat 32 x.toNat)
  have h3 := tab_step (s1n 4 (R ^^^ BitVec.ofNat 32 x.toNat))
  rw [tab_twice] at h3
  have b1 := (R ^^^ BitVec.ofNat 32 x.toNat).isLt
  have b2 := (s1n 4 (R ^^^ BitVec.ofNat 32 x.toNat)).isLt
  exact ⟨_, _, _, _, h1, by omega, by omega, and15 _, Nat.mod_lt _ (by decide), h2, by omega, by omega, and15 _, Nat.mod_lt _ (by decide), h3⟩

theorem take_snoc (s : ByteArray) (k : Nat) (h : k < s.size) : s.data.toList.take (k + 1) = s.data.toList.take k ++ [s[k]] := by
  rw [List.take_succ_eq_append_getElem (by simpa using h)]; rfl
theorem idx_u8 (s : ByteArray) (k : Nat) (h : k < s.size) : ∀ W, (Instr.index 9 (.string s) (.int .i64 k)).run Tryd.prog W = .ok (.int .u8 (s[k].toNat : Int)) W := by
  intro W
  rw [run_index_string W _ _ _ _ Tryd.underlying9, dif_pos ⟨by omega, by omega⟩]
  rfl

def RegSlot (s : ByteArray) (r i : Value) : Prop := ∃ k : Nat, k ≤ s.size ∧ i = .int .i64 k ∧ r = .int .u32 ((regL 0xffffffff#32 (s.data.toList.take k)).toNat : Int)
theorem reg_step (s : ByteArray) (k : Nat) (h : k < s.size) : regL 0xffffffff#32 (s.data.toList.take (k + 1)) = reg1 (regL 0xffffffff#32 (s.data.toList.take k)) s[k] := by
  rw [take_snoc s k h, regL_app]; rfl
theorem ret_u32 {a b : Int} (h : a = b) : Ending.returned (.int .u32 a) = .returned (.int .u32 b) := by rw [h]

set_option maxHeartbeats 1000000 in
set_option maxRecDepth 100000 in
theorem Sum_any (s : ByteArray) (w : World) (hs : s.size ≤ maxLen) (hV : CrcVars w) :
    Calls Tryd.prog 65 #[.string s] w fun e w' => e = .returned (.int .u32 ((crcL s.data.toList).toNat : Int)) ∧ w = w' := by
  unfold maxLen at hs
  have HV := Lib.hid hV
  clear hV
  go_enter Tryd.func65, Tryd.ntmps65
  go_wp2_with fail
  go_loop [3, 7] (fun r i => RegSlot s r i) (fun _ i => s.size - (intOf i).toNat)
  case atStart => exact ⟨0, Nat.zero_le _, rfl, rfl⟩
  case round =>
    obtain ⟨k, hk, rfl, rfl⟩ := hrel
    by_cases hlt : k < s.size
    · have hix := idx_u8 s k hlt
      have hst := reg_step s k hlt
      obtain ⟨R, hR⟩ : ∃ R, regL 0xffffffff#32 (s.data.toList.take k) = R := ⟨_, rfl⟩
      rw [hR] at hst ⊢
      obtain ⟨x, hx⟩ : ∃ x, s[k] = x := ⟨_, rfl⟩
      rw [hx] at hst hix
      obtain ⟨x1, x2, j1, j2, e1, a1, b1, e2, l1, e3, a2, b2, e4, l2, e5⟩ := sum_round R x
      have c1 := HV.out.1 j1 l1
      have c2 := HV.out.1 j2 l2
      have hx0 : 0 ≤ (x.toNat : Int) := by omega
      have hx1 : (x.toNat : Int) < 256 := by have := x.toNat_lt; omega
      have hr0 : 0 ≤ (R.toNat : Int) := by omega
      have hr1 : (R.toNat : Int) < 4294967296 := by have := R.isLt; omega
      have hj1 : (j1 : Int) < 16 := by omega
      have hj2 : (j2 : Int) < 16 := by omega
      have HST := Lib.hid hst
      clear hst hR hx l1 l2
      obtain ⟨c, hc⟩ : ∃ c : Int, (x.toNat : Int) = c := ⟨_, rfl⟩
      obtain ⟨r, hr⟩ : ∃ r : Int, (R.toNat : Int) = r := ⟨_, rfl⟩
      obtain ⟨r3, hr3⟩ : ∃ r : Int, ((reg1 R x).toNat : Int) = r := ⟨_, rfl⟩
      rw [hc] at hix hx0 hx1 e1
      rw [hr] at hr0 hr1 e1 ⊢
      rw [hr3] at e5
      have hend : Hid (RegSlot s (.int .u32 r3) (.int .i64 ((k : Int) + 1))) := Lib.hid ⟨k + 1, by omega, by rw [Int.natCast_succ], by rw [HST.out, hr3]⟩
      obtain ⟨t1, ht1⟩ : ∃ t, remF j1 = t := ⟨_, rfl⟩
      obtain ⟨t2, ht2⟩ : ∃ t, remF j2 = t := ⟨_, rfl⟩
      rw [ht1] at c1 e3
      rw [ht2] at c2 e5
      clear hc hr hr3 ht1 ht2
      go_wp2_with fail
      exact ⟨hend.out, by simp [intOf]; omega⟩
    · obtain rfl : k = s.size := by omega
      have hfull : s.data.toList.take s.size = s.data.toList := List.take_of_length_le (by simp)
      rw [hfull]
      go_wp2_with fail
      go_ret
      exact ⟨ret_u32 (xor_max _), rfl⟩

/-- The document's register: bit by bit. -/
def BitSlot (s : ByteArray) (k : Nat) (R : B32) (c : B32) (r b : Value) : Prop := ∃ j : Nat, j ≤ 8 ∧ b = .int .i64 j ∧ r = .int .u32 ((refN R c j).toNat : Int)
theorem bit_round (R c : B32) (j : Nat) : ∃ x1 : Int, bits .xor .u32 ((refN R c j).toNat : Int) ((c.toNat : Int) / 2 ^ j) = x1 ∧ 0 ≤ x1 ∧ x1 < 4294967296 ∧
    ((bits .and .u32 x1 1 = 1 ∧ bits .xor .u32 (((refN R c j).toNat : Int) / 2) 3988292384 = ((refN R c (j + 1)).toNat : Int)) ∨ (bits .and .u32 x1 1 = 0 ∧ ((refN R c j).toNat : Int) / 2 = ((refN R c (j + 1)).toNat : Int))) := by
  have hc : (c.toNat : Int) / 2 ^ j = ((c >>> j).toNat : Int) := by
    rw [BitVec.toNat_ushiftRight, Nat.shiftRight_eq_div_pow]; simp
  rw [hc, u32_xor]
  obtain ⟨X, hX⟩ : ∃ X, refN R c j ^^^ c >>> j = X := ⟨_, rfl⟩
  have hb := X.isLt
  have hs : ((refN R c j).toNat : Int) / (2 : Int) = ((refN R c j >>> 1).toNat : Int) := shr1 _
  rw [hX, hs]
  refine ⟨_, rfl, by omega, by omega, ?_⟩
  rw [and1]
  have hl : X.getLsbD 0 = decide (X.toNat % 2 = 1) := by
    rw [BitVec.getLsbD]; simp [Nat.testBit_zero]
  have hn : refN R c (j + 1) = (refN R c j >>> 1) ^^^ (if X.getLsbD 0 then polyB else 0#32) := by rw [← hX]; rfl
  rcases (show X.toNat % 2 = 1 ∨ X.toNat % 2 = 0 by omega) with h | h
  · refine Or.inl ⟨by rw [h]; rfl, ?_⟩
    rw [hn, hl, decide_eq_true h, if_pos rfl, ← u32_xor]
    rfl
  · refine Or.inr ⟨by rw [h]; rfl, ?_⟩
    rw [hn, hl, decide_eq_false (by omega), if_neg (by decide)]
    simp

set_option maxHeartbeats 1000000 in
set_option maxRecDepth 100000 in
theorem RSum_any (s : ByteArray) (w : World) (hs : s.size ≤ maxLen) :
    Calls Tryd.prog 49 #[.string s] w fun e w' => e = .returned (.int .u32 ((crcL s.data.toList).toNat : Int)) ∧ w = w' := by
  unfold maxLen at hs
  go_enter Tryd.func49, Tryd.ntmps49
  go_wp2_with fail
  go_loop [3, 4] (fun r i => RegSlot s r i) (fun _ i => s.size - (intOf i).toNat)
  case atStart => exact ⟨0, Nat.zero_le _, rfl, rfl⟩
  case round =>
    obtain ⟨k, hk, rfl, rfl⟩ := hrel
    by_cases hlt : k < s.size
    · have hix := idx_u8 s k hlt
      have hst := reg_step s k hlt
      obtain ⟨R, hR⟩ : ∃ R, regL 0xffffffff#32 (s.data.toList.take k) = R := ⟨_, rfl⟩
      rw [hR] at hst ⊢
      obtain ⟨x, hx⟩ : ∃ x, s[k] = x := ⟨_, rfl⟩
      rw [hx] at hst hix
      have hx0 : 0 ≤ (x.toNat : Int) := by omega
      have hx1 : (x.toNat : Int) < 256 := by have := x.toNat_lt; omega
      obtain ⟨c, hc⟩ : ∃ c : B32, BitVec.ofNat 32 x.toNat = c := ⟨_, rfl⟩
      have hcx : (x.toNat : Int) = (c.toNat : Int) := by
        rw [← hc]; have := x.toNat_lt; rw [BitVec.toNat_ofNat]; omega
      have h8 := refN_8 R x
      rw [hc] at h8
      have HST := Lib.hid (hst.trans h8.symm)
      rw [hcx] at hix hx0 hx1
      clear hst hR hx hc hcx h8
      have R0 : Hid (((R.toNat : Nat) : Int) = ((refN R c 0).toNat : Int)) := Lib.hid rfl
      have hk63 : (k : Int) < 9223372036854775807 := by omega
      go_wp2_with fail
      go_loop [3, 5] (fun r b => BitSlot s k R c r b) (fun _ b => 8 - (intOf b).toNat)
      case atStart => exact ⟨0, Nat.zero_le _, rfl, by rw [R0.out]⟩
      case round =>
        obtain ⟨j, hj, rfl, rfl⟩ := hrel
        by_cases hj8 : j < 8
        · obtain ⟨x1, e1, a1, b1, h⟩ := bit_round R c j
          obtain ⟨q, hq⟩ : ∃ q : Int, ((refN R c j).toNat : Int) = q := ⟨_, rfl⟩
          have q0 : 0 ≤ q := by omega
          have q1 : q < 4294967296 := by have := (refN R c j).isLt; omega
          obtain ⟨y, hy⟩ : ∃ y : Int, ((refN R c (j + 1)).toNat : Int) = y := ⟨_, rfl⟩
          rw [hq] at e1 h ⊢
          rw [hy] at h
          obtain ⟨cc, hcc⟩ : ∃ y : Int, (c.toNat : Int) = y := ⟨_, rfl⟩
          rw [hcc] at hix hx0 hx1 e1
          have hj8' : (j : Int) < 8 := by omega
          have hend : Hid (BitSlot s k R c (.int .u32 y) (.int .i64 ((j : Int) + 1))) := Lib.hid ⟨j + 1, by omega, by rw [Int.natCast_succ], by rw [hy]⟩
          clear hq hy hcc
          clear HST R0 hk63 hlt hk
          rcases h with ⟨ha, hb⟩ | ⟨ha, hb⟩
          · go_wp2_with fail
            exact ⟨hend.out, by simp [intOf]; omega⟩
          · have hz : ((0 : Int) == 1) = false := rfl
            rw [← hb] at hend
            clear hb
            go_wp2_with fail
            exact ⟨hend.out, by simp [intOf]; omega⟩
        · obtain rfl : j = 8 := by omega
          go_wp2_with fail
          exact ⟨⟨k + 1, by omega, by rw [Int.natCast_succ], by rw [HST.out]⟩, by simp [intOf]; omega⟩
    · obtain rfl : k = s.size := by omega
      have hfull : s.data.toList.take s.size = s.data.toList := List.take_of_length_le (by simp)
      rw [hfull]
      have hnot := not_b (regL 0xffffffff#32 s.data.toList)
      obtain ⟨r, hr⟩ : ∃ r : Int, ((regL 0xffffffff#32 s.data.toList).toNat : Int) = r := ⟨_, rfl⟩
      have r0 : 0 ≤ r := by omega
      have r1 : r < 4294967296 := by have := (regL 0xffffffff#32 s.data.toList).isLt; omega
      rw [hr] at hnot ⊢
      have HN := Lib.hid hnot
      clear hnot hr hfull
      go_wp2_with fail
      go_ret
      exact ⟨ret_u32 HN.out, rfl⟩
end Go.Proofs.YtbpaiiljhdohfaaDoor
namespace Go.Proofs.YtbpaiiljhdohfaaDoor
open Go.RowKit

theorem ret_int {k : IntKind} {a b : Int} (h : a = b) : Ending.returned (.int k a) = .returned (.int k b) := by rw [h]
theorem ret_str {xs ys : List Int} (h : xs = ys) : Ending.returned (.string (strOfNums xs)) = .returned (.string (strOfNums ys)) := by rw [h]

def folI (n : Int) : Int := if n < 128 then 0 else if n < 16384 then 1 else if n < 2097152 then 2 else if n < 268435456 then 3 else if n < 34359738368 then 4 else 5

def powI (k : Int) : Int := if k ≤ 0 then 1 else if k = 1 then 128 else if k = 2 then 16384 else if k = 3 then 2097152 else if k = 4 then 268435456 else 34359738368

/-- The bytes of a number. -/
def putI (n : Int) : List Int :=
  if n < 128 then [n] else if n < 16384 then [128 + n / 256, n % 256] else if n < 2097152 then [192 + n / 65536, n / 256 % 256, n % 256] else if n < 268435456 then [224 + n / 16777216, n / 65536 % 256, n / 256 % 256, n % 256] else if n < 34359738368 then [240 + n / 4294967296, n / 16777216 % 256, n / 65536 % 256, n / 256 % 256, n % 256] else [248 + n / 1099511627776, n / 4294967296 % 256, n / 16777216 % 256, n / 65536 % 256, n / 256 % 256, n % 256]


/-- string(b) of a slice that fills the newest block. -/
theorem conv_gen (w : World) (xs : List Int) (n : Nat) (hn : xs.length = n) (C : Array Value) (hC : C = (xs.map (Value.int .u8)).toArray) :
    ∀ W, W = w.alloc (.cells C 5) → (convert 100 9 (.slice (some ⟨w.heap.size, 0, none⟩) n n)).run Tryd.prog W = .ok (.string (strOfNums xs)) W := by
  intro W hW
  subst hW hC
  refine run_convert_bytes_arg (P := Tryd.prog) _ 100 5 Tryd.underlying100 Tryd.underlying5 w.heap.size 0 n n xs hn (fun i hi => ?_) 9 Tryd.underlying9
  have e : (w.alloc (.cells (xs.map (Value.int .u8)).toArray 5)).heap[w.heap.size]? = some (.cells (xs.map (Value.int .u8)).toArray 5 (0, 0)) := by
    show (w.heap.push _)[w.heap.size]? = _
    simp
  have hi' : i < xs.length := by omega
  unfold World.cell?
  simp only [e]
  simp [List.getD, List.getElem?_eq_getElem hi']

theorem conv_drew (w : World) (xs : List Int) (n : Nat) (hn : xs.length = n) (C : Array Value) (hC : C = (xs.map (Value.int .u8)).toArray) :
    (convert 100 9 (.slice (some ⟨w.heap.size, 0, none⟩) n n)).run Tryd.prog (w.alloc (.cells C 5)).drew = .ok (.string (strOfNums xs)) (w.alloc (.cells C 5)).drew := by
  subst hC
  refine run_convert_bytes_arg (P := Tryd.prog) _ 100 5 Tryd.underlying100 Tryd.underlying5 w.heap.size 0 n n xs hn (fun i hi => ?_) 9 Tryd.underlying9
  have e : (w.alloc (.cells (xs.map (Value.int .u8)).toArray 5)).drew.heap[w.heap.size]? = some (.cells (xs.map (Value.int .u8)).toArray 5 (0, 0)) := by
    show (w.heap.push _)[w.heap.size]? = _
    simp
  have hi' : i < xs.length := by omega
  unfold World.cell?
  simp only [e]
  simp [List.getD, List.getElem?_eq_getElem hi']

theorem bel_new (w : World) (o : Obj) : Below w.heap.size w (w.alloc o).drew := ((Below.refl _ _).alloc (Nat.le_refl _) _).drew

theorem orMark0 : ∀ x : Fin 128, bits .or .u8 (x.val : Int) (bits .xor .u8 IntKind.u8.max 255) = 0 + (x.val : Int) := by decide +kernel
theorem orMark0_of (x : Int) (h0 : 0 ≤ x) (h1 : x < 128) : bits .or .u8 x (bits .xor .u8 IntKind.u8.max 255) = 0 + x := by
  have h := orMark0 ⟨x.toNat, by omega⟩
  simpa [Int.toNat_of_nonneg h0] using h

theorem orMark1 : ∀ x : Fin 64, bits .or .u8 (x.val : Int) (bits .xor .u8 IntKind.u8.max 127) = 128 + (x.val : Int) := by decide +kernel
theorem orMark1_of (x : Int) (h0 : 0 ≤ x) (h1 : x < 64) : bits .or .u8 x (bits .xor .u8 IntKind.u8.max 127) = 128 + x := by
  have h := orMark1 ⟨x.toNat, by omega⟩
  simpa [Int.toNat_of_nonneg h0] using h

theorem orMark2 : ∀ x : Fin 32, bits .or .u8 (x.val : Int) (bits .xor .u8 IntKind.u8.max 63) = 192 + (x.val : Int) := by decide +kernel
theorem orMark2_of (x : Int) (h0 : 0 ≤ x) (h1 : x < 32) : bits .or .u8 x (bits .xor .u8 IntKind.u8.max 63) = 192 + x := by
  have h := orMark2 ⟨x.toNat, by omega⟩
  simpa [Int.toNat_of_nonneg h0] using h

theorem orMark3 : ∀ x : Fin 16, bits .or .u8 (x.val : Int) (bits .xor .u8 IntKind.u8.max 31) = 224 + (x.val : Int) := by decide +kernel
theorem orMark3_of (x : Int) (h0 : 0 ≤ x) (h1 : x < 16) : bits .or .u8 x (bits .xor .u8 IntKind.u8.max 31) = 224 + x := by
  have h := orMark3 ⟨x.toNat, by omega⟩
  simpa [Int.toNat_of_nonneg h0] using h

theorem orMark4 : ∀ x : Fin 8, bits .or .u8 (x.val : Int) (bits .xor .u8 IntKind.u8.max 15) = 240 + (x.val : Int) := by decide +kernel
theorem orMark4_of (x : Int) (h0 : 0 ≤ x) (h1 : x < 8) : bits .or .u8 x (bits .xor .u8 IntKind.u8.max 15) = 240 + x := by
  have h := orMark4 ⟨x.toNat, by omega⟩
  simpa [Int.toNat_of_nonneg h0] using h

theorem orMark5 : ∀ x : Fin 2, bits .or .u8 (x.val : Int) (bits .xor .u8 IntKind.u8.max 7) = 248 + (x.val : Int) := by decide +kernel
theorem orMark5_of (x : Int) (h0 : 0 ≤ x) (h1 : x < 2) : bits .or .u8 x (bits .xor .u8 IntKind.u8.max 7) = 248 + x := by
  have h := orMark5 ⟨x.toNat, by omega⟩
  simpa [Int.toNat_of_nonneg h0] using h

end Go.Proofs.YtbpaiiljhdohfaaDoor
namespace Go.Proofs.YtbpaiiljhdohfaaDoor
open Go.RowKit

theorem conv_one (W : World) (b : Nat) (x : Int) (hb : b = W.heap.size) : (convert 100 9 (.slice (some ⟨b, 0, none⟩) 1 1)).run Tryd.prog (W.alloc (.cells #[.int .u8 x] 5)) = .ok (.string (strOfNums [x])) (W.alloc (.cells #[.int .u8 x] 5)) := by
  subst hb; exact conv_gen W [x] 1 rfl _ rfl _ rfl

theorem ret_bs {a b : ByteArray} (h : a = b) : Ending.returned (.string a) = .returned (.string b) := by rw [h]
theorem str_nil (xs : List Int) : strOfNums xs ++ ({ data := #[] } : ByteArray) = strOfNums xs := by
  apply ByteArray.ext; simp
theorem str_app (xs ys : List Int) : strOfNums xs ++ strOfNums ys = strOfNums (xs ++ ys) := by
  apply ByteArray.ext; simp [strOfNums]
theorem cons_eq {a b : Int} {xs ys : List Int} (h : a = b) (h' : xs = ys) : a :: xs = b :: ys := by rw [h, h']
theorem bel_refl (w : World) : Below w.heap.size w w := Below.refl _ _
theorem bel_alloc {w w' : World} (h : Below w.heap.size w w') (o : Obj) : Below w.heap.size w (w'.alloc o) := h.alloc h.size o
theorem bel_drew {w w' : World} (h : Below w.heap.size w w') : Below w.heap.size w w'.drew := h.drew
theorem bel_trans {w w1 w2 : World} (h : Below w.heap.size w w1) (k : Below w1.heap.size w1 w2) : Below w.heap.size w w2 := h.trans (k.mono h.size)


end Go.Proofs.YtbpaiiljhdohfaaDoor
namespace Go.Proofs.YtbpaiiljhdohfaaDoor
open Go.RowKit

theorem bldSize : (Tryd.prog.info? 116).map (fun i => i.size) = some 2 := by kernel_rfl
theorem bldInfo : ∃ j, Tryd.prog.info? 116 = some j ∧ j.size = 2 := by
  have h := bldSize
  cases hi : Tryd.prog.info? 116 with
  | none => rw [hi] at h; cases h
  | some j => rw [hi] at h; exact ⟨j, rfl, by simpa using h⟩
theorem bldLies : liesAt Tryd.prog Tryd.prog.depth 116 (2 / Tryd.prog.cellsOf 116) 0 116 1 = true := by kernel_rfl

set_option maxRecDepth 100000 in
theorem check_used (b : Nat) (w : World) (h0 : w.cell? ⟨b, 0, none⟩ = some (.pointer (some ⟨b, 0, none⟩))) :
    Calls Tryd.prog 69 #[.pointer (some ⟨b, 0, none⟩)] w fun e w' => e = .returned (.tuple #[]) ∧ w = w' := by
  obtain ⟨j, hj, _⟩ := bldInfo
  go_enter Tryd.func69, Tryd.ntmps69
  go_wp2
  rw [Lib.run_neq_ptr_same w _ Tryd.underlying114 hj]
  go_wp2
  go_end0
  exact ⟨rfl, rfl⟩

set_option maxRecDepth 100000 in
theorem check_fresh (b : Nat) (w : World) (h0 : w.cell? ⟨b, 0, none⟩ = some (.pointer none)) (hsh : w.shape? b = some (116, 2)) (hfz : w.frozen? ⟨b, 0, none⟩ = false) :
    Calls Tryd.prog 69 #[.pointer (some ⟨b, 0, none⟩)] w fun e w' => e = .returned (.tuple #[]) ∧ w' = w.setCell ⟨b, 0, none⟩ (.pointer (some ⟨b, 0, none⟩)) := by
  obtain ⟨j, hj, hjs⟩ := bldInfo
  go_enter Tryd.func69, Tryd.ntmps69
  go_wp2
  rw [Lib.run_to_unsafe w ⟨b, 0, none⟩ Tryd.underlying114 Tryd.underlying131 hj (by rw [hjs]; decide) hsh (Nat.zero_lt_succ 1)]
  simp only [Result.andThen]
  rw [Oper.upon_value]
  go_wp2
  rw [run_callFunc_extern Tryd.func71 (by kernel_rfl) (by kernel_rfl) (by kernel_rfl) (e := Extern.AbiNoEscape.same) (by kernel_rfl)]
  rw [Lib.run_noEscape]
  simp only [Result.andThen]
  rw [Oper.upon_value]
  go_wp2
  rw [Lib.run_from_unsafe w ⟨b, 0, none⟩ Tryd.underlying131 Tryd.underlying114 hj hsh bldLies]
  simp only [Result.andThen]
  rw [Oper.upon_value]
  go_wp2
  go_end0
  exact ⟨rfl, rfl⟩

/-- The check for copies: behind it the Builder is used; its bytes are as they were. -/
theorem check_any (B b : Nat) (bs : List Value) (w : World) (h : Lib.IsBuilder 116 5 B b bs w) :
    Calls Tryd.prog 69 #[.pointer (some ⟨b, 0, none⟩)] w fun e w' => e = .returned (.tuple #[]) ∧ Lib.BuilderAt 116 5 B b (.pointer (some ⟨b, 0, none⟩)) bs w' ∧ Below B w w' := by
  rcases h with h | h
  · refine (check_fresh b w h.cell0 h.shape h.frozen0).mono ?_
    rintro e w' ⟨rfl, rfl⟩
    exact ⟨rfl, h.used _, (Below.refl B w).setCell (p := ⟨b, 0, none⟩) h.1 _⟩
  · refine (check_used b w h.cell0).mono ?_
    rintro e w' ⟨rfl, rfl⟩
    exact ⟨rfl, h, Below.refl B _⟩

theorem byteInfo : (Tryd.prog.info? 5).map (fun i => (i.zero, i.size, i.bytes)) = some (some (.int .u8 0), 1, 1) := by kernel_rfl

set_option maxHeartbeats 1000000 in
set_option maxRecDepth 100000 in
/-- WriteString at a Builder that the call has made. -/
theorem write_any (B b : Nat) (bs : List Value) (s : ByteArray) (w : World) (h : Lib.IsBuilder 116 5 B b bs w) (hlen : bs.length + s.size ≤ 140737488355328) (hBw : B ≤ w.heap.size) :
    Calls Tryd.prog 59 #[.pointer (some ⟨b, 0, none⟩), .string s] w fun e w' => e = .returned (.tuple #[.int .i64 s.size, .nilIface]) ∧ Lib.IsBuilder 116 5 B b (bs ++ Lib.strCells s) w' ∧ Below B w w' := by
  obtain ⟨i0, hi, hz0, hz1, hz2⟩ := info_parts byteInfo
  go_enter Tryd.func59, Tryd.ntmps59
  go_wp2_with (go_at_call 69; refine (check_any B b bs _ h).mono ?_)
  rintro e w1 ⟨rfl, ⟨hB, v, hbk, hown, hne⟩, hb1⟩
  have c0 : w1.cell? ⟨b, 0, none⟩ = some (.pointer (some ⟨b, 0, none⟩)) := by rw [Lib.cell_of_heap hbk]; rfl
  have c1 : w1.cell? ⟨b, 1, none⟩ = some v := by rw [Lib.cell_of_heap hbk]; rfl
  go_wp2_with (at_builtin; refine Lib.wpList_append_own_string _ rfl _ _ 100 9 rfl B 5 i0 Tryd.underlying100 Tryd.underlying9 hi hz0 hz1 hz2 _ _ _ rfl hown s rfl ?c3 ?c4 ?c5 ?_)
  case c3 => unfold maxLen; omega
  case c4 => omega
  case c5 => have := hb1.size; omega
  intro v' w2 hown' hgrow _
  have hlt : b < w1.heap.size := by
    rcases Nat.lt_or_ge b w1.heap.size with h' | h'
    · exact h'
    · simp [Array.getElem?_eq_none h'] at hbk
  have hb2 : w2.heap[b]? = some (.cells #[.pointer (some ⟨b, 0, none⟩), v] 116 (0, 0)) := by
    rw [hgrow.block b hlt (fun e => hne e.symm)]
    exact hbk
  have d0 : w2.cell? ⟨b, 0, none⟩ = some (.pointer (some ⟨b, 0, none⟩)) := by rw [Lib.cell_of_heap hb2]; rfl
  have d1 : w2.cell? ⟨b, 1, none⟩ = some v := by rw [Lib.cell_of_heap hb2]; rfl
  have f1 : w2.frozen? ⟨b, 1, none⟩ = false := Lib.frozen_of_heap hb2 1
  obtain ⟨ao, n', cap, rfl⟩ : ∃ ao n' cap, v' = .slice ao n' cap := by
    rcases hown'.2 with ⟨hv, _⟩ | ⟨g, cap, cur, hv, _⟩
    · exact ⟨_, _, _, hv⟩
    · exact ⟨_, _, _, hv⟩
  go_wp2
  go_ret2
  refine ⟨rfl, .inr ?_, ?_⟩
  · exact Lib.BuilderAt.put (T := 116) (e := 5) hB hb2 (bs' := bs ++ Lib.strCells s) (by simpa [Lib.strCells_length] using hown') (by decide)
  · exact (hb1.grown hgrow (by have := hb1.size; omega) (fun k hk => (hown.lt k hk).1)).setCell (p := ⟨b, 1, none⟩) hB _
end Go.Proofs.YtbpaiiljhdohfaaDoor
namespace Go.Proofs.YtbpaiiljhdohfaaDoor
open Go.RowKit

/-- A text behind its length, as bytes. -/
def encL (s : ByteArray) : List UInt8 := (strOfNums (putI s.size)).data.toList ++ s.data.toList
def joinL : List ByteArray → List UInt8
  | [] => []
  | s :: r => encL s ++ joinL r

theorem joinL_app (a b : List ByteArray) : joinL (a ++ b) = joinL a ++ joinL b := by
  induction a with
  | nil => rfl
  | cons s r ih => rw [List.cons_append, joinL, joinL, ih, List.append_assoc]
theorem joinL_take (ss : List ByteArray) (k : Nat) (h : k < ss.length) : joinL (ss.take (k + 1)) = joinL (ss.take k) ++ encL ss[k] := by
  rw [List.take_succ_eq_append_getElem h, joinL_app]
  simp [joinL]
theorem joinL_mem (ss : List ByteArray) (k : Nat) (h : k < ss.length) : (joinL (ss.take k)).length + (encL ss[k]).length ≤ (joinL ss).length := by
  have e : joinL ss = joinL (ss.take (k + 1)) ++ joinL (ss.drop (k + 1)) := by rw [← joinL_app, List.take_append_drop]
  rw [e, joinL_take ss k h]; simp
theorem encL_length (s : ByteArray) : (encL s).length = (putI s.size).length + s.size := by
  simp [encL, strOfNums]

theorem byteCells_app (a b : List UInt8) : Lib.byteCells (a ++ b) = Lib.byteCells a ++ Lib.byteCells b := by simp [Lib.byteCells]
theorem strCells_eq (s : ByteArray) : Lib.strCells s = Lib.byteCells s.data.toList := rfl

theorem lt_of_some {w : World} {g : Nat} {o : Obj} (h : w.heap[g]? = some o) : g < w.heap.size := by
  rcases Nat.lt_or_ge g w.heap.size with h' | h'
  · exact h'
  · simp [Array.getElem?_eq_none h'] at h
theorem own_below {w w' : World} {B : Nat} {e : TypeId} {size : Nat} {v : Value} {n : Nat} {xs : List Value} (h : w.ownsRow B e size v n xs) (hb : Below w.heap.size w w') : w'.ownsRow B e size v n xs := by
  refine ⟨h.1, ?_⟩
  rcases h.2 with hv | ⟨g, cap, cur, hv, hB, hg, r⟩
  · exact .inl hv
  · exact .inr ⟨g, cap, cur, hv, hB, (hb.block g (lt_of_some hg)).trans hg, r⟩
theorem bldAt_below {w w' : World} {T e : TypeId} {B b : Nat} {p : Value} {bs : List Value} (h : Lib.BuilderAt T e B b p bs w) (hb : Below w.heap.size w w') : Lib.BuilderAt T e B b p bs w' := by
  obtain ⟨hB, v, hk, hown, hne⟩ := h
  exact ⟨hB, v, (hb.block b (lt_of_some hk)).trans hk, own_below hown hb, hne⟩
theorem bld_below {w w' : World} {T e : TypeId} {B b : Nat} {bs : List Value} (h : Lib.IsBuilder T e B b bs w) (hb : Below w.heap.size w w') : Lib.IsBuilder T e B b bs w' :=
  h.elim (fun h => .inl (bldAt_below h hb)) (fun h => .inr (bldAt_below h hb))

/-- The relation of the loop. -/
def JoinRel (B : Nat) (ss : List ByteArray) (w : World) (k : Nat) (wr : World) : Prop :=
  Lib.IsBuilder 116 5 B B (Lib.byteCells (joinL (ss.take k))) wr ∧ Below B w wr ∧ B ≤ wr.heap.size

theorem join_step {B : Nat} {ss : List ByteArray} {w wr : World} {k : Nat} (h : JoinRel B ss w k wr) (hk : k < ss.length) {w1 w2 w3 : World}
    (h1 : Below wr.heap.size wr w1) (_h2 : Lib.IsBuilder 116 5 B B (Lib.byteCells (joinL (ss.take k)) ++ Lib.strCells (strOfNums (putI ss[k].size))) w2) (hb2 : Below B w1 w2)
    (h3 : Lib.IsBuilder 116 5 B B ((Lib.byteCells (joinL (ss.take k)) ++ Lib.strCells (strOfNums (putI ss[k].size))) ++ Lib.strCells ss[k]) w3) (hb3 : Below B w2 w3) : JoinRel B ss w (k + 1) w3 := by
  refine ⟨?_, ?_, ?_⟩
  · rw [joinL_take ss k hk, encL, byteCells_app, byteCells_app, ← List.append_assoc]; exact h3
  · exact ((h.2.1.trans (h1.mono h.2.2)).trans hb2).trans hb3
  · have := h1.size; have := hb2.size; have := hb3.size; have := h.2.2; omega

end Go.Proofs.YtbpaiiljhdohfaaDoor
namespace Go.Proofs.YtbpaiiljhdohfaaDoor
open Go.RowKit

/-- A number's bytes, as numbers. -/
def leI (c : Int) : List Int := [c % 256, c / 256 % 256, c / 65536 % 256, c / 16777216 % 256]
def leB (c : B32) : ByteArray := strOfNums (leI c.toNat)
theorem conv_at (T : TypeId) (w : World) (x0 x1 x2 x3 : Int) :
    (convert 100 9 (.slice (some ⟨w.heap.size, 0, none⟩) 4 4)).run Tryd.prog (w.alloc (.cells #[.int .u8 x0, .int .u8 x1, .int .u8 x2, .int .u8 x3] T)) = .ok (.string (strOfNums [x0, x1, x2, x3])) (w.alloc (.cells #[.int .u8 x0, .int .u8 x1, .int .u8 x2, .int .u8 x3] T)) := by
  refine run_convert_bytes_arg (P := Tryd.prog) _ 100 5 Tryd.underlying100 Tryd.underlying5 w.heap.size 0 4 4 [x0, x1, x2, x3] rfl (fun i hi => ?_) 9 Tryd.underlying9
  have e : (w.alloc (.cells #[.int .u8 x0, .int .u8 x1, .int .u8 x2, .int .u8 x3] T)).heap[w.heap.size]? = some (.cells #[.int .u8 x0, .int .u8 x1, .int .u8 x2, .int .u8 x3] T (0, 0)) := by
    show (w.heap.push _)[w.heap.size]? = _
    simp
  unfold World.cell?
  simp only [e]
  rcases (show i = 0 ∨ i = 1 ∨ i = 2 ∨ i = 3 by omega) with rfl | rfl | rfl | rfl <;> rfl

end Go.Proofs.YtbpaiiljhdohfaaDoor
namespace Go.Proofs.YtbpaiiljhdohfaaDoor
open Go.RowKit

theorem ownF_below {w w' : World} {B : Nat} {e : TypeId} {size : Nat} {v : Value} {n : Nat} {xs : List Value} (h : w.ownsRowF B e size v n xs) (hb : Below w.heap.size w w') : w'.ownsRowF B e size v n xs := by
  refine ⟨h.1, ?_⟩
  rcases h.2 with hv | ⟨g, cap, cur, fz, hv, hB, hg, r⟩
  · exact .inl hv
  · exact .inr ⟨g, cap, cur, fz, hv, hB, (hb.block g (lt_of_some hg)).trans hg, r⟩
theorem bldAtF_below {w w' : World} {T e : TypeId} {B b : Nat} {p : Value} {bs : List Value} (h : Lib.BuilderAtF T e B b p bs w) (hb : Below w.heap.size w w') : Lib.BuilderAtF T e B b p bs w' := by
  obtain ⟨hB, v, hk, hown, hne⟩ := h
  exact ⟨hB, v, (hb.block b (lt_of_some hk)).trans hk, ownF_below hown hb, hne⟩
theorem bldF_below {w w' : World} {T e : TypeId} {B b : Nat} {bs : List Value} (h : Lib.IsBuilderF T e B b bs w) (hb : Below w.heap.size w w') : Lib.IsBuilderF T e B b bs w' :=
  h.elim (fun h => .inl (bldAtF_below h hb)) (fun h => .inr (bldAtF_below h hb))

theorem check_f (B b : Nat) (bs : List Value) (w : World) (h : Lib.IsBuilderF 116 5 B b bs w) :
    Calls Tryd.prog 69 #[.pointer (some ⟨b, 0, none⟩)] w fun e w' => e = .returned (.tuple #[]) ∧ Lib.BuilderAtF 116 5 B b (.pointer (some ⟨b, 0, none⟩)) bs w' ∧ Below B w w' := by
  rcases h with h | h
  · refine (check_fresh b w h.cell0 h.shape h.frozen0).mono ?_
    rintro e w' ⟨rfl, rfl⟩
    exact ⟨rfl, h.used _, (Below.refl B w).setCell (p := ⟨b, 0, none⟩) h.1 _⟩
  · refine (check_used b w h.cell0).mono ?_
    rintro e w' ⟨rfl, rfl⟩
    exact ⟨rfl, h, Below.refl B _⟩

set_option maxHeartbeats 1000000 in
set_option maxRecDepth 100000 in
theorem write_f (B b : Nat) (bs : List Value) (s : ByteArray) (w : World) (h : Lib.IsBuilderF 116 5 B b bs w) (hlen : bs.length + s.size ≤ 140737488355328) (hBw : B ≤ w.heap.size) :
    Calls Tryd.prog 59 #[.pointer (some ⟨b, 0, none⟩), .string s] w fun e w' => e = .returned (.tuple #[.int .i64 s.size, .nilIface]) ∧ Lib.IsBuilderF 116 5 B b (bs ++ Lib.strCells s) w' ∧ Below B w w' := by
  obtain ⟨i0, hi, hz0, hz1, hz2⟩ := info_parts byteInfo
  go_enter Tryd.func59, Tryd.ntmps59
  go_wp2_with (go_at_call 69; refine (check_f B b bs _ h).mono ?_)
  rintro e w1 ⟨rfl, ⟨hB, v, hbk, hown, hne⟩, hb1⟩
  have c0 : w1.cell? ⟨b, 0, none⟩ = some (.pointer (some ⟨b, 0, none⟩)) := by rw [Lib.cell_of_heap hbk]; rfl
  have c1 : w1.cell? ⟨b, 1, none⟩ = some v := by rw [Lib.cell_of_heap hbk]; rfl
  go_wp2_with (at_builtin; refine Lib.wpList_append_own_stringF _ rfl _ _ 100 9 rfl B 5 i0 Tryd.underlying100 Tryd.underlying9 hi hz0 hz1 hz2 _ _ _ rfl hown s rfl ?c3 ?c4 ?c5 ?_)
  case c3 => unfold maxLen; omega
  case c4 => omega
  case c5 => have := hb1.size; omega
  intro v' w2 hown' hgrow _
  have hlt : b < w1.heap.size := by
    rcases Nat.lt_or_ge b w1.heap.size with h' | h'
    · exact h'
    · simp [Array.getElem?_eq_none h'] at hbk
  have hb2 : w2.heap[b]? = some (.cells #[.pointer (some ⟨b, 0, none⟩), v] 116 (0, 0)) := by
    rw [hgrow.block b hlt (fun e => hne e.symm)]
    exact hbk
  have d0 : w2.cell? ⟨b, 0, none⟩ = some (.pointer (some ⟨b, 0, none⟩)) := by rw [Lib.cell_of_heap hb2]; rfl
  have d1 : w2.cell? ⟨b, 1, none⟩ = some v := by rw [Lib.cell_of_heap hb2]; rfl
  have f1 : w2.frozen? ⟨b, 1, none⟩ = false := Lib.frozen_of_heap hb2 1
  obtain ⟨ao, n', cap, rfl⟩ : ∃ ao n' cap, v' = .slice ao n' cap := by
    rcases hown'.2 with ⟨hv, _⟩ | ⟨g, cap, cur, fz, hv, _⟩
    · exact ⟨_, _, _, hv⟩
    · exact ⟨_, _, _, hv⟩
  go_wp2
  go_ret2
  refine ⟨rfl, .inr ?_, ?_⟩
  · exact Lib.BuilderAtF.put (T := 116) (e := 5) hB hb2 (bs' := bs ++ Lib.strCells s) (by simpa [Lib.strCells_length] using hown') (by decide)
  · exact (hb1.grown hgrow (by have := hb1.size; omega) (fun k hk => (hown.lt k hk).1)).setCell (p := ⟨b, 1, none⟩) hB _

set_option maxHeartbeats 1000000 in
set_option maxRecDepth 100000 in
theorem byte_f (B b : Nat) (bs : List Value) (c : Int) (w : World) (h : Lib.IsBuilderF 116 5 B b bs w) (hlen : bs.length + 1 ≤ 140737488355328) (hBw : B ≤ w.heap.size) :
    Calls Tryd.prog 62 #[.pointer (some ⟨b, 0, none⟩), .int .u8 c] w fun e w' => e = .returned .nilIface ∧ Lib.IsBuilderF 116 5 B b (bs ++ [.int .u8 c]) w' ∧ Below B w w' := by
  obtain ⟨i0, hi, hz0, hz1, hz2⟩ := info_parts byteInfo
  go_enter Tryd.func62, Tryd.ntmps62
  go_wp2_with (go_at_call 69; refine (check_f B b bs _ h).mono ?_)
  rintro e w1 ⟨rfl, ⟨hB, v, hbk, hown, hne⟩, hb1⟩
  have c0 : w1.cell? ⟨b, 0, none⟩ = some (.pointer (some ⟨b, 0, none⟩)) := by rw [Lib.cell_of_heap hbk]; rfl
  have c1 : w1.cell? ⟨b, 1, none⟩ = some v := by rw [Lib.cell_of_heap hbk]; rfl
  go_wp2_with (at_builtin; refine wpList_append_ownF _ rfl _ _ 100 rfl B 5 i0 (.int .u8 0) 1 1 Tryd.underlying100 hi hz0 hz1 hz2 rfl (by decide) _ _ _ rfl (hown.alloc _) ⟨w1.heap.size, 0, none⟩ 1 1 [.int .u8 c] rfl rfl ?c1 ?c2 ?c3 ?c4 ?c5 ?_)
  case c1 =>
    intro j u hj
    match j, hj with
    | 0, hj => simp at hj; subst hj; simp [Addr.add]
  case c2 => intro u hu; simp at hu; subst hu; rfl
  case c3 => unfold maxLen; omega
  case c4 => omega
  case c5 => have := hb1.size; simp; omega
  intro v' w2 hown' hgrow _
  have hlt : b < w1.heap.size := by
    rcases Nat.lt_or_ge b w1.heap.size with h' | h'
    · exact h'
    · simp [Array.getElem?_eq_none h'] at hbk
  have hb2 : w2.heap[b]? = some (.cells #[.pointer (some ⟨b, 0, none⟩), v] 116 (0, 0)) := by
    rw [hgrow.block b (by simp; omega) (fun e => hne e.symm), Lib.alloc_old w1 _ b hlt]
    exact hbk
  have d0 : w2.cell? ⟨b, 0, none⟩ = some (.pointer (some ⟨b, 0, none⟩)) := by rw [Lib.cell_of_heap hb2]; rfl
  have d1 : w2.cell? ⟨b, 1, none⟩ = some v := by rw [Lib.cell_of_heap hb2]; rfl
  have f1 : w2.frozen? ⟨b, 1, none⟩ = false := Lib.frozen_of_heap hb2 1
  obtain ⟨g, cap, rfl⟩ : ∃ g cap, v' = .slice (some ⟨g, 0, none⟩) (bs.length + 1) cap := by
    rcases hown'.2 with ⟨_, h0⟩ | ⟨g, cap, cur, fz, hv, _⟩
    · omega
    · exact ⟨g, cap, hv⟩
  go_wp2
  go_ret
  refine ⟨rfl, .inr ?_, ?_⟩
  · exact Lib.BuilderAtF.put (T := 116) (e := 5) hB hb2 (bs' := bs ++ [.int .u8 c]) (by simpa using hown') (by decide)
  · exact ((hb1.alloc (by have := hb1.size; omega) _).grown hgrow (by have := hb1.size; simp; omega) (fun k hk => (hown.lt k hk).1)).setCell (p := ⟨b, 1, none⟩) hB _
end Go.Proofs.YtbpaiiljhdohfaaDoor
