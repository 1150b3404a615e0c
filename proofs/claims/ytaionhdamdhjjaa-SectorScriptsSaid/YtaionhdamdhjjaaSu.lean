/- Sector: the law on no disk. -/
import Derived.Test.YtaionhdamdhjjaaSt
namespace Go.Proofs.Ytaionhdamdhjjaa
open Go.RowKit
variable {B n g gd gc cd cc : Nat} {vw vk : Value} {S : DS} {w : World}

theorem nil_cut (c : Int) (h0 : 0 ≤ c) (h1 : c ≤ 1) : (begS (cutS c [] (newS 3))).1 = false := by
  have : max c 1 = 1 := by omega
  unfold begS cutS
  simp only [this]
  rfl
theorem nil_cut2 (c : Int) (h0 : 0 ≤ c) (h1 : c ≤ 1) : (begS (cutS c [] (newS 3))).2 = failS [] (newS 3) := by
  have : max c 1 = 1 := by omega
  unfold begS cutS
  simp only [this]
  rfl
theorem OffD (h : IsD B n g gd gc cd cc vw vk S w) :
    Calls Try.prog 36 #[.pointer (some ⟨g, 0, none⟩)] w fun e w' => e = .returned (.bool S.off) ∧ w' = w := Off_any g _ _ _ _ _ _ _ w h.d
theorem and_one (i : Int) : 0 ≤ bits .and .i64 i 1 ∧ bits .and .i64 i 1 ≤ 1 := by
  have h1 : (BitVec.ofInt 64 1).toNat = 2 ^ 1 - 1 := by decide
  have key : (BitVec.ofInt 64 i &&& BitVec.ofInt 64 1).toNat = (i % ((2 ^ 64 : Nat) : Int)).toNat % 2 ^ 1 := by
    rw [BitVec.toNat_and, BitVec.toNat_ofInt, h1, Nat.and_two_pow_sub_one_eq_mod]
  have e : bits .and .i64 i 1 = i % 2 := by
    show IntKind.i64.wrap ((BitVec.ofInt 64 i &&& BitVec.ofInt 64 1).toNat : Nat) = i % 2
    rw [key, IntKind.wrap_i64]
    omega
  rw [e]; omega
end Go.Proofs.Ytaionhdamdhjjaa
