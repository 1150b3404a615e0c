/- Contracts of package sha's rotations, and of the document's: x turned right by n bits, for every x of 32 bits. -/
import Derived.Test.YtodmomhilpheiaaDoorRows
import Derived.WalkKit
import Derived.WalkSpells
import Derived.Lib.Hide
import Derived.WalkLawsBesides
namespace Go.Proofs.YtodmomhilpheiaaDoor
open Go.RowKit

/-- x turned right, where p is 2 to the power of the bits, q of 32 less them. -/
def rotI (p q x : Int) : Int := x / p + x * q % 4294967296

theorem wraps_u32 (n : Int) (h₀ : 0 ≤ n) (h₁ : n < 2 ^ 32) : IntKind.u32.wrap n = n := by rw [IntKind.wrap_u32]; omega
theorem bits_or_comm (a b : Int) : bits .or .u32 a b = bits .or .u32 b a := by simp only [bits, BitVec.or_comm]
theorem ret_int {k : IntKind} {a b : Int} (h : a = b) : Ending.returned (.int k a) = .returned (.int k b) := by rw [h]

theorem rot_or2 (x : Int) (h0 : 0 ≤ x) (h1 : x < 4294967296) : bits .or .u32 (x * 1073741824 % 4294967296) (x / 4) = rotI 4 1073741824 x := by
  rw [bits_join .u32 32 (by decide) wraps_u32 30 _ _ (by omega) (by omega) (by omega) (by omega) (by omega) (by omega)]
  unfold rotI; omega
theorem rot_rng2 (x : Int) (h0 : 0 ≤ x) (h1 : x < 4294967296) : 0 ≤ rotI 4 1073741824 x ∧ rotI 4 1073741824 x < 4294967296 := by
  unfold rotI; omega
theorem turn_2 (x : Int) (w : World) (h0 : 0 ≤ x) (h1 : x < 4294967296) :
    Calls Tryd.prog 25 #[.int .u32 x, .int .i64 2] w fun e w' => e = .returned (.int .u32 (rotI 4 1073741824 x)) ∧ w = w' := by
  have hs : bits BinOp.and IntKind.u64 (IntKind.u64.wrap (-2)) 31 = 30 := by decide +kernel
  go_enter Tryd.func25, Tryd.ntmps25
  go_wp2
  go_ret
  exact ⟨ret_int (rot_or2 x h0 h1), rfl⟩
theorem turn_2s (x : Int) (w : World) (h0 : 0 ≤ x) (h1 : x < 4294967296) :
    Calls Tryd.prog 25 #[.int .u32 x, .int .i64 2] w fun e w' => e = .returned (.int .u32 (rotI 4 1073741824 x)) ∧ w' = w :=
  (turn_2 x w h0 h1).mono fun _ _ ⟨a, b⟩ => ⟨a, b.symm⟩
theorem rturn_2 (x : Int) (w : World) (h0 : 0 ≤ x) (h1 : x < 4294967296) :
    Calls Tryd.prog 17 #[.int .u32 x, .int .u64 2] w fun e w' => e = .returned (.int .u32 (rotI 4 1073741824 x)) ∧ w = w' := by
  go_enter Tryd.func17, Tryd.ntmps17
  go_wp2
  go_ret
  exact ⟨ret_int ((bits_or_comm _ _).trans (rot_or2 x h0 h1)), rfl⟩

theorem rot_or6 (x : Int) (h0 : 0 ≤ x) (h1 : x < 4294967296) : bits .or .u32 (x * 67108864 % 4294967296) (x / 64) = rotI 64 67108864 x := by
  rw [bits_join .u32 32 (by decide) wraps_u32 26 _ _ (by omega) (by omega) (by omega) (by omega) (by omega) (by omega)]
  unfold rotI; omega
theorem rot_rng6 (x : Int) (h0 : 0 ≤ x) (h1 : x < 4294967296) : 0 ≤ rotI 64 67108864 x ∧ rotI 64 67108864 x < 4294967296 := by
  unfold rotI; omega
theorem turn_6 (x : Int) (w : World) (h0 : 0 ≤ x) (h1 : x < 4294967296) :
    Calls Tryd.prog 25 #[.int .u32 x, .int .i64 6] w fun e w' => e = .returned (.int .u32 (rotI 64 67108864 x)) ∧ w = w' := by
  have hs : bits BinOp.and IntKind.u64 (IntKind.u64.wrap (-6)) 31 = 26 := by decide +kernel
  go_enter Tryd.func25, Tryd.ntmps25
  go_wp2
  go_ret
  exact ⟨ret_int (rot_or6 x h0 h1), rfl⟩
theorem turn_6s (x : Int) (w : World) (h0 : 0 ≤ x) (h1 : x < 4294967296) :
    Calls Tryd.prog 25 #[.int .u32 x, .int .i64 6] w fun e w' => e = .returned (.int .u32 (rotI 64 67108864 x)) ∧ w' = w :=
  (turn_6 x w h0 h1).mono fun _ _ ⟨a, b⟩ => ⟨a, b.symm⟩
theorem rturn_6 (x : Int) (w : World) (h0 : 0 ≤ x) (h1 : x < 4294967296) :
    Calls Tryd.prog 17 #[.int .u32 x, .int .u64 6] w fun e w' => e = .returned (.int .u32 (rotI 64 67108864 x)) ∧ w = w' := by
  go_enter Tryd.func17, Tryd.ntmps17
  go_wp2
  go_ret
  exact ⟨ret_int ((bits_or_comm _ _).trans (rot_or6 x h0 h1)), rfl⟩

theorem rot_or7 (x : Int) (h0 : 0 ≤ x) (h1 : x < 4294967296) : bits .or .u32 (x * 33554432 % 4294967296) (x / 128) = rotI 128 33554432 x := by
  rw [bits_join .u32 32 (by decide) wraps_u32 25 _ _ (by omega) (by omega) (by omega) (by omega) (by omega) (by omega)]
  unfold rotI; omega
theorem rot_rng7 (x : Int) (h0 : 0 ≤ x) (h1 : x < 4294967296) : 0 ≤ rotI 128 33554432 x ∧ rotI 128 33554432 x < 4294967296 := by
  unfold rotI; omega
theorem turn_7 (x : Int) (w : World) (h0 : 0 ≤ x) (h1 : x < 4294967296) :
    Calls Tryd.prog 25 #[.int .u32 x, .int .i64 7] w fun e w' => e = .returned (.int .u32 (rotI 128 33554432 x)) ∧ w = w' := by
  have hs : bits BinOp.and IntKind.u64 (IntKind.u64.wrap (-7)) 31 = 25 := by decide +kernel
  go_enter Tryd.func25, Tryd.ntmps25
  go_wp2
  go_ret
  exact ⟨ret_int (rot_or7 x h0 h1), rfl⟩
theorem turn_7s (x : Int) (w : World) (h0 : 0 ≤ x) (h1 : x < 4294967296) :
    Calls Tryd.prog 25 #[.int .u32 x, .int .i64 7] w fun e w' => e = .returned (.int .u32 (rotI 128 33554432 x)) ∧ w' = w :=
  (turn_7 x w h0 h1).mono fun _ _ ⟨a, b⟩ => ⟨a, b.symm⟩
theorem rturn_7 (x : Int) (w : World) (h0 : 0 ≤ x) (h1 : x < 4294967296) :
    Calls Tryd.prog 17 #[.int .u32 x, .int .u64 7] w fun e w' => e = .returned (.int .u32 (rotI 128 33554432 x)) ∧ w = w' := by
  go_enter Tryd.func17, Tryd.ntmps17
  go_wp2
  go_ret
  exact ⟨ret_int ((bits_or_comm _ _).trans (rot_or7 x h0 h1)), rfl⟩

theorem rot_or11 (x : Int) (h0 : 0 ≤ x) (h1 : x < 4294967296) : bits .or .u32 (x * 2097152 % 4294967296) (x / 2048) = rotI 2048 2097152 x := by
  rw [bits_join .u32 32 (by decide) wraps_u32 21 _ _ (by omega) (by omega) (by omega) (by omega) (by omega) (by omega)]
  unfold rotI; omega
theorem rot_rng11 (x : Int) (h0 : 0 ≤ x) (h1 : x < 4294967296) : 0 ≤ rotI 2048 2097152 x ∧ rotI 2048 2097152 x < 4294967296 := by
  unfold rotI; omega
theorem turn_11 (x : Int) (w : World) (h0 : 0 ≤ x) (h1 : x < 4294967296) :
    Calls Tryd.prog 25 #[.int .u32 x, .int .i64 11] w fun e w' => e = .returned (.int .u32 (rotI 2048 2097152 x)) ∧ w = w' := by
  have hs : bits BinOp.and IntKind.u64 (IntKind.u64.wrap (-11)) 31 = 21 := by decide +kernel
  go_enter Tryd.func25, Tryd.ntmps25
  go_wp2
  go_ret
  exact ⟨ret_int (rot_or11 x h0 h1), rfl⟩
theorem turn_11s (x : Int) (w : World) (h0 : 0 ≤ x) (h1 : x < 4294967296) :
    Calls Tryd.prog 25 #[.int .u32 x, .int .i64 11] w fun e w' => e = .returned (.int .u32 (rotI 2048 2097152 x)) ∧ w' = w :=
  (turn_11 x w h0 h1).mono fun _ _ ⟨a, b⟩ => ⟨a, b.symm⟩
theorem rturn_11 (x : Int) (w : World) (h0 : 0 ≤ x) (h1 : x < 4294967296) :
    Calls Tryd.prog 17 #[.int .u32 x, .int .u64 11] w fun e w' => e = .returned (.int .u32 (rotI 2048 2097152 x)) ∧ w = w' := by
  go_enter Tryd.func17, Tryd.ntmps17
  go_wp2
  go_ret
  exact ⟨ret_int ((bits_or_comm _ _).trans (rot_or11 x h0 h1)), rfl⟩

theorem rot_or13 (x : Int) (h0 : 0 ≤ x) (h1 : x < 4294967296) : bits .or .u32 (x * 524288 % 4294967296) (x / 8192) = rotI 8192 524288 x := by
  rw [bits_join .u32 32 (by decide) wraps_u32 19 _ _ (by omega) (by omega) (by omega) (by omega) (by omega) (by omega)]
  unfold rotI; omega
theorem rot_rng13 (x : Int) (h0 : 0 ≤ x) (h1 : x < 4294967296) : 0 ≤ rotI 8192 524288 x ∧ rotI 8192 524288 x < 4294967296 := by
  unfold rotI; omega
theorem turn_13 (x : Int) (w : World) (h0 : 0 ≤ x) (h1 : x < 4294967296) :
    Calls Tryd.prog 25 #[.int .u32 x, .int .i64 13] w fun e w' => e = .returned (.int .u32 (rotI 8192 524288 x)) ∧ w = w' := by
  have hs : bits BinOp.and IntKind.u64 (IntKind.u64.wrap (-13)) 31 = 19 := by decide +kernel
  go_enter Tryd.func25, Tryd.ntmps25
  go_wp2
  go_ret
  exact ⟨ret_int (rot_or13 x h0 h1), rfl⟩
theorem turn_13s (x : Int) (w : World) (h0 : 0 ≤ x) (h1 : x < 4294967296) :
    Calls Tryd.prog 25 #[.int .u32 x, .int .i64 13] w fun e w' => e = .returned (.int .u32 (rotI 8192 524288 x)) ∧ w' = w :=
  (turn_13 x w h0 h1).mono fun _ _ ⟨a, b⟩ => ⟨a, b.symm⟩
theorem rturn_13 (x : Int) (w : World) (h0 : 0 ≤ x) (h1 : x < 4294967296) :
    Calls Tryd.prog 17 #[.int .u32 x, .int .u64 13] w fun e w' => e = .returned (.int .u32 (rotI 8192 524288 x)) ∧ w = w' := by
  go_enter Tryd.func17, Tryd.ntmps17
  go_wp2
  go_ret
  exact ⟨ret_int ((bits_or_comm _ _).trans (rot_or13 x h0 h1)), rfl⟩

theorem rot_or17 (x : Int) (h0 : 0 ≤ x) (h1 : x < 4294967296) : bits .or .u32 (x * 32768 % 4294967296) (x / 131072) = rotI 131072 32768 x := by
  rw [bits_join .u32 32 (by decide) wraps_u32 15 _ _ (by omega) (by omega) (by omega) (by omega) (by omega) (by omega)]
  unfold rotI; omega
theorem rot_rng17 (x : Int) (h0 : 0 ≤ x) (h1 : x < 4294967296) : 0 ≤ rotI 131072 32768 x ∧ rotI 131072 32768 x < 4294967296 := by
  unfold rotI; omega
theorem turn_17 (x : Int) (w : World) (h0 : 0 ≤ x) (h1 : x < 4294967296) :
    Calls Tryd.prog 25 #[.int .u32 x, .int .i64 17] w fun e w' => e = .returned (.int .u32 (rotI 131072 32768 x)) ∧ w = w' := by
  have hs : bits BinOp.and IntKind.u64 (IntKind.u64.wrap (-17)) 31 = 15 := by decide +kernel
  go_enter Tryd.func25, Tryd.ntmps25
  go_wp2
  go_ret
  exact ⟨ret_int (rot_or17 x h0 h1), rfl⟩
theorem turn_17s (x : Int) (w : World) (h0 : 0 ≤ x) (h1 : x < 4294967296) :
    Calls Tryd.prog 25 #[.int .u32 x, .int .i64 17] w fun e w' => e = .returned (.int .u32 (rotI 131072 32768 x)) ∧ w' = w :=
  (turn_17 x w h0 h1).mono fun _ _ ⟨a, b⟩ => ⟨a, b.symm⟩
theorem rturn_17 (x : Int) (w : World) (h0 : 0 ≤ x) (h1 : x < 4294967296) :
    Calls Tryd.prog 17 #[.int .u32 x, .int .u64 17] w fun e w' => e = .returned (.int .u32 (rotI 131072 32768 x)) ∧ w = w' := by
  go_enter Tryd.func17, Tryd.ntmps17
  go_wp2
  go_ret
  exact ⟨ret_int ((bits_or_comm _ _).trans (rot_or17 x h0 h1)), rfl⟩

theorem rot_or18 (x : Int) (h0 : 0 ≤ x) (h1 : x < 4294967296) : bits .or .u32 (x * 16384 % 4294967296) (x / 262144) = rotI 262144 16384 x := by
  rw [bits_join .u32 32 (by decide) wraps_u32 14 _ _ (by omega) (by omega) (by omega) (by omega) (by omega) (by omega)]
  unfold rotI; omega
theorem rot_rng18 (x : Int) (h0 : 0 ≤ x) (h1 : x < 4294967296) : 0 ≤ rotI 262144 16384 x ∧ rotI 262144 16384 x < 4294967296 := by
  unfold rotI; omega
theorem turn_18 (x : Int) (w : World) (h0 : 0 ≤ x) (h1 : x < 4294967296) :
    Calls Tryd.prog 25 #[.int .u32 x, .int .i64 18] w fun e w' => e = .returned (.int .u32 (rotI 262144 16384 x)) ∧ w = w' := by
  have hs : bits BinOp.and IntKind.u64 (IntKind.u64.wrap (-18)) 31 = 14 := by decide +kernel
  go_enter Tryd.func25, Tryd.ntmps25
  go_wp2
  go_ret
  exact ⟨ret_int (rot_or18 x h0 h1), rfl⟩
theorem turn_18s (x : Int) (w : World) (h0 : 0 ≤ x) (h1 : x < 4294967296) :
    Calls Tryd.prog 25 #[.int .u32 x, .int .i64 18] w fun e w' => e = .returned (.int .u32 (rotI 262144 16384 x)) ∧ w' = w :=
  (turn_18 x w h0 h1).mono fun _ _ ⟨a, b⟩ => ⟨a, b.symm⟩
theorem rturn_18 (x : Int) (w : World) (h0 : 0 ≤ x) (h1 : x < 4294967296) :
    Calls Tryd.prog 17 #[.int .u32 x, .int .u64 18] w fun e w' => e = .returned (.int .u32 (rotI 262144 16384 x)) ∧ w = w' := by
  go_enter Tryd.func17, Tryd.ntmps17
  go_wp2
  go_ret
  exact ⟨ret_int ((bits_or_comm _ _).trans (rot_or18 x h0 h1)), rfl⟩

theorem rot_or19 (x : Int) (h0 : 0 ≤ x) (h1 : x < 4294967296) : bits .or .u32 (x * 8192 % 4294967296) (x / 524288) = rotI 524288 8192 x := by
  rw [bits_join .u32 32 (by decide) wraps_u32 13 _ _ (by omega) (by omega) (by omega) (by omega) (by omega) (by omega)]
  unfold rotI; omega
theorem rot_rng19 (x : Int) (h0 : 0 ≤ x) (h1 : x < 4294967296) : 0 ≤ rotI 524288 8192 x ∧ rotI 524288 8192 x < 4294967296 := by
  unfold rotI; omega
theorem turn_19 (x : Int) (w : World) (h0 : 0 ≤ x) (h1 : x < 4294967296) :
    Calls Tryd.prog 25 #[.int .u32 x, .int .i64 19] w fun e w' => e = .returned (.int .u32 (rotI 524288 8192 x)) ∧ w = w' := by
  have hs : bits BinOp.and IntKind.u64 (IntKind.u64.wrap (-19)) 31 = 13 := by decide +kernel
  go_enter Tryd.func25, Tryd.ntmps25
  go_wp2
  go_ret
  exact ⟨ret_int (rot_or19 x h0 h1), rfl⟩
theorem turn_19s (x : Int) (w : World) (h0 : 0 ≤ x) (h1 : x < 4294967296) :
    Calls Tryd.prog 25 #[.int .u32 x, .int .i64 19] w fun e w' => e = .returned (.int .u32 (rotI 524288 8192 x)) ∧ w' = w :=
  (turn_19 x w h0 h1).mono fun _ _ ⟨a, b⟩ => ⟨a, b.symm⟩
theorem rturn_19 (x : Int) (w : World) (h0 : 0 ≤ x) (h1 : x < 4294967296) :
    Calls Tryd.prog 17 #[.int .u32 x, .int .u64 19] w fun e w' => e = .returned (.int .u32 (rotI 524288 8192 x)) ∧ w = w' := by
  go_enter Tryd.func17, Tryd.ntmps17
  go_wp2
  go_ret
  exact ⟨ret_int ((bits_or_comm _ _).trans (rot_or19 x h0 h1)), rfl⟩

theorem rot_or22 (x : Int) (h0 : 0 ≤ x) (h1 : x < 4294967296) : bits .or .u32 (x * 1024 % 4294967296) (x / 4194304) = rotI 4194304 1024 x := by
  rw [bits_join .u32 32 (by decide) wraps_u32 10 _ _ (by omega) (by omega) (by omega) (by omega) (by omega) (by omega)]
  unfold rotI; omega
theorem rot_rng22 (x : Int) (h0 : 0 ≤ x) (h1 : x < 4294967296) : 0 ≤ rotI 4194304 1024 x ∧ rotI 4194304 1024 x < 4294967296 := by
  unfold rotI; omega
theorem turn_22 (x : Int) (w : World) (h0 : 0 ≤ x) (h1 : x < 4294967296) :
    Calls Tryd.prog 25 #[.int .u32 x, .int .i64 22] w fun e w' => e = .returned (.int .u32 (rotI 4194304 1024 x)) ∧ w = w' := by
  have hs : bits BinOp.and IntKind.u64 (IntKind.u64.wrap (-22)) 31 = 10 := by decide +kernel
  go_enter Tryd.func25, Tryd.ntmps25
  go_wp2
  go_ret
  exact ⟨ret_int (rot_or22 x h0 h1), rfl⟩
theorem turn_22s (x : Int) (w : World) (h0 : 0 ≤ x) (h1 : x < 4294967296) :
    Calls Tryd.prog 25 #[.int .u32 x, .int .i64 22] w fun e w' => e = .returned (.int .u32 (rotI 4194304 1024 x)) ∧ w' = w :=
  (turn_22 x w h0 h1).mono fun _ _ ⟨a, b⟩ => ⟨a, b.symm⟩
theorem rturn_22 (x : Int) (w : World) (h0 : 0 ≤ x) (h1 : x < 4294967296) :
    Calls Tryd.prog 17 #[.int .u32 x, .int .u64 22] w fun e w' => e = .returned (.int .u32 (rotI 4194304 1024 x)) ∧ w = w' := by
  go_enter Tryd.func17, Tryd.ntmps17
  go_wp2
  go_ret
  exact ⟨ret_int ((bits_or_comm _ _).trans (rot_or22 x h0 h1)), rfl⟩

theorem rot_or25 (x : Int) (h0 : 0 ≤ x) (h1 : x < 4294967296) : bits .or .u32 (x * 128 % 4294967296) (x / 33554432) = rotI 33554432 128 x := by
  rw [bits_join .u32 32 (by decide) wraps_u32 7 _ _ (by omega) (by omega) (by omega) (by omega) (by omega) (by omega)]
  unfold rotI; omega
theorem rot_rng25 (x : Int) (h0 : 0 ≤ x) (h1 : x < 4294967296) : 0 ≤ rotI 33554432 128 x ∧ rotI 33554432 128 x < 4294967296 := by
  unfold rotI; omega
theorem turn_25 (x : Int) (w : World) (h0 : 0 ≤ x) (h1 : x < 4294967296) :
    Calls Tryd.prog 25 #[.int .u32 x, .int .i64 25] w fun e w' => e = .returned (.int .u32 (rotI 33554432 128 x)) ∧ w = w' := by
  have hs : bits BinOp.and IntKind.u64 (IntKind.u64.wrap (-25)) 31 = 7 := by decide +kernel
  go_enter Tryd.func25, Tryd.ntmps25
  go_wp2
  go_ret
  exact ⟨ret_int (rot_or25 x h0 h1), rfl⟩
theorem turn_25s (x : Int) (w : World) (h0 : 0 ≤ x) (h1 : x < 4294967296) :
    Calls Tryd.prog 25 #[.int .u32 x, .int .i64 25] w fun e w' => e = .returned (.int .u32 (rotI 33554432 128 x)) ∧ w' = w :=
  (turn_25 x w h0 h1).mono fun _ _ ⟨a, b⟩ => ⟨a, b.symm⟩
theorem rturn_25 (x : Int) (w : World) (h0 : 0 ≤ x) (h1 : x < 4294967296) :
    Calls Tryd.prog 17 #[.int .u32 x, .int .u64 25] w fun e w' => e = .returned (.int .u32 (rotI 33554432 128 x)) ∧ w = w' := by
  go_enter Tryd.func17, Tryd.ntmps17
  go_wp2
  go_ret
  exact ⟨ret_int ((bits_or_comm _ _).trans (rot_or25 x h0 h1)), rfl⟩

theorem three_6 (x : Int) (w : World) (h0 : 0 ≤ x) (h1 : x < 4294967296) :
    Calls Tryd.prog 24 #[.int .u32 x, .int .i64 6, .int .i64 11, .int .i64 25] w fun e w' => e = .returned (.int .u32 (bits .xor .u32 (bits .xor .u32 (rotI 64 67108864 x) (rotI 2048 2097152 x)) (rotI 33554432 128 x))) ∧ w = w' := by
  go_enter Tryd.func24, Tryd.ntmps24
  go_wp2_with fail
  refine (turn_6 _ _ h0 h1).mono ?_
  rintro e w' ⟨rfl, rfl⟩
  go_wp2_with fail
  refine (turn_11 _ _ h0 h1).mono ?_
  rintro e w' ⟨rfl, rfl⟩
  go_wp2_with fail
  refine (turn_25 _ _ h0 h1).mono ?_
  rintro e w' ⟨rfl, rfl⟩
  go_wp2_with fail
  go_ret
  exact ⟨rfl, rfl⟩

theorem three_2 (x : Int) (w : World) (h0 : 0 ≤ x) (h1 : x < 4294967296) :
    Calls Tryd.prog 24 #[.int .u32 x, .int .i64 2, .int .i64 13, .int .i64 22] w fun e w' => e = .returned (.int .u32 (bits .xor .u32 (bits .xor .u32 (rotI 4 1073741824 x) (rotI 8192 524288 x)) (rotI 4194304 1024 x))) ∧ w = w' := by
  go_enter Tryd.func24, Tryd.ntmps24
  go_wp2_with fail
  refine (turn_2 _ _ h0 h1).mono ?_
  rintro e w' ⟨rfl, rfl⟩
  go_wp2_with fail
  refine (turn_13 _ _ h0 h1).mono ?_
  rintro e w' ⟨rfl, rfl⟩
  go_wp2_with fail
  refine (turn_22 _ _ h0 h1).mono ?_
  rintro e w' ⟨rfl, rfl⟩
  go_wp2_with fail
  go_ret
  exact ⟨rfl, rfl⟩

end Go.Proofs.YtodmomhilpheiaaDoor
