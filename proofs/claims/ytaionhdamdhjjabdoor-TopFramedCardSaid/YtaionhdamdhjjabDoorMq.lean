/- Contracts of package sha's rotations, and of the document's: x turned right by n bits, for every x of 32 bits. mix. spread. begin, mix. bigEndian: the bytes of eight numbers, the highest of each first, for all numbers of 32 bits. Hex, digit, Parse: digits of a digest. -/
import Derived.Test.YtaionhdamdhjjabDoorRows
import Derived.WalkKit
import Derived.WalkSpells
import Derived.Lib.Hide
import Derived.WalkLawsBesides
import Derived.Deep.QuietTactic
import Derived.BigQuiet
import Derived.Deep.RegionWith
import Derived.Deep.WholeRow
import Derived.StillTailTactics
import Derived.Laws.BytesArg
namespace Go.Proofs.YtaionhdamdhjjabDoor.Sha
open Go.RowKit

/-- x turned right, where p is 2 to the power of the bits, q of 32 less them. -/
def rotI (p q x : Int) : Int := x / p + x * q % 4294967296

theorem wraps_u32 (n : Int) (h₀ : 0 ≤ n) (h₁ : n < 2 ^ 32) : IntKind.u32.wrap n = n := by rw [IntKind.wrap_u32]; omega
theorem bits_or_comm (a b : Int) : bits .or .u32 a b = bits .or .u32 b a := by simp only [bits, BitVec.or_comm]
theorem ret_int {k : IntKind} {a b : Int} (h : a = b) : Ending.returned (.int k a) = .returned (.int k b) := by rw [h]

theorem rot_or2 (x : Int) (h0 : 0 ≤ x) (h1 : x < 4294967296) : bits .or .u32 (x * 1073741824 % 4294967296) (x / 4) = rotI 4 1073741824 x := by
  rw [bits_join .u32 32 (by decide) wraps_u32 30 _ _ (by omega) (by omega) (by omega) (by omega) (by omega) (by omega)]
  unfold rotI; omega
theorem rot_rng2 (x : Int) (h0 : 0 ≤ x) (h1 : x < 4294967296) : 0 ≤ rotI 4 1073741824 x ∧ rotI 4 1073741824 x < 4294967296 := by
  unfold rotI; omega
theorem turn_2 (x : Int) (w : World) (h0 : 0 ≤ x) (h1 : x < 4294967296) :
    Calls Tryd.prog 61 #[.int .u32 x, .int .i64 2] w fun e w' => e = .returned (.int .u32 (rotI 4 1073741824 x)) ∧ w = w' := by
  have hs : bits BinOp.and IntKind.u64 (IntKind.u64.wrap (-2)) 31 = 30 := by decide +kernel
  go_enter Tryd.func61, Tryd.ntmps61
  go_wp2
  go_ret
  exact ⟨ret_int (rot_or2 x h0 h1), rfl⟩
theorem turn_2s (x : Int) (w : World) (h0 : 0 ≤ x) (h1 : x < 4294967296) :
    Calls Tryd.prog 61 #[.int .u32 x, .int .i64 2] w fun e w' => e = .returned (.int .u32 (rotI 4 1073741824 x)) ∧ w' = w :=
  (turn_2 x w h0 h1).mono fun _ _ ⟨a, b⟩ => ⟨a, b.symm⟩
theorem rot_or6 (x : Int) (h0 : 0 ≤ x) (h1 : x < 4294967296) : bits .or .u32 (x * 67108864 % 4294967296) (x / 64) = rotI 64 67108864 x := by
  rw [bits_join .u32 32 (by decide) wraps_u32 26 _ _ (by omega) (by omega) (by omega) (by omega) (by omega) (by omega)]
  unfold rotI; omega
theorem rot_rng6 (x : Int) (h0 : 0 ≤ x) (h1 : x < 4294967296) : 0 ≤ rotI 64 67108864 x ∧ rotI 64 67108864 x < 4294967296 := by
  unfold rotI; omega
theorem turn_6 (x : Int) (w : World) (h0 : 0 ≤ x) (h1 : x < 4294967296) :
    Calls Tryd.prog 61 #[.int .u32 x, .int .i64 6] w fun e w' => e = .returned (.int .u32 (rotI 64 67108864 x)) ∧ w = w' := by
  have hs : bits BinOp.and IntKind.u64 (IntKind.u64.wrap (-6)) 31 = 26 := by decide +kernel
  go_enter Tryd.func61, Tryd.ntmps61
  go_wp2
  go_ret
  exact ⟨ret_int (rot_or6 x h0 h1), rfl⟩
theorem turn_6s (x : Int) (w : World) (h0 : 0 ≤ x) (h1 : x < 4294967296) :
    Calls Tryd.prog 61 #[.int .u32 x, .int .i64 6] w fun e w' => e = .returned (.int .u32 (rotI 64 67108864 x)) ∧ w' = w :=
  (turn_6 x w h0 h1).mono fun _ _ ⟨a, b⟩ => ⟨a, b.symm⟩
theorem rot_or7 (x : Int) (h0 : 0 ≤ x) (h1 : x < 4294967296) : bits .or .u32 (x * 33554432 % 4294967296) (x / 128) = rotI 128 33554432 x := by
  rw [bits_join .u32 32 (by decide) wraps_u32 25 _ _ (by omega) (by omega) (by omega) (by omega) (by omega) (by omega)]
  unfold rotI; omega
theorem rot_rng7 (x : Int) (h0 : 0 ≤ x) (h1 : x < 4294967296) : 0 ≤ rotI 128 33554432 x ∧ rotI 128 33554432 x < 4294967296 := by
  unfold rotI; omega
theorem turn_7 (x : Int) (w : World) (h0 : 0 ≤ x) (h1 : x < 4294967296) :
    Calls Tryd.prog 61 #[.int .u32 x, .int .i64 7] w fun e w' => e = .returned (.int .u32 (rotI 128 33554432 x)) ∧ w = w' := by
  have hs : bits BinOp.and IntKind.u64 (IntKind.u64.wrap (-7)) 31 = 25 := by decide +kernel
  go_enter Tryd.func61, Tryd.ntmps61
  go_wp2
  go_ret
  exact ⟨ret_int (rot_or7 x h0 h1), rfl⟩
theorem turn_7s (x : Int) (w : World) (h0 : 0 ≤ x) (h1 : x < 4294967296) :
    Calls Tryd.prog 61 #[.int .u32 x, .int .i64 7] w fun e w' => e = .returned (.int .u32 (rotI 128 33554432 x)) ∧ w' = w :=
  (turn_7 x w h0 h1).mono fun _ _ ⟨a, b⟩ => ⟨a, b.symm⟩
theorem rot_or11 (x : Int) (h0 : 0 ≤ x) (h1 : x < 4294967296) : bits .or .u32 (x * 2097152 % 4294967296) (x / 2048) = rotI 2048 2097152 x := by
  rw [bits_join .u32 32 (by decide) wraps_u32 21 _ _ (by omega) (by omega) (by omega) (by omega) (by omega) (by omega)]
  unfold rotI; omega
theorem rot_rng11 (x : Int) (h0 : 0 ≤ x) (h1 : x < 4294967296) : 0 ≤ rotI 2048 2097152 x ∧ rotI 2048 2097152 x < 4294967296 := by
  unfold rotI; omega
theorem turn_11 (x : Int) (w : World) (h0 : 0 ≤ x) (h1 : x < 4294967296) :
    Calls Tryd.prog 61 #[.int .u32 x, .int .i64 11] w fun e w' => e = .returned (.int .u32 (rotI 2048 2097152 x)) ∧ w = w' := by
  have hs : bits BinOp.and IntKind.u64 (IntKind.u64.wrap (-11)) 31 = 21 := by decide +kernel
  go_enter Tryd.func61, Tryd.ntmps61
  go_wp2
  go_ret
  exact ⟨ret_int (rot_or11 x h0 h1), rfl⟩
theorem turn_11s (x : Int) (w : World) (h0 : 0 ≤ x) (h1 : x < 4294967296) :
    Calls Tryd.prog 61 #[.int .u32 x, .int .i64 11] w fun e w' => e = .returned (.int .u32 (rotI 2048 2097152 x)) ∧ w' = w :=
  (turn_11 x w h0 h1).mono fun _ _ ⟨a, b⟩ => ⟨a, b.symm⟩
theorem rot_or13 (x : Int) (h0 : 0 ≤ x) (h1 : x < 4294967296) : bits .or .u32 (x * 524288 % 4294967296) (x / 8192) = rotI 8192 524288 x := by
  rw [bits_join .u32 32 (by decide) wraps_u32 19 _ _ (by omega) (by omega) (by omega) (by omega) (by omega) (by omega)]
  unfold rotI; omega
theorem rot_rng13 (x : Int) (h0 : 0 ≤ x) (h1 : x < 4294967296) : 0 ≤ rotI 8192 524288 x ∧ rotI 8192 524288 x < 4294967296 := by
  unfold rotI; omega
theorem turn_13 (x : Int) (w : World) (h0 : 0 ≤ x) (h1 : x < 4294967296) :
    Calls Tryd.prog 61 #[.int .u32 x, .int .i64 13] w fun e w' => e = .returned (.int .u32 (rotI 8192 524288 x)) ∧ w = w' := by
  have hs : bits BinOp.and IntKind.u64 (IntKind.u64.wrap (-13)) 31 = 19 := by decide +kernel
  go_enter Tryd.func61, Tryd.ntmps61
  go_wp2
  go_ret
  exact ⟨ret_int (rot_or13 x h0 h1), rfl⟩
theorem turn_13s (x : Int) (w : World) (h0 : 0 ≤ x) (h1 : x < 4294967296) :
    Calls Tryd.prog 61 #[.int .u32 x, .int .i64 13] w fun e w' => e = .returned (.int .u32 (rotI 8192 524288 x)) ∧ w' = w :=
  (turn_13 x w h0 h1).mono fun _ _ ⟨a, b⟩ => ⟨a, b.symm⟩
theorem rot_or17 (x : Int) (h0 : 0 ≤ x) (h1 : x < 4294967296) : bits .or .u32 (x * 32768 % 4294967296) (x / 131072) = rotI 131072 32768 x := by
  rw [bits_join .u32 32 (by decide) wraps_u32 15 _ _ (by omega) (by omega) (by omega) (by omega) (by omega) (by omega)]
  unfold rotI; omega
theorem rot_rng17 (x : Int) (h0 : 0 ≤ x) (h1 : x < 4294967296) : 0 ≤ rotI 131072 32768 x ∧ rotI 131072 32768 x < 4294967296 := by
  unfold rotI; omega
theorem turn_17 (x : Int) (w : World) (h0 : 0 ≤ x) (h1 : x < 4294967296) :
    Calls Tryd.prog 61 #[.int .u32 x, .int .i64 17] w fun e w' => e = .returned (.int .u32 (rotI 131072 32768 x)) ∧ w = w' := by
  have hs : bits BinOp.and IntKind.u64 (IntKind.u64.wrap (-17)) 31 = 15 := by decide +kernel
  go_enter Tryd.func61, Tryd.ntmps61
  go_wp2
  go_ret
  exact ⟨ret_int (rot_or17 x h0 h1), rfl⟩
theorem turn_17s (x : Int) (w : World) (h0 : 0 ≤ x) (h1 : x < 4294967296) :
    Calls Tryd.prog 61 #[.int .u32 x, .int .i64 17] w fun e w' => e = .returned (.int .u32 (rotI 131072 32768 x)) ∧ w' = w :=
  (turn_17 x w h0 h1).mono fun _ _ ⟨a, b⟩ => ⟨a, b.symm⟩
theorem rot_or18 (x : Int) (h0 : 0 ≤ x) (h1 : x < 4294967296) : bits .or .u32 (x * 16384 % 4294967296) (x / 262144) = rotI 262144 16384 x := by
  rw [bits_join .u32 32 (by decide) wraps_u32 14 _ _ (by omega) (by omega) (by omega) (by omega) (by omega) (by omega)]
  unfold rotI; omega
theorem rot_rng18 (x : Int) (h0 : 0 ≤ x) (h1 : x < 4294967296) : 0 ≤ rotI 262144 16384 x ∧ rotI 262144 16384 x < 4294967296 := by
  unfold rotI; omega
theorem turn_18 (x : Int) (w : World) (h0 : 0 ≤ x) (h1 : x < 4294967296) :
    Calls Tryd.prog 61 #[.int .u32 x, .int .i64 18] w fun e w' => e = .returned (.int .u32 (rotI 262144 16384 x)) ∧ w = w' := by
  have hs : bits BinOp.and IntKind.u64 (IntKind.u64.wrap (-18)) 31 = 14 := by decide +kernel
  go_enter Tryd.func61, Tryd.ntmps61
  go_wp2
  go_ret
  exact ⟨ret_int (rot_or18 x h0 h1), rfl⟩
theorem turn_18s (x : Int) (w : World) (h0 : 0 ≤ x) (h1 : x < 4294967296) :
    Calls Tryd.prog 61 #[.int .u32 x, .int .i64 18] w fun e w' => e = .returned (.int .u32 (rotI 262144 16384 x)) ∧ w' = w :=
  (turn_18 x w h0 h1).mono fun _ _ ⟨a, b⟩ => ⟨a, b.symm⟩
theorem rot_or19 (x : Int) (h0 : 0 ≤ x) (h1 : x < 4294967296) : bits .or .u32 (x * 8192 % 4294967296) (x / 524288) = rotI 524288 8192 x := by
  rw [bits_join .u32 32 (by decide) wraps_u32 13 _ _ (by omega) (by omega) (by omega) (by omega) (by omega) (by omega)]
  unfold rotI; omega
theorem rot_rng19 (x : Int) (h0 : 0 ≤ x) (h1 : x < 4294967296) : 0 ≤ rotI 524288 8192 x ∧ rotI 524288 8192 x < 4294967296 := by
  unfold rotI; omega
theorem turn_19 (x : Int) (w : World) (h0 : 0 ≤ x) (h1 : x < 4294967296) :
    Calls Tryd.prog 61 #[.int .u32 x, .int .i64 19] w fun e w' => e = .returned (.int .u32 (rotI 524288 8192 x)) ∧ w = w' := by
  have hs : bits BinOp.and IntKind.u64 (IntKind.u64.wrap (-19)) 31 = 13 := by decide +kernel
  go_enter Tryd.func61, Tryd.ntmps61
  go_wp2
  go_ret
  exact ⟨ret_int (rot_or19 x h0 h1), rfl⟩
theorem turn_19s (x : Int) (w : World) (h0 : 0 ≤ x) (h1 : x < 4294967296) :
    Calls Tryd.prog 61 #[.int .u32 x, .int .i64 19] w fun e w' => e = .returned (.int .u32 (rotI 524288 8192 x)) ∧ w' = w :=
  (turn_19 x w h0 h1).mono fun _ _ ⟨a, b⟩ => ⟨a, b.symm⟩
theorem rot_or22 (x : Int) (h0 : 0 ≤ x) (h1 : x < 4294967296) : bits .or .u32 (x * 1024 % 4294967296) (x / 4194304) = rotI 4194304 1024 x := by
  rw [bits_join .u32 32 (by decide) wraps_u32 10 _ _ (by omega) (by omega) (by omega) (by omega) (by omega) (by omega)]
  unfold rotI; omega
theorem rot_rng22 (x : Int) (h0 : 0 ≤ x) (h1 : x < 4294967296) : 0 ≤ rotI 4194304 1024 x ∧ rotI 4194304 1024 x < 4294967296 := by
  unfold rotI; omega
theorem turn_22 (x : Int) (w : World) (h0 : 0 ≤ x) (h1 : x < 4294967296) :
    Calls Tryd.prog 61 #[.int .u32 x, .int .i64 22] w fun e w' => e = .returned (.int .u32 (rotI 4194304 1024 x)) ∧ w = w' := by
  have hs : bits BinOp.and IntKind.u64 (IntKind.u64.wrap (-22)) 31 = 10 := by decide +kernel
  go_enter Tryd.func61, Tryd.ntmps61
  go_wp2
  go_ret
  exact ⟨ret_int (rot_or22 x h0 h1), rfl⟩
theorem turn_22s (x : Int) (w : World) (h0 : 0 ≤ x) (h1 : x < 4294967296) :
    Calls Tryd.prog 61 #[.int .u32 x, .int .i64 22] w fun e w' => e = .returned (.int .u32 (rotI 4194304 1024 x)) ∧ w' = w :=
  (turn_22 x w h0 h1).mono fun _ _ ⟨a, b⟩ => ⟨a, b.symm⟩
theorem rot_or25 (x : Int) (h0 : 0 ≤ x) (h1 : x < 4294967296) : bits .or .u32 (x * 128 % 4294967296) (x / 33554432) = rotI 33554432 128 x := by
  rw [bits_join .u32 32 (by decide) wraps_u32 7 _ _ (by omega) (by omega) (by omega) (by omega) (by omega) (by omega)]
  unfold rotI; omega
theorem rot_rng25 (x : Int) (h0 : 0 ≤ x) (h1 : x < 4294967296) : 0 ≤ rotI 33554432 128 x ∧ rotI 33554432 128 x < 4294967296 := by
  unfold rotI; omega
theorem turn_25 (x : Int) (w : World) (h0 : 0 ≤ x) (h1 : x < 4294967296) :
    Calls Tryd.prog 61 #[.int .u32 x, .int .i64 25] w fun e w' => e = .returned (.int .u32 (rotI 33554432 128 x)) ∧ w = w' := by
  have hs : bits BinOp.and IntKind.u64 (IntKind.u64.wrap (-25)) 31 = 7 := by decide +kernel
  go_enter Tryd.func61, Tryd.ntmps61
  go_wp2
  go_ret
  exact ⟨ret_int (rot_or25 x h0 h1), rfl⟩
theorem turn_25s (x : Int) (w : World) (h0 : 0 ≤ x) (h1 : x < 4294967296) :
    Calls Tryd.prog 61 #[.int .u32 x, .int .i64 25] w fun e w' => e = .returned (.int .u32 (rotI 33554432 128 x)) ∧ w' = w :=
  (turn_25 x w h0 h1).mono fun _ _ ⟨a, b⟩ => ⟨a, b.symm⟩
theorem three_6 (x : Int) (w : World) (h0 : 0 ≤ x) (h1 : x < 4294967296) :
    Calls Tryd.prog 57 #[.int .u32 x, .int .i64 6, .int .i64 11, .int .i64 25] w fun e w' => e = .returned (.int .u32 (bits .xor .u32 (bits .xor .u32 (rotI 64 67108864 x) (rotI 2048 2097152 x)) (rotI 33554432 128 x))) ∧ w = w' := by
  go_enter Tryd.func57, Tryd.ntmps57
  go_wp2_with fail
  refine (turn_6 _ _ h0 h1).mono ?_
  rintro e w' ⟨rfl, rfl⟩
  go_wp2_with fail
  refine (turn_11 _ _ h0 h1).mono ?_
  rintro e w' ⟨rfl, rfl⟩
  go_wp2_with fail
  refine (turn_25 _ _ h0 h1).mono ?_
  rintro e w' ⟨rfl, rfl⟩
  go_wp2_with fail
  go_ret
  exact ⟨rfl, rfl⟩

theorem three_2 (x : Int) (w : World) (h0 : 0 ≤ x) (h1 : x < 4294967296) :
    Calls Tryd.prog 57 #[.int .u32 x, .int .i64 2, .int .i64 13, .int .i64 22] w fun e w' => e = .returned (.int .u32 (bits .xor .u32 (bits .xor .u32 (rotI 4 1073741824 x) (rotI 8192 524288 x)) (rotI 4194304 1024 x))) ∧ w = w' := by
  go_enter Tryd.func57, Tryd.ntmps57
  go_wp2_with fail
  refine (turn_2 _ _ h0 h1).mono ?_
  rintro e w' ⟨rfl, rfl⟩
  go_wp2_with fail
  refine (turn_13 _ _ h0 h1).mono ?_
  rintro e w' ⟨rfl, rfl⟩
  go_wp2_with fail
  refine (turn_22 _ _ h0 h1).mono ?_
  rintro e w' ⟨rfl, rfl⟩
  go_wp2_with fail
  go_ret
  exact ⟨rfl, rfl⟩

end Go.Proofs.YtaionhdamdhjjabDoor.Sha
namespace Go.Proofs.YtaionhdamdhjjabDoor.Sha
open Go.RowKit

def SpreadAt (b : Nat) (A : Array Value) (w : World) : Prop := Calls Tryd.prog 56 #[.pointer (some ⟨b, 8, none⟩)] w fun e w' => e = .returned (.agg A) ∧ Below w.heap.size w w'

theorem store64 (A : Array Value) (hA : A.size = 64) (h1 : A.all (·.oneCell') = true) (W : World) (Z : Array Value) (hZ : Z.size = 64) :
    (storeCells ⟨W.heap.size, 0, none⟩ A.toList).run Tryd.prog (W.alloc (.cells Z 109)) = .ok () (W.alloc (.cells A 109)) :=
  run_storeCells_new W 109 Z A (by rw [hA]; kernel_rfl) (by rw [hA, hZ]) h1

def u32s (f : Nat → Int) (n : Nat) : Array Value := ((List.range n).map fun i => Value.int .u32 (f i)).toArray
theorem u32s_size (f : Nat → Int) (n : Nat) : (u32s f n).size = n := by simp [u32s]
theorem u32s_one (f : Nat → Int) (n : Nat) : (u32s f n).all (·.oneCell') = true := by
  rw [Array.all_eq_true]; intro i h; simp [u32s, Value.oneCell']
theorem u32s_get (f : Nat → Int) (n i : Nat) (h : i < n) : (u32s f n)[i]? = some (.int .u32 (f i)) := by simp [u32s, h]

theorem three_6q (x : Int) (w : World) (n y : Nat) (h0 : 0 ≤ x) (h1 : x < 4294967296) :
    Calls Tryd.prog 57 #[.int .u32 x, .int .i64 6, .int .i64 11, .int .i64 25] (w.drewN (n + y)) fun e w'' => e = .returned (.int .u32 (bits .xor .u32 (bits .xor .u32 (rotI 64 67108864 x) (rotI 2048 2097152 x)) (rotI 33554432 128 x))) ∧ ∃ m, w'' = w.drewN (n + m) :=
  (three_6 x (w.drewN (n + y)) h0 h1).mono fun _ _ ⟨a, b⟩ => ⟨a, y, b.symm⟩
theorem three_2q (x : Int) (w : World) (n y : Nat) (h0 : 0 ≤ x) (h1 : x < 4294967296) :
    Calls Tryd.prog 57 #[.int .u32 x, .int .i64 2, .int .i64 13, .int .i64 22] (w.drewN (n + y)) fun e w'' => e = .returned (.int .u32 (bits .xor .u32 (bits .xor .u32 (rotI 4 1073741824 x) (rotI 8192 524288 x)) (rotI 4194304 1024 x))) ∧ ∃ m, w'' = w.drewN (n + m) :=
  (three_2 x (w.drewN (n + y)) h0 h1).mono fun _ _ ⟨a, b⟩ => ⟨a, y, b.symm⟩

structure St where
  a : Int
  b : Int
  c : Int
  d : Int
  e : Int
  f : Int
  g : Int
  h : Int
def In32 (x : Int) : Prop := 0 ≤ x ∧ x < 4294967296
def St.Ok (s : St) : Prop := In32 s.a ∧ In32 s.b ∧ In32 s.c ∧ In32 s.d ∧ In32 s.e ∧ In32 s.f ∧ In32 s.g ∧ In32 s.h
def S1 (x : Int) : Int := bits .xor .u32 (bits .xor .u32 (rotI 64 67108864 x) (rotI 2048 2097152 x)) (rotI 33554432 128 x)
def S0 (x : Int) : Int := bits .xor .u32 (bits .xor .u32 (rotI 4 1073741824 x) (rotI 8192 524288 x)) (rotI 4194304 1024 x)
def chI (e f g : Int) : Int := bits .xor .u32 (bits .and .u32 e f) (bits .and .u32 (bits .xor .u32 IntKind.u32.max e) g)
def majI (a b c : Int) : Int := bits .xor .u32 (bits .xor .u32 (bits .and .u32 a b) (bits .and .u32 a c)) (bits .and .u32 b c)
def tI (K W : Int) (s : St) : Int := (s.h + S1 s.e + chI s.e s.f s.g + K + W) % 4294967296
def uI (s : St) : Int := (S0 s.a + majI s.a s.b s.c) % 4294967296
def stepI (K W : Int) (s : St) : St := ⟨(tI K W s + uI s) % 4294967296, s.a, s.b, s.c, (s.d + tI K W s) % 4294967296, s.e, s.f, s.g⟩
def roundsI (K W : Nat → Int) : Nat → St → St
  | 0, s => s
  | k + 1, s => stepI (K k) (W k) (roundsI K W k s)

def MixSlot (K W : Nat → Int) (s0 : St) (w2 : World) (a b c d e f g h i : Value) (wr : World) : Prop :=
  ∃ (k : Nat) (s : St) (n : Nat), k ≤ 64 ∧ i = .int .i64 k ∧ roundsI K W k s0 = s ∧ s.Ok ∧ a = .int .u32 s.a ∧ b = .int .u32 s.b ∧ c = .int .u32 s.c ∧ d = .int .u32 s.d ∧ e = .int .u32 s.e ∧ f = .int .u32 s.f ∧ g = .int .u32 s.g ∧ h = .int .u32 s.h ∧ wr = w2.drewN n

/-- The cells of a Hasher: eight numbers, 64 bytes, how many bytes there were. -/
def hcells (f blk : Nat → Int) (n : Int) : Array Value :=
  ((List.range 8).map (fun i => Value.int .u32 (f i)) ++ ((List.range 64).map (fun i => Value.int .u8 (blk i)) ++ [Value.int .u64 n])).toArray
def HashAt (b : Nat) (f blk : Nat → Int) (n : Int) (w : World) : Prop := w.heap[b]? = some (.cells (hcells f blk n) 80 (0, 0))

theorem hcells_state (f blk : Nat → Int) (n : Int) (i : Nat) (h : i < 8) : (hcells f blk n)[i]? = some (.int .u32 (f i)) := by
  simp [hcells, List.getElem?_append, h]
theorem hcells_block (f blk : Nat → Int) (n : Int) (i : Nat) (h : i < 64) : (hcells f blk n)[8 + i]? = some (.int .u8 (blk i)) := by
  have h1 : ¬ 8 + i < 8 := by omega
  have h2 : 8 + i - 8 = i := by omega
  simp [hcells, List.getElem?_append, h, h2]
theorem hcells_size (f blk : Nat → Int) (n : Int) : (hcells f blk n)[72]? = some (.int .u64 n) := by
  simp [hcells, List.getElem?_append]
theorem hcells_len (f blk : Nat → Int) (n : Int) : (hcells f blk n).size = 73 := by simp [hcells]
theorem hcells_set (f blk : Nat → Int) (n : Int) (i : Nat) (v : Int) (h : i < 8) : (hcells f blk n).setIfInBounds i (.int .u32 v) = hcells (fun j => if j = i then v else f j) blk n := by
  apply Array.ext_getElem?
  intro j
  rw [Array.getElem?_setIfInBounds]
  by_cases hj : j < 8
  · by_cases e : i = j
    · subst e; rw [if_pos rfl, if_pos (by rw [hcells_len]; omega), hcells_state _ _ _ i hj, if_pos rfl]
    · rw [if_neg e, hcells_state _ _ _ j hj, hcells_state _ _ _ j hj, if_neg (fun h => e h.symm)]
  · rw [if_neg (by omega)]
    simp [hcells, List.getElem?_append, hj]

theorem HashAt.cell {b : Nat} {f blk : Nat → Int} {n : Int} {w : World} (h : HashAt b f blk n w) (i : Nat) (hi : i < 8) : w.cell? ⟨b, i, none⟩ = some (.int .u32 (f i)) := by
  unfold World.cell?; simp only [show w.heap[b]? = _ from h]; exact hcells_state f blk n i hi
theorem HashAt.byte {b : Nat} {f blk : Nat → Int} {n : Int} {w : World} (h : HashAt b f blk n w) (i : Nat) (hi : i < 64) : w.cell? ⟨b, 8 + i, none⟩ = some (.int .u8 (blk i)) := by
  unfold World.cell?; simp only [show w.heap[b]? = _ from h]; exact hcells_block f blk n i hi
theorem HashAt.len {b : Nat} {f blk : Nat → Int} {n : Int} {w : World} (h : HashAt b f blk n w) : w.cell? ⟨b, 72, none⟩ = some (.int .u64 n) := by
  unfold World.cell?; simp only [show w.heap[b]? = _ from h]; exact hcells_size f blk n
theorem HashAt.free {b : Nat} {f blk : Nat → Int} {n : Int} {w : World} (h : HashAt b f blk n w) (i : Nat) : w.frozen? ⟨b, i, none⟩ = false := by
  simp [World.frozen?, show w.heap[b]? = _ from h]
theorem HashAt.lt {b : Nat} {f blk : Nat → Int} {n : Int} {w : World} (h : HashAt b f blk n w) : b < w.heap.size := by
  rcases Nat.lt_or_ge b w.heap.size with h' | h'
  · exact h'
  · have := show w.heap[b]? = _ from h
    rw [Array.getElem?_eq_none h'] at this; cases this
theorem HashAt.below {b : Nat} {f blk : Nat → Int} {n : Int} {w w' : World} (h : HashAt b f blk n w) (hb : Below w.heap.size w w') : HashAt b f blk n w' := (hb.block b h.lt).trans h
theorem HashAt.drewN {b : Nat} {f blk : Nat → Int} {n : Int} {w : World} (h : HashAt b f blk n w) (q : Nat) : HashAt b f blk n (w.drewN q) := by
  unfold HashAt at h ⊢; simpa using h
theorem HashAt.drew {b : Nat} {f blk : Nat → Int} {n : Int} {w : World} (h : HashAt b f blk n w) : HashAt b f blk n w.drew := h
theorem HashAt.set {b : Nat} {f blk : Nat → Int} {n : Int} {w : World} (h : HashAt b f blk n w) (i : Nat) (hi : i < 8) (v : Int) : HashAt b (fun j => if j = i then v else f j) blk n (w.setCell ⟨b, i, none⟩ (.int .u32 v)) := by
  have e : w.heap[b]? = some (.cells (hcells f blk n) 80 (0, 0)) := h
  show (w.heap.modify b _)[b]? = _
  rw [Array.getElem?_modify, if_pos rfl, e]
  simp [hcells_set f blk n i v hi]

theorem kept_below {b : Nat} {w w' : World} (h : Below w.heap.size w w') : w.grownBy w' (some b) := ⟨h.os, h.tape, h.output, h.size, fun k hk _ => h.block k hk⟩
theorem kept_trans {b : Nat} {w w1 w2 : World} (h : w.grownBy w1 (some b)) (k : w1.grownBy w2 (some b)) : w.grownBy w2 (some b) :=
  ⟨k.os.trans h.os, k.tape.trans h.tape, k.output.trans h.output, Nat.le_trans h.size k.size, fun i hi hn => (k.block i (Nat.lt_of_lt_of_le hi h.size) hn).trans (h.block i hi hn)⟩
theorem kept_set {b : Nat} {w w1 : World} (h : w.grownBy w1 (some b)) (i : Nat) (v : Value) : w.grownBy (w1.setCell ⟨b, i, none⟩ v) (some b) :=
  ⟨h.os, h.tape, h.output, by have := h.size; simpa [World.setCell] using this, fun k hk hn => by
    show (w1.heap.modify b _)[k]? = _
    rw [Array.getElem?_modify, if_neg (fun e => hn (by rw [e]))]; exact h.block k hk hn⟩
theorem kept_drew {b : Nat} {w w1 : World} (h : w.grownBy w1 (some b)) : w.grownBy w1.drew (some b) := ⟨h.os, h.tape, h.output, h.size, h.block⟩

def stOf (f : Nat → Int) : St := ⟨f 0, f 1, f 2, f 3, f 4, f 5, f 6, f 7⟩
def stGet (s : St) (i : Nat) : Int := if i = 0 then s.a else if i = 1 then s.b else if i = 2 then s.c else if i = 3 then s.d else if i = 4 then s.e else if i = 5 then s.f else if i = 6 then s.g else s.h
def addF (f : Nat → Int) (s : St) (j : Nat) : Nat → Int := fun i => if i < j then (f i + stGet s i) % 4294967296 else f i
def AddSlot (f blk : Nat → Int) (n : Int) (s : St) (b : Nat) (w : World) (i : Value) (wr : World) : Prop :=
  ∃ j : Nat, j ≤ 8 ∧ i = .int .i64 j ∧ HashAt b (addF f s j) blk n wr ∧ w.grownBy wr (some b)
theorem addF_step (f : Nat → Int) (s : St) (j : Nat) : (fun i => if i = j then (addF f s j j + stGet s j) % 4294967296 else addF f s j i) = addF f s (j + 1) := by
  funext i
  unfold addF
  by_cases h : i = j
  · subst h; simp
  · by_cases h2 : i < j
    · rw [if_neg h, if_pos h2, if_pos (by omega)]
    · rw [if_neg h, if_neg h2, if_neg (by omega)]
theorem addF_here (f : Nat → Int) (s : St) (j : Nat) : addF f s j j = f j := by unfold addF; rw [if_neg (by omega)]

theorem add_step {f blk : Nat → Int} {n : Int} {s : St} {b : Nat} {w wr : World} {j : Nat} (hH : HashAt b (addF f s j) blk n wr) (hG : w.grownBy wr (some b)) (hj : j < 8) (v : Int) (hv : v = (f j + stGet s j) % 4294967296) (i : Int) (hi : i = ((j + 1 : Nat) : Int)) :
    AddSlot f blk n s b w (.int .i64 i) ((wr.setCell ⟨b, j, none⟩ (.int .u32 v)).drew) := by
  refine ⟨j + 1, by omega, by rw [hi], ?_, kept_drew (kept_set hG j _)⟩
  have h := (hH.set j hj v).drew
  have e := addF_step f s j
  rw [addF_here, ← hv] at e
  rw [e] at h
  exact h

set_option maxHeartbeats 1000000 in
set_option maxRecDepth 100000 in
theorem mix_any (b : Nat) (f blk W : Nat → Int) (n : Int) (w : World) (hsp : SpreadAt b (u32s W 64) w) (hH : HashAt b f blk n w) (K : Nat → Int) (hK : ∀ i, i < 64 → w.cell? ⟨2, i, none⟩ = some (.int .u32 (K i))) (h1b : 2 < w.heap.size) (hok : (stOf f).Ok) :
    Calls Tryd.prog 45 #[.pointer (some ⟨b, 0, none⟩)] w fun e w' => e = .returned (.tuple #[]) ∧ HashAt b (addF f (roundsI K W 64 (stOf f)) 8) blk n w' ∧ w.grownBy w' (some b) := by
  have hb := hH.lt
  obtain ⟨s0, q0⟩ : ∃ x, f 0 = x := ⟨_, rfl⟩
  obtain ⟨s1, q1⟩ : ∃ x, f 1 = x := ⟨_, rfl⟩
  obtain ⟨s2, q2⟩ : ∃ x, f 2 = x := ⟨_, rfl⟩
  obtain ⟨s3, q3⟩ : ∃ x, f 3 = x := ⟨_, rfl⟩
  obtain ⟨s4, q4⟩ : ∃ x, f 4 = x := ⟨_, rfl⟩
  obtain ⟨s5, q5⟩ : ∃ x, f 5 = x := ⟨_, rfl⟩
  obtain ⟨s6, q6⟩ : ∃ x, f 6 = x := ⟨_, rfl⟩
  obtain ⟨s7, q7⟩ : ∃ x, f 7 = x := ⟨_, rfl⟩
  have c0 := hH.cell 0 (by omega); have c1 := hH.cell 1 (by omega); have c2 := hH.cell 2 (by omega); have c3 := hH.cell 3 (by omega)
  have c4 := hH.cell 4 (by omega); have c5 := hH.cell 5 (by omega); have c6 := hH.cell 6 (by omega); have c7 := hH.cell 7 (by omega)
  have hst0 : stOf f = ⟨s0, s1, s2, s3, s4, s5, s6, s7⟩ := by unfold stOf; rw [q0, q1, q2, q3, q4, q5, q6, q7]
  rw [q0] at c0; rw [q1] at c1; rw [q2] at c2; rw [q3] at c3; rw [q4] at c4; rw [q5] at c5; rw [q6] at c6; rw [q7] at c7
  rw [hst0] at hok ⊢
  have HH := Lib.hid hH; have HST := Lib.hid hst0
  have Q0 := Lib.hid q0; have Q1 := Lib.hid q1; have Q2 := Lib.hid q2; have Q3 := Lib.hid q3; have Q4 := Lib.hid q4; have Q5 := Lib.hid q5; have Q6 := Lib.hid q6; have Q7 := Lib.hid q7
  clear hH hst0 q0 q1 q2 q3 q4 q5 q6 q7
  have HS := Lib.hid hsp
  obtain ⟨A, hA⟩ : ∃ A, u32s W 64 = A := ⟨_, rfl⟩
  have hst := store64 A (by rw [← hA]; exact u32s_size _ _) (by rw [← hA]; exact u32s_one _ _)
  rw [hA] at HS
  have hA64 : A.size = 64 := by rw [← hA]; exact u32s_size _ _
  have HA := Lib.hid hA
  clear hsp hA
  go_enter Tryd.func45, Tryd.ntmps45
  go_wp2_with fail
  refine (show SpreadAt b A w from HS.out).mono ?_
  rintro e w1 ⟨rfl, hw1⟩
  have d0 := (hw1.cell (p := ⟨b, 0, none⟩) hb).trans c0
  have d1 := (hw1.cell (p := ⟨b, 1, none⟩) hb).trans c1
  have d2 := (hw1.cell (p := ⟨b, 2, none⟩) hb).trans c2
  have d3 := (hw1.cell (p := ⟨b, 3, none⟩) hb).trans c3
  have d4 := (hw1.cell (p := ⟨b, 4, none⟩) hb).trans c4
  have d5 := (hw1.cell (p := ⟨b, 5, none⟩) hb).trans c5
  have d6 := (hw1.cell (p := ⟨b, 6, none⟩) hb).trans c6
  have d7 := (hw1.cell (p := ⟨b, 7, none⟩) hb).trans c7
  clear c0 c1 c2 c3 c4 c5 c6 c7
  have hz1 := hw1.size
  have hlt : b < w1.heap.size := by omega
  have hltn : ¬ b = w1.heap.size := by omega
  go_wp2_with fail
  have HK : Hid (∀ i, i < 64 → w1.cell? ⟨2, i, none⟩ = some (.int .u32 (K i))) := Lib.hid (fun i hi => (hw1.cell (p := ⟨2, i, none⟩) h1b).trans (hK i hi))
  have HOK := Lib.hid hok
  clear hK hok
  go_quiet (fail)
  go_wp2_with fail
  go_loopw [4, 5, 6, 7, 8, 9, 10, 11, 41] (fun a b' c d e f g h i wr => MixSlot K W ⟨s0, s1, s2, s3, s4, s5, s6, s7⟩ ((w1.alloc (.cells A 109)).alloc (.cells #[.int .u32 s0, .int .u32 s1, .int .u32 s2, .int .u32 s3, .int .u32 s4, .int .u32 s5, .int .u32 s6, .int .u32 s7] 76)) a b' c d e f g h i wr) (fun _ _ _ _ _ _ _ _ i _ => 64 - (intOf i).toNat)
  case atStart => exact ⟨0, _, nq, by omega, rfl, rfl, HOK.out, rfl, rfl, rfl, rfl, rfl, rfl, rfl, rfl, rfl⟩
  case round =>
    obtain ⟨k, ⟨xa, xb, xc, xd, xe, xf, xg, xh⟩, m, hk, rfl, hs, hO, rfl, rfl, rfl, rfl, rfl, rfl, rfl, rfl, rfl⟩ := hrel
    obtain ⟨⟨la, ua⟩, ⟨lb, ub⟩, ⟨lc, uc⟩, ⟨ld, ud⟩, ⟨le, ue⟩, ⟨lf, uf⟩, ⟨lg, ug⟩, ⟨lh, uh⟩⟩ := hO
    dsimp only at la ua lb ub lc uc ld ud le ue lf uf lg ug lh uh
    have HR := Lib.hid hs
    clear hs
    by_cases hlt : k < 64
    · have hkk : ((w1.alloc (.cells A 109)).alloc (.cells #[.int .u32 s0, .int .u32 s1, .int .u32 s2, .int .u32 s3, .int .u32 s4, .int .u32 s5, .int .u32 s6, .int .u32 s7] 76)).cell? ⟨2, k, none⟩ = some (.int .u32 (K k)) := by
        have hb1 : Below w1.heap.size w1 ((w1.alloc (.cells A 109)).alloc (.cells #[.int .u32 s0, .int .u32 s1, .int .u32 s2, .int .u32 s3, .int .u32 s4, .int .u32 s5, .int .u32 s6, .int .u32 s7] 76)) := ((Below.refl _ _).alloc (Nat.le_refl _) _).alloc (by simp) _
        exact (hb1.cell (p := ⟨2, k, none⟩) (by show 2 < w1.heap.size; omega)).trans (HK.out k hlt)
      have hkw : ((w1.alloc (.cells A 109)).alloc (.cells #[.int .u32 s0, .int .u32 s1, .int .u32 s2, .int .u32 s3, .int .u32 s4, .int .u32 s5, .int .u32 s6, .int .u32 s7] 76)).cell? ⟨w1.heap.size, k, none⟩ = some (.int .u32 (W k)) := by
        have hb1 : Below (w1.heap.size + 1) (w1.alloc (.cells A 109)) ((w1.alloc (.cells A 109)).alloc (.cells #[.int .u32 s0, .int .u32 s1, .int .u32 s2, .int .u32 s3, .int .u32 s4, .int .u32 s5, .int .u32 s6, .int .u32 s7] 76)) := (Below.refl _ _).alloc (by simp) _
        rw [hb1.cell (p := ⟨w1.heap.size, k, none⟩) (Nat.lt_succ_self _)]
        have e : (w1.alloc (.cells A 109)).heap[w1.heap.size]? = some (.cells A 109 (0, 0)) := heap_alloc_last _ _
        unfold World.cell?
        simp only [e]
        rw [← HA.out]; exact u32s_get _ _ _ hlt
      have hAk : A[k]? = some (.int .u32 (W k)) := by rw [← HA.out]; exact u32s_get _ _ _ hlt
      have hlt2 : (k : Int) < 64 := by omega
      go_wp2_with fail
      go_quiet ((go_at_call 57; exact three_6q _ _ _ _ le ue))
      obtain ⟨t, ht⟩ : ∃ t, tI (K k) (W k) ⟨xa, xb, xc, xd, xe, xf, xg, xh⟩ = t := ⟨_, rfl⟩
      have ht2 : (xh + bits .xor .u32 (bits .xor .u32 (rotI 64 67108864 xe) (rotI 2048 2097152 xe)) (rotI 33554432 128 xe) + bits .xor .u32 (bits .and .u32 xe xf) (bits .and .u32 (bits .xor .u32 IntKind.u32.max xe) xg) + K k + W k) % 4294967296 = t := ht
      go_wp2_with fail
      clear ht2
      refine (three_2 _ _ la ua).mono ?_
      rintro e w' ⟨rfl, rfl⟩
      obtain ⟨u, hu⟩ : ∃ u, uI ⟨xa, xb, xc, xd, xe, xf, xg, xh⟩ = u := ⟨_, rfl⟩
      have hu2 : (bits .xor .u32 (bits .xor .u32 (rotI 4 1073741824 xa) (rotI 8192 524288 xa)) (rotI 4194304 1024 xa) + bits .xor .u32 (bits .xor .u32 (bits .and .u32 xa xb) (bits .and .u32 xa xc)) (bits .and .u32 xb xc)) % 4294967296 = u := hu
      have HT := Lib.hid ht; have HU := Lib.hid hu
      clear ht hu
      have hstep : Hid (MixSlot K W ⟨s0, s1, s2, s3, s4, s5, s6, s7⟩ ((w1.alloc (.cells A 109)).alloc (.cells #[.int .u32 s0, .int .u32 s1, .int .u32 s2, .int .u32 s3, .int .u32 s4, .int .u32 s5, .int .u32 s6, .int .u32 s7] 76)) (.int .u32 ((t + u) % 4294967296)) (.int .u32 xa) (.int .u32 xb) (.int .u32 xc) (.int .u32 ((xd + t) % 4294967296)) (.int .u32 xe) (.int .u32 xf) (.int .u32 xg) (.int .i64 ((k : Int) + 1)) (((w1.alloc (.cells A 109)).alloc (.cells #[.int .u32 s0, .int .u32 s1, .int .u32 s2, .int .u32 s3, .int .u32 s4, .int .u32 s5, .int .u32 s6, .int .u32 s7] 76)).drewN (m + nq))) := Lib.hid
        ⟨k + 1, ⟨(t + u) % 4294967296, xa, xb, xc, (xd + t) % 4294967296, xe, xf, xg⟩, m + nq, by omega, by go_num, by rw [roundsI, HR.out, stepI, HT.out, HU.out],
          ⟨⟨by show 0 ≤ (t + u) % 4294967296; omega, by show (t + u) % 4294967296 < 4294967296; omega⟩, ⟨la, ua⟩, ⟨lb, ub⟩, ⟨lc, uc⟩, ⟨by show 0 ≤ (xd + t) % 4294967296; omega, by show (xd + t) % 4294967296 < 4294967296; omega⟩, ⟨le, ue⟩, ⟨lf, uf⟩, ⟨lg, ug⟩⟩, rfl, rfl, rfl, rfl, rfl, rfl, rfl, rfl, rfl⟩
      go_wp2_with fail
      exact ⟨hstep.out, by simp [intOf]; omega⟩
    · obtain rfl : k = 64 := by omega
      clear hlt hk
      obtain ⟨W2, hW2⟩ : ∃ W2, ((w1.alloc (.cells A 109)).alloc (.cells #[.int .u32 s0, .int .u32 s1, .int .u32 s2, .int .u32 s3, .int .u32 s4, .int .u32 s5, .int .u32 s6, .int .u32 s7] 76)).drewN m = W2 := ⟨_, rfl⟩
      have hH2 : HashAt b f blk n W2 := by
        rw [← hW2]
        exact ((HH.out.below hw1).below (((Below.refl _ _).alloc (Nat.le_refl _) _).alloc (by simp) _)).drewN m
      have hG2 : w.grownBy W2 (some b) := by
        rw [← hW2]
        exact kept_below (below_drewN ((hw1.alloc hz1 _).alloc (by simp; omega) _) m)
      rw [hW2]
      have HH2 := Lib.hid hH2; have HG2 := Lib.hid hG2
      clear hH2 hG2 hW2
      go_wp2_with fail
      go_loopw [101] (fun i wr => AddSlot f blk n ⟨xa, xb, xc, xd, xe, xf, xg, xh⟩ b w i wr) (fun i _ => 8 - (intOf i).toNat)
      case atStart => exact ⟨0, by omega, rfl, HH2.out, HG2.out⟩
      case round =>
        obtain ⟨j, hj, rfl, hHj, hGj⟩ := hrel
        have HHj := Lib.hid hHj; have HGj := Lib.hid hGj
        clear hHj hGj
        by_cases hj8 : j < 8
        · have cj := HHj.out.cell j hj8
          rw [addF_here] at cj
          have fj := HHj.out.free j
          rcases (show j = 0 ∨ j = 1 ∨ j = 2 ∨ j = 3 ∨ j = 4 ∨ j = 5 ∨ j = 6 ∨ j = 7 by omega) with rfl | rfl | rfl | rfl | rfl | rfl | rfl | rfl
          · have hix : ∀ W', (Instr.index 76 (.agg #[.int .u32 xa, .int .u32 xb, .int .u32 xc, .int .u32 xd, .int .u32 xe, .int .u32 xf, .int .u32 xg, .int .u32 xh]) (.int .i64 0)).run Tryd.prog W' = .ok (.int .u32 xa) W' := fun _ => by kernel_rfl
            have hst := Lib.hid (add_step HHj.out HGj.out (by omega) ((f 0 + xa) % 4294967296) rfl 1 rfl)
            go_wp2_with fail
            go_region
            go_wp2_with fail
            exact ⟨hst.out, by simp [intOf]⟩
          · have hix : ∀ W', (Instr.index 76 (.agg #[.int .u32 xa, .int .u32 xb, .int .u32 xc, .int .u32 xd, .int .u32 xe, .int .u32 xf, .int .u32 xg, .int .u32 xh]) (.int .i64 1)).run Tryd.prog W' = .ok (.int .u32 xb) W' := fun _ => by kernel_rfl
            have hst := Lib.hid (add_step HHj.out HGj.out (by omega) ((f 1 + xb) % 4294967296) rfl 2 rfl)
            go_wp2_with fail
            go_region
            go_wp2_with fail
            exact ⟨hst.out, by simp [intOf]⟩
          · have hix : ∀ W', (Instr.index 76 (.agg #[.int .u32 xa, .int .u32 xb, .int .u32 xc, .int .u32 xd, .int .u32 xe, .int .u32 xf, .int .u32 xg, .int .u32 xh]) (.int .i64 2)).run Tryd.prog W' = .ok (.int .u32 xc) W' := fun _ => by kernel_rfl
            have hst := Lib.hid (add_step HHj.out HGj.out (by omega) ((f 2 + xc) % 4294967296) rfl 3 rfl)
            go_wp2_with fail
            go_region
            go_wp2_with fail
            exact ⟨hst.out, by simp [intOf]⟩
          · have hix : ∀ W', (Instr.index 76 (.agg #[.int .u32 xa, .int .u32 xb, .int .u32 xc, .int .u32 xd, .int .u32 xe, .int .u32 xf, .int .u32 xg, .int .u32 xh]) (.int .i64 3)).run Tryd.prog W' = .ok (.int .u32 xd) W' := fun _ => by kernel_rfl
            have hst := Lib.hid (add_step HHj.out HGj.out (by omega) ((f 3 + xd) % 4294967296) rfl 4 rfl)
            go_wp2_with fail
            go_region
            go_wp2_with fail
            exact ⟨hst.out, by simp [intOf]⟩
          · have hix : ∀ W', (Instr.index 76 (.agg #[.int .u32 xa, .int .u32 xb, .int .u32 xc, .int .u32 xd, .int .u32 xe, .int .u32 xf, .int .u32 xg, .int .u32 xh]) (.int .i64 4)).run Tryd.prog W' = .ok (.int .u32 xe) W' := fun _ => by kernel_rfl
            have hst := Lib.hid (add_step HHj.out HGj.out (by omega) ((f 4 + xe) % 4294967296) rfl 5 rfl)
            go_wp2_with fail
            go_region
            go_wp2_with fail
            exact ⟨hst.out, by simp [intOf]⟩
          · have hix : ∀ W', (Instr.index 76 (.agg #[.int .u32 xa, .int .u32 xb, .int .u32 xc, .int .u32 xd, .int .u32 xe, .int .u32 xf, .int .u32 xg, .int .u32 xh]) (.int .i64 5)).run Tryd.prog W' = .ok (.int .u32 xf) W' := fun _ => by kernel_rfl
            have hst := Lib.hid (add_step HHj.out HGj.out (by omega) ((f 5 + xf) % 4294967296) rfl 6 rfl)
            go_wp2_with fail
            go_region
            go_wp2_with fail
            exact ⟨hst.out, by simp [intOf]⟩
          · have hix : ∀ W', (Instr.index 76 (.agg #[.int .u32 xa, .int .u32 xb, .int .u32 xc, .int .u32 xd, .int .u32 xe, .int .u32 xf, .int .u32 xg, .int .u32 xh]) (.int .i64 6)).run Tryd.prog W' = .ok (.int .u32 xg) W' := fun _ => by kernel_rfl
            have hst := Lib.hid (add_step HHj.out HGj.out (by omega) ((f 6 + xg) % 4294967296) rfl 7 rfl)
            go_wp2_with fail
            go_region
            go_wp2_with fail
            exact ⟨hst.out, by simp [intOf]⟩
          · have hix : ∀ W', (Instr.index 76 (.agg #[.int .u32 xa, .int .u32 xb, .int .u32 xc, .int .u32 xd, .int .u32 xe, .int .u32 xf, .int .u32 xg, .int .u32 xh]) (.int .i64 7)).run Tryd.prog W' = .ok (.int .u32 xh) W' := fun _ => by kernel_rfl
            have hst := Lib.hid (add_step HHj.out HGj.out (by omega) ((f 7 + xh) % 4294967296) rfl 8 rfl)
            go_wp2_with fail
            go_region
            go_wp2_with fail
            exact ⟨hst.out, by simp [intOf]⟩
        · obtain rfl : j = 8 := by omega
          go_wp2_with fail
          go_end0
          exact ⟨rfl, by rw [← HR.out] at HHj; exact HHj.out, HGj.out⟩
end Go.Proofs.YtaionhdamdhjjabDoor.Sha
namespace Go.Proofs.YtaionhdamdhjjabDoor.Sha
open Go.RowKit

theorem heap_two (w : World) (o p : Obj) : ((w.alloc o).alloc p).heap[w.heap.size + 1]? = some p := by
  have := heap_alloc_last (w.alloc o) p
  simpa using this

theorem heap_first (w : World) (o p : Obj) : ((w.alloc o).alloc p).heap[w.heap.size]? = some o := by
  show ((w.heap.push o).push p)[w.heap.size]? = _
  rw [Array.getElem?_push, if_neg (by simp), Array.getElem?_push, if_pos rfl]

/-- A row of 64 numbers in block g. -/
def RowAt (g : Nat) (F : Nat → Int) (w : World) : Prop := w.heap[g]? = some (.cells (u32s F 64) 109 (0, 0))
theorem RowAt.cell {g : Nat} {F : Nat → Int} {w : World} (h : RowAt g F w) (i : Nat) (hi : i < 64) : w.cell? ⟨g, i, none⟩ = some (.int .u32 (F i)) := by
  unfold World.cell?; simp only [show w.heap[g]? = _ from h]; exact u32s_get F 64 i hi
theorem RowAt.free {g : Nat} {F : Nat → Int} {w : World} (h : RowAt g F w) (i : Nat) : w.frozen? ⟨g, i, none⟩ = false := by
  simp [World.frozen?, show w.heap[g]? = _ from h]

theorem u32s_set (F : Nat → Int) (k : Nat) (v : Int) (h : k < 64) : (u32s F 64).setIfInBounds k (.int .u32 v) = u32s (fun j => if j = k then v else F j) 64 := by
  apply Array.ext_getElem?
  intro j
  rw [Array.getElem?_setIfInBounds]
  by_cases hj : j < 64
  · by_cases e : k = j
    · subst e; rw [if_pos rfl, if_pos (by rw [u32s_size]; omega), u32s_get _ _ _ hj, if_pos rfl]
    · rw [if_neg e, u32s_get _ _ _ hj, u32s_get _ _ _ hj, if_neg (fun h => e h.symm)]
  · rw [if_neg (by omega), Array.getElem?_eq_none (by rw [u32s_size]; omega), Array.getElem?_eq_none (by rw [u32s_size]; omega)]
theorem RowAt.set {g : Nat} {F : Nat → Int} {w : World} (h : RowAt g F w) (k : Nat) (hk : k < 64) (v : Int) : RowAt g (fun j => if j = k then v else F j) (w.setCell ⟨g, k, none⟩ (.int .u32 v)) := by
  have e : w.heap[g]? = some (.cells (u32s F 64) 109 (0, 0)) := h
  show (w.heap.modify g _)[g]? = _
  rw [Array.getElem?_modify, if_pos rfl, e]
  simp [u32s_set F k v hk]
theorem RowAt.drew {g : Nat} {F : Nat → Int} {w : World} (h : RowAt g F w) : RowAt g F w.drew := h

/-- Of c bytes from 4 m on the number. -/
def part (blk : Nat → Int) (m : Nat) : Nat → Int
  | 0 => 0
  | c + 1 => part blk m c * 256 + blk (4 * m + c)
def wordF (blk : Nat → Int) (t m : Nat) : Int := part blk m (min 4 (t - 4 * m))
theorem wordF_step (blk : Nat → Int) (t k j : Nat) (ht : t = 4 * k + j) (hj : j < 4) : (fun m => if m = k then wordF blk t k * 256 + blk t else wordF blk t m) = wordF blk (t + 1) := by
  funext m
  unfold wordF
  by_cases h : m = k
  · subst h
    rw [if_pos rfl, show min 4 (t - 4 * m) = j by omega, show min 4 (t + 1 - 4 * m) = j + 1 by omega, part, ht]
  · rw [if_neg h, show min 4 (t + 1 - 4 * m) = min 4 (t - 4 * m) by omega]
def Bytes8 (blk : Nat → Int) : Prop := ∀ i, 0 ≤ blk i ∧ blk i < 256
theorem part_rng (blk : Nat → Int) (h : Bytes8 blk) (m c : Nat) : 0 ≤ part blk m c ∧ part blk m c < 256 ^ c := by
  induction c with
  | zero => simp [part]
  | succ c ih =>
    have := h (4 * m + c)
    rw [part, Int.pow_succ]
    omega
theorem wordF_rng (blk : Nat → Int) (h : Bytes8 blk) (t k j : Nat) (ht : t = 4 * k + j) (hj : j < 4) : 0 ≤ wordF blk t k ∧ wordF blk t k < 16777216 := by
  have := part_rng blk h k j
  unfold wordF
  rw [show min 4 (t - 4 * k) = j by omega]
  rcases (show j = 0 ∨ j = 1 ∨ j = 2 ∨ j = 3 by omega) with rfl | rfl | rfl | rfl <;> simp at this <;> omega

def ZeroAt (g : Nat) (w : World) : Prop := ∃ Z : Array Value, Z.size = 64 ∧ w.heap[g]? = some (.cells Z 109 (0, 0))
theorem ZeroAt.set {g : Nat} {w : World} (h : ZeroAt g w) (k : Nat) (v : Value) : ZeroAt g (w.setCell ⟨g + 1, k, none⟩ v) := by
  obtain ⟨Z, hZ, e⟩ := h
  refine ⟨Z, hZ, ?_⟩
  show (w.heap.modify (g + 1) _)[g]? = _
  rw [Array.getElem?_modify, if_neg (by omega)]; exact e
theorem ZeroAt.drew {g : Nat} {w : World} (h : ZeroAt g w) : ZeroAt g w.drew := h
/-- What all three loops keep: the row, the result's own cells, what lay there before. -/
def SprAt (F : Nat → Int) (w wr : World) : Prop := RowAt (w.heap.size + 1) F wr ∧ ZeroAt w.heap.size wr ∧ Below w.heap.size w wr ∧ w.heap.size ≤ wr.heap.size
theorem SprAt.set {F : Nat → Int} {w wr : World} (h : SprAt F w wr) (k : Nat) (hk : k < 64) (v : Int) : SprAt (fun j => if j = k then v else F j) w (wr.setCell ⟨w.heap.size + 1, k, none⟩ (.int .u32 v)).drew :=
  ⟨(h.1.set k hk v).drew, (h.2.1.set k _).drew, (h.2.2.1.setCell (p := ⟨w.heap.size + 1, k, none⟩) (by show w.heap.size ≤ w.heap.size + 1; omega) _).drew, by have := h.2.2.2; simpa [World.setCell, World.drew] using this⟩
def OutSlot (blk : Nat → Int) (w : World) (i : Value) (wr : World) : Prop := ∃ k : Nat, k ≤ 16 ∧ i = .int .i64 k ∧ SprAt (wordF blk (4 * k)) w wr
def InSlot (blk : Nat → Int) (w : World) (k : Nat) (i : Value) (wr : World) : Prop := ∃ j : Nat, j ≤ 4 ∧ i = .int .i64 j ∧ SprAt (wordF blk (4 * k + j)) w wr
theorem in_step {blk : Nat → Int} {w wr : World} {k j : Nat} (h : SprAt (wordF blk (4 * k + j)) w wr) (hk : k < 16) (hj : j < 4) (v : Int) (hv : v = wordF blk (4 * k + j) k * 256 + blk (4 * k + j)) (i : Int) (hi : i = ((j + 1 : Nat) : Int)) :
    InSlot blk w k (.int .i64 i) (wr.setCell ⟨w.heap.size + 1, k, none⟩ (.int .u32 v)).drew := by
  refine ⟨j + 1, by omega, by rw [hi], ?_⟩
  have h1 := h.set k (by omega) v
  rw [hv, wordF_step blk (4 * k + j) k j rfl hj] at h1
  rw [hv]; exact h1
theorem or_u32 (x c : Int) (h0 : 0 ≤ x) (h1 : x < 16777216) (c0 : 0 ≤ c) (c1 : c < 256) : bits .or .u32 (x * 256) c = x * 256 + c :=
  bits_join .u32 32 (by decide) wraps_u32 8 _ _ (by omega) (by omega) (by omega) (by omega) (by omega) (by omega)

def s0F (x : Int) : Int := bits .xor .u32 (bits .xor .u32 (rotI 128 33554432 x) (rotI 262144 16384 x)) (x / 8)
def s1F (y : Int) : Int := bits .xor .u32 (bits .xor .u32 (rotI 131072 32768 y) (rotI 524288 8192 y)) (y / 1024)
def nextW (F : Nat → Int) (m : Nat) : Int := (F (m - 16) + s0F (F (m - 15)) + F (m - 7) + s1F (F (m - 2))) % 4294967296
/-- The row when all words ahead of word m are made. -/
def schF (blk : Nat → Int) : Nat → Nat → Int
  | 0 => wordF blk 64
  | k + 1 => fun m => if m = 16 + k then nextW (schF blk k) (16 + k) else schF blk k m
theorem wordF_full (blk : Nat → Int) (h : Bytes8 blk) (t m : Nat) : 0 ≤ wordF blk t m ∧ wordF blk t m < 4294967296 := by
  have := part_rng blk h m (min 4 (t - 4 * m))
  unfold wordF
  rcases (show min 4 (t - 4 * m) = 0 ∨ min 4 (t - 4 * m) = 1 ∨ min 4 (t - 4 * m) = 2 ∨ min 4 (t - 4 * m) = 3 ∨ min 4 (t - 4 * m) = 4 by omega) with e | e | e | e | e <;> rw [e] at this ⊢ <;> simp at this <;> omega
theorem schF_rng (blk : Nat → Int) (h : Bytes8 blk) (k m : Nat) : 0 ≤ schF blk k m ∧ schF blk k m < 4294967296 := by
  induction k generalizing m with
  | zero => exact wordF_full blk h 64 m
  | succ k ih =>
    unfold schF
    split
    · unfold nextW; omega
    · exact ih m
def SchSlot (blk : Nat → Int) (w : World) (i : Value) (wr : World) : Prop := ∃ k : Nat, k ≤ 48 ∧ i = .int .i64 ((16 + k : Nat) : Int) ∧ SprAt (schF blk k) w wr

theorem SprAt.drewN {F : Nat → Int} {w wr : World} (h : SprAt F w wr) (q : Nat) : SprAt F w (wr.drewN q) :=
  ⟨by have h1 := h.1; unfold RowAt at h1 ⊢; simpa using h1, by obtain ⟨Z, hZ, e⟩ := h.2.1; exact ⟨Z, hZ, by simpa using e⟩, below_drewN h.2.2.1 q, by simpa using h.2.2.2⟩
theorem SprAt.put {F : Nat → Int} {w wr : World} (h : SprAt F w wr) (k : Nat) (hk : k < 64) (v : Int) : SprAt (fun j => if j = k then v else F j) w (wr.setCell ⟨w.heap.size + 1, k, none⟩ (.int .u32 v)) :=
  ⟨h.1.set k hk v, h.2.1.set k _, h.2.2.1.setCell (p := ⟨w.heap.size + 1, k, none⟩) (by show w.heap.size ≤ w.heap.size + 1; omega) _, by have := h.2.2.2; simpa [World.setCell] using this⟩
theorem sch_step {blk : Nat → Int} {w wr : World} {k : Nat} (h : SprAt (schF blk k) w wr) (hk : k < 48) (q m : Nat) (hm : 16 + k = m) (v : Int) (hv : v = nextW (schF blk k) m) (i : Int) (hi : i = (m : Int) + 1) :
    SchSlot blk w (.int .i64 i) ((wr.drewN q).setCell ⟨w.heap.size + 1, m, none⟩ (.int .u32 v)) := by
  subst hm
  refine ⟨k + 1, by omega, by rw [hi]; congr 1, ?_⟩
  have h1 := (h.drewN q).put (16 + k) (by omega) v
  rw [hv] at h1 ⊢
  exact h1

theorem below_row {w wr : World} (h : Below w.heap.size w wr) (_hz : w.heap.size ≤ wr.heap.size) (A : Array Value) : Below w.heap.size w (wr.setRow w.heap.size A) :=
  ⟨h.os, h.tape, h.output, by have := h.size; simpa [World.setRow] using this, fun k hk => by
    show (wr.heap.modify w.heap.size _)[k]? = _
    rw [Array.getElem?_modify, if_neg (by omega)]; exact h.block k hk⟩

set_option maxHeartbeats 1000000 in
set_option maxRecDepth 100000 in
theorem spread_any (b : Nat) (f blk : Nat → Int) (n : Int) (w : World) (hH : HashAt b f blk n w) (hB8 : Bytes8 blk) :
    Calls Tryd.prog 56 #[.pointer (some ⟨b, 8, none⟩)] w fun e w' => e = .returned (.agg (u32s (schF blk 48) 64)) ∧ Below w.heap.size w w' := by
  have hb := hH.lt
  have HH := Lib.hid hH; have HB8 := Lib.hid hB8
  clear hH hB8
  go_enter Tryd.func56, Tryd.ntmps56
  go_wp2_with fail
  go_loopw [9] (fun i wr => OutSlot blk w i wr) (fun i _ => 16 - (intOf i).toNat)
  case atStart =>
    refine ⟨0, by omega, rfl, ?_, ⟨_, ?_, heap_first _ _ _⟩, ((Below.refl _ _).alloc (Nat.le_refl _) _).alloc (by simp) _, by simp; omega⟩
    · unfold RowAt; rw [heap_two]; rfl
    · rfl
  case round =>
    obtain ⟨k, hk, rfl, hS⟩ := hrel
    have HS := Lib.hid hS
    clear hS
    by_cases hlt : k < 16
    · have hi2 : (k : Int) < 16 := by omega
      go_wp2_with fail
      go_loopw [12] (fun i wr => InSlot blk w k i wr) (fun i _ => 4 - (intOf i).toNat)
      case atStart => exact ⟨0, by omega, rfl, HS.out⟩
      case round =>
        obtain ⟨j, hj, rfl, hI⟩ := hrel
        have HI := Lib.hid hI
        clear hI
        by_cases hj4 : j < 4
        · have hc := HI.out.1.cell k (by omega)
          have hz := HI.out.1.free k
          have hr := wordF_rng blk HB8.out (4 * k + j) k j rfl hj4
          obtain ⟨x, hx⟩ : ∃ x, wordF blk (4 * k + j) k = x := ⟨_, rfl⟩
          rw [hx] at hc hr
          obtain ⟨hr0, hr1⟩ := hr
          have hcb : wr.cell? ⟨b, 8 + (4 * k + j), none⟩ = some (.int .u8 (blk (4 * k + j))) := (HI.out.2.2.1.cell (p := ⟨b, 8 + (4 * k + j), none⟩) hb).trans (HH.out.byte (4 * k + j) (by omega))
          have hcr := HB8.out (4 * k + j)
          obtain ⟨c, hcc⟩ : ∃ c, blk (4 * k + j) = c := ⟨_, rfl⟩
          rw [hcc] at hcb hcr
          obtain ⟨hc0, hc1⟩ := hcr
          have hor := or_u32 x c hr0 hr1 hc0 hc1
          have hlt4 : (4 * (k : Int) + j) < 64 := by omega
          have hge4 : 0 ≤ 4 * (k : Int) + j := by omega
          have htn : (4 * (k : Int) + j).toNat = 4 * k + j := by omega
          have hw1 : IntKind.i64.wrap (4 * (k : Int)) = 4 * (k : Int) := IntWalk.i64_in _ (by omega)
          have hw2 : IntKind.i64.wrap (4 * (k : Int) + j) = 4 * (k : Int) + j := IntWalk.i64_in _ (by omega)
          have hst := Lib.hid (in_step HI.out hlt hj4 (x * 256 + c) (by rw [hx, hcc]) ((j : Int) + 1) (by omega))
          have HX := Lib.hid hx; have HC := Lib.hid hcc
          have hj5 : (j : Int) < 4 := by omega
          clear hx hcc
          go_wp2_with fail
          go_region
          go_wp2_with fail
          exact ⟨hst.out, by simp [intOf]; omega⟩
        · obtain rfl : j = 4 := by omega
          have hst : Hid (OutSlot blk w (.int .i64 ((k : Int) + 1)) wr) := Lib.hid ⟨k + 1, by omega, by go_num, HI.out⟩
          go_wp2_with fail
          exact ⟨hst.out, by simp [intOf]; omega⟩
    · obtain rfl : k = 16 := by omega
      clear hlt hk
      rw [show ((16 : Nat) : Int) = 16 from rfl]
      go_wp2_with fail
      go_loopw [6] (fun i wr => SchSlot blk w i wr) (fun i _ => 64 - (intOf i).toNat)
      case atStart => exact ⟨0, by omega, rfl, HS.out⟩
      case round =>
        obtain ⟨k, hk, rfl, hI⟩ := hrel
        have HI := Lib.hid hI
        clear hI
        by_cases hk48 : k < 48
        · obtain ⟨m, hm⟩ : ∃ m, 16 + k = m := ⟨_, rfl⟩
          have c16 := HI.out.1.cell (m - 16) (by omega)
          have c15 := HI.out.1.cell (m - 15) (by omega)
          have c7 := HI.out.1.cell (m - 7) (by omega)
          have c2 := HI.out.1.cell (m - 2) (by omega)
          have cm := HI.out.1.cell m (by omega)
          have fm := HI.out.1.free m
          have r15 := schF_rng blk HB8.out k (m - 15)
          have r2 := schF_rng blk HB8.out k (m - 2)
          obtain ⟨x16, e16⟩ : ∃ x, schF blk k (m - 16) = x := ⟨_, rfl⟩
          obtain ⟨x15, e15⟩ : ∃ x, schF blk k (m - 15) = x := ⟨_, rfl⟩
          obtain ⟨x7, e7⟩ : ∃ x, schF blk k (m - 7) = x := ⟨_, rfl⟩
          obtain ⟨x2, e2⟩ : ∃ x, schF blk k (m - 2) = x := ⟨_, rfl⟩
          rw [e16] at c16; rw [e15] at c15 r15; rw [e7] at c7; rw [e2] at c2 r2
          obtain ⟨r15a, r15b⟩ := r15
          obtain ⟨r2a, r2b⟩ := r2
          have hm64 : (m : Int) < 64 := by omega
          have g16 : 0 ≤ (m : Int) - 16 := by omega
          have g15 : 0 ≤ (m : Int) - 15 := by omega
          have g7 : 0 ≤ (m : Int) - 7 := by omega
          have g2 : 0 ≤ (m : Int) - 2 := by omega
          have k16 : 16 ≤ (m : Int) := by omega
          have k15 : 15 ≤ (m : Int) := by omega
          have k7 : 7 ≤ (m : Int) := by omega
          have k2 : 2 ≤ (m : Int) := by omega
          have l16 : (m : Int) - 16 < 64 := by omega
          have l15 : (m : Int) - 15 < 64 := by omega
          have l7 : (m : Int) - 7 < 64 := by omega
          have l2 : (m : Int) - 2 < 64 := by omega
          have t16 : ((m : Int) - 16).toNat = m - 16 := by omega
          have t15 : ((m : Int) - 15).toNat = m - 15 := by omega
          have t7 : ((m : Int) - 7).toNat = m - 7 := by omega
          have t2 : ((m : Int) - 2).toNat = m - 2 := by omega
          have w16 : IntKind.i64.wrap ((m : Int) - 16) = (m : Int) - 16 := IntWalk.i64_in _ (by omega)
          have w15 : IntKind.i64.wrap ((m : Int) - 15) = (m : Int) - 15 := IntWalk.i64_in _ (by omega)
          have w7 : IntKind.i64.wrap ((m : Int) - 7) = (m : Int) - 7 := IntWalk.i64_in _ (by omega)
          have w2 : IntKind.i64.wrap ((m : Int) - 2) = (m : Int) - 2 := IntWalk.i64_in _ (by omega)
          have HM := Lib.hid hm
          rw [hm]
          have E16 := Lib.hid e16; have E15 := Lib.hid e15; have E7 := Lib.hid e7; have E2 := Lib.hid e2
          clear hm e16 e15 e7 e2
          go_wp2_with fail
          go_quiet (fail)
          go_wp2_with fail
          refine wp_region_still_tail 29 (by kernel_rfl) (by kernel_rfl) ?_
          change wpStill _ _ (World.drew _) _ _ _
          simp only [List.take_succ_cons, List.take_zero, List.drop_succ_cons, List.drop_zero]
          repeat still_step
          still_call (turn_7s x15 _ r15a r15b)
          repeat still_step
          still_call (turn_18s x15 _ r15a r15b)
          repeat still_step
          still_call (turn_17s x2 _ r2a r2b)
          repeat still_step
          still_call (turn_19s x2 _ r2a r2b)
          repeat still_step
          try refine wpStill_nil ?_
          change wpList _ _ _ _ _ (World.drew _)
          go_wp2_with fail
          have hst : Hid (SchSlot blk w (.int .i64 ((m : Int) + 1)) ((wr.drewN (nq + 1)).setCell ⟨w.heap.size + 1, m, none⟩ (.int .u32 ((x16 + bits .xor .u32 (bits .xor .u32 (rotI 128 33554432 x15) (rotI 262144 16384 x15)) (x15 / 8) + x7 + bits .xor .u32 (bits .xor .u32 (rotI 131072 32768 x2) (rotI 524288 8192 x2)) (x2 / 1024)) % 4294967296)))) :=
            Lib.hid (sch_step HI.out hk48 (nq + 1) m HM.out _ (by rw [nextW, E16.out, E15.out, E7.out, E2.out]; rfl) _ rfl)
          exact ⟨hst.out, by simp [intOf]; omega⟩
        · obtain rfl : k = 48 := by omega
          have hg1 : wr.heap[w.heap.size + 1]? = some (.cells (u32s (schF blk 48) 64) 109 (0, 0)) := HI.out.1
          obtain ⟨Z, hZ, hg2⟩ := HI.out.2.1
          have G1 := Lib.hid hg1; have G2 := Lib.hid hg2
          obtain ⟨A, hA⟩ : ∃ A, u32s (schF blk 48) 64 = A := ⟨_, rfl⟩
          rw [hA] at G1
          have hsz : (Tryd.prog.info? 109).map (·.size) = some A.size := by rw [← hA, u32s_size]; kernel_rfl
          have hone : A.all (·.oneCell') = true := by rw [← hA]; exact u32s_one _ _
          have hAZ : Z.size = A.size := by rw [← hA, u32s_size]; exact hZ
          have HA := Lib.hid hA; have HSZ := Lib.hid hsz; have HON := Lib.hid hone; have HAZ := Lib.hid hAZ
          clear hg1 hg2 hA hsz hone hAZ hZ
          go_wp2_with (first | (refine wpList_load_row rfl 109 _ rfl (w.heap.size + 1) rfl 109 A (0, 0) _ G1.out Tryd.underlying109 rfl HSZ.out ?_) | (refine wpList_store_row rfl 109 _ _ rfl w.heap.size A rfl rfl 109 Z G2.out HSZ.out HAZ.out HON.out ?_))
          have hset : (wr.setRow w.heap.size A).heap[w.heap.size]? = some (.cells A 109 (0, 0)) := by
            show (wr.heap.modify w.heap.size _)[w.heap.size]? = _
            rw [Array.getElem?_modify, if_pos rfl, G2.out]; rfl
          refine bodyPost_ret (v := .agg A) (results_cell_row (p := 2) (ty := 109) (by kernel_rfl) _ _ w.heap.size 109 A (0, 0) _ rfl hset Tryd.underlying109 rfl HSZ.out) rfl ?_
          rw [← HA.out]
          exact ⟨rfl, below_row HI.out.2.2.1 HI.out.2.2.2 _⟩
end Go.Proofs.YtaionhdamdhjjabDoor.Sha
namespace Go.Proofs.YtaionhdamdhjjabDoor.Sha
open Go.RowKit

/-- The package's variables, as the program's text lays them. -/
def rootF (i : Nat) : Int := ([1779033703, 3144134277, 1013904242, 2773480762, 1359893119, 2600822924, 528734635, 1541459225] : List Int).getD i 0
def kkF (i : Nat) : Int := ([1116352408, 1899447441, 3049323471, 3921009573, 961987163, 1508970993, 2453635748, 2870763221, 3624381080, 310598401, 607225278, 1426881987, 1925078388, 2162078206, 2614888103, 3248222580, 3835390401, 4022224774, 264347078, 604807628, 770255983, 1249150122, 1555081692, 1996064986, 2554220882, 2821834349, 2952996808, 3210313671, 3336571891, 3584528711, 113926993, 338241895, 666307205, 773529912, 1294757372, 1396182291, 1695183700, 1986661051, 2177026350, 2456956037, 2730485921, 2820302411, 3259730800, 3345764771, 3516065817, 3600352804, 4094571909, 275423344, 430227734, 506948616, 659060556, 883997877, 958139571, 1322822218, 1537002063, 1747873779, 1955562222, 2024104815, 2227730452, 2361852424, 2428436474, 2756734187, 3204031479, 3329325298] : List Int).getD i 0
def VarsAt (w : World) : Prop := (∀ i, i < 8 → w.cell? ⟨1, i, none⟩ = some (.int .u32 (rootF i))) ∧ (∀ i, i < 64 → w.cell? ⟨2, i, none⟩ = some (.int .u32 (kkF i))) ∧ 2 < w.heap.size
theorem VarsAt.kept {b : Nat} {w w' : World} (h : VarsAt w) (hk : w.grownBy w' (some b)) (hb : 2 < b) : VarsAt w' := by
  refine ⟨fun i hi => ?_, fun i hi => ?_, by have := hk.size; have := h.2.2; omega⟩
  · rw [World.cell?_of_block (a := ⟨1, i, none⟩) (hk.block 1 (by have := h.2.2; omega) (by intro e; injection e with e; omega))]; exact h.1 i hi
  · rw [World.cell?_of_block (a := ⟨2, i, none⟩) (hk.block 2 (by have := h.2.2; omega) (by intro e; injection e with e; omega))]; exact h.2.1 i hi
theorem VarsAt.below {w w' : World} (h : VarsAt w) (hb : Below w.heap.size w w') : VarsAt w' :=
  ⟨fun i hi => (hb.cell (p := ⟨1, i, none⟩) (by show 1 < _; have := h.2.2; omega)).trans (h.1 i hi), fun i hi => (hb.cell (p := ⟨2, i, none⟩) (by show 2 < _; have := h.2.2; omega)).trans (h.2.1 i hi), by have := hb.size; have := h.2.2; omega⟩

theorem hash_congr {b : Nat} {f g blk blk' : Nat → Int} {n : Int} {w : World} (h : HashAt b f blk n w) (hf : ∀ i, i < 8 → f i = g i) (hb : ∀ i, i < 64 → blk i = blk' i) : HashAt b g blk' n w := by
  have e : hcells f blk n = hcells g blk' n := by
    unfold hcells
    have e1 : (List.range 8).map (fun i => Value.int .u32 (f i)) = (List.range 8).map (fun i => Value.int .u32 (g i)) := List.map_congr_left (fun i hi => by rw [hf i (List.mem_range.1 hi)])
    have e2 : (List.range 64).map (fun i => Value.int .u8 (blk i)) = (List.range 64).map (fun i => Value.int .u8 (blk' i)) := List.map_congr_left (fun i hi => by rw [hb i (List.mem_range.1 hi)])
    rw [e1, e2]
  unfold HashAt at h ⊢; rw [← e]; exact h

/-- What mix makes of a state and a block. -/
def compF (f blk : Nat → Int) : Nat → Int := addF f (roundsI kkF (schF blk 48) 64 (stOf f)) 8
theorem mix_ok (b : Nat) (f blk : Nat → Int) (n : Int) (w : World) (hH : HashAt b f blk n w) (hV : VarsAt w) (hB : Bytes8 blk) (hok : (stOf f).Ok) :
    Calls Tryd.prog 45 #[.pointer (some ⟨b, 0, none⟩)] w fun e w' => e = .returned (.tuple #[]) ∧ HashAt b (compF f blk) blk n w' ∧ w.grownBy w' (some b) :=
  mix_any b f blk _ n w (spread_any b f blk n w hH hB) hH kkF hV.2.1 hV.2.2 hok

set_option maxHeartbeats 1000000 in
set_option maxRecDepth 100000 in
theorem begin_some (b : Nat) (f blk : Nat → Int) (n : Int) (w : World) (hH : HashAt b f blk n w) (hn : n ≠ 0) :
    Calls Tryd.prog 44 #[.pointer (some ⟨b, 0, none⟩)] w fun e w' => e = .returned (.tuple #[]) ∧ w = w' := by
  have hl := hH.len
  have hne : (n == 0) = false := by rw [beq_eq_false_iff_ne]; exact hn
  clear hH hn
  go_enter Tryd.func44, Tryd.ntmps44
  go_wp2_with fail
  go_end0
  exact ⟨rfl, rfl⟩

set_option maxHeartbeats 1000000 in
set_option maxRecDepth 100000 in
theorem begin_zero (b : Nat) (f blk : Nat → Int) (w : World) (hH : HashAt b f blk 0 w) (hV : VarsAt w) (hb : 2 < b) :
    Calls Tryd.prog 44 #[.pointer (some ⟨b, 0, none⟩)] w fun e w' => e = .returned (.tuple #[]) ∧ HashAt b rootF blk 0 w' ∧ w.grownBy w' (some b) := by
  have hl := hH.len
  have r0 := hV.1 0 (by omega); have r1 := hV.1 1 (by omega); have r2 := hV.1 2 (by omega); have r3 := hV.1 3 (by omega)
  have r4 := hV.1 4 (by omega); have r5 := hV.1 5 (by omega); have r6 := hV.1 6 (by omega); have r7 := hV.1 7 (by omega)
  have c0 := hH.cell 0 (by omega); have c1 := hH.cell 1 (by omega); have c2 := hH.cell 2 (by omega); have c3 := hH.cell 3 (by omega)
  have c4 := hH.cell 4 (by omega); have c5 := hH.cell 5 (by omega); have c6 := hH.cell 6 (by omega); have c7 := hH.cell 7 (by omega)
  have z0 := hH.free 0; have z1 := hH.free 1; have z2 := hH.free 2; have z3 := hH.free 3; have z4 := hH.free 4; have z5 := hH.free 5; have z6 := hH.free 6; have z7 := hH.free 7
  have HH := Lib.hid hH
  clear hH hV
  go_enter Tryd.func44, Tryd.ntmps44
  go_wp2_with fail
  go_end0
  refine ⟨rfl, ?_, kept_set (kept_set (kept_set (kept_set (kept_set (kept_set (kept_set (kept_set (kept_below (Below.refl _ _)) 0 _) 1 _) 2 _) 3 _) 4 _) 5 _) 6 _) 7 _⟩
  refine hash_congr ((((((((HH.out.set 0 (by omega) _).set 1 (by omega) _).set 2 (by omega) _).set 3 (by omega) _).set 4 (by omega) _).set 5 (by omega) _).set 6 (by omega) _).set 7 (by omega) _) (fun i hi => ?_) (fun _ _ => rfl)
  rcases (show i = 0 ∨ i = 1 ∨ i = 2 ∨ i = 3 ∨ i = 4 ∨ i = 5 ∨ i = 6 ∨ i = 7 by omega) with rfl | rfl | rfl | rfl | rfl | rfl | rfl | rfl <;> rfl
end Go.Proofs.YtaionhdamdhjjabDoor.Sha
namespace Go.Proofs.YtaionhdamdhjjabDoor.Sha
open Go.RowKit

def u8s (f : Nat → Int) (n : Nat) : Array Value := ((List.range n).map fun i => Value.int .u8 (f i)).toArray
theorem u8s_size (f : Nat → Int) (n : Nat) : (u8s f n).size = n := by simp [u8s]
theorem u8s_get (f : Nat → Int) (n i : Nat) (h : i < n) : (u8s f n)[i]? = some (.int .u8 (f i)) := by simp [u8s, h]
theorem u8s_set (F : Nat → Int) (n k : Nat) (v : Int) (h : k < n) : (u8s F n).setIfInBounds k (.int .u8 v) = u8s (fun j => if j = k then v else F j) n := by
  apply Array.ext_getElem?
  intro j
  rw [Array.getElem?_setIfInBounds]
  by_cases hj : j < n
  · by_cases e : k = j
    · subst e; rw [if_pos rfl, if_pos (by rw [u8s_size]; omega), u8s_get _ _ _ hj, if_pos rfl]
    · rw [if_neg e, u8s_get _ _ _ hj, u8s_get _ _ _ hj, if_neg (fun h => e h.symm)]
  · rw [if_neg (by omega), Array.getElem?_eq_none (by rw [u8s_size]; omega), Array.getElem?_eq_none (by rw [u8s_size]; omega)]
/-- A row of n bytes, of type T, in block g. -/
def Row8 (T g n : Nat) (F : Nat → Int) (w : World) : Prop := w.heap[g]? = some (.cells (u8s F n) T (0, 0))
theorem Row8.cell {T g n : Nat} {F : Nat → Int} {w : World} (h : Row8 T g n F w) (i : Nat) (hi : i < n) : w.cell? ⟨g, i, none⟩ = some (.int .u8 (F i)) := by
  unfold World.cell?; simp only [show w.heap[g]? = _ from h]; exact u8s_get F n i hi
theorem Row8.free {T g n : Nat} {F : Nat → Int} {w : World} (h : Row8 T g n F w) (i : Nat) : w.frozen? ⟨g, i, none⟩ = false := by
  simp [World.frozen?, show w.heap[g]? = _ from h]
theorem Row8.set {T g n : Nat} {F : Nat → Int} {w : World} (h : Row8 T g n F w) (k : Nat) (hk : k < n) (v : Int) : Row8 T g n (fun j => if j = k then v else F j) (w.setCell ⟨g, k, none⟩ (.int .u8 v)) := by
  have e : w.heap[g]? = some (.cells (u8s F n) T (0, 0)) := h
  show (w.heap.modify g _)[g]? = _
  rw [Array.getElem?_modify, if_pos rfl, e]
  simp [u8s_set F n k v hk]

/-- Byte i of eight numbers. -/
def beF (f : Nat → Int) (i : Nat) : Int := f (i / 4) / (if i % 4 = 0 then 16777216 else if i % 4 = 1 then 65536 else if i % 4 = 2 then 256 else 1) % 256
def beT (f : Nat → Int) (t i : Nat) : Int := if i < t then beF f i else 0
theorem beT_step (f : Nat → Int) (t : Nat) (v : Int) (hv : v = beF f t) : (fun i => if i = t then v else beT f t i) = beT f (t + 1) := by
  funext i
  unfold beT
  by_cases h : i = t
  · subst h; rw [if_pos rfl, if_pos (by omega), hv]
  · rw [if_neg h]
    by_cases h2 : i < t
    · rw [if_pos h2, if_pos (by omega)]
    · rw [if_neg h2, if_neg (by omega)]
theorem be_0 (f : Nat → Int) (k : Nat) : beF f (4 * k) = f k / 16777216 % 256 := by unfold beF; rw [show 4 * k / 4 = k by omega, if_pos (by omega)]
theorem be_1 (f : Nat → Int) (k : Nat) : beF f (4 * k + 1) = f k / 65536 % 256 := by unfold beF; rw [show (4 * k + 1) / 4 = k by omega, if_neg (by omega), if_pos (by omega)]
theorem be_2 (f : Nat → Int) (k : Nat) : beF f (4 * k + 2) = f k / 256 % 256 := by unfold beF; rw [show (4 * k + 2) / 4 = k by omega, if_neg (by omega), if_neg (by omega), if_pos (by omega)]
theorem be_3 (f : Nat → Int) (k : Nat) : beF f (4 * k + 3) = f k % 256 := by unfold beF; rw [show (4 * k + 3) / 4 = k by omega, if_neg (by omega), if_neg (by omega), if_neg (by omega), Int.ediv_one]

theorem below_four {w wr : World} {g : Nat} (h : Below g w wr) (a b c d : Nat) (x y z t : Value) :
    Below g w ((((wr.setCell ⟨g + 1, a, none⟩ x).setCell ⟨g + 1, b, none⟩ y).setCell ⟨g + 1, c, none⟩ z).setCell ⟨g + 1, d, none⟩ t) :=
  (((h.setCell (p := ⟨g + 1, a, none⟩) (Nat.le_succ g) _).setCell (p := ⟨g + 1, b, none⟩) (Nat.le_succ g) _).setCell (p := ⟨g + 1, c, none⟩) (Nat.le_succ g) _).setCell (p := ⟨g + 1, d, none⟩) (Nat.le_succ g) _

def BeSlot (f : Nat → Int) (w : World) (i : Value) (wr : World) : Prop :=
  ∃ k : Nat, k ≤ 8 ∧ i = .int .i64 k ∧ Row8 113 (w.heap.size + 1) 32 (beT f (4 * k)) wr ∧ Below w.heap.size w wr ∧ w.heap.size ≤ wr.heap.size

def stAgg (f : Nat → Int) : Value := .agg #[.int .u32 (f 0), .int .u32 (f 1), .int .u32 (f 2), .int .u32 (f 3), .int .u32 (f 4), .int .u32 (f 5), .int .u32 (f 6), .int .u32 (f 7)]

set_option maxHeartbeats 1000000 in
set_option maxRecDepth 100000 in
theorem bigEndian_any (f : Nat → Int) (w : World) (hr : ∀ i, 0 ≤ f i ∧ f i < 4294967296) :
    Calls Tryd.prog 47 #[.agg #[.int .u32 (f 0), .int .u32 (f 1), .int .u32 (f 2), .int .u32 (f 3), .int .u32 (f 4), .int .u32 (f 5), .int .u32 (f 6), .int .u32 (f 7)]] w fun e w' => e = .returned (.string (strOfNums ((List.range 32).map (beF f)))) ∧ Below w.heap.size w w' := by
  have HR := Lib.hid hr
  clear hr
  go_enter Tryd.func47, Tryd.ntmps47
  go_wp2_with fail
  go_loopw [8] (fun i wr => BeSlot f w i wr) (fun i _ => 8 - (intOf i).toNat)
  case atStart =>
    refine ⟨0, by omega, rfl, ?_, ((Below.refl _ _).alloc (Nat.le_refl _) _).alloc (by simp) _, by simp; omega⟩
    unfold Row8; rw [heap_two]; rfl
  case round =>
    obtain ⟨k, hk, rfl, hRow, hB, hz⟩ := hrel
    have HRow := Lib.hid hRow; have HB := Lib.hid hB
    clear hRow hB
    by_cases hlt : k < 8
    · have hix : ∀ W', (Instr.index 76 (.agg #[.int .u32 (f 0), .int .u32 (f 1), .int .u32 (f 2), .int .u32 (f 3), .int .u32 (f 4), .int .u32 (f 5), .int .u32 (f 6), .int .u32 (f 7)]) (.int .i64 k)).run Tryd.prog W' = .ok (.int .u32 (f k)) W' := by
        rcases (show k = 0 ∨ k = 1 ∨ k = 2 ∨ k = 3 ∨ k = 4 ∨ k = 5 ∨ k = 6 ∨ k = 7 by omega) with rfl | rfl | rfl | rfl | rfl | rfl | rfl | rfl <;> exact fun _ => by kernel_rfl
      have hx := HR.out k
      obtain ⟨x, hxe⟩ : ∃ x, f k = x := ⟨_, rfl⟩
      rw [hxe] at hix hx
      obtain ⟨hx0, hx1⟩ := hx
      have c0 := HRow.out.cell (4 * k) (by omega); have c1 := HRow.out.cell (4 * k + 1) (by omega); have c2 := HRow.out.cell (4 * k + 2) (by omega); have c3 := HRow.out.cell (4 * k + 3) (by omega)
      have z0 := HRow.out.free (4 * k); have z1 := HRow.out.free (4 * k + 1); have z2 := HRow.out.free (4 * k + 2); have z3 := HRow.out.free (4 * k + 3)
      have HX := Lib.hid hxe
      clear hxe
      have k8 : (k : Int) < 8 := by omega
      have g0 : 0 ≤ 4 * (k : Int) := by omega
      have g1 : 0 ≤ 4 * (k : Int) + 1 := by omega
      have g2 : 0 ≤ 4 * (k : Int) + 2 := by omega
      have g3 : 0 ≤ 4 * (k : Int) + 3 := by omega
      have l0 : 4 * (k : Int) < 32 := by omega
      have l1 : 4 * (k : Int) + 1 < 32 := by omega
      have l2 : 4 * (k : Int) + 2 < 32 := by omega
      have l3 : 4 * (k : Int) + 3 < 32 := by omega
      have t0 : (4 * (k : Int)).toNat = 4 * k := by omega
      have t1 : (4 * (k : Int) + 1).toNat = 4 * k + 1 := by omega
      have t2 : (4 * (k : Int) + 2).toNat = 4 * k + 2 := by omega
      have t3 : (4 * (k : Int) + 3).toNat = 4 * k + 3 := by omega
      go_wp2_with fail
      refine wp_loop_rounds 5 ?_
      iterate 5 (rw [rounds_succ]; go_wp2_with fail)
      refine ⟨⟨k + 1, by omega, by rw [Int.natCast_succ], ?_, below_four HB.out _ _ _ _ _ _ _ _, ?_⟩, by simp [intOf]; omega⟩
      · have hx' : f k = x := HX.out
        have q := HRow.out.set (4 * k) (by omega) (x / 16777216)
        rw [beT_step f (4 * k) _ (by rw [be_0, hx', Int.emod_eq_of_lt (by omega) (by omega)])] at q
        have q := q.set (4 * k + 1) (by omega) (x / 65536 % 256)
        rw [beT_step f (4 * k + 1) _ (by rw [be_1, hx'])] at q
        have q := q.set (4 * k + 2) (by omega) (x / 256 % 256)
        rw [beT_step f (4 * k + 2) _ (by rw [be_2, hx'])] at q
        have q := q.set (4 * k + 3) (by omega) (x % 256)
        rw [beT_step f (4 * k + 3) _ (by rw [be_3, hx'])] at q
        exact q
      · simpa [World.setCell] using hz
    · obtain rfl : k = 8 := by omega
      have hc := fun (W' : World) (e : W' = wr) => run_convert_bytes_arg (P := Tryd.prog) wr 46 5 Tryd.underlying46 Tryd.underlying5 (w.heap.size + 1) 0 32 32 ((List.range 32).map (beF f)) (by simp) (fun i hi => by
        rw [Nat.zero_add, HRow.out.cell i hi]
        simp [beT, show i < 4 * 8 by omega, hi]) 9 Tryd.underlying9
      have hc := hc wr rfl
      go_wp2_with fail
      go_ret
      exact ⟨rfl, HB.out⟩
end Go.Proofs.YtaionhdamdhjjabDoor.Sha
namespace Go.Proofs.YtaionhdamdhjjabDoor.Sha
open Go.RowKit

/-- Byte i of a text. -/
def atI (s : ByteArray) (i : Nat) : Int := ((s.data[i]?.getD 0).toNat : Int)
theorem atI_rng (s : ByteArray) (i : Nat) : 0 ≤ atI s i ∧ atI s i < 256 := by
  unfold atI
  have := (s.data[i]?.getD 0).toNat_lt
  omega
/-- A digit of sixteen. -/
def digF (d : Int) : Int := if d < 10 then 48 + d else 87 + d
def hexF (g : Nat → Int) (i : Nat) : Int := digF (if i % 2 = 0 then g (i / 2) / 16 else g (i / 2) % 16)
theorem hex_0 (g : Nat → Int) (k : Nat) : hexF g (2 * k) = digF (g k / 16) := by unfold hexF; rw [if_pos (by omega), show 2 * k / 2 = k by omega]
theorem hex_1 (g : Nat → Int) (k : Nat) : hexF g (2 * k + 1) = digF (g k % 16) := by unfold hexF; rw [if_neg (by omega), show (2 * k + 1) / 2 = k by omega]
theorem heap_one (w : World) (o : Obj) : (w.alloc o).heap[w.heap.size]? = some o := heap_alloc_last w o
def hexT (g : Nat → Int) (t i : Nat) : Int := if i < t then hexF g i else 0
theorem hexT_step (g : Nat → Int) (t : Nat) (v : Int) (hv : v = hexF g t) : (fun i => if i = t then v else hexT g t i) = hexT g (t + 1) := by
  funext i
  unfold hexT
  by_cases h : i = t
  · subst h; rw [if_pos rfl, if_pos (by omega), hv]
  · rw [if_neg h]
    by_cases h2 : i < t
    · rw [if_pos h2, if_pos (by omega)]
    · rw [if_neg h2, if_neg (by omega)]

/-- What a digit stands for. -/
def digV (c : Int) : Int := if 48 ≤ c ∧ c ≤ 57 then c - 48 else if 97 ≤ c ∧ c ≤ 102 then c - 87 else -1

theorem retI {v u : Int} (h : v = u) : Ending.returned (.int .i64 v) = .returned (.int .i64 u) := by rw [h]

def HexSlot (s : ByteArray) (w : World) (i : Value) (wr : World) : Prop :=
  ∃ k : Nat, k ≤ 32 ∧ i = .int .i64 k ∧ Row8 77 (w.heap.size) 64 (hexT (atI s) (2 * k)) wr ∧ Below w.heap.size w wr ∧ w.heap.size ≤ wr.heap.size

theorem idx_at (s : ByteArray) (k : Nat) (hk : k < s.size) (W : World) : (Instr.index 9 (.string s) (.int .i64 k)).run Tryd.prog W = .ok (.int .u8 (atI s k)) W := by
  rw [run_index_string W _ _ _ _ Tryd.underlying9, dif_pos ⟨by omega, by omega⟩]
  have h' : k < s.data.size := hk
  unfold atI
  rw [Array.getElem?_eq_getElem h']
  rfl
def tabS : ByteArray := ⟨#[48, 49, 50, 51, 52, 53, 54, 55, 56, 57, 97, 98, 99, 100, 101, 102]⟩
theorem tab_at (d : Int) (h0 : 0 ≤ d) (h1 : d < 16) (W : World) : (Instr.index 9 (.string tabS) (.int .u8 d)).run Tryd.prog W = .ok (.int .u8 (digF d)) W := by
  rcases (show d = 0 ∨ d = 1 ∨ d = 2 ∨ d = 3 ∨ d = 4 ∨ d = 5 ∨ d = 6 ∨ d = 7 ∨ d = 8 ∨ d = 9 ∨ d = 10 ∨ d = 11 ∨ d = 12 ∨ d = 13 ∨ d = 14 ∨ d = 15 by omega) with rfl | rfl | rfl | rfl | rfl | rfl | rfl | rfl | rfl | rfl | rfl | rfl | rfl | rfl | rfl | rfl <;> exact (run_index_string W _ _ _ _ Tryd.underlying9).trans (by rfl)
theorem and15 (x : Int) (h0 : 0 ≤ x) (h1 : x < 256) : bits .and .u8 x 15 = x % 16 := by
  have t : ∀ b : Fin 256, bits .and .u8 (b.val : Int) 15 = (b.val : Int) % 16 := by decide +kernel
  have := t ⟨x.toNat, by omega⟩
  simpa [show ((x.toNat : Nat) : Int) = x by omega] using this

end Go.Proofs.YtaionhdamdhjjabDoor.Sha
