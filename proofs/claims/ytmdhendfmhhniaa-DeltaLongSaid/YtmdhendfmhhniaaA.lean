/- Contracts of the functions of package nums and of the document's answer for it: following, Put (both), for every int from 0 to 2 to the power of 40; no condition besides. -/
import Derived.Test.YtmdhendfmhhniaaRows
import Derived.WalkKit
import Derived.WalkSpells
import Derived.Lib.Hide
import Derived.WalkLawsBesides
namespace Go.Proofs.Ytmdhendfmhhniaa
open Go.RowKit

theorem ret_int {k : IntKind} {a b : Int} (h : a = b) : Ending.returned (.int k a) = .returned (.int k b) := by rw [h]
theorem ret_str {xs ys : List Int} (h : xs = ys) : Ending.returned (.string (strOfNums xs)) = .returned (.string (strOfNums ys)) := by rw [h]

def folI (n : Int) : Int := if n < 128 then 0 else if n < 16384 then 1 else if n < 2097152 then 2 else if n < 268435456 then 3 else if n < 34359738368 then 4 else 5

def powI (k : Int) : Int := if k ≤ 0 then 1 else if k = 1 then 128 else if k = 2 then 16384 else if k = 3 then 2097152 else if k = 4 then 268435456 else 34359738368

theorem following_any (n : Int) (w : World) (h0 : 0 ≤ n) (h1 : n ≤ 1099511627776) :
    Calls Try.prog 23 #[.int .i64 n] w fun e w' => e = .returned (.int .i64 (folI n)) ∧ w = w' := by
  go_enter Try.func23, Try.ntmps23
  go_wp2
  go_loop [3] (fun i => ∃ k : Int, 0 ≤ k ∧ k ≤ 5 ∧ (k = 0 ∨ powI k ≤ n) ∧ i = .int .i64 k) (fun i => 6 - (intOf i).toNat)
  case atStart => exact ⟨0, by omega, by omega, .inl rfl, rfl⟩
  case round =>
    obtain ⟨k, hk0, hk5, hk, rfl⟩ := hrel
    rcases (show k = 0 ∨ k = 1 ∨ k = 2 ∨ k = 3 ∨ k = 4 ∨ k = 5 by omega) with rfl | rfl | rfl | rfl | rfl | rfl
    all_goals
      simp [powI] at hk
      go_wp2
    all_goals first
      | (go_round
         case rel => exact ⟨_, by omega, by omega, .inr (by simp [powI]; omega), rfl⟩
         case measure => simp [intOf])
      | (go_ret
         exact ⟨ret_int (by unfold folI; repeat' (first | rw [if_pos (by omega)] | rw [if_neg (by omega)])), rfl⟩)

theorem following_k (n k : Int) (w : World) (h0 : 0 ≤ n) (h1 : n ≤ 1099511627776) (hk : folI n = k) :
    Calls Try.prog 23 #[.int .i64 n] w fun e w' => e = .returned (.int .i64 k) ∧ w = w' := by
  subst hk; exact following_any n w h0 h1

/-- The bytes of a number. -/
def putI (n : Int) : List Int :=
  if n < 128 then [n] else if n < 16384 then [128 + n / 256, n % 256] else if n < 2097152 then [192 + n / 65536, n / 256 % 256, n % 256] else if n < 268435456 then [224 + n / 16777216, n / 65536 % 256, n / 256 % 256, n % 256] else if n < 34359738368 then [240 + n / 4294967296, n / 16777216 % 256, n / 65536 % 256, n / 256 % 256, n % 256] else [248 + n / 1099511627776, n / 4294967296 % 256, n / 16777216 % 256, n / 65536 % 256, n / 256 % 256, n % 256]


/-- string(b) of a slice that fills the newest block. -/
theorem conv_gen (w : World) (xs : List Int) (n : Nat) (hn : xs.length = n) (C : Array Value) (hC : C = (xs.map (Value.int .u8)).toArray) :
    ∀ W, W = w.alloc (.cells C 5) → (convert 36 9 (.slice (some ⟨w.heap.size, 0, none⟩) n n)).run Try.prog W = .ok (.string (strOfNums xs)) W := by
  intro W hW
  subst hW hC
  refine run_convert_bytes_arg (P := Try.prog) _ 36 5 Try.underlying36 Try.underlying5 w.heap.size 0 n n xs hn (fun i hi => ?_) 9 Try.underlying9
  have e : (w.alloc (.cells (xs.map (Value.int .u8)).toArray 5)).heap[w.heap.size]? = some (.cells (xs.map (Value.int .u8)).toArray 5 (0, 0)) := by
    show (w.heap.push _)[w.heap.size]? = _
    simp
  have hi' : i < xs.length := by omega
  unfold World.cell?
  simp only [e]
  simp [List.getD, List.getElem?_eq_getElem hi']

theorem conv_drew (w : World) (xs : List Int) (n : Nat) (hn : xs.length = n) (C : Array Value) (hC : C = (xs.map (Value.int .u8)).toArray) :
    (convert 36 9 (.slice (some ⟨w.heap.size, 0, none⟩) n n)).run Try.prog (w.alloc (.cells C 5)).drew = .ok (.string (strOfNums xs)) (w.alloc (.cells C 5)).drew := by
  subst hC
  refine run_convert_bytes_arg (P := Try.prog) _ 36 5 Try.underlying36 Try.underlying5 w.heap.size 0 n n xs hn (fun i hi => ?_) 9 Try.underlying9
  have e : (w.alloc (.cells (xs.map (Value.int .u8)).toArray 5)).drew.heap[w.heap.size]? = some (.cells (xs.map (Value.int .u8)).toArray 5 (0, 0)) := by
    show (w.heap.push _)[w.heap.size]? = _
    simp
  have hi' : i < xs.length := by omega
  unfold World.cell?
  simp only [e]
  simp [List.getD, List.getElem?_eq_getElem hi']

theorem bel_new (w : World) (o : Obj) : Below w.heap.size w (w.alloc o).drew := ((Below.refl _ _).alloc (Nat.le_refl _) _).drew

theorem orMark0 : ∀ x : Fin 128, bits .or .u8 (x.val : Int) (bits .xor .u8 IntKind.u8.max 255) = 0 + (x.val : Int) := by decide +kernel
theorem orMark0_of (x : Int) (h0 : 0 ≤ x) (h1 : x < 128) : bits .or .u8 x (bits .xor .u8 IntKind.u8.max 255) = 0 + x := by
  have h := orMark0 ⟨x.toNat, by omega⟩
  simpa [Int.toNat_of_nonneg h0] using h

theorem put_0 (n : Int) (w : World) (h0 : 0 ≤ n) (h1 : n ≤ 127) :
    Calls Try.prog 14 #[.int .i64 n] w fun e w' => e = .returned (.string (strOfNums (putI n))) ∧ Below w.heap.size w w' := by
  have HK : Hid (folI n = 0) := Lib.hid (by unfold folI; repeat' (first | rw [if_pos (by omega)] | rw [if_neg (by omega)]))
  have hp : Hid (putI n = [n]) := Lib.hid (by unfold putI; repeat' (first | rw [if_pos (by omega)] | rw [if_neg (by omega)]))
  have hm := Lib.hid (orMark0_of (n) (by omega) (by omega))
  have hmk : ∀ w, (Instr.makeSlice 36 (.int .i64 1) (.int .i64 1)).run Try.prog w = .ok (.slice (some ⟨w.heap.size, 0, none⟩) 1 1) (w.alloc (.cells #[.int .u8 0] 5)) := fun _ => by kernel_rfl
  have hcv := fun (x0 : Int) => conv_drew w [x0] 1 rfl #[.int .u8 x0] rfl
  go_enter Try.func14, Try.ntmps14
  go_wp2_with (go_at_call 23; refine (following_k _ 0 _ (by omega) (by omega) HK.out).mono ?_; rintro e w' ⟨rfl, rfl⟩)
  refine wp_loop_rounds 2 ?_
  iterate 2 (rw [rounds_succ]; go_wp2)
  go_region
  go_wp2
  go_ret
  exact ⟨ret_str (by rw [hp.out, hm.out]; congr 1; omega), bel_new _ _⟩

theorem orMark1 : ∀ x : Fin 64, bits .or .u8 (x.val : Int) (bits .xor .u8 IntKind.u8.max 127) = 128 + (x.val : Int) := by decide +kernel
theorem orMark1_of (x : Int) (h0 : 0 ≤ x) (h1 : x < 64) : bits .or .u8 x (bits .xor .u8 IntKind.u8.max 127) = 128 + x := by
  have h := orMark1 ⟨x.toNat, by omega⟩
  simpa [Int.toNat_of_nonneg h0] using h

theorem put_1 (n : Int) (w : World) (h0 : 128 ≤ n) (h1 : n ≤ 16383) :
    Calls Try.prog 14 #[.int .i64 n] w fun e w' => e = .returned (.string (strOfNums (putI n))) ∧ Below w.heap.size w w' := by
  have HK : Hid (folI n = 1) := Lib.hid (by unfold folI; repeat' (first | rw [if_pos (by omega)] | rw [if_neg (by omega)]))
  have hp : Hid (putI n = [128 + n / 256, n % 256]) := Lib.hid (by unfold putI; repeat' (first | rw [if_pos (by omega)] | rw [if_neg (by omega)]))
  have hm := Lib.hid (orMark1_of (n / 256) (by omega) (by omega))
  have hmk : ∀ w, (Instr.makeSlice 36 (.int .i64 2) (.int .i64 2)).run Try.prog w = .ok (.slice (some ⟨w.heap.size, 0, none⟩) 2 2) (w.alloc (.cells #[.int .u8 0, .int .u8 0] 5)) := fun _ => by kernel_rfl
  have hcv := fun (x0 x1 : Int) => conv_drew w [x0, x1] 2 rfl #[.int .u8 x0, .int .u8 x1] rfl
  go_enter Try.func14, Try.ntmps14
  go_wp2_with (go_at_call 23; refine (following_k _ 1 _ (by omega) (by omega) HK.out).mono ?_; rintro e w' ⟨rfl, rfl⟩)
  refine wp_loop_rounds 3 ?_
  iterate 3 (rw [rounds_succ]; go_wp2)
  go_region
  go_wp2
  go_ret
  exact ⟨ret_str (by rw [hp.out, hm.out]), bel_new _ _⟩

theorem orMark2 : ∀ x : Fin 32, bits .or .u8 (x.val : Int) (bits .xor .u8 IntKind.u8.max 63) = 192 + (x.val : Int) := by decide +kernel
theorem orMark2_of (x : Int) (h0 : 0 ≤ x) (h1 : x < 32) : bits .or .u8 x (bits .xor .u8 IntKind.u8.max 63) = 192 + x := by
  have h := orMark2 ⟨x.toNat, by omega⟩
  simpa [Int.toNat_of_nonneg h0] using h

theorem put_2 (n : Int) (w : World) (h0 : 16384 ≤ n) (h1 : n ≤ 2097151) :
    Calls Try.prog 14 #[.int .i64 n] w fun e w' => e = .returned (.string (strOfNums (putI n))) ∧ Below w.heap.size w w' := by
  have HK : Hid (folI n = 2) := Lib.hid (by unfold folI; repeat' (first | rw [if_pos (by omega)] | rw [if_neg (by omega)]))
  have hp : Hid (putI n = [192 + n / 65536, n / 256 % 256, n % 256]) := Lib.hid (by unfold putI; repeat' (first | rw [if_pos (by omega)] | rw [if_neg (by omega)]))
  have hm := Lib.hid (orMark2_of (n / 65536) (by omega) (by omega))
  have hmk : ∀ w, (Instr.makeSlice 36 (.int .i64 3) (.int .i64 3)).run Try.prog w = .ok (.slice (some ⟨w.heap.size, 0, none⟩) 3 3) (w.alloc (.cells #[.int .u8 0, .int .u8 0, .int .u8 0] 5)) := fun _ => by kernel_rfl
  have hcv := fun (x0 x1 x2 : Int) => conv_drew w [x0, x1, x2] 3 rfl #[.int .u8 x0, .int .u8 x1, .int .u8 x2] rfl
  go_enter Try.func14, Try.ntmps14
  go_wp2_with (go_at_call 23; refine (following_k _ 2 _ (by omega) (by omega) HK.out).mono ?_; rintro e w' ⟨rfl, rfl⟩)
  refine wp_loop_rounds 4 ?_
  iterate 4 (rw [rounds_succ]; go_wp2)
  go_region
  go_wp2
  go_ret
  exact ⟨ret_str (by rw [hp.out, hm.out]), bel_new _ _⟩

theorem orMark3 : ∀ x : Fin 16, bits .or .u8 (x.val : Int) (bits .xor .u8 IntKind.u8.max 31) = 224 + (x.val : Int) := by decide +kernel
theorem orMark3_of (x : Int) (h0 : 0 ≤ x) (h1 : x < 16) : bits .or .u8 x (bits .xor .u8 IntKind.u8.max 31) = 224 + x := by
  have h := orMark3 ⟨x.toNat, by omega⟩
  simpa [Int.toNat_of_nonneg h0] using h

theorem put_3 (n : Int) (w : World) (h0 : 2097152 ≤ n) (h1 : n ≤ 268435455) :
    Calls Try.prog 14 #[.int .i64 n] w fun e w' => e = .returned (.string (strOfNums (putI n))) ∧ Below w.heap.size w w' := by
  have HK : Hid (folI n = 3) := Lib.hid (by unfold folI; repeat' (first | rw [if_pos (by omega)] | rw [if_neg (by omega)]))
  have hp : Hid (putI n = [224 + n / 16777216, n / 65536 % 256, n / 256 % 256, n % 256]) := Lib.hid (by unfold putI; repeat' (first | rw [if_pos (by omega)] | rw [if_neg (by omega)]))
  have hm := Lib.hid (orMark3_of (n / 16777216) (by omega) (by omega))
  have hmk : ∀ w, (Instr.makeSlice 36 (.int .i64 4) (.int .i64 4)).run Try.prog w = .ok (.slice (some ⟨w.heap.size, 0, none⟩) 4 4) (w.alloc (.cells #[.int .u8 0, .int .u8 0, .int .u8 0, .int .u8 0] 5)) := fun _ => by kernel_rfl
  have hcv := fun (x0 x1 x2 x3 : Int) => conv_drew w [x0, x1, x2, x3] 4 rfl #[.int .u8 x0, .int .u8 x1, .int .u8 x2, .int .u8 x3] rfl
  go_enter Try.func14, Try.ntmps14
  go_wp2_with (go_at_call 23; refine (following_k _ 3 _ (by omega) (by omega) HK.out).mono ?_; rintro e w' ⟨rfl, rfl⟩)
  refine wp_loop_rounds 5 ?_
  iterate 5 (rw [rounds_succ]; go_wp2)
  go_region
  go_wp2
  go_ret
  exact ⟨ret_str (by rw [hp.out, hm.out]), bel_new _ _⟩

theorem orMark4 : ∀ x : Fin 8, bits .or .u8 (x.val : Int) (bits .xor .u8 IntKind.u8.max 15) = 240 + (x.val : Int) := by decide +kernel
theorem orMark4_of (x : Int) (h0 : 0 ≤ x) (h1 : x < 8) : bits .or .u8 x (bits .xor .u8 IntKind.u8.max 15) = 240 + x := by
  have h := orMark4 ⟨x.toNat, by omega⟩
  simpa [Int.toNat_of_nonneg h0] using h

theorem put_4 (n : Int) (w : World) (h0 : 268435456 ≤ n) (h1 : n ≤ 34359738367) :
    Calls Try.prog 14 #[.int .i64 n] w fun e w' => e = .returned (.string (strOfNums (putI n))) ∧ Below w.heap.size w w' := by
  have HK : Hid (folI n = 4) := Lib.hid (by unfold folI; repeat' (first | rw [if_pos (by omega)] | rw [if_neg (by omega)]))
  have hp : Hid (putI n = [240 + n / 4294967296, n / 16777216 % 256, n / 65536 % 256, n / 256 % 256, n % 256]) := Lib.hid (by unfold putI; repeat' (first | rw [if_pos (by omega)] | rw [if_neg (by omega)]))
  have hm := Lib.hid (orMark4_of (n / 4294967296) (by omega) (by omega))
  have hmk : ∀ w, (Instr.makeSlice 36 (.int .i64 5) (.int .i64 5)).run Try.prog w = .ok (.slice (some ⟨w.heap.size, 0, none⟩) 5 5) (w.alloc (.cells #[.int .u8 0, .int .u8 0, .int .u8 0, .int .u8 0, .int .u8 0] 5)) := fun _ => by kernel_rfl
  have hcv := fun (x0 x1 x2 x3 x4 : Int) => conv_drew w [x0, x1, x2, x3, x4] 5 rfl #[.int .u8 x0, .int .u8 x1, .int .u8 x2, .int .u8 x3, .int .u8 x4] rfl
  go_enter Try.func14, Try.ntmps14
  go_wp2_with (go_at_call 23; refine (following_k _ 4 _ (by omega) (by omega) HK.out).mono ?_; rintro e w' ⟨rfl, rfl⟩)
  refine wp_loop_rounds 6 ?_
  iterate 6 (rw [rounds_succ]; go_wp2)
  go_region
  go_wp2
  go_ret
  exact ⟨ret_str (by rw [hp.out, hm.out]), bel_new _ _⟩

theorem orMark5 : ∀ x : Fin 2, bits .or .u8 (x.val : Int) (bits .xor .u8 IntKind.u8.max 7) = 248 + (x.val : Int) := by decide +kernel
theorem orMark5_of (x : Int) (h0 : 0 ≤ x) (h1 : x < 2) : bits .or .u8 x (bits .xor .u8 IntKind.u8.max 7) = 248 + x := by
  have h := orMark5 ⟨x.toNat, by omega⟩
  simpa [Int.toNat_of_nonneg h0] using h

theorem put_5 (n : Int) (w : World) (h0 : 34359738368 ≤ n) (h1 : n ≤ 1099511627776) :
    Calls Try.prog 14 #[.int .i64 n] w fun e w' => e = .returned (.string (strOfNums (putI n))) ∧ Below w.heap.size w w' := by
  have HK : Hid (folI n = 5) := Lib.hid (by unfold folI; repeat' (first | rw [if_pos (by omega)] | rw [if_neg (by omega)]))
  have hp : Hid (putI n = [248 + n / 1099511627776, n / 4294967296 % 256, n / 16777216 % 256, n / 65536 % 256, n / 256 % 256, n % 256]) := Lib.hid (by unfold putI; repeat' (first | rw [if_pos (by omega)] | rw [if_neg (by omega)]))
  have hm := Lib.hid (orMark5_of (n / 1099511627776) (by omega) (by omega))
  have hmk : ∀ w, (Instr.makeSlice 36 (.int .i64 6) (.int .i64 6)).run Try.prog w = .ok (.slice (some ⟨w.heap.size, 0, none⟩) 6 6) (w.alloc (.cells #[.int .u8 0, .int .u8 0, .int .u8 0, .int .u8 0, .int .u8 0, .int .u8 0] 5)) := fun _ => by kernel_rfl
  have hcv := fun (x0 x1 x2 x3 x4 x5 : Int) => conv_drew w [x0, x1, x2, x3, x4, x5] 6 rfl #[.int .u8 x0, .int .u8 x1, .int .u8 x2, .int .u8 x3, .int .u8 x4, .int .u8 x5] rfl
  go_enter Try.func14, Try.ntmps14
  go_wp2_with (go_at_call 23; refine (following_k _ 5 _ (by omega) (by omega) HK.out).mono ?_; rintro e w' ⟨rfl, rfl⟩)
  refine wp_loop_rounds 7 ?_
  iterate 7 (rw [rounds_succ]; go_wp2)
  go_region
  go_wp2
  go_ret
  exact ⟨ret_str (by rw [hp.out, hm.out]), bel_new _ _⟩


theorem put_any (n : Int) (w : World) (h0 : 0 ≤ n) (h1 : n ≤ 1099511627776) :
    Calls Try.prog 14 #[.int .i64 n] w fun e w' => e = .returned (.string (strOfNums (putI n))) ∧ Below w.heap.size w w' := by

  by_cases c0 : n < 128
  · exact put_0 n w (by omega) (by omega)
  by_cases c1 : n < 16384
  · exact put_1 n w (by omega) (by omega)
  by_cases c2 : n < 2097152
  · exact put_2 n w (by omega) (by omega)
  by_cases c3 : n < 268435456
  · exact put_3 n w (by omega) (by omega)
  by_cases c4 : n < 34359738368
  · exact put_4 n w (by omega) (by omega)
  exact put_5 n w (by omega) (by omega)

theorem put_low (n : Int) (w : World) (h : n < 0) :
    Calls Try.prog 14 #[.int .i64 n] w fun e w' => e = .returned (.string (strOfNums [])) ∧ w = w' := by
  go_enter Try.func14, Try.ntmps14
  go_wp2
  go_ret
  exact ⟨rfl, rfl⟩

theorem put_high (n : Int) (w : World) (h : 1099511627776 < n) :
    Calls Try.prog 14 #[.int .i64 n] w fun e w' => e = .returned (.string (strOfNums [])) ∧ w = w' := by
  have h0 : ¬ n < 0 := by omega
  go_enter Try.func14, Try.ntmps14
  go_wp2
  go_ret
  exact ⟨rfl, rfl⟩

end Go.Proofs.Ytmdhendfmhhniaa
