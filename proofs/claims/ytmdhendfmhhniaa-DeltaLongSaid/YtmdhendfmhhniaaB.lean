/- Contracts of the document's answer for package nums: Put, for every int; no condition besides. -/
import Derived.Test.YtmdhendfmhhniaaA
namespace Go.Proofs.Ytmdhendfmhhniaa
open Go.RowKit

theorem conv_one (W : World) (b : Nat) (x : Int) (hb : b = W.heap.size) : (convert 36 9 (.slice (some ⟨b, 0, none⟩) 1 1)).run Try.prog (W.alloc (.cells #[.int .u8 x] 5)) = .ok (.string (strOfNums [x])) (W.alloc (.cells #[.int .u8 x] 5)) := by
  subst hb; exact conv_gen W [x] 1 rfl _ rfl _ rfl

theorem ret_bs {a b : ByteArray} (h : a = b) : Ending.returned (.string a) = .returned (.string b) := by rw [h]
theorem str_nil (xs : List Int) : strOfNums xs ++ ({ data := #[] } : ByteArray) = strOfNums xs := by
  apply ByteArray.ext; simp
theorem str_app (xs ys : List Int) : strOfNums xs ++ strOfNums ys = strOfNums (xs ++ ys) := by
  apply ByteArray.ext; simp [strOfNums]
theorem cons_eq {a b : Int} {xs ys : List Int} (h : a = b) (h' : xs = ys) : a :: xs = b :: ys := by rw [h, h']
theorem bel_refl (w : World) : Below w.heap.size w w := Below.refl _ _
theorem bel_alloc {w w' : World} (h : Below w.heap.size w w') (o : Obj) : Below w.heap.size w (w'.alloc o) := h.alloc h.size o
theorem bel_drew {w w' : World} (h : Below w.heap.size w w') : Below w.heap.size w w'.drew := h.drew
theorem bel_trans {w w1 w2 : World} (h : Below w.heap.size w w1) (k : Below w1.heap.size w1 w2) : Below w.heap.size w w2 := h.trans (k.mono h.size)


theorem rput_0 (n : Int) (w : World) (h0 : 0 ≤ n) (h1 : n ≤ 127) :
    Calls Try.prog 28 #[.int .i64 n] w fun e w' => e = .returned (.string (strOfNums (putI n))) ∧ Below w.heap.size w w' := by
  have hp : Hid (putI n = [n]) := Lib.hid (by unfold putI; repeat' (first | rw [if_pos (by omega)] | rw [if_neg (by omega)]))
  have hcv := conv_one
  go_enter Try.func28, Try.ntmps28
  go_wp2
  refine wp_loop_rounds 1 ?_
  iterate 1 (rw [rounds_succ]; go_wp2)
  refine wp_loop_rounds 1 ?_
  iterate 1 (rw [rounds_succ]; go_wp2)
  go_ret
  exact ⟨ret_bs (by rw [hp.out]; simp only [str_nil]), by repeat (first | exact bel_refl _ | refine bel_alloc ?_ _ | refine bel_drew ?_)⟩


theorem rput_1 (n : Int) (w : World) (h0 : 128 ≤ n) (h1 : n ≤ 16383) :
    Calls Try.prog 28 #[.int .i64 n] w fun e w' => e = .returned (.string (strOfNums (putI n))) ∧ Below w.heap.size w w' := by
  have hp : Hid (putI n = [128 + n / 256, n % 256]) := Lib.hid (by unfold putI; repeat' (first | rw [if_pos (by omega)] | rw [if_neg (by omega)]))
  have hcv := conv_one
  go_enter Try.func28, Try.ntmps28
  go_wp2
  refine wp_loop_rounds 2 ?_
  iterate 2 (rw [rounds_succ]; go_wp2)
  refine wp_loop_rounds 2 ?_
  iterate 2 (rw [rounds_succ]; go_wp2)
  go_ret
  exact ⟨ret_bs (by rw [hp.out]; simp only [str_nil, str_app, List.cons_append, List.nil_append]), by repeat (first | exact bel_refl _ | refine bel_alloc ?_ _ | refine bel_drew ?_)⟩


theorem rput_2 (n : Int) (w : World) (h0 : 16384 ≤ n) (h1 : n ≤ 2097151) :
    Calls Try.prog 28 #[.int .i64 n] w fun e w' => e = .returned (.string (strOfNums (putI n))) ∧ Below w.heap.size w w' := by
  have hp : Hid (putI n = [192 + n / 65536, n / 256 % 256, n % 256]) := Lib.hid (by unfold putI; repeat' (first | rw [if_pos (by omega)] | rw [if_neg (by omega)]))
  have hcv := conv_one
  go_enter Try.func28, Try.ntmps28
  go_wp2
  refine wp_loop_rounds 3 ?_
  iterate 3 (rw [rounds_succ]; go_wp2)
  refine wp_loop_rounds 3 ?_
  iterate 3 (rw [rounds_succ]; go_wp2)
  go_ret
  exact ⟨ret_bs (by rw [hp.out]; simp only [str_nil, str_app, List.cons_append, List.nil_append]; exact congrArg strOfNums (by repeat (first | rfl | refine cons_eq (by omega) ?_))), by repeat (first | exact bel_refl _ | refine bel_alloc ?_ _ | refine bel_drew ?_)⟩


theorem rput_3 (n : Int) (w : World) (h0 : 2097152 ≤ n) (h1 : n ≤ 268435455) :
    Calls Try.prog 28 #[.int .i64 n] w fun e w' => e = .returned (.string (strOfNums (putI n))) ∧ Below w.heap.size w w' := by
  have hp : Hid (putI n = [224 + n / 16777216, n / 65536 % 256, n / 256 % 256, n % 256]) := Lib.hid (by unfold putI; repeat' (first | rw [if_pos (by omega)] | rw [if_neg (by omega)]))
  have hcv := conv_one
  go_enter Try.func28, Try.ntmps28
  go_wp2
  refine wp_loop_rounds 4 ?_
  iterate 4 (rw [rounds_succ]; go_wp2)
  refine wp_loop_rounds 4 ?_
  iterate 4 (rw [rounds_succ]; go_wp2)
  go_ret
  exact ⟨ret_bs (by rw [hp.out]; simp only [str_nil, str_app, List.cons_append, List.nil_append]; exact congrArg strOfNums (by repeat (first | rfl | refine cons_eq (by omega) ?_))), by repeat (first | exact bel_refl _ | refine bel_alloc ?_ _ | refine bel_drew ?_)⟩


theorem rput_4 (n : Int) (w : World) (h0 : 268435456 ≤ n) (h1 : n ≤ 34359738367) :
    Calls Try.prog 28 #[.int .i64 n] w fun e w' => e = .returned (.string (strOfNums (putI n))) ∧ Below w.heap.size w w' := by
  have hp : Hid (putI n = [240 + n / 4294967296, n / 16777216 % 256, n / 65536 % 256, n / 256 % 256, n % 256]) := Lib.hid (by unfold putI; repeat' (first | rw [if_pos (by omega)] | rw [if_neg (by omega)]))
  have hcv := conv_one
  go_enter Try.func28, Try.ntmps28
  go_wp2
  refine wp_loop_rounds 5 ?_
  iterate 5 (rw [rounds_succ]; go_wp2)
  refine wp_loop_rounds 5 ?_
  iterate 5 (rw [rounds_succ]; go_wp2)
  go_ret
  exact ⟨ret_bs (by rw [hp.out]; simp only [str_nil, str_app, List.cons_append, List.nil_append]; exact congrArg strOfNums (by repeat (first | rfl | refine cons_eq (by omega) ?_))), by repeat (first | exact bel_refl _ | refine bel_alloc ?_ _ | refine bel_drew ?_)⟩


theorem rput_5 (n : Int) (w : World) (h0 : 34359738368 ≤ n) (h1 : n ≤ 1099511627776) :
    Calls Try.prog 28 #[.int .i64 n] w fun e w' => e = .returned (.string (strOfNums (putI n))) ∧ Below w.heap.size w w' := by
  have hp : Hid (putI n = [248 + n / 1099511627776, n / 4294967296 % 256, n / 16777216 % 256, n / 65536 % 256, n / 256 % 256, n % 256]) := Lib.hid (by unfold putI; repeat' (first | rw [if_pos (by omega)] | rw [if_neg (by omega)]))
  have hcv := conv_one
  go_enter Try.func28, Try.ntmps28
  go_wp2
  refine wp_loop_rounds 6 ?_
  iterate 6 (rw [rounds_succ]; go_wp2)
  refine wp_loop_rounds 6 ?_
  iterate 6 (rw [rounds_succ]; go_wp2)
  go_ret
  exact ⟨ret_bs (by rw [hp.out]; simp only [str_nil, str_app, List.cons_append, List.nil_append]; exact congrArg strOfNums (by repeat (first | rfl | refine cons_eq (by omega) ?_))), by repeat (first | exact bel_refl _ | refine bel_alloc ?_ _ | refine bel_drew ?_)⟩


theorem rput_any (n : Int) (w : World) (h0 : 0 ≤ n) (h1 : n ≤ 1099511627776) :
    Calls Try.prog 28 #[.int .i64 n] w fun e w' => e = .returned (.string (strOfNums (putI n))) ∧ Below w.heap.size w w' := by

  by_cases c0 : n < 128
  · exact rput_0 n w (by omega) (by omega)
  by_cases c1 : n < 16384
  · exact rput_1 n w (by omega) (by omega)
  by_cases c2 : n < 2097152
  · exact rput_2 n w (by omega) (by omega)
  by_cases c3 : n < 268435456
  · exact rput_3 n w (by omega) (by omega)
  by_cases c4 : n < 34359738368
  · exact rput_4 n w (by omega) (by omega)
  exact rput_5 n w (by omega) (by omega)

theorem rput_low (n : Int) (w : World) (h : n < 0) :
    Calls Try.prog 28 #[.int .i64 n] w fun e w' => e = .returned (.string (strOfNums [])) ∧ w = w' := by
  go_enter Try.func28, Try.ntmps28
  go_wp2
  go_ret
  exact ⟨rfl, rfl⟩

theorem rput_high (n : Int) (w : World) (h : 1099511627776 < n) :
    Calls Try.prog 28 #[.int .i64 n] w fun e w' => e = .returned (.string (strOfNums [])) ∧ w = w' := by
  have h0 : ¬ n < 0 := by omega
  go_enter Try.func28, Try.ntmps28
  go_wp2
  go_ret
  exact ⟨rfl, rfl⟩
end Go.Proofs.Ytmdhendfmhhniaa

