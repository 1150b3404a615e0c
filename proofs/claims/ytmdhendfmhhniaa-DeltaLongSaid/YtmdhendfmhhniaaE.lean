/- Contracts of the document's Get where it answers no number: for every such text. -/
import Derived.Test.YtmdhendfmhhniaaD
namespace Go.Proofs.Ytmdhendfmhhniaa
open Go.RowKit

theorem rget_empty (s : ByteArray) (w : World) (hs : s.size = 0) :
    Calls Try.prog 20 #[.string s] w fun e w' => e = .returned (.tuple #[.int .i64 (getI s).1, .int .i64 (getI s).2.1, .int .i64 (getI s).2.2]) ∧ Below w.heap.size w w' := by
  have hem := ba_empty s hs
  have hg := Lib.hid (show getI s = (0, 0, 3) by unfold getI; rw [if_pos hs])
  clear hs
  go_enter Try.func20, Try.ntmps20
  go_wp2_with fail
  go_ret3
  exact ⟨ret3_of hg.out, bel_refl _⟩

set_option maxHeartbeats 800000 in
set_option maxRecDepth 100000 in
theorem rget_form6 (s : ByteArray) (w : World) (hs : 0 < s.size) (hm : s.size ≤ maxLen) (hk : leadI (byt s 0) = 6) :
    Calls Try.prog 20 #[.string s] w fun e w' => e = .returned (.tuple #[.int .i64 (getI s).1, .int .i64 (getI s).2.1, .int .i64 (getI s).2.2]) ∧ Below w.heap.size w w' := by
  unfold maxLen at hm
  have hem := ba_some s hs
  have hg := Lib.hid (show getI s = (0, 0, 2) by unfold getI; rw [if_neg (by omega), if_pos (by omega)])
  have F0 := lead_yes s[0] 0 6 128 rfl (by rw [byt_eq]; exact hk) (by omega) (by omega)
  have F1 := lead_yes s[0] 1 6 64 rfl (by rw [byt_eq]; exact hk) (by omega) (by omega)
  have F2 := lead_yes s[0] 2 6 32 rfl (by rw [byt_eq]; exact hk) (by omega) (by omega)
  have F3 := lead_yes s[0] 3 6 16 rfl (by rw [byt_eq]; exact hk) (by omega) (by omega)
  have F4 := lead_yes s[0] 4 6 8 rfl (by rw [byt_eq]; exact hk) (by omega) (by omega)
  have F5 := lead_yes s[0] 5 6 4 rfl (by rw [byt_eq]; exact hk) (by omega) (by omega)
  have F6 := lead_no s[0] 6 6 2 rfl (by rw [byt_eq]; exact hk) (by omega) (by omega)
  clear hk
  go_enter Try.func20, Try.ntmps20
  go_wp2_with fail
  refine wp_loop_rounds 7 ?_
  iterate 7 (rw [rounds_succ]; go_wp2_with fail)
  go_ret3
  exact ⟨ret3_of hg.out, bel_refl _⟩

set_option maxHeartbeats 800000 in
set_option maxRecDepth 100000 in
theorem rget_form7 (s : ByteArray) (w : World) (hs : 0 < s.size) (hm : s.size ≤ maxLen) (hk : leadI (byt s 0) = 7) :
    Calls Try.prog 20 #[.string s] w fun e w' => e = .returned (.tuple #[.int .i64 (getI s).1, .int .i64 (getI s).2.1, .int .i64 (getI s).2.2]) ∧ Below w.heap.size w w' := by
  unfold maxLen at hm
  have hem := ba_some s hs
  have hg := Lib.hid (show getI s = (0, 0, 2) by unfold getI; rw [if_neg (by omega), if_pos (by omega)])
  have F0 := lead_yes s[0] 0 7 128 rfl (by rw [byt_eq]; exact hk) (by omega) (by omega)
  have F1 := lead_yes s[0] 1 7 64 rfl (by rw [byt_eq]; exact hk) (by omega) (by omega)
  have F2 := lead_yes s[0] 2 7 32 rfl (by rw [byt_eq]; exact hk) (by omega) (by omega)
  have F3 := lead_yes s[0] 3 7 16 rfl (by rw [byt_eq]; exact hk) (by omega) (by omega)
  have F4 := lead_yes s[0] 4 7 8 rfl (by rw [byt_eq]; exact hk) (by omega) (by omega)
  have F5 := lead_yes s[0] 5 7 4 rfl (by rw [byt_eq]; exact hk) (by omega) (by omega)
  have F6 := lead_yes s[0] 6 7 2 rfl (by rw [byt_eq]; exact hk) (by omega) (by omega)
  have F7 := lead_no7 s[0] (by rw [byt_eq]; exact hk)
  clear hk
  go_enter Try.func20, Try.ntmps20
  go_wp2_with fail
  refine wp_loop_rounds 8 ?_
  iterate 8 (rw [rounds_succ]; go_wp2_with fail)
  go_ret3
  exact ⟨ret3_of hg.out, bel_refl _⟩

set_option maxHeartbeats 800000 in
set_option maxRecDepth 100000 in
theorem rget_form8 (s : ByteArray) (w : World) (hs : 0 < s.size) (hm : s.size ≤ maxLen) (hk : leadI (byt s 0) = 8) :
    Calls Try.prog 20 #[.string s] w fun e w' => e = .returned (.tuple #[.int .i64 (getI s).1, .int .i64 (getI s).2.1, .int .i64 (getI s).2.2]) ∧ Below w.heap.size w w' := by
  unfold maxLen at hm
  have hem := ba_some s hs
  have hg := Lib.hid (show getI s = (0, 0, 2) by unfold getI; rw [if_neg (by omega), if_pos (by omega)])
  have F0 := lead_yes s[0] 0 8 128 rfl (by rw [byt_eq]; exact hk) (by omega) (by omega)
  have F1 := lead_yes s[0] 1 8 64 rfl (by rw [byt_eq]; exact hk) (by omega) (by omega)
  have F2 := lead_yes s[0] 2 8 32 rfl (by rw [byt_eq]; exact hk) (by omega) (by omega)
  have F3 := lead_yes s[0] 3 8 16 rfl (by rw [byt_eq]; exact hk) (by omega) (by omega)
  have F4 := lead_yes s[0] 4 8 8 rfl (by rw [byt_eq]; exact hk) (by omega) (by omega)
  have F5 := lead_yes s[0] 5 8 4 rfl (by rw [byt_eq]; exact hk) (by omega) (by omega)
  have F6 := lead_yes s[0] 6 8 2 rfl (by rw [byt_eq]; exact hk) (by omega) (by omega)
  have F7 := lead_yes7 s[0] 8 (by rw [byt_eq]; exact hk) (by omega)
  clear hk
  go_enter Try.func20, Try.ntmps20
  go_wp2_with fail
  refine wp_loop_rounds 9 ?_
  iterate 9 (rw [rounds_succ]; go_wp2_with fail)
  go_ret3
  exact ⟨ret3_of hg.out, bel_refl _⟩

end Go.Proofs.Ytmdhendfmhhniaa
