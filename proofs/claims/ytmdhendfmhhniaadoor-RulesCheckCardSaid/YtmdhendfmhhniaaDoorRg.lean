/- Rules: Parse. -/
import Derived.Test.YtmdhendfmhhniaaDoorRf
import Derived.Test.YtmdhendfmhhniaaDoorPw
namespace Go.Proofs.YtmdhendfmhhniaaDoor
open Go.RowKit
variable {w w' : World}

set_option maxHeartbeats 1000000 in
set_option maxRecDepth 100000 in
theorem ParseR_any (S : ByteArray) (w : World) (hS : S.size ≤ maxLen) :
    Calls Tryd.prog 40 #[.string S] w fun e w' => ∃ v, e = .returned (.tuple #[v, .int .i64 (parseR S).2.1, .int .i64 (parseR S).2.2]) ∧ w'.ownsRow w.heap.size 107 2 v (parseR S).1.length (flatP (parseR S).1) ∧ Below w.heap.size w w' := by
  have hb : Below w.heap.size w (w.alloc (.cells #[.string ⟨#[]⟩] 9)) := (Below.refl _ _).alloc (Nat.le_refl _) _
  have hs : IsLast w.heap.size [] (w.alloc (.cells #[.string ⟨#[]⟩] 9)) := World.alloc_heap_new w _
  have HP := Lib.hid (lparse_anyR w.heap.size S _ hS hs)
  have HB := Lib.hid hb
  clear hb hs
  go_enter Tryd.func40, Tryd.ntmps40
  go_wp2_with (go_at_call 61; refine HP.out.mono ?_)
  first | rintro e w2 v rfl ho hf | rintro e w2 ⟨v, rfl, ho, hf⟩
  have HE := Lib.hid (show w2.ownsRow w.heap.size 107 2 v (parseR S).1.length (flatP (parseR S).1) ∧ Below w.heap.size w w2 from ⟨own_lower ho HB.out.size, HB.out.trans (hf.below (Nat.le_refl _) HB.out.size)⟩)
  clear ho hf
  go_wp2_with fail
  exact bodyPost_ret (v := .tuple #[v, .int .i64 (parseR S).2.1, .int .i64 (parseR S).2.2]) (by simp [results, Tryd.results40, go_sem]) rfl ⟨v, rfl, HE.out⟩
end Go.Proofs.YtmdhendfmhhniaaDoor
