/- The contract of crc.littleEndian: a number's four bytes, the lowest first. -/
import Derived.Test.YtodmomhilpheiabDoorKb
import Derived.Test.YtodmomhilpheiabDoorH
namespace Go.Proofs.YtodmomhilpheiabDoor
open Go.RowKit

/-- A number's bytes, as numbers. -/
def leI (c : Int) : List Int := [c % 256, c / 256 % 256, c / 65536 % 256, c / 16777216 % 256]
def leB (c : B32) : ByteArray := strOfNums (leI c.toNat)
theorem conv_at (T : TypeId) (w : World) (x0 x1 x2 x3 : Int) :
    (convert 39 9 (.slice (some ⟨w.heap.size, 0, none⟩) 4 4)).run Tryd.prog (w.alloc (.cells #[.int .u8 x0, .int .u8 x1, .int .u8 x2, .int .u8 x3] T)) = .ok (.string (strOfNums [x0, x1, x2, x3])) (w.alloc (.cells #[.int .u8 x0, .int .u8 x1, .int .u8 x2, .int .u8 x3] T)) := by
  refine run_convert_bytes_arg (P := Tryd.prog) _ 39 5 Tryd.underlying39 Tryd.underlying5 w.heap.size 0 4 4 [x0, x1, x2, x3] rfl (fun i hi => ?_) 9 Tryd.underlying9
  have e : (w.alloc (.cells #[.int .u8 x0, .int .u8 x1, .int .u8 x2, .int .u8 x3] T)).heap[w.heap.size]? = some (.cells #[.int .u8 x0, .int .u8 x1, .int .u8 x2, .int .u8 x3] T (0, 0)) := by
    show (w.heap.push _)[w.heap.size]? = _
    simp
  unfold World.cell?
  simp only [e]
  rcases (show i = 0 ∨ i = 1 ∨ i = 2 ∨ i = 3 by omega) with rfl | rfl | rfl | rfl <;> rfl

set_option maxHeartbeats 1000000 in
set_option maxRecDepth 100000 in
theorem le_any (c : B32) (w : World) :
    Calls Tryd.prog 19 #[.int .u32 (c.toNat : Int)] w fun e w' => e = .returned (.string (leB c)) ∧ Below w.heap.size w w' := by
  have hb := c.isLt
  unfold leB leI
  obtain ⟨x, hx⟩ : ∃ x : Int, (c.toNat : Int) = x := ⟨_, rfl⟩
  have x0 : 0 ≤ x := by omega
  have x1 : x < 4294967296 := by omega
  rw [hx]
  clear hx hb
  have hcv := conv_at 61 w
  go_enter Tryd.func19, Tryd.ntmps19
  go_wp2_with fail
  refine wp_loop_rounds 5 ?_
  iterate 5 (rw [rounds_succ]; go_wp2_with fail)
  go_ret
  exact ⟨ret_bs (by congr 1; repeat (first | rfl | refine cons_eq (by omega) ?_)), (Below.refl _ _).alloc (Nat.le_refl _) _⟩
end Go.Proofs.YtodmomhilpheiabDoor
