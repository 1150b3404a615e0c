/- The contract of the document's Frame. -/
import Derived.Test.YtaionhdamdhjjabDoorKe
import Derived.Deep.DeepCutAuto
import Derived.Deep.DrawnRows
namespace Go.Proofs.YtaionhdamdhjjabDoor
open Go.RowKit
attribute [local go_sem ↓] Go.wp_at_zero Go.wp_at_succ

theorem conv_cell (W : World) (b : Nat) (x : Int) (hb : W.cell? ⟨b, 0, none⟩ = some (.int .u8 x)) : (convert 46 9 (.slice (some ⟨b, 0, none⟩) 1 1)).run Tryd.prog W = .ok (.string (strOfNums [x])) W := by
  refine run_convert_bytes_arg (P := Tryd.prog) _ 46 5 Tryd.underlying46 Tryd.underlying5 b 0 1 1 [x] rfl (fun i hi => ?_) 9 Tryd.underlying9
  obtain rfl : i = 0 := by omega
  exact hb

theorem cell_behind {w w1 : World} {v : Value} {T : TypeId} (h : Below (w.alloc (.cells #[v] T)).drew.heap.size (w.alloc (.cells #[v] T)).drew w1) : w1.cell? ⟨w.heap.size, 0, none⟩ = some v := by
  refine (h.cell (p := ⟨w.heap.size, 0, none⟩) ?_).trans ?_
  · show w.heap.size < (w.heap.push _).size
    simp
  · have e : (w.alloc (.cells #[v] T)).drew.heap[w.heap.size]? = some (.cells #[v] T (0, 0)) := by
      show (w.heap.push _)[w.heap.size]? = _
      simp
    unfold World.cell?
    simp only [e]
    rfl
theorem conv_new (W : World) (b : Nat) (x : Int) (hb : b = W.heap.size) : (convert 46 9 (.slice (some ⟨b, 0, none⟩) 1 1)).run Tryd.prog (W.alloc (.cells #[.int .u8 x] 5)) = .ok (.string (strOfNums [x])) (W.alloc (.cells #[.int .u8 x] 5)) := conv_one W b x hb

def FrSlot (S : ByteArray) (c : Int) (w : World) (s cc i : Value) (wr : World) : Prop :=
  ∃ (j : Nat) (y : Int), j ≤ 4 ∧ i = .int .i64 j ∧ (j = 0 ∧ y = c ∨ j = 1 ∧ y = c / 256 ∨ j = 2 ∧ y = c / 256 / 256 ∨ j = 3 ∧ y = c / 256 / 256 / 256 ∨ j = 4 ∧ y = c / 256 / 256 / 256 / 256) ∧ cc = .int .u32 y ∧ s = .string (S ++ strOfNums ((leI c).take j)) ∧ Below w.heap.size w wr ∧ w.heap.size ≤ wr.heap.size
theorem fr_rng (c y : Int) (j : Nat) (c0 : 0 ≤ c) (c1 : c < 4294967296) (hy : j = 0 ∧ y = c ∨ j = 1 ∧ y = c / 256 ∨ j = 2 ∧ y = c / 256 / 256 ∨ j = 3 ∧ y = c / 256 / 256 / 256 ∨ j = 4 ∧ y = c / 256 / 256 / 256 / 256) : 0 ≤ y ∧ y < 4294967296 := by omega
theorem fr_step (S T : ByteArray) (c y : Int) (j : Nat) (hT : S ++ strOfNums ((leI c).take j) = T) (hy : j = 0 ∧ y = c ∨ j = 1 ∧ y = c / 256 ∨ j = 2 ∧ y = c / 256 / 256 ∨ j = 3 ∧ y = c / 256 / 256 / 256 ∨ j = 4 ∧ y = c / 256 / 256 / 256 / 256) (hj : j < 4) (c0 : 0 ≤ c) :
    T ++ strOfNums [y % 256] = S ++ strOfNums ((leI c).take (j + 1)) ∧ (j + 1 = 0 ∧ y / 256 = c ∨ j + 1 = 1 ∧ y / 256 = c / 256 ∨ j + 1 = 2 ∧ y / 256 = c / 256 / 256 ∨ j + 1 = 3 ∧ y / 256 = c / 256 / 256 / 256 ∨ j + 1 = 4 ∧ y / 256 = c / 256 / 256 / 256 / 256) := by
  rw [← hT, ByteArray.append_assoc, str_app]
  have d2 : c / 65536 = c / 256 / 256 := by omega
  have d3 : c / 16777216 = c / 256 / 256 / 256 := by omega
  unfold leI
  rw [d2, d3]
  rcases hy with ⟨rfl, rfl⟩ | ⟨rfl, rfl⟩ | ⟨rfl, rfl⟩ | ⟨rfl, rfl⟩ | ⟨rfl, rfl⟩
  · exact ⟨rfl, by simp⟩
  · exact ⟨rfl, by simp⟩
  · exact ⟨rfl, by simp⟩
  · exact ⟨rfl, by simp⟩
  · omega
theorem ba_end (s : ByteArray) : s ++ (⟨#[]⟩ : ByteArray) = s := by
  cases s; rename_i d; show _ ++ ByteArray.empty = _; simp

end Go.Proofs.YtaionhdamdhjjabDoor
