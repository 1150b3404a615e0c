/- Merges: the plain Invalid. -/
import Derived.Test.YtlfjlkmikmajaaaPza
namespace Go.Proofs.Ytlfjlkmikmajaaa
open Go.RowKit
variable {w w' : World}

theorem partOk_snoc (rs : List ByteArray) (q x : ByteArray) : partOk (rs ++ [q]) x = (partOk rs x || decide (q = x)) := by
  unfold partOk
  rw [inB_snoc]
  cases inB rs x <;> cases decide (q = x) <;> simp
theorem partOk_nil (x : ByteArray) : partOk [] x = decide (x.size ≤ 1) := by unfold partOk inB; simp
def RiS (w : World) (l : List PairB) (i : Value) (wr : World) : Prop :=
  ∃ k : Nat, k ≤ l.length ∧ i = .int .i64 k ∧ invM l = invF k (resL (l.take k)) (l.drop k) ∧ Below w.heap.size w wr
def RjS (w : World) (l : List PairB) (k : Nat) (p1 p2 : ByteArray) (a b j : Value) (wr : World) : Prop :=
  ∃ m : Nat, m ≤ k ∧ j = .int .i64 m ∧ a = .bool (partOk (resL (l.take m)) p1) ∧ b = .bool (partOk (resL (l.take m)) p2) ∧ Below w.heap.size w wr
end Go.Proofs.Ytlfjlkmikmajaaa
