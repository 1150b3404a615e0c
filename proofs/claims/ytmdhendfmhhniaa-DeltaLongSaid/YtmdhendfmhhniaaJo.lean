/- Deltas: what the world's shape gives of the library's own variable. -/
import Derived.Test.YtmdhendfmhhniaaJk
import Derived.Shelf.Vars
namespace Go.Proofs.Ytmdhendfmhhniaa
open Go.RowKit

theorem maxAt_of {W : World} (h : W.ShapedOpen Try.prog) : MaxAt W :=
  cell_of_shapedOpen_int (g := 0) (t := 3) (zero := #[.int .i64 0]) h (of_decide_eq_true (by kernel_rfl)) (by kernel_rfl) rfl (by kernel_rfl) (by kernel_rfl) Try.underlying3
end Go.Proofs.Ytmdhendfmhhniaa
