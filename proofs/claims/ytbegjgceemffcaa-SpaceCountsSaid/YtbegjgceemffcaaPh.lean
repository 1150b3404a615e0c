/- Merges: maps whose keys are pairs. -/
import Derived.Test.YtbegjgceemffcaaPg
import Derived.Maps.OwnSet
import Derived.DeepKeys4
namespace Go.Proofs.Ytbegjgceemffcaa
open Go.RowKit Go.Maps Go.WideShapes

theorem cells_str : Try.prog.cellsOf 9 = 1 := by kernel_rfl
def keyB (p : PairB) : Lit := .string (keyBytes [.string p.1.data.toList, .string p.2.data.toList])
/-- A pair that may be a key: its parts aren't longer than any text. -/
def OkP (p : PairB) : Prop := p.1.size ≤ maxLen ∧ p.2.size ≤ maxLen
theorem keyB_str (p : PairB) : WideAt.IsKeyLit (keyB p) := trivial
end Go.Proofs.Ytbegjgceemffcaa
