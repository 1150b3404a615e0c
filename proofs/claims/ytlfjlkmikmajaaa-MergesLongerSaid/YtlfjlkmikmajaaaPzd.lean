/- Merges: Invalid and Good against the plain ones. -/
import Derived.Test.YtlfjlkmikmajaaaPzc
import Derived.Test.YtlfjlkmikmajaaaPzb
namespace Go.Proofs.Ytlfjlkmikmajaaa
open Go.RowKit
variable {w w' : World}

theorem SmP.sum {p : PairB} (h : SmP p) : p.1.size + p.2.size ≤ maxLen := by have := h.1; have := h.2; unfold maxLen; omega
end Go.Proofs.Ytlfjlkmikmajaaa
