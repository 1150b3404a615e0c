/- Lists' edits: compare, with the closure of Diff. -/
import Derived.Test.YtjdlpcokjcmapaaLg
set_option linter.unusedVariables false
set_option linter.unusedSimpArgs false
namespace Go.Proofs.Ytjdlpcokjcmapaa
open Go.RowKit
variable {w w' : World}

end Go.Proofs.Ytjdlpcokjcmapaa
