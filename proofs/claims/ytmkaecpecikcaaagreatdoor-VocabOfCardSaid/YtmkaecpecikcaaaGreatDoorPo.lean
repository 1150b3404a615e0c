/- Merges: apply. -/
import Derived.Test.YtmkaecpecikcaaaGreatDoorY4
import Derived.StillTailTactics
import Derived.Deep.RegionHeld3
namespace Go.Proofs.YtmkaecpecikcaaaGreatDoor
open Go.RowKit Go.Maps
variable {g gf gr cf cr m : Nat} {word : ByteArray} {P : List ByteArray} {R : Nat → Int} {w w' w'' : World} {a b : ByteArray} {l : List PairB}

end Go.Proofs.YtmkaecpecikcaaaGreatDoor
