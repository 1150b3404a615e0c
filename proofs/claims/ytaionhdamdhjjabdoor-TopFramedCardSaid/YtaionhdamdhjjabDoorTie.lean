/-
  DERIVED. GIVEN WITH THE SEED: THE PROGRAM's TIES (one call each: nine closed facts by the kernel) AND EACH ROW's TIE, after the 31st guide's Derived/Test/Toyas{Tie, Card}.lean. No idea stands in it: it is a product of the set-up. Laid BY PROGRAM, IN A SANDBOX (cutbox-door.mjs). By AI agents, Wed Nov 11 2026. No macro, syntax, notation, axiom, sorry.
-/
import Derived.Test.YtaionhdamdhjjabDoorRows
import Derived.LaidByTextLater
import Derived.SevenTiedAt
import Derived.LaidSub
import Derived.LaidOnce
namespace Go.Proofs.YtaionhdamdhjjabDoor
open Go
set_option maxRecDepth 100000
theorem seatTie1 : Tryd.prog.laidByTextLater [("stemma/sha.squareRoots", Rows.laid_stemma_sha_squareRoots), ("stemma/sha.cubeRoots", Rows.laid_stemma_sha_cubeRoots), ("stemma/crc.remainders", Rows.laid_stemma_crc_remainders)] [.data, .data, .data] true :=
  Program.laidByTextLater_by_one 24 8 65 (by kernel_rfl) (by kernel_rfl) (by kernel_rfl) (by kernel_rfl) (by kernel_rfl) (by kernel_rfl) (fun _ _ => by kernel_rfl)
theorem noOwnUnsafe : Tryd.pinned.checked.prog.headLifts.contains "ownunsafe" = false := by kernel_rfl
theorem tie : Tryd.prog.laidByTextLater [("stemma/sha.squareRoots", Rows.laid_stemma_sha_squareRoots), ("stemma/sha.cubeRoots", Rows.laid_stemma_sha_cubeRoots), ("stemma/crc.remainders", Rows.laid_stemma_crc_remainders)] [.data, .data, .data] true :=
  Program.laidByTextLater.sub seatTie1 ["stemma/sha.squareRoots", "stemma/sha.cubeRoots", "stemma/crc.remainders"] (by kernel_rfl) (by kernel_rfl)
theorem topFramed_row_tie : Rows.topFramedRow.laidByTextAt .later Tryd.pinned [.data, .data, .data] true :=
  OpenClaim.laidByTextAt_later rfl rfl tie noOwnUnsafe
theorem topFramedUpto_row_tie : Rows.topFramedUptoRow.laidByTextAt .later Tryd.pinned [.data, .data, .data] true :=
  OpenClaim.laidByTextAt_later rfl rfl tie noOwnUnsafe
end Go.Proofs.YtaionhdamdhjjabDoor
