/-
  DERIVED. GIVEN WITH THE SEED: THE CARDS: each row of YtbpaiiljhdohfaaDoorRows.lean that lists a variable, with what it lists TIED to the program's text (the seventh form; the later family's looks); each row that meets fmt, with fmt's text TOLD by the authors' own Lean function (tested against real Go, not proved from fmt's source: count such statements apart). THE CARD IS WHAT COUNTS. Prove the row's statement (the work); the ties are given (YtbpaiiljhdohfaaDoorTie.lean); close each card by the builder's one call (the guide's Derived/Test/ToyasCard.lean, 'card_holds'). Laid BY PROGRAM, IN A SANDBOX (cutbox-door.mjs). By AI agents, Wed Nov 11 2026. No macro, syntax, notation, axiom, sorry.
-/
import Derived.Test.YtbpaiiljhdohfaaDoorRows
import GoSem.ClaimSeven
namespace Go.Proofs.YtbpaiiljhdohfaaDoor
namespace Rows

/-- THE TIED CARD OF 'stemmalaw06.WalScripts'. -/
def walScriptsCard : Claim7 := { stood := { row := walScriptsRow, standIns := [], harness := (true, "dda0e56ecd7e8ab52107ba0a37c7fa02728561e3740753884eb2f43cdc11d9e6"), looks := false }, kinds := [], alts := [], laidByText := true, laidKinds := [.data], laidTests := true, laidLooks := .later }
def WalScriptsCardSaid : Prop := Claim7.holds Tryd.pinned (.plain (OpenSpec.ofChange walScriptsSpec)) walScriptsCard

/-- THE SECOND FORM's CARD OF 'stemmalaw06.WalScripts'. -/
def walScriptsUptoCard : Claim7 := { stood := { row := walScriptsUptoRow, standIns := [], harness := (true, "dda0e56ecd7e8ab52107ba0a37c7fa02728561e3740753884eb2f43cdc11d9e6"), looks := false }, kinds := [], alts := [], laidByText := true, laidKinds := [.data], laidTests := true, laidLooks := .later }
def WalScriptsUptoCardSaid : Prop := Claim7.holds Tryd.pinned (.plain (OpenSpec.upto walScriptsSpec)) walScriptsUptoCard
end Rows
end Go.Proofs.YtbpaiiljhdohfaaDoor
