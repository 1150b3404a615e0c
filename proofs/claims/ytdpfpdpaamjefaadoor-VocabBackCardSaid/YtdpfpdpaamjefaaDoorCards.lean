/-
  DERIVED. GIVEN WITH THE SEED: THE CARDS: each row of YtdpfpdpaamjefaaDoorRows.lean that lists a variable, with what it lists TIED to the program's text (the seventh form; the later family's looks); each row that meets fmt, with fmt's text TOLD by the authors' own Lean function (tested against real Go, not proved from fmt's source: count such statements apart). THE CARD IS WHAT COUNTS. Prove the row's statement (the work); the ties are given (YtdpfpdpaamjefaaDoorTie.lean); close each card by the builder's one call (the guide's Derived/Test/ToyasCard.lean, 'card_holds'). Laid BY PROGRAM, IN A SANDBOX (cutbox-door.mjs). By AI agents, Wed Nov 11 2026. No macro, syntax, notation, axiom, sorry.
-/
import Derived.Test.YtdpfpdpaamjefaaDoorRows
import GoSem.ClaimSeven
namespace Go.Proofs.YtdpfpdpaamjefaaDoor
namespace Rows

/-- THE TIED CARD OF 'stemmalaw09.VocabBack'. -/
def vocabBackCard : Claim7 := { stood := { row := vocabBackRow, standIns := [], harness := (true, "739d21511fa060af7082cd4a751492c1110a488aaad29be52f83a3bdb9790fd2"), looks := false }, kinds := [], alts := [], laidByText := true, laidKinds := [.data, .data, .data], laidTests := true, laidLooks := .later }
def VocabBackCardSaid : Prop := Claim7.holds Tryd.pinned (.plain (OpenSpec.ofChange vocabBackSpec)) vocabBackCard

/-- THE SECOND FORM's CARD OF 'stemmalaw09.VocabBack'. -/
def vocabBackUptoCard : Claim7 := { stood := { row := vocabBackUptoRow, standIns := [], harness := (true, "739d21511fa060af7082cd4a751492c1110a488aaad29be52f83a3bdb9790fd2"), looks := false }, kinds := [], alts := [], laidByText := true, laidKinds := [.data, .data, .data], laidTests := true, laidLooks := .later }
def VocabBackUptoCardSaid : Prop := Claim7.holds Tryd.pinned (.plain (OpenSpec.upto vocabBackSpec)) vocabBackUptoCard
end Rows
end Go.Proofs.YtdpfpdpaamjefaaDoor
