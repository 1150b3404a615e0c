/-
  DERIVED. GIVEN WITH THE SEED: THE CARDS: each row of YtmkaecpecikcaaaGreatDoorRows.lean that lists a variable, with what it lists TIED to the program's text (the seventh form; the later family's looks); each row that meets fmt, with fmt's text TOLD by the authors' own Lean function (tested against real Go, not proved from fmt's source: count such statements apart). THE CARD IS WHAT COUNTS. Prove the row's statement (the work); the ties are given (YtmkaecpecikcaaaGreatDoorTie.lean); close each card by the builder's one call (the guide's Derived/Test/ToyasCard.lean, 'card_holds'). Laid BY PROGRAM, IN A SANDBOX (cutbox-door.mjs). By AI agents, Wed Nov 11 2026. No macro, syntax, notation, axiom, sorry.
-/
import Derived.Test.YtmkaecpecikcaaaGreatDoorRows
import GoSem.ClaimSeven
namespace Go.Proofs.YtmkaecpecikcaaaGreatDoor
namespace Rows

/-- THE TIED CARD OF 'stemmalaw09.VocabParse'. -/
def vocabParseCard : Claim7 := { stood := { row := vocabParseRow, standIns := [], harness := (true, "fe8ef0e5b9102c9ec7f8b079d653c0c9a4b3b6d8b801c36b0d735939d7bf4bc6"), looks := true }, kinds := [], alts := [], laidByText := true, laidKinds := [.data, .data, .data, .sentinel, .sentinel], laidTests := true, laidLooks := .later }
def VocabParseCardSaid : Prop := Claim7.holds Tryz.pinned (.plain (OpenSpec.ofChange vocabParseSpec)) vocabParseCard

/-- THE TIED CARD OF 'stemmalaw09.VocabOf'. -/
def vocabOfCard : Claim7 := { stood := { row := vocabOfRow, standIns := [], harness := (true, "fe8ef0e5b9102c9ec7f8b079d653c0c9a4b3b6d8b801c36b0d735939d7bf4bc6"), looks := true }, kinds := [], alts := [], laidByText := true, laidKinds := [.data, .data, .data, .sentinel, .sentinel], laidTests := true, laidLooks := .later }
def VocabOfCardSaid : Prop := Claim7.holds Tryz.pinned (.plain (OpenSpec.ofChange vocabOfSpec)) vocabOfCard

/-- THE SECOND FORM's CARD OF 'stemmalaw09.VocabParse'. -/
def vocabParseUptoCard : Claim7 := { stood := { row := vocabParseUptoRow, standIns := [], harness := (true, "fe8ef0e5b9102c9ec7f8b079d653c0c9a4b3b6d8b801c36b0d735939d7bf4bc6"), looks := true }, kinds := [], alts := [], laidByText := true, laidKinds := [.data, .data, .data, .sentinel, .sentinel], laidTests := true, laidLooks := .later }
def VocabParseUptoCardSaid : Prop := Claim7.holds Tryz.pinned (.plain (OpenSpec.upto vocabParseSpec)) vocabParseUptoCard

/-- THE SECOND FORM's CARD OF 'stemmalaw09.VocabOf'. -/
def vocabOfUptoCard : Claim7 := { stood := { row := vocabOfUptoRow, standIns := [], harness := (true, "fe8ef0e5b9102c9ec7f8b079d653c0c9a4b3b6d8b801c36b0d735939d7bf4bc6"), looks := true }, kinds := [], alts := [], laidByText := true, laidKinds := [.data, .data, .data, .sentinel, .sentinel], laidTests := true, laidLooks := .later }
def VocabOfUptoCardSaid : Prop := Claim7.holds Tryz.pinned (.plain (OpenSpec.upto vocabOfSpec)) vocabOfUptoCard
end Rows
end Go.Proofs.YtmkaecpecikcaaaGreatDoor
