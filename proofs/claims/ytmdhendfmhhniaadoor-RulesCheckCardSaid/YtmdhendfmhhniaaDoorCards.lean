/-
  DERIVED. GIVEN WITH THE SEED: THE CARDS: each row of YtmdhendfmhhniaaDoorRows.lean that lists a variable, with what it lists TIED to the program's text (the seventh form; the later family's looks); each row that meets fmt, with fmt's text TOLD by the authors' own Lean function (tested against real Go, not proved from fmt's source: count such statements apart). THE CARD IS WHAT COUNTS. Prove the row's statement (the work); the ties are given (YtmdhendfmhhniaaDoorTie.lean); close each card by the builder's one call (the guide's Derived/Test/ToyasCard.lean, 'card_holds'). Laid BY PROGRAM, IN A SANDBOX (cutbox-door.mjs). By AI agents, Wed Nov 11 2026. No macro, syntax, notation, axiom, sorry.
-/
import Derived.Test.YtmdhendfmhhniaaDoorRows
import GoSem.ClaimSeven
namespace Go.Proofs.YtmdhendfmhhniaaDoor
namespace Rows

/-- THE TIED CARD OF 'stemmalaw09.VocabCodes'. -/
def vocabCodesCard : Claim7 := { stood := { row := vocabCodesRow, standIns := [], harness := (true, "461a961ce1f0d7a4c95b9f11d47059207821dca7416fecfaa7f3067fb7127b95"), looks := true }, kinds := [], alts := [], laidByText := true, laidKinds := [.data, .data, .data], laidTests := true, laidLooks := .later }
def VocabCodesCardSaid : Prop := Claim7.holds Tryd.pinned (.plain (OpenSpec.ofChange vocabCodesSpec)) vocabCodesCard

/-- THE TIED CARD OF 'stemmalaw09.VocabBack'. -/
def vocabBackCard : Claim7 := { stood := { row := vocabBackRow, standIns := [], harness := (true, "461a961ce1f0d7a4c95b9f11d47059207821dca7416fecfaa7f3067fb7127b95"), looks := true }, kinds := [], alts := [], laidByText := true, laidKinds := [.data, .data, .data], laidTests := true, laidLooks := .later }
def VocabBackCardSaid : Prop := Claim7.holds Tryd.pinned (.plain (OpenSpec.ofChange vocabBackSpec)) vocabBackCard

/-- THE TIED CARD OF 'stemmalaw09.VocabNil'. -/
def vocabNilCard : Claim7 := { stood := { row := vocabNilRow, standIns := [], harness := (true, "461a961ce1f0d7a4c95b9f11d47059207821dca7416fecfaa7f3067fb7127b95"), looks := true }, kinds := [], alts := [], laidByText := true, laidKinds := [.data, .data, .data], laidTests := true, laidLooks := .later }
def VocabNilCardSaid : Prop := Claim7.holds Tryd.pinned (.plain (OpenSpec.ofChange vocabNilSpec)) vocabNilCard

/-- THE TIED CARD OF 'stemmalaw09.VocabMore'. -/
def vocabMoreCard : Claim7 := { stood := { row := vocabMoreRow, standIns := [], harness := (true, "461a961ce1f0d7a4c95b9f11d47059207821dca7416fecfaa7f3067fb7127b95"), looks := true }, kinds := [], alts := [], laidByText := true, laidKinds := [.data, .data, .data], laidTests := true, laidLooks := .later }
def VocabMoreCardSaid : Prop := Claim7.holds Tryd.pinned (.plain (OpenSpec.ofChange vocabMoreSpec)) vocabMoreCard

/-- THE TIED CARD OF 'stemmalaw10.RulesCheck'. -/
def rulesCheckCard : Claim7 := { stood := { row := rulesCheckRow, standIns := [], harness := (true, "461a961ce1f0d7a4c95b9f11d47059207821dca7416fecfaa7f3067fb7127b95"), looks := true }, kinds := [], alts := [], laidByText := true, laidKinds := [.data, .data, .data, .sentinel, .sentinel], laidTests := true, laidLooks := .later }
def RulesCheckCardSaid : Prop := Claim7.holds Tryd.pinned (.plain (OpenSpec.ofChange rulesCheckSpec)) rulesCheckCard

/-- THE SECOND FORM's CARD OF 'stemmalaw09.VocabCodes'. -/
def vocabCodesUptoCard : Claim7 := { stood := { row := vocabCodesUptoRow, standIns := [], harness := (true, "461a961ce1f0d7a4c95b9f11d47059207821dca7416fecfaa7f3067fb7127b95"), looks := true }, kinds := [], alts := [], laidByText := true, laidKinds := [.data, .data, .data], laidTests := true, laidLooks := .later }
def VocabCodesUptoCardSaid : Prop := Claim7.holds Tryd.pinned (.plain (OpenSpec.upto vocabCodesSpec)) vocabCodesUptoCard

/-- THE SECOND FORM's CARD OF 'stemmalaw09.VocabBack'. -/
def vocabBackUptoCard : Claim7 := { stood := { row := vocabBackUptoRow, standIns := [], harness := (true, "461a961ce1f0d7a4c95b9f11d47059207821dca7416fecfaa7f3067fb7127b95"), looks := true }, kinds := [], alts := [], laidByText := true, laidKinds := [.data, .data, .data], laidTests := true, laidLooks := .later }
def VocabBackUptoCardSaid : Prop := Claim7.holds Tryd.pinned (.plain (OpenSpec.upto vocabBackSpec)) vocabBackUptoCard

/-- THE SECOND FORM's CARD OF 'stemmalaw09.VocabNil'. -/
def vocabNilUptoCard : Claim7 := { stood := { row := vocabNilUptoRow, standIns := [], harness := (true, "461a961ce1f0d7a4c95b9f11d47059207821dca7416fecfaa7f3067fb7127b95"), looks := true }, kinds := [], alts := [], laidByText := true, laidKinds := [.data, .data, .data], laidTests := true, laidLooks := .later }
def VocabNilUptoCardSaid : Prop := Claim7.holds Tryd.pinned (.plain (OpenSpec.upto vocabNilSpec)) vocabNilUptoCard

/-- THE SECOND FORM's CARD OF 'stemmalaw09.VocabMore'. -/
def vocabMoreUptoCard : Claim7 := { stood := { row := vocabMoreUptoRow, standIns := [], harness := (true, "461a961ce1f0d7a4c95b9f11d47059207821dca7416fecfaa7f3067fb7127b95"), looks := true }, kinds := [], alts := [], laidByText := true, laidKinds := [.data, .data, .data], laidTests := true, laidLooks := .later }
def VocabMoreUptoCardSaid : Prop := Claim7.holds Tryd.pinned (.plain (OpenSpec.upto vocabMoreSpec)) vocabMoreUptoCard

/-- THE SECOND FORM's CARD OF 'stemmalaw10.RulesCheck'. -/
def rulesCheckUptoCard : Claim7 := { stood := { row := rulesCheckUptoRow, standIns := [], harness := (true, "461a961ce1f0d7a4c95b9f11d47059207821dca7416fecfaa7f3067fb7127b95"), looks := true }, kinds := [], alts := [], laidByText := true, laidKinds := [.data, .data, .data, .sentinel, .sentinel], laidTests := true, laidLooks := .later }
def RulesCheckUptoCardSaid : Prop := Claim7.holds Tryd.pinned (.plain (OpenSpec.upto rulesCheckSpec)) rulesCheckUptoCard
end Rows
end Go.Proofs.YtmdhendfmhhniaaDoor
