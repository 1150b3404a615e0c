/-
  No cell of these rows narrows 'for every input' (looked for: loops, veiled, ifaces, maps, wideKeys, modest, calm, conditions, laid).
  DERIVED. THE GIVEN ROWS OF THIS SEAT. 7 by the template 'for every input the law returns true; each argument reads behind the call as it read before'; 0 by the template 'total and deterministic' (their statements: YtlfjlkmikmajaaaTotals.lean).
  GIVEN WITH THE SEED: the statements are not yours to turn. If you find one false, say at which input.
  Laid BY PROGRAM, IN A SANDBOX (cutbox-rows.mjs): the forced cells as the released guide's own fill.sh prints them over the translation df1e1d7cae1f7c59… (all of the seat's roots in one cut). By AI agents, Wed Nov 11 2026. No macro, syntax, notation, axiom, sorry.
-/
import Derived.Test.YtlfjlkmikmajaaaChecked
import GoSem.Claim
import GoSem.ClaimJoined
import GoSem.ClaimMapViews
import Derived.JoinedTies
import Derived.KernelRfl
namespace Go.Proofs.Ytlfjlkmikmajaaa
/- THE CELL 'sum', in the pinned program and in every row, IS THE sha256 OF THE DUMP (.gsa) THAT YtlfjlkmikmajaaaProg.lean LOADS. Nothing in Lean hashes anything: it is a label: what it is worth is what the hold of that sum in a sandbox is worth. -/
noncomputable def Try.pinned : Pinned := { name := "ytlfjlkmikmajaaa", sum := "df1e1d7cae1f7c597e268c777fab393baee6ee9ebb52d710888f89ae9620b98f", checked := Try.checked }
namespace Rows
def none {H : Type} : Left H := { results := [], args := [] }

/-- 'stemmalaw08.MergesParse': WHATEVER THE INPUT: true; the input reads as it did. -/
def mergesParseSpec : ChangeSpec := { name := "mergesParse", fn := fun _ => fun
  | [d] => { results := [.lit (.bool true)], args := [d] }
  | _ => none }
def mergesParseRow : OpenClaim := { program := "ytlfjlkmikmajaaa", sum := "df1e1d7cae1f7c597e268c777fab393baee6ee9ebb52d710888f89ae9620b98f", func := "stemma/stemmalaw08.MergesParse", spec := "mergesParse", inPlace := ["internal/bytealg.IndexByteString", "internal/bytealg.IndexString", "internal/abi.NoEscape"], unfollowed := true, recurses := true, named := ["internal/bytealg.MaxLen"], plainKeys := false, apart := false }
def MergesParseSaid : Prop := mergesParseRow.holds Try.pinned (OpenSpec.ofChange mergesParseSpec)

/-- ITS FALSE NEIGHBOUR: 'it returns false'. Refute it at one input. -/
def mergesParseWrong : ChangeSpec := { name := "mergesParse", fn := fun _ => fun
  | [d] => { results := [.lit (.bool false)], args := [d] }
  | _ => none }
def MergesParseWrongFalsely : Prop := mergesParseRow.holds Try.pinned (OpenSpec.ofChange mergesParseWrong)

/-- 'stemmalaw08.MergesMany': WHATEVER THE INPUT: true; the input reads as it did. -/
def mergesManySpec : ChangeSpec := { name := "mergesMany", fn := fun _ => fun
  | [d1, d2] => { results := [.lit (.bool true)], args := [d1, d2] }
  | _ => none }
def mergesManyRow : OpenClaim := { program := "ytlfjlkmikmajaaa", sum := "df1e1d7cae1f7c597e268c777fab393baee6ee9ebb52d710888f89ae9620b98f", func := "stemma/stemmalaw08.MergesMany", spec := "mergesMany", inPlace := ["internal/bytealg.IndexByteString", "internal/bytealg.IndexString"], unfollowed := true, recurses := true, named := ["internal/bytealg.MaxLen"], plainKeys := false, apart := false }
def MergesManySaid : Prop := mergesManyRow.holds Try.pinned (OpenSpec.ofChange mergesManySpec)

/-- ITS FALSE NEIGHBOUR: 'it returns false'. Refute it at one input. -/
def mergesManyWrong : ChangeSpec := { name := "mergesMany", fn := fun _ => fun
  | [d1, d2] => { results := [.lit (.bool false)], args := [d1, d2] }
  | _ => none }
def MergesManyWrongFalsely : Prop := mergesManyRow.holds Try.pinned (OpenSpec.ofChange mergesManyWrong)

/-- 'stemmalaw08.MergesLonger': WHATEVER THE INPUT: true; the input reads as it did. -/
def mergesLongerSpec : ChangeSpec := { name := "mergesLonger", fn := fun _ => fun
  | [d1, d2, d3] => { results := [.lit (.bool true)], args := [d1, d2, d3] }
  | _ => none }
def mergesLongerRow : OpenClaim := { program := "ytlfjlkmikmajaaa", sum := "df1e1d7cae1f7c597e268c777fab393baee6ee9ebb52d710888f89ae9620b98f", func := "stemma/stemmalaw08.MergesLonger", spec := "mergesLonger", inPlace := ["internal/bytealg.IndexByteString", "internal/bytealg.IndexString"], unfollowed := true, recurses := true, named := ["internal/bytealg.MaxLen"], plainKeys := false, apart := false }
def MergesLongerSaid : Prop := mergesLongerRow.holds Try.pinned (OpenSpec.ofChange mergesLongerSpec)

/-- ITS FALSE NEIGHBOUR: 'it returns false'. Refute it at one input. -/
def mergesLongerWrong : ChangeSpec := { name := "mergesLonger", fn := fun _ => fun
  | [d1, d2, d3] => { results := [.lit (.bool false)], args := [d1, d2, d3] }
  | _ => none }
def MergesLongerWrongFalsely : Prop := mergesLongerRow.holds Try.pinned (OpenSpec.ofChange mergesLongerWrong)

/-- 'stemmalaw10.RulesParse': WHATEVER THE INPUT: true; the input reads as it did. -/
def rulesParseSpec : ChangeSpec := { name := "rulesParse", fn := fun _ => fun
  | [d1, d2] => { results := [.lit (.bool true)], args := [d1, d2] }
  | _ => none }
def rulesParseRow : OpenClaim := { program := "ytlfjlkmikmajaaa", sum := "df1e1d7cae1f7c597e268c777fab393baee6ee9ebb52d710888f89ae9620b98f", func := "stemma/stemmalaw10.RulesParse", spec := "rulesParse", inPlace := ["internal/bytealg.IndexByteString", "internal/bytealg.IndexString", "internal/abi.NoEscape"], unfollowed := true, recurses := true, named := ["internal/bytealg.MaxLen"], plainKeys := false, apart := false }
def RulesParseSaid : Prop := rulesParseRow.holds Try.pinned (OpenSpec.ofChange rulesParseSpec)

/-- ITS FALSE NEIGHBOUR: 'it returns false'. Refute it at one input. -/
def rulesParseWrong : ChangeSpec := { name := "rulesParse", fn := fun _ => fun
  | [d1, d2] => { results := [.lit (.bool false)], args := [d1, d2] }
  | _ => none }
def RulesParseWrongFalsely : Prop := rulesParseRow.holds Try.pinned (OpenSpec.ofChange rulesParseWrong)

/-- 'stemmalaw10.RulesLines': WHATEVER THE INPUT: true; the input reads as it did. -/
def rulesLinesSpec : ChangeSpec := { name := "rulesLines", fn := fun _ => fun
  | [d] => { results := [.lit (.bool true)], args := [d] }
  | _ => none }
def rulesLinesRow : OpenClaim := { program := "ytlfjlkmikmajaaa", sum := "df1e1d7cae1f7c597e268c777fab393baee6ee9ebb52d710888f89ae9620b98f", func := "stemma/stemmalaw10.RulesLines", spec := "rulesLines", inPlace := ["internal/bytealg.IndexByteString", "internal/bytealg.IndexString"], unfollowed := true, recurses := true, named := ["internal/bytealg.MaxLen"], plainKeys := false, apart := false }
def RulesLinesSaid : Prop := rulesLinesRow.holds Try.pinned (OpenSpec.ofChange rulesLinesSpec)

/-- ITS FALSE NEIGHBOUR: 'it returns false'. Refute it at one input. -/
def rulesLinesWrong : ChangeSpec := { name := "rulesLines", fn := fun _ => fun
  | [d] => { results := [.lit (.bool false)], args := [d] }
  | _ => none }
def RulesLinesWrongFalsely : Prop := rulesLinesRow.holds Try.pinned (OpenSpec.ofChange rulesLinesWrong)

/-- 'stemmalaw10.RulesBack': WHATEVER THE INPUT: true; the input reads as it did. -/
def rulesBackSpec : ChangeSpec := { name := "rulesBack", fn := fun _ => fun
  | [d1, d2] => { results := [.lit (.bool true)], args := [d1, d2] }
  | _ => none }
def rulesBackRow : OpenClaim := { program := "ytlfjlkmikmajaaa", sum := "df1e1d7cae1f7c597e268c777fab393baee6ee9ebb52d710888f89ae9620b98f", func := "stemma/stemmalaw10.RulesBack", spec := "rulesBack", inPlace := ["internal/bytealg.IndexByteString", "internal/bytealg.IndexString", "internal/abi.NoEscape"], unfollowed := true, recurses := true, named := ["internal/bytealg.MaxLen"], plainKeys := false, apart := false }
def RulesBackSaid : Prop := rulesBackRow.holds Try.pinned (OpenSpec.ofChange rulesBackSpec)

/-- ITS FALSE NEIGHBOUR: 'it returns false'. Refute it at one input. -/
def rulesBackWrong : ChangeSpec := { name := "rulesBack", fn := fun _ => fun
  | [d1, d2] => { results := [.lit (.bool false)], args := [d1, d2] }
  | _ => none }
def RulesBackWrongFalsely : Prop := rulesBackRow.holds Try.pinned (OpenSpec.ofChange rulesBackWrong)

/-- 'stemmalaw10.RulesFront': WHATEVER THE INPUT: true; the input reads as it did. -/
def rulesFrontSpec : ChangeSpec := { name := "rulesFront", fn := fun _ => fun
  | [d1, d2, d3] => { results := [.lit (.bool true)], args := [d1, d2, d3] }
  | _ => none }
def rulesFrontRow : OpenClaim := { program := "ytlfjlkmikmajaaa", sum := "df1e1d7cae1f7c597e268c777fab393baee6ee9ebb52d710888f89ae9620b98f", func := "stemma/stemmalaw10.RulesFront", spec := "rulesFront", inPlace := ["internal/bytealg.IndexByteString", "internal/bytealg.IndexString", "internal/abi.NoEscape"], unfollowed := true, recurses := true, named := ["internal/bytealg.MaxLen"], plainKeys := false, apart := false }
def RulesFrontSaid : Prop := rulesFrontRow.holds Try.pinned (OpenSpec.ofChange rulesFrontSpec)

/-- ITS FALSE NEIGHBOUR: 'it returns false'. Refute it at one input. -/
def rulesFrontWrong : ChangeSpec := { name := "rulesFront", fn := fun _ => fun
  | [d1, d2, d3] => { results := [.lit (.bool false)], args := [d1, d2, d3] }
  | _ => none }
def RulesFrontWrongFalsely : Prop := rulesFrontRow.holds Try.pinned (OpenSpec.ofChange rulesFrontWrong)

/- THE SECOND FORM. 'bulk': how many values and letters a reading holds, each counted each time it is reached (what is shared counts as often as it is met; a slice's spare places count too). A statement '..UptoSaid' is the law's where the arguments, and the package variables that the reading takes, are together of bulk at most 1048576: NARROWER than '..Said'. Prove '..Said' where nothing that the law and all that it calls make is longer than what came in: it says more and counts as full. Else prove '..UptoSaid'. A law counts once. -/
mutual
def uptoBulk {H : Type} : DataW H → Nat
  | .lit (.string bytes) => bytes.length + 1
  | .lit _ => 1
  | .nil => 1
  | .ptr d => uptoBulk d + 1
  | .slice elems spare => uptoBulkAll elems + uptoBulkAll spare + 1
  | .agg parts => uptoBulkAll parts + 1
  | .iface _ d => uptoBulk d + 1
  | .map entries => uptoBulkEntries entries + 1
  | .held _ => 1
def uptoBulkAll {H : Type} : List (DataW H) → Nat
  | [] => 0
  | d :: r => uptoBulk d + uptoBulkAll r
def uptoBulkEntries {H : Type} : List (Lit × DataW H) → Nat
  | [] => 0
  | x :: r => uptoBulkEntry x + uptoBulkEntries r
def uptoBulkEntry {H : Type} : Lit × DataW H → Nat
  | (.string bytes, d) => bytes.length + uptoBulk d + 1
  | (_, d) => uptoBulk d + 1
 end
def uptoSmall : (H : Type) → List (DataW H) → Bool := fun _ ds => decide (uptoBulkAll ds ≤ 1048576)
def OpenSpec.upto (s : _root_.Go.ChangeSpec) : _root_.Go.OpenSpec := { _root_.Go.OpenSpec.ofChange s with cond := some uptoSmall }

/-- 'stemmalaw08.MergesParse', WHERE WHAT IT READS IS OF BULK AT MOST 1048576: true; the input reads as it did. -/
def mergesParseUptoRow : OpenClaim := { program := "ytlfjlkmikmajaaa", sum := "df1e1d7cae1f7c597e268c777fab393baee6ee9ebb52d710888f89ae9620b98f", func := "stemma/stemmalaw08.MergesParse", spec := "mergesParse", inPlace := ["internal/bytealg.IndexByteString", "internal/bytealg.IndexString", "internal/abi.NoEscape"], unfollowed := true, recurses := true, named := ["internal/bytealg.MaxLen"], plainKeys := false, apart := false, narrowed := true }
def MergesParseUptoSaid : Prop := mergesParseUptoRow.holds Try.pinned (OpenSpec.upto mergesParseSpec)

/-- 'stemmalaw08.MergesMany', WHERE WHAT IT READS IS OF BULK AT MOST 1048576: true; the input reads as it did. -/
def mergesManyUptoRow : OpenClaim := { program := "ytlfjlkmikmajaaa", sum := "df1e1d7cae1f7c597e268c777fab393baee6ee9ebb52d710888f89ae9620b98f", func := "stemma/stemmalaw08.MergesMany", spec := "mergesMany", inPlace := ["internal/bytealg.IndexByteString", "internal/bytealg.IndexString"], unfollowed := true, recurses := true, named := ["internal/bytealg.MaxLen"], plainKeys := false, apart := false, narrowed := true }
def MergesManyUptoSaid : Prop := mergesManyUptoRow.holds Try.pinned (OpenSpec.upto mergesManySpec)

/-- 'stemmalaw08.MergesLonger', WHERE WHAT IT READS IS OF BULK AT MOST 1048576: true; the input reads as it did. -/
def mergesLongerUptoRow : OpenClaim := { program := "ytlfjlkmikmajaaa", sum := "df1e1d7cae1f7c597e268c777fab393baee6ee9ebb52d710888f89ae9620b98f", func := "stemma/stemmalaw08.MergesLonger", spec := "mergesLonger", inPlace := ["internal/bytealg.IndexByteString", "internal/bytealg.IndexString"], unfollowed := true, recurses := true, named := ["internal/bytealg.MaxLen"], plainKeys := false, apart := false, narrowed := true }
def MergesLongerUptoSaid : Prop := mergesLongerUptoRow.holds Try.pinned (OpenSpec.upto mergesLongerSpec)

/-- 'stemmalaw10.RulesParse', WHERE WHAT IT READS IS OF BULK AT MOST 1048576: true; the input reads as it did. -/
def rulesParseUptoRow : OpenClaim := { program := "ytlfjlkmikmajaaa", sum := "df1e1d7cae1f7c597e268c777fab393baee6ee9ebb52d710888f89ae9620b98f", func := "stemma/stemmalaw10.RulesParse", spec := "rulesParse", inPlace := ["internal/bytealg.IndexByteString", "internal/bytealg.IndexString", "internal/abi.NoEscape"], unfollowed := true, recurses := true, named := ["internal/bytealg.MaxLen"], plainKeys := false, apart := false, narrowed := true }
def RulesParseUptoSaid : Prop := rulesParseUptoRow.holds Try.pinned (OpenSpec.upto rulesParseSpec)

/-- 'stemmalaw10.RulesLines', WHERE WHAT IT READS IS OF BULK AT MOST 1048576: true; the input reads as it did. -/
def rulesLinesUptoRow : OpenClaim := { program := "ytlfjlkmikmajaaa", sum := "df1e1d7cae1f7c597e268c777fab393baee6ee9ebb52d710888f89ae9620b98f", func := "stemma/stemmalaw10.RulesLines", spec := "rulesLines", inPlace := ["internal/bytealg.IndexByteString", "internal/bytealg.IndexString"], unfollowed := true, recurses := true, named := ["internal/bytealg.MaxLen"], plainKeys := false, apart := false, narrowed := true }
def RulesLinesUptoSaid : Prop := rulesLinesUptoRow.holds Try.pinned (OpenSpec.upto rulesLinesSpec)

/-- 'stemmalaw10.RulesBack', WHERE WHAT IT READS IS OF BULK AT MOST 1048576: true; the input reads as it did. -/
def rulesBackUptoRow : OpenClaim := { program := "ytlfjlkmikmajaaa", sum := "df1e1d7cae1f7c597e268c777fab393baee6ee9ebb52d710888f89ae9620b98f", func := "stemma/stemmalaw10.RulesBack", spec := "rulesBack", inPlace := ["internal/bytealg.IndexByteString", "internal/bytealg.IndexString", "internal/abi.NoEscape"], unfollowed := true, recurses := true, named := ["internal/bytealg.MaxLen"], plainKeys := false, apart := false, narrowed := true }
def RulesBackUptoSaid : Prop := rulesBackUptoRow.holds Try.pinned (OpenSpec.upto rulesBackSpec)

/-- 'stemmalaw10.RulesFront', WHERE WHAT IT READS IS OF BULK AT MOST 1048576: true; the input reads as it did. -/
def rulesFrontUptoRow : OpenClaim := { program := "ytlfjlkmikmajaaa", sum := "df1e1d7cae1f7c597e268c777fab393baee6ee9ebb52d710888f89ae9620b98f", func := "stemma/stemmalaw10.RulesFront", spec := "rulesFront", inPlace := ["internal/bytealg.IndexByteString", "internal/bytealg.IndexString", "internal/abi.NoEscape"], unfollowed := true, recurses := true, named := ["internal/bytealg.MaxLen"], plainKeys := false, apart := false, narrowed := true }
def RulesFrontUptoSaid : Prop := rulesFrontUptoRow.holds Try.pinned (OpenSpec.upto rulesFrontSpec)

end Rows
end Go.Proofs.Ytlfjlkmikmajaaa
