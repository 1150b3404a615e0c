/- Vocabularies: the document's Find and Of. -/
import Derived.Test.YtdpfpdpaamjefaaDoorY5
import Derived.Test.YtdpfpdpaamjefaaDoorY6
namespace Go.Proofs.YtdpfpdpaamjefaaDoor
open Go.RowKit
variable {w w' : World}

def findE : List EntB → ByteArray → Int
  | [], _ => -1
  | p :: l, b => if p.2 = b then (p.1 : Nat) else findE l b
theorem findE_neg : ∀ (l : List EntB) (b : ByteArray), findE l b < 0 ↔ inB (l.map (·.2)) b = false
  | [], b => by simp [findE, inB]
  | p :: l, b => by
    have ih := findE_neg l b
    unfold findE
    have e : inB ((p :: l).map (·.2)) b = (decide (p.2 = b) || inB (l.map (·.2)) b) := rfl
    rw [e]
    by_cases h : p.2 = b
    · rw [if_pos h, decide_eq_true h]; simp
    · rw [if_neg h, decide_eq_false h, Bool.false_or]; exact ih
theorem findE_drop {l : List EntB} {b : ByteArray} {j : Nat} {p : EntB} (h : l[j]? = some p) : findE (l.drop j) b = if p.2 = b then ((p.1 : Nat) : Int) else findE (l.drop (j + 1)) b := by
  have hj := (List.getElem?_eq_some_iff.1 h).1
  rw [List.drop_eq_getElem_cons hj, show l[j] = p from Option.some.inj ((List.getElem?_eq_getElem hj).symm.trans h)]
  rfl
def FdS (l : List EntB) (b : ByteArray) (w : World) (i : Value) (wr : World) : Prop := ∃ j : Nat, j ≤ l.length ∧ i = .int .i64 j ∧ findE l b = findE (l.drop j) b ∧ wr = w
theorem ofS_row : ∀ n : Fin 94, ofS (n.val + 1) = ofS n.val ++ [(n.val, byteS (33 + n.val))] := by decide +kernel
theorem ofS_len2 : ∀ n : Fin 95, (ofS n.val).length = n.val := by decide +kernel
theorem addE_find (out : List EntB) (s : ByteArray) : addE out s = if goodB s = true ∧ findE out s < 0 then out ++ [(out.length, s)] else out := by
  unfold addE
  cases hg : goodB s with
  | false => simp
  | true =>
    cases hi : inB (out.map (·.2)) s with
    | true =>
      have h : ¬ findE out s < 0 := fun h => by rw [(findE_neg out s).1 h] at hi; cases hi
      simp [h]
    | false =>
      have h := (findE_neg out s).2 hi
      simp [h]
end Go.Proofs.YtdpfpdpaamjefaaDoor
