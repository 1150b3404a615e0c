/- Sector: what was synced lasts: the walk. -/
import Derived.Test.YtaionhdamdhjjaaSw
import Derived.StillTailTactics
namespace Go.Proofs.Ytaionhdamdhjjaa
open Go.RowKit

/-- Two disks that hold the same, behind j writes. -/
def LaS (B ga gda gca cda cca gb gdb gcb cdb ccb m : Nat) (w : World) (i : Value) (wr : World) : Prop :=
  ∃ (j : Nat) (S : DS) (va ka vb kb : Value), i = .int .i64 j ∧ j ≤ m ∧ Bd j S ∧ Calm S ∧ IsD B 4 ga gda gca cda cca va ka S wr ∧ IsD B 4 gb gdb gcb cdb ccb vb kb S wr ∧ Apart ga gda gca gb gdb gcb va vb ∧ Below B w wr
/-- One disk that was synced, the other one behind a loss of power: both hold C. -/
def LbS (B ga gda gca cda cca gb gdb gcb cdb ccb m : Nat) (C : List ByteArray) (w : World) (i : Value) (wr : World) : Prop :=
  ∃ (j : Nat) (Sa Sb : DS) (va ka vb kb : Value), i = .int .i64 j ∧ j ≤ m ∧ Bd 40 Sb ∧ Sb.ws = [] ∧ Sb.dur = C ∧ Sb.cur = C ∧ Sb.off = false ∧ Sa.cur = C ∧ Sa.off = false ∧ IsD B 4 ga gda gca cda cca va ka Sa wr ∧ IsD B 4 gb gdb gcb cdb ccb vb kb Sb wr ∧ Apart ga gda gca gb gdb gcb va vb ∧ Below B w wr
def IsKeeps (w : World) (a : Option Addr) (len : Nat) (kss : List (List Int)) : Prop :=
  kss.length = len ∧ (0 < len → ∃ b o, a = some ⟨b, o, none⟩ ∧ b < w.heap.size ∧ ∀ i zs, kss[i]? = some zs → ∃ v, w.cell? ⟨b, o + i, none⟩ = some v ∧ IsInts w v zs)
end Go.Proofs.Ytaionhdamdhjjaa
