/- Merges: the law's own word. -/
import Derived.Test.YtdpfpdpaamjefaaDoorY5
namespace Go.Proofs.YtdpfpdpaamjefaaDoor
open Go.RowKit Go.Maps

def S8 : ByteArray := ⟨#[97, 32, 98, 10, 97, 98, 32, 99, 10]⟩
def l8 : List PairB := [(⟨#[97]⟩, ⟨#[98]⟩), (⟨#[97, 98]⟩, ⟨#[99]⟩)]
theorem s8 : parseM S8 = (l8, 0, 0) := by decide +kernel
theorem p8 : splitP l8 ⟨#[97, 98, 99, 97, 98]⟩ = [⟨#[97, 98, 99]⟩, ⟨#[97, 98]⟩] := by decide +kernel
theorem g8 : goodB ⟨#[97]⟩ = true := by decide +kernel
theorem i8 : invM l8 = -1 := by decide +kernel
theorem ok8 : ∀ p ∈ l8, OkP p ∧ p.1.size + p.2.size ≤ maxLen := fun p hp => by
  simp [l8] at hp
  rcases hp with rfl | rfl <;> exact ⟨⟨by decide, by decide⟩, by decide⟩
end Go.Proofs.YtdpfpdpaamjefaaDoor
