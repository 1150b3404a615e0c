/- Lists' edits: arguments that come in: texts; edits. -/
import Derived.Test.YtjdlpcokjcmapaaLt
import Derived.ProofKit
import Derived.SizedLaws
import Derived.OpenShut
import Derived.ShutString
import Derived.ChangeOld
import Derived.Deep.Slices
import Derived.SliceStrings
set_option linter.unusedVariables false
set_option linter.unusedSimpArgs false
namespace Go.Proofs.Ytjdlpcokjcmapaa
open Go.ChangeShapes Go.WideShapes Go.ChangeAt Go.RowKit
variable {w w' : World}

theorem spot_at {W : World} {a : Addr} {v : Value} (h : W.cell? (a.add 0) = some v) : ∃ b o, a = ⟨b, o, none⟩ := by
  obtain ⟨b, o, sp⟩ := a
  have e : (⟨b, o, sp⟩ : Addr).add 0 = ⟨b, o, sp⟩ := by unfold Addr.add; rw [if_pos rfl]
  rw [e] at h
  obtain rfl : sp = none := by
    cases sp with
    | none => rfl
    | some x => unfold World.cell? at h; split at h <;> simp at h
  exact ⟨b, o, rfl⟩
section
variable {H : Type} {enc : TypeId × Value → H} {W : World} {spare : Nat → Bool} {held : Bool} {fuel : Nat}
theorem open_texts {a : Option Addr} {len cap : Nat} {d : DataW H} {p : List MemPlace} (h : DataW.trod enc Try.prog W 0 spare held fuel 22 [.slice a len cap] = some (d, p)) :
    ∃ l : List ByteArray, TxAt W a l ∧ l.length = len ∧ len ≤ maxLen ∧ len ≤ cap := by
  rcases open_strings Try.underlying22 Try.underlying9 (by kernel_rfl) h with ⟨hcs, _⟩ | ⟨x, ln, c, ss, hcs, _, hl, hm, hz, _, hcell, hws⟩
  · simp at hcs
    obtain ⟨rfl, rfl, rfl⟩ := hcs
    exact ⟨[], fun k hk => absurd hk (Nat.not_lt_zero k), rfl, by unfold maxLen; omega, Nat.le_refl _⟩
  · simp at hcs
    obtain ⟨rfl, rfl, rfl⟩ := hcs
    have hle : len ≤ ss.length := by rw [hz]; split <;> omega
    refine ⟨ss.take len, fun k hk => ?_, by rw [List.length_take]; omega, by omega, hl⟩
    rw [List.length_take] at hk
    have hk2 : k < ss.length := by omega
    have e : itB (ss.take len) k = itB ss k := by unfold itB; rw [List.getD_eq_getElem?_getD, List.getD_eq_getElem?_getD, List.getElem?_take_of_lt (by omega)]
    rw [e]
    obtain ⟨b, o, rfl⟩ := spot_at (hcell 0 (by omega))
    have h2 := hcell k hk2
    rw [Addr.add_mid] at h2
    exact ⟨hws _ (it_mem hk2), b, o, rfl, h2⟩
end
end Go.Proofs.Ytjdlpcokjcmapaa
