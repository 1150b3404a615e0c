/- Lists of texts that come in, as the law sees them. -/
import Derived.Test.YtlfjlkmikmajaaaPza
import Derived.SliceStrings
namespace Go.Proofs.Ytlfjlkmikmajaaa
open Go.ChangeShapes Go.WideShapes Go.ChangeAt Go.RowKit
variable {w w' : World}

/-- The texts that come in. -/
def SIn (w : World) (o : Option Addr) (l : List ByteArray) : Prop :=
  ∀ k s, l[k]? = some s → s.size ≤ maxLen ∧ ∃ b i, o = some ⟨b, i, none⟩ ∧ w.cell? ⟨b, i + k, none⟩ = some (.string s)
theorem SIn.below {o : Option Addr} {l : List ByteArray} (h : SIn w o l) (hb : Below w.heap.size w w') : SIn w' o l := fun k s hk => by
  obtain ⟨h1, b, i, h2, h3⟩ := h k s hk
  have hlt : b < w.heap.size := World.block_lt_of_cell? w _ h3
  exact ⟨h1, b, i, h2, (hb.cell (p := ⟨b, i + k, none⟩) hlt).trans h3⟩
theorem open_texts {H : Type} {enc : TypeId × Value → H} {W : World} {spare : Nat → Bool} {held : Bool} {fuel : Nat} {a : Option Addr} {len cap : Nat} {d : DataW H} {p : List MemPlace} (h : DataW.trod enc Try.prog W 0 spare held fuel 40 [.slice a len cap] = some (d, p)) :
    ∃ l : List ByteArray, SIn W a l ∧ l.length = len ∧ len ≤ maxLen := by
  rcases open_strings Try.underlying40 Try.underlying9 (by kernel_rfl) h with ⟨hcs, _⟩ | ⟨x, ln, c, ss, hcs, _, hl, hm, hz, _, hcell, hws⟩
  · simp at hcs
    obtain ⟨rfl, rfl, rfl⟩ := hcs
    exact ⟨[], fun k s hk => by simp at hk, rfl, by unfold maxLen; omega⟩
  · simp at hcs
    obtain ⟨rfl, rfl, rfl⟩ := hcs
    have hle : len ≤ ss.length := by rw [hz]; split <;> omega
    refine ⟨ss.take len, fun k s hk => ?_, by rw [List.length_take]; omega, by omega⟩
    rw [List.getElem?_take] at hk
    split at hk
    · rename_i hkl
      have hmem := List.mem_of_getElem? hk
      have hk2 := (List.getElem?_eq_some_iff.1 hk).1
      obtain ⟨b, o, rfl⟩ := spot_at (hcell 0 (by omega))
      have h2 := hcell k hk2
      rw [Addr.add_mid] at h2
      refine ⟨hws s hmem, b, o, rfl, ?_⟩
      rw [h2, List.getD_eq_getElem?_getD, hk]
      rfl
    · cases hk
end Go.Proofs.Ytlfjlkmikmajaaa
