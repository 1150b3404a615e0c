/- Lists' edits: arguments that come in: texts; edits. -/
import Derived.Test.YtmapddghlabaeaaLt
import Derived.ProofKit
import Derived.SizedLaws
import Derived.OpenShut
import Derived.ShutString
import Derived.ChangeOld
import Derived.Deep.Slices
import Derived.SliceStrings
set_option linter.unusedVariables false
set_option linter.unusedSimpArgs false
namespace Go.Proofs.Ytmapddghlabaeaa
open Go.ChangeShapes Go.WideShapes Go.ChangeAt Go.RowKit
variable {w w' : World}

theorem spot_at {W : World} {a : Addr} {v : Value} (h : W.cell? (a.add 0) = some v) : ∃ b o, a = ⟨b, o, none⟩ := by
  obtain ⟨b, o, sp⟩ := a
  have e : (⟨b, o, sp⟩ : Addr).add 0 = ⟨b, o, sp⟩ := by unfold Addr.add; rw [if_pos rfl]
  rw [e] at h
  obtain rfl : sp = none := by
    cases sp with
    | none => rfl
    | some x => unfold World.cell? at h; split at h <;> simp at h
  exact ⟨b, o, rfl⟩
section
variable {H : Type} {enc : TypeId × Value → H} {W : World} {spare : Nat → Bool} {held : Bool} {fuel : Nat}
theorem open_texts {a : Option Addr} {len cap : Nat} {d : DataW H} {p : List MemPlace} (h : DataW.trod enc Try.prog W 0 spare held fuel 22 [.slice a len cap] = some (d, p)) :
    ∃ l : List ByteArray, TxAt W a l ∧ l.length = len ∧ len ≤ maxLen ∧ len ≤ cap := by
  rcases open_strings Try.underlying22 Try.underlying9 (by kernel_rfl) h with ⟨hcs, _⟩ | ⟨x, ln, c, ss, hcs, _, hl, hm, hz, _, hcell, hws⟩
  · simp at hcs
    obtain ⟨rfl, rfl, rfl⟩ := hcs
    exact ⟨[], fun k hk => absurd hk (Nat.not_lt_zero k), rfl, by unfold maxLen; omega, Nat.le_refl _⟩
  · simp at hcs
    obtain ⟨rfl, rfl, rfl⟩ := hcs
    have hle : len ≤ ss.length := by rw [hz]; split <;> omega
    refine ⟨ss.take len, fun k hk => ?_, by rw [List.length_take]; omega, by omega, hl⟩
    rw [List.length_take] at hk
    have hk2 : k < ss.length := by omega
    have e : itB (ss.take len) k = itB ss k := by unfold itB; rw [List.getD_eq_getElem?_getD, List.getD_eq_getElem?_getD, List.getElem?_take_of_lt (by omega)]
    rw [e]
    obtain ⟨b, o, rfl⟩ := spot_at (hcell 0 (by omega))
    have h2 := hcell k hk2
    rw [Addr.add_mid] at h2
    exact ⟨hws _ (it_mem hk2), b, o, rfl, h2⟩
theorem open_edits {a : Option Addr} {len cap : Nat} {d : DataW H} {p : List MemPlace} (h : DataW.trod enc Try.prog W 0 spare held fuel 44 [.slice a len cap] = some (d, p)) :
    ∃ l : List EdZ, EdAt W a l ∧ l.length = len ∧ len ≤ maxLen ∧ ∀ q ∈ l, q.2.size ≤ maxLen := by
  rcases Deep.open_slice Try.underlying44 h with ⟨hcs, _⟩ | ⟨x, l, c, m, n, D, Pl, hcs, _, hl, hm, hmm, hx, hi⟩
  · simp at hcs
    obtain ⟨rfl, rfl, rfl⟩ := hcs
    exact ⟨[], fun k q hk => by simp at hk, rfl, by unfold maxLen; omega, fun q hq => by cases hq⟩
  · simp at hcs
    obtain ⟨rfl, rfl, rfl⟩ := hcs
    have hlm : len ≤ m := by rw [hmm]; split <;> omega
    have hc2 : Try.prog.cellsOf 45 = 2 := by kernel_rfl
    have hi1 : Try.prog.cellsOf 3 = 1 := by kernel_rfl
    have hs1 : Try.prog.cellsOf 9 = 1 := by kernel_rfl
    have hel : ∀ i, ∃ z : EdZ, i < len → z.2.size ≤ maxLen ∧ W.cell? (x.add (i * 2)) = some (.int .i64 z.1) ∧ W.cell? ((x.add (i * 2)).add 1) = some (.string z.2) := fun i => by
      by_cases hil : i < len
      · obtain ⟨cs', hc, ht⟩ := hi i (by omega)
        rw [hc2] at hc
        obtain ⟨_, hcl, hat⟩ := World.cells?_some hc
        obtain ⟨ys, n', _, _, hlen, hyl, hf⟩ := DataW.trod_struct Try.underlying45 ht
        have h1 := hf 0 _ rfl
        have h2 := hf 1 _ rfl
        change DataW.trod enc Try.prog W 0 spare held n' 3 ((cs'.drop 0).take (Try.prog.cellsOf 3)) = _ at h1
        change DataW.trod enc Try.prog W 0 spare held n' 9 ((cs'.drop 1).take (Try.prog.cellsOf 9)) = _ at h2
        rw [hi1] at h1
        rw [hs1] at h2
        have hy1 : ys[0]? = some (ys[0]'(by rw [hyl]; decide)) := List.getElem?_eq_getElem _
        have hy2 : ys[1]? = some (ys[1]'(by rw [hyl]; decide)) := List.getElem?_eq_getElem _
        rw [hy1] at h1
        rw [hy2] at h2
        obtain ⟨k, hk, _⟩ := DataW.trod_int Try.underlying3 h1
        obtain ⟨s, hs, _, hws⟩ := DataW.trod_string Try.underlying9 h2
        have e1 : cs'[0]? = some (.int .i64 k) := by
          have := congrArg (fun l => l[0]?) hk
          simpa [List.getElem?_take, List.getElem?_drop] using this
        have e2 : cs'[1]? = some (.string s) := by
          have := congrArg (fun l => l[0]?) hs
          simpa [List.getElem?_take, List.getElem?_drop] using this
        have e0 : (x.add (i * 2)).add 0 = x.add (i * 2) := by unfold Addr.add; rw [if_pos rfl]
        refine ⟨(k, s), fun _ => ⟨hws, ?_, ?_⟩⟩
        · have := hat 0 (by omega); rw [e0] at this; rw [this]; exact e1
        · have := hat 1 (by omega); rw [this]; exact e2
      · exact ⟨(0, ⟨#[]⟩), fun h => absurd h hil⟩
    obtain ⟨f, hf⟩ := Classical.axiomOfChoice hel
    refine ⟨(List.range len).map f, fun k q hq => ?_, by simp, by omega, fun q hq => ?_⟩
    · rw [List.getElem?_map] at hq
      obtain ⟨j, hj, rfl⟩ := Option.map_eq_some_iff.1 hq
      have hkl := (List.getElem?_eq_some_iff.1 hj).1
      rw [List.length_range] at hkl
      rw [List.getElem?_range hkl] at hj
      injection hj with hj; subst hj
      have h0 := (hf 0 (by omega)).2.1
      rw [Nat.zero_mul] at h0
      obtain ⟨b, o, rfl⟩ := spot_at h0
      obtain ⟨_, e1, e2⟩ := hf k hkl
      rw [Addr.add_mid] at e1
      rw [Addr.add_mid, Addr.add_mid] at e2
      exact ⟨b, o, rfl, e1, e2⟩
    · obtain ⟨j, hj, rfl⟩ := List.mem_map.1 hq
      exact (hf j (List.mem_range.1 hj)).1
end
end Go.Proofs.Ytmapddghlabaeaa
