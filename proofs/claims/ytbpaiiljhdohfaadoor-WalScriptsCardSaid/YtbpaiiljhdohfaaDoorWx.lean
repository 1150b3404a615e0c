/- Wal's laws: arguments that are lists of changes. -/
import Derived.Test.YtbpaiiljhdohfaaDoorWs
import Derived.Test.YtbpaiiljhdohfaaDoorMc
namespace Go.Proofs.YtbpaiiljhdohfaaDoor
open Go.ChangeShapes Go.WideShapes Go.ChangeAt Go.RowKit
section
variable {H : Type} {enc : TypeId × Value → H} {W : World} {spare : Nat → Bool} {held : Bool} {fuel : Nat}
theorem open_lc {a : Option Addr} {len cap : Nat} {d : DataW H} {p : List MemPlace} (h : DataW.trod enc Tryd.prog W 0 spare held fuel 38 [.slice a len cap] = some (d, p)) : ∃ zs, IsLC W a len zs ∧ len ≤ 9223372036854775807 := by
  rcases Deep.open_slice Tryd.underlying38 h with ⟨hcs, _⟩ | ⟨x, l, c, m, n, D, Pl, hcs, _, hl, hm, hmm, hx, hi⟩
  · simp at hcs
    obtain ⟨rfl, rfl, rfl⟩ := hcs
    exact ⟨[], ⟨rfl, fun h0 => absurd h0 (by decide)⟩, by omega⟩
  · simp at hcs
    obtain ⟨rfl, rfl, rfl⟩ := hcs
    have hlm : len ≤ m := by rw [hmm]; split <;> omega
    have hc2 : Tryd.prog.cellsOf 87 = 2 := by kernel_rfl
    have hi1 : Tryd.prog.cellsOf 3 = 1 := by kernel_rfl
    have hs1 : Tryd.prog.cellsOf 9 = 1 := by kernel_rfl
    have hel : ∀ i, i < len → ∃ z : Int × ByteArray, W.cell? ((x.add (i * 2)).add 0) = some (.int .i64 z.1) ∧ W.cell? ((x.add (i * 2)).add 1) = some (.string z.2) := fun i hil => by
      obtain ⟨cs', hc, ht⟩ := hi i (by omega)
      rw [hc2] at hc
      obtain ⟨_, hcl, hat⟩ := World.cells?_some hc
      obtain ⟨ys, n', _, hDi, hlen, hyl, hf⟩ := DataW.trod_struct Tryd.underlying87 ht
      have h0 := hf 0 _ rfl
      have h1 := hf 1 _ rfl
      change DataW.trod enc Tryd.prog W 0 spare held n' 3 ((cs'.drop 0).take (Tryd.prog.cellsOf 3)) = _ at h0
      change DataW.trod enc Tryd.prog W 0 spare held n' 9 ((cs'.drop 1).take (Tryd.prog.cellsOf 9)) = _ at h1
      rw [hi1] at h0
      rw [hs1] at h1
      have hy0 : ys[0]? = some (ys[0]'(by rw [hyl]; decide)) := List.getElem?_eq_getElem _
      have hy1 : ys[1]? = some (ys[1]'(by rw [hyl]; decide)) := List.getElem?_eq_getElem _
      rw [hy0] at h0
      rw [hy1] at h1
      obtain ⟨k0, hk0, _⟩ := DataW.trod_int Tryd.underlying3 h0
      obtain ⟨s, hs, _⟩ := DataW.trod_string Tryd.underlying9 h1
      have cell : ∀ (j : Nat) (u : Value), (cs'.drop j).take 1 = [u] → cs'[j]? = some u := fun j u he => by
        have := congrArg (fun l => l[0]?) he
        simpa [List.getElem?_take, List.getElem?_drop] using this
      exact ⟨(k0, s), (hat 0 (by omega)).trans (cell 0 _ hk0), (hat 1 (by omega)).trans (cell 1 _ hs)⟩
    refine ⟨(List.range len).map fun i => if hil : i < len then Classical.choose (hel i hil) else (0, ⟨#[]⟩), ⟨by simp, fun h0 => ?_⟩, by unfold maxLen at hm; omega⟩
    obtain ⟨z0, hv0, _⟩ := hel 0 h0
    rw [Nat.zero_mul] at hv0
    have e00 : (x.add 0).add 0 = x.add 0 := by unfold Addr.add; rw [if_pos rfl]
    rw [e00] at hv0
    obtain ⟨b, o, rfl, hlt⟩ := spot_none hv0
    refine ⟨b, o, rfl, hlt, fun i z hz => ?_⟩
    rw [List.getElem?_map] at hz
    obtain ⟨k, hk, rfl⟩ := Option.map_eq_some_iff.1 hz
    have hkl := (List.getElem?_eq_some_iff.1 hk).1
    rw [List.length_range] at hkl
    rw [List.getElem?_range hkl] at hk
    injection hk with hk; subst hk
    rw [dif_pos hkl]
    obtain ⟨q1, q2⟩ := Classical.choose_spec (hel i hkl)
    have e : ∀ j, ((⟨b, o, none⟩ : Addr).add (i * 2)).add j = ⟨b, o + i * 2 + j, none⟩ := fun j => by rw [Addr.add_mid, Addr.add_mid]
    exact ⟨(congrArg (fun q => W.cell? q) (e 0).symm).trans q1, (congrArg (fun q => W.cell? q) (e 1).symm).trans q2⟩
end
end Go.Proofs.YtbpaiiljhdohfaaDoor
