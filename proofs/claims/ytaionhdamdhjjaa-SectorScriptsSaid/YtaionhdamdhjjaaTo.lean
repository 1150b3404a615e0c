/- Sector: arguments that are lists of acts, of ints, of lists of ints. -/
import Derived.Test.YtaionhdamdhjjaaSx
import Derived.ProofKit
import Derived.SizedLaws
import Derived.OpenShut
import Derived.ShutString
import Derived.ChangeOld
import Derived.Deep.Slices
namespace Go.Proofs.Ytaionhdamdhjjaa
open Go.ChangeShapes Go.WideShapes Go.ChangeAt Go.RowKit

theorem spot_none {w : World} {a : Addr} {v : Value} (h : w.cell? (a.add 0) = some v) : ∃ b o, a = ⟨b, o, none⟩ ∧ b < w.heap.size := by
  obtain ⟨b, o, sp⟩ := a
  have e : (⟨b, o, sp⟩ : Addr).add 0 = ⟨b, o, sp⟩ := by unfold Addr.add; rw [if_pos rfl]
  rw [e] at h
  obtain rfl : sp = none := by
    cases sp with
    | none => rfl
    | some x => unfold World.cell? at h; split at h <;> simp at h
  exact ⟨b, o, rfl, World.block_lt_of_cell? w _ h⟩
theorem weightsAll_mem {H : Type} {P : Program} {e : TypeId} {d : DataW H} {x : Nat} : ∀ {l : List (DataW H)}, d ∈ l → x ∈ d.weights P e → x ∈ DataW.weightsAll P e l
  | c :: l, h, hx => by
    unfold DataW.weightsAll
    rcases List.mem_cons.1 h with rfl | h
    · exact List.mem_append_left _ hx
    · exact List.mem_append_right _ (weightsAll_mem h hx)
section
variable {H : Type} {enc : TypeId × Value → H} {W : World} {spare : Nat → Bool} {held : Bool} {fuel : Nat}
theorem bytes_int : Try.prog.bytesOf 3 = 8 := by kernel_rfl
theorem open_int_list {cs : List Value} {x : DataW H × List MemPlace} (h : DataW.trod enc Try.prog W 0 spare held fuel 30 cs = some x) (hr : ∀ y ∈ x.1.weights Try.prog 30, y ≤ reachBytes) : ∃ v zs, cs = [v] ∧ IsInts W v zs := by
  rcases open_ints Try.underlying30 Try.underlying3 (by kernel_rfl) h with ⟨hcs, _⟩ | ⟨a, len, cap, zs, hcs, _, hl, hm, hz, hx, hcell, _⟩
  · exact ⟨_, [], hcs, none, 0, rfl, by decide, fun h0 => absurd h0 (by decide)⟩
  · have hle : len ≤ zs.length := by rw [hz]; split <;> omega
    have hlen : (zs.take len).length = len := by rw [List.length_take]; omega
    have hb : zs.length * 8 ≤ 140737488351232 := by
      have := hr (((lits (H := H) .i64 (zs.take len)).length + (lits (H := H) .i64 (zs.drop len)).length) * Try.prog.bytesOf 3) (by rw [hx]; simp [DataW.weights, Try.underlying30])
      rw [bytes_int] at this
      simp only [lits, List.length_map, List.length_take, List.length_drop] at this
      have e : reachBytes = 140737488351232 := rfl
      omega
    refine ⟨_, zs.take len, hcs, some a, cap, by rw [hlen], by omega, fun h0 => ?_⟩
    rw [hlen] at h0
    obtain ⟨b, o, rfl, hlt⟩ := spot_none (hcell 0 (by omega))
    refine ⟨b, o, rfl, hlt, fun j hj => ?_⟩
    rw [hlen] at hj
    have := hcell j (by omega)
    rw [Addr.add_mid] at this
    rw [this]
    simp [List.getD, List.getElem?_take_of_lt hj]
theorem open_acts {a : Option Addr} {len cap : Nat} {d : DataW H} {p : List MemPlace} (h : DataW.trod enc Try.prog W 0 spare held fuel 22 [.slice a len cap] = some (d, p)) : ∃ zs, IsActs W a len zs ∧ len ≤ 9223372036854775807 := by
  rcases Deep.open_slice Try.underlying22 h with ⟨hcs, _⟩ | ⟨x, l, c, m, n, D, Pl, hcs, _, hl, hm, hmm, hx, hi⟩
  · simp at hcs
    obtain ⟨rfl, rfl, rfl⟩ := hcs
    exact ⟨[], ⟨rfl, fun h0 => absurd h0 (by decide)⟩, by omega⟩
  · simp at hcs
    obtain ⟨rfl, rfl, rfl⟩ := hcs
    have hlm : len ≤ m := by rw [hmm]; split <;> omega
    have hc4 : Try.prog.cellsOf 32 = 4 := by kernel_rfl
    have hi1 : Try.prog.cellsOf 3 = 1 := by kernel_rfl
    have hs1 : Try.prog.cellsOf 9 = 1 := by kernel_rfl
    have hel : ∀ i, i < len → ∃ z : Int × ByteArray, (∃ v0, W.cell? (x.add (i * 4)) = some v0) ∧ W.cell? ((x.add (i * 4)).add 1) = some (.int .i64 z.1) ∧ W.cell? ((x.add (i * 4)).add 2) = some (.string z.2) := fun i hil => by
      obtain ⟨cs', hc, ht⟩ := hi i (by omega)
      rw [hc4] at hc
      obtain ⟨_, hcl, hat⟩ := World.cells?_some hc
      obtain ⟨ys, n', _, _, hlen, hyl, hf⟩ := DataW.trod_struct Try.underlying32 ht
      have h1 := hf 1 _ rfl
      have h2 := hf 2 _ rfl
      change DataW.trod enc Try.prog W 0 spare held n' 3 ((cs'.drop 1).take (Try.prog.cellsOf 3)) = _ at h1
      change DataW.trod enc Try.prog W 0 spare held n' 9 ((cs'.drop 2).take (Try.prog.cellsOf 9)) = _ at h2
      rw [hi1] at h1
      rw [hs1] at h2
      have hy1 : ys[1]? = some (ys[1]'(by rw [hyl]; decide)) := List.getElem?_eq_getElem _
      have hy2 : ys[2]? = some (ys[2]'(by rw [hyl]; decide)) := List.getElem?_eq_getElem _
      rw [hy1] at h1
      rw [hy2] at h2
      obtain ⟨k, hk, _⟩ := DataW.trod_int Try.underlying3 h1
      obtain ⟨s, hs, _⟩ := DataW.trod_string Try.underlying9 h2
      have e1 : cs'[1]? = some (.int .i64 k) := by
        have := congrArg (fun l => l[0]?) hk
        simpa [List.getElem?_take, List.getElem?_drop] using this
      have e2 : cs'[2]? = some (.string s) := by
        have := congrArg (fun l => l[0]?) hs
        simpa [List.getElem?_take, List.getElem?_drop] using this
      have e0 : (x.add (i * 4)).add 0 = x.add (i * 4) := by unfold Addr.add; rw [if_pos rfl]
      exact ⟨(k, s), ⟨cs'[0]'(by omega), by have := hat 0 (by omega); rw [e0] at this; rw [this]; exact List.getElem?_eq_getElem _⟩, (hat 1 (by omega)).trans e1, (hat 2 (by omega)).trans e2⟩
    refine ⟨(List.range len).map fun i => if hil : i < len then Classical.choose (hel i hil) else (0, ⟨#[]⟩), ⟨by simp, fun h0 => ?_⟩, by unfold maxLen at hm; omega⟩
    obtain ⟨z0, ⟨v0, hv0⟩, _⟩ := hel 0 h0
    rw [Nat.zero_mul] at hv0
    obtain ⟨b, o, rfl, hlt⟩ := spot_none hv0
    refine ⟨b, o, rfl, hlt, fun i z hz => ?_⟩
    rw [List.getElem?_map] at hz
    obtain ⟨k, hk, rfl⟩ := Option.map_eq_some_iff.1 hz
    have hkl := (List.getElem?_eq_some_iff.1 hk).1
    rw [List.length_range] at hkl
    rw [List.getElem?_range hkl] at hk
    injection hk with hk; subst hk
    rw [dif_pos hkl]
    obtain ⟨_, hv, hw⟩ := Classical.choose_spec (hel i hkl)
    have e1 : ((⟨b, o, none⟩ : Addr).add (i * 4)).add 1 = ⟨b, o + (i * 4 + 1), none⟩ := by rw [Addr.add_mid, Addr.add_mid, Nat.add_assoc]
    have e2 : ((⟨b, o, none⟩ : Addr).add (i * 4)).add 2 = ⟨b, o + (i * 4 + 2), none⟩ := by rw [Addr.add_mid, Addr.add_mid, Nat.add_assoc]
    exact ⟨(congrArg (fun q => W.cell? q) e1.symm).trans hv, (congrArg (fun q => W.cell? q) e2.symm).trans hw⟩
end
end Go.Proofs.Ytaionhdamdhjjaa
