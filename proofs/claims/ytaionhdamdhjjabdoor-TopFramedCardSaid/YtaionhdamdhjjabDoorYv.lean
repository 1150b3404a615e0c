/- What the rows' list gives: the packages' variables hold the text's numbers. -/
import Derived.Test.YtaionhdamdhjjabDoorYd
import Derived.Test.YtaionhdamdhjjabDoorCards
import Derived.Test.YtaionhdamdhjjabDoorTie
import Derived.ProofKit
import Derived.OpenShut
import Derived.ShutString
import Derived.ChangeOld
import Derived.Deep.DeepHandedRow
import Derived.Deep.Slices
import Derived.SizedLaws
import Derived.Deep.MidRow
import Derived.Lib.LaidTab
import Derived.Stop.LaidErr
namespace Go.Proofs.YtaionhdamdhjjabDoor
open Go.ChangeShapes Go.WideShapes Go.ChangeAt Go.RowKit

theorem own : ownKnob Tryd.prog.godebug = none := by kernel_rfl
theorem laidOut : laidOutB Tryd.prog = true := by kernel_rfl
theorem gSq : Tryd.prog.globalNamed "stemma/sha.squareRoots" = some 1 := by kernel_rfl
theorem gCb : Tryd.prog.globalNamed "stemma/sha.cubeRoots" = some 2 := by kernel_rfl
theorem gSqT : (Tryd.prog.globals[1]?).map (·.type) = some 76 := by kernel_rfl
theorem gCbT : (Tryd.prog.globals[2]?).map (·.type) = some 109 := by kernel_rfl
theorem cells8 : Tryd.prog.cellsOf 76 = 8 := by kernel_rfl
theorem cells64 : Tryd.prog.cellsOf 109 = 64 := by kernel_rfl
theorem gRem : Tryd.prog.globalNamed "stemma/crc.remainders" = some 0 := by kernel_rfl
theorem gRemT : (Tryd.prog.globals[0]?).map (·.type) = some 85 := by kernel_rfl
theorem cells16 : Tryd.prog.cellsOf 85 = 16 := by kernel_rfl
def remL : List Int := [0, 498536548, 997073096, 651767980, 1994146192, 1802195444, 1303535960, 1342533948, 3988292384, 4027552580, 3604390888, 3412177804, 2607071920, 2262029012, 2685067896, 3183342108]
theorem rem_list : ∀ i : Fin 16, remF i.val = remL.getD i.val 0 := by decide +kernel
theorem cells1 : Tryd.prog.cellsOf 55 = 1 := by kernel_rfl
theorem tail_laid {P : Program} {W : World} {x : String × DataW Unit} {r : List (String × DataW Unit)} (h : laidMet P (x :: r) W) : laidMet P r W := h.tail
theorem vars_laid {W : World} (h : laidMet Tryd.prog [("stemma/sha.squareRoots", Rows.laid_stemma_sha_squareRoots), ("stemma/sha.cubeRoots", Rows.laid_stemma_sha_cubeRoots), ("stemma/crc.remainders", Rows.laid_stemma_crc_remainders)] W) : TopVars W := by
  have h1 : Lib.TabIs Tryd.prog W "stemma/sha.squareRoots" .u32 [1779033703, 3144134277, 1013904242, 2773480762, 1359893119, 2600822924, 528734635, 1541459225] := Lib.tabIs_of_head gSq gSqT Tryd.underlying76 Tryd.underlying55 cells1 cells8 h
  have h2 : Lib.TabIs Tryd.prog W "stemma/sha.cubeRoots" .u32 [1116352408, 1899447441, 3049323471, 3921009573, 961987163, 1508970993, 2453635748, 2870763221, 3624381080, 310598401, 607225278, 1426881987, 1925078388, 2162078206, 2614888103, 3248222580, 3835390401, 4022224774, 264347078, 604807628, 770255983, 1249150122, 1555081692, 1996064986, 2554220882, 2821834349, 2952996808, 3210313671, 3336571891, 3584528711, 113926993, 338241895, 666307205, 773529912, 1294757372, 1396182291, 1695183700, 1986661051, 2177026350, 2456956037, 2730485921, 2820302411, 3259730800, 3345764771, 3516065817, 3600352804, 4094571909, 275423344, 430227734, 506948616, 659060556, 883997877, 958139571, 1322822218, 1537002063, 1747873779, 1955562222, 2024104815, 2227730452, 2361852424, 2428436474, 2756734187, 3204031479, 3329325298] := Lib.tabIs_of_head gCb gCbT Tryd.underlying109 Tryd.underlying55 cells1 cells64 (tail_laid h)
  have h4 : Lib.TabIs Tryd.prog W "stemma/crc.remainders" .u32 remL := Lib.tabIs_of_head gRem gRemT Tryd.underlying85 Tryd.underlying55 cells1 cells16 (tail_laid (tail_laid h))
  have hlt : ∀ {b i : Nat} {v : Value}, W.cell? ⟨b, i, none⟩ = some v → b < W.heap.size := fun h => cell_lt h
  refine ⟨⟨fun i hi => h1.cell gSq i hi, fun i hi => h2.cell gCb i hi, hlt (h2.cell gCb 0 (by decide))⟩, ⟨fun i hi => by rw [rem_list ⟨i, hi⟩]; exact h4.cell gRem i hi, hlt (h4.cell gRem 0 (by decide))⟩⟩
def withRow (c : Array Value) : Obj → Obj
  | .cells _ t frozen => .cells c t frozen
  | o => o
noncomputable def laidWorld (os : Os) : World :=
  { World.holding Tryd.prog os ⟨#[], #[], []⟩ with heap := (((World.holding Tryd.prog os ⟨#[], #[], []⟩).heap.modify 1 (withRow #[.int .u32 1779033703, .int .u32 3144134277, .int .u32 1013904242, .int .u32 2773480762, .int .u32 1359893119, .int .u32 2600822924, .int .u32 528734635, .int .u32 1541459225])).modify 2 (withRow #[.int .u32 1116352408, .int .u32 1899447441, .int .u32 3049323471, .int .u32 3921009573, .int .u32 961987163, .int .u32 1508970993, .int .u32 2453635748, .int .u32 2870763221, .int .u32 3624381080, .int .u32 310598401, .int .u32 607225278, .int .u32 1426881987, .int .u32 1925078388, .int .u32 2162078206, .int .u32 2614888103, .int .u32 3248222580, .int .u32 3835390401, .int .u32 4022224774, .int .u32 264347078, .int .u32 604807628, .int .u32 770255983, .int .u32 1249150122, .int .u32 1555081692, .int .u32 1996064986, .int .u32 2554220882, .int .u32 2821834349, .int .u32 2952996808, .int .u32 3210313671, .int .u32 3336571891, .int .u32 3584528711, .int .u32 113926993, .int .u32 338241895, .int .u32 666307205, .int .u32 773529912, .int .u32 1294757372, .int .u32 1396182291, .int .u32 1695183700, .int .u32 1986661051, .int .u32 2177026350, .int .u32 2456956037, .int .u32 2730485921, .int .u32 2820302411, .int .u32 3259730800, .int .u32 3345764771, .int .u32 3516065817, .int .u32 3600352804, .int .u32 4094571909, .int .u32 275423344, .int .u32 430227734, .int .u32 506948616, .int .u32 659060556, .int .u32 883997877, .int .u32 958139571, .int .u32 1322822218, .int .u32 1537002063, .int .u32 1747873779, .int .u32 1955562222, .int .u32 2024104815, .int .u32 2227730452, .int .u32 2361852424, .int .u32 2428436474, .int .u32 2756734187, .int .u32 3204031479, .int .u32 3329325298])).modify 0 (withRow #[.int .u32 0, .int .u32 498536548, .int .u32 997073096, .int .u32 651767980, .int .u32 1994146192, .int .u32 1802195444, .int .u32 1303535960, .int .u32 1342533948, .int .u32 3988292384, .int .u32 4027552580, .int .u32 3604390888, .int .u32 3412177804, .int .u32 2607071920, .int .u32 2262029012, .int .u32 2685067896, .int .u32 3183342108]) }
section
variable {H : Type} {enc : TypeId × Value → H} {W : World} {spare : Nat → Bool} {held : Bool} {fuel : Nat}
theorem spot_none {w : World} {a : Addr} {v : Value} (h : w.cell? (a.add 0) = some v) : ∃ b o, a = ⟨b, o, none⟩ ∧ b < w.heap.size := by
  obtain ⟨b, o, sp⟩ := a
  have e : (⟨b, o, sp⟩ : Addr).add 0 = ⟨b, o, sp⟩ := by unfold Addr.add; rw [if_pos rfl]
  rw [e] at h
  obtain rfl : sp = none := by
    cases sp with
    | none => rfl
    | some x => unfold World.cell? at h; split at h <;> simp at h
  exact ⟨b, o, rfl, World.block_lt_of_cell? w _ h⟩
set_option maxRecDepth 100000 in
theorem open_st {a : Option Addr} {len cap : Nat} {d : DataW H} {p : List MemPlace} (h : DataW.trod enc Tryd.prog W 0 spare held fuel 24 [.slice a len cap] = some (d, p)) : ∃ l, IsSt W a len cap l ∧ len ≤ 9223372036854775807 := by
  rcases Deep.open_slice Tryd.underlying24 h with ⟨hcs, _⟩ | ⟨x, l, c, m, n, D, Pl, hcs, _, hl, hm, hmm, hx, hi⟩
  · simp at hcs
    obtain ⟨rfl, rfl, rfl⟩ := hcs
    exact ⟨[], .inl ⟨rfl, rfl, rfl, rfl⟩, by omega⟩
  · simp at hcs
    obtain ⟨rfl, rfl, rfl⟩ := hcs
    have hlm : len ≤ m := by rw [hmm]; split <;> omega
    have hc1 : Tryd.prog.cellsOf 9 = 1 := by kernel_rfl
    have hel : ∀ i, i < len → ∃ s : ByteArray, W.cell? (x.add i) = some (.string s) := fun i hil => by
      obtain ⟨cs', hc, ht⟩ := hi i (by omega)
      rw [hc1, Nat.mul_one] at hc
      obtain ⟨_, hcl, hat⟩ := World.cells?_some hc
      obtain ⟨s, hs, _, _⟩ := DataW.trod_string Tryd.underlying9 ht
      subst hs
      have h0 := hat 0 (by omega)
      have e0 : (x.add i).add 0 = x.add i := by unfold Addr.add; rw [if_pos rfl]
      rw [e0] at h0
      exact ⟨s, h0⟩
    by_cases h0 : 0 < len
    · refine ⟨(List.range len).map fun i => if hil : i < len then Classical.choose (hel i hil) else ByteArray.empty, .inr (.inl ?_), by unfold maxLen at hm; omega⟩
      obtain ⟨_, hv0⟩ := hel 0 h0
      obtain ⟨b, o, rfl, hlt⟩ := spot_none hv0
      refine ⟨b, o, rfl, hlt, by simp, fun i z hz => ?_⟩
      rw [List.getElem?_map] at hz
      obtain ⟨k, hk, rfl⟩ := Option.map_eq_some_iff.1 hz
      have hkl := (List.getElem?_eq_some_iff.1 hk).1
      rw [List.length_range] at hkl
      rw [List.getElem?_range hkl] at hk
      injection hk with hk; subst hk
      rw [dif_pos hkl]
      exact (congrArg (fun q => W.cell? q) (Addr.add_mid b o i).symm).trans (Classical.choose_spec (hel i hkl))
    · exact ⟨[], .inr (.inr ⟨x, rfl, by omega, rfl⟩), by omega⟩
set_option maxRecDepth 100000 in
theorem open_ls {a : Option Addr} {len cap : Nat} {d : DataW H} {p : List MemPlace} (h : DataW.trod enc Tryd.prog W 0 spare held fuel 22 [.slice a len cap] = some (d, p)) : ∃ zss, IsLS W a len zss ∧ len ≤ 9223372036854775807 := by
  rcases Deep.open_slice Tryd.underlying22 h with ⟨hcs, _⟩ | ⟨x, l, c, m, n, D, Pl, hcs, _, hl, hm, hmm, hx, hi⟩
  · simp at hcs
    obtain ⟨rfl, rfl, rfl⟩ := hcs
    exact ⟨[], ⟨rfl, fun h0 => absurd h0 (by decide)⟩, by omega⟩
  · simp at hcs
    obtain ⟨rfl, rfl, rfl⟩ := hcs
    have hlm : len ≤ m := by rw [hmm]; split <;> omega
    have hc1 : Tryd.prog.cellsOf 24 = 1 := by kernel_rfl
    have hel : ∀ i, i < len → ∃ zs : List ByteArray, ∃ ai ni ci, W.cell? (x.add i) = some (.slice ai ni ci) ∧ IsSt W ai ni ci zs ∧ ni ≤ 9223372036854775807 := fun i hil => by
      obtain ⟨cs', hc, ht⟩ := hi i (by omega)
      rw [hc1, Nat.mul_one] at hc
      obtain ⟨_, hcl, hat⟩ := World.cells?_some hc
      have hform : ∃ ai ni ci, cs' = [.slice ai ni ci] := by
        rcases Deep.open_slice Tryd.underlying24 ht with ⟨hcs, _⟩ | ⟨x', l', c', _, _, _, _, hcs, _⟩
        · exact ⟨_, _, _, hcs⟩
        · exact ⟨_, _, _, hcs⟩
      obtain ⟨ai, ni, ci, hcs'⟩ := hform
      subst hcs'
      obtain ⟨zs, hz, hn⟩ := open_st ht
      have h0 := hat 0 (by omega)
      have e0 : (x.add i).add 0 = x.add i := by unfold Addr.add; rw [if_pos rfl]
      rw [e0] at h0
      exact ⟨zs, ai, ni, ci, h0, hz, hn⟩
    refine ⟨(List.range len).map fun i => if hil : i < len then Classical.choose (hel i hil) else [], ⟨by simp, fun h0 => ?_⟩, by unfold maxLen at hm; omega⟩
    obtain ⟨_, _, _, _, hv0, _⟩ := hel 0 h0
    obtain ⟨b, o, rfl, hlt⟩ := spot_none hv0
    refine ⟨b, o, rfl, hlt, fun i z hz => ?_⟩
    rw [List.getElem?_map] at hz
    obtain ⟨k, hk, rfl⟩ := Option.map_eq_some_iff.1 hz
    have hkl := (List.getElem?_eq_some_iff.1 hk).1
    rw [List.length_range] at hkl
    rw [List.getElem?_range hkl] at hk
    injection hk with hk; subst hk
    rw [dif_pos hkl]
    obtain ⟨ai, ni, ci, q0, q1, q2⟩ := Classical.choose_spec (hel i hkl)
    exact ⟨ai, ni, ci, (congrArg (fun q => W.cell? q) (Addr.add_mid b o i).symm).trans q0, q1, q2⟩
end
end Go.Proofs.YtaionhdamdhjjabDoor
