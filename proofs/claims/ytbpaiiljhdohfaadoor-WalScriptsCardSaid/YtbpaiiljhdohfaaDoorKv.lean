/- What the rows' list gives: the package's variable holds the text's numbers. -/
import Derived.Test.YtbpaiiljhdohfaaDoorMe
import Derived.Test.YtbpaiiljhdohfaaDoorCards
import Derived.Test.YtbpaiiljhdohfaaDoorTie
import Derived.ProofKit
import Derived.OpenShut
import Derived.ShutString
import Derived.ChangeOld
import Derived.Deep.DeepHandedRow
import Derived.Lib.LaidTab
import Derived.Stop.LaidErr
namespace Go.Proofs.YtbpaiiljhdohfaaDoor
open Go.ChangeShapes Go.WideShapes Go.ChangeAt Go.RowKit

theorem own : ownKnob Tryd.prog.godebug = none := by kernel_rfl
theorem laidOut : laidOutB Tryd.prog = true := by kernel_rfl
theorem gRem : Tryd.prog.globalNamed "stemma/crc.remainders" = some 0 := by kernel_rfl
theorem gRemT : (Tryd.prog.globals[0]?).map (·.type) = some 130 := by kernel_rfl
theorem cells16 : Tryd.prog.cellsOf 130 = 16 := by kernel_rfl
theorem cells1 : Tryd.prog.cellsOf 103 = 1 := by kernel_rfl
def remL : List Int := [0, 498536548, 997073096, 651767980, 1994146192, 1802195444, 1303535960, 1342533948, 3988292384, 4027552580, 3604390888, 3412177804, 2607071920, 2262029012, 2685067896, 3183342108]
theorem rem_list : ∀ i : Fin 16, remF i.val = remL.getD i.val 0 := by decide +kernel
theorem vars_laid {W : World} (h : laidMet Tryd.prog [("stemma/crc.remainders", Rows.laid_stemma_crc_remainders)] W) : CrcVars W := by
  have h1 : Lib.TabIs Tryd.prog W "stemma/crc.remainders" .u32 remL := Lib.tabIs_of_head gRem gRemT Tryd.underlying130 Tryd.underlying103 cells1 cells16 h
  refine ⟨fun i hi => by rw [rem_list ⟨i, hi⟩]; exact h1.cell gRem i hi, ?_⟩
  have h3 := h1.cell gRem 0 (by decide)
  rcases Nat.lt_or_ge 0 W.heap.size with h' | h'
  · exact h'
  · unfold World.cell? at h3
    rw [Array.getElem?_eq_none (by exact h')] at h3
    cases h3
def withRow (c : Array Value) : Obj → Obj
  | .cells _ t frozen => .cells c t frozen
  | o => o
noncomputable def laidWorld (os : Os) : World :=
  { World.holding Tryd.prog os ⟨#[], #[], []⟩ with heap := (World.holding Tryd.prog os ⟨#[], #[], []⟩).heap.modify 0 (withRow #[.int .u32 0, .int .u32 498536548, .int .u32 997073096, .int .u32 651767980, .int .u32 1994146192, .int .u32 1802195444, .int .u32 1303535960, .int .u32 1342533948, .int .u32 3988292384, .int .u32 4027552580, .int .u32 3604390888, .int .u32 3412177804, .int .u32 2607071920, .int .u32 2262029012, .int .u32 2685067896, .int .u32 3183342108]) }
/-- An array of two that came in. -/
theorem pair_trod {H : Type} {enc : TypeId × Value → H} {P : Program} {W w : World} {base : Nat} {sp : Nat → Bool} {held : Bool} {t e : TypeId} {r : Reach} {b0 : Nat} {v : Value} {d : DataW H} {ps : List MemPlace}
    (hu : P.underlying t = some (.array 2 e)) (h2 : P.cellsOf t = 2) (h1 : P.cellsOf e = 1) (hval : Value.okWide P W r b0 t v) (hd : DataW.Trod enc P w base sp held t v d ps) :
    ∃ c0 c1 m y0 y1, v = .agg #[c0, c1] ∧ DataW.trod enc P w base sp held m e [c0] = some y0 ∧ DataW.trod enc P w base sp held m e [c1] = some y1 := by
  simp only [Value.okWide, hu] at hval
  obtain ⟨cs, rfl, hs, _⟩ := hval
  rw [h2] at hs
  obtain ⟨c0, c1, rfl⟩ : ∃ c0 c1, cs = #[c0, c1] := by
    rcases cs with ⟨l⟩
    match l, hs with
    | [a, b], _ => exact ⟨a, b, rfl⟩
  obtain ⟨fuel, hf⟩ := hd
  cases fuel with
  | zero => simp [DataW.trod] at hf
  | succ m =>
    rw [DataW.trod_step] at hf
    unfold DataW.trodStep at hf
    simp only [hu, Value.cells] at hf
    rw [if_pos (by rw [h2]; rfl), h1] at hf
    have hr : List.range 2 = [0, 1] := rfl
    rw [hr] at hf
    simp only [List.mapM_cons, List.mapM_nil] at hf
    cases h0 : DataW.trod enc P w base sp held m e [c0] with
    | none => simp [h0] at hf
    | some y0 =>
      cases h1' : DataW.trod enc P w base sp held m e [c1] with
      | none => simp [h0, h1'] at hf
      | some y1 => exact ⟨c0, c1, m, y0, y1, rfl, h0, h1'⟩
theorem pair_ints {H : Type} {enc : TypeId × Value → H} {P : Program} {W w : World} {base : Nat} {sp : Nat → Bool} {held : Bool} {t e : TypeId} {r : Reach} {b0 : Nat} {v : Value} {d : DataW H} {ps : List MemPlace} {k : IntKind}
    (hu : P.underlying t = some (.array 2 e)) (h2 : P.cellsOf t = 2) (h1 : P.cellsOf e = 1) (he : P.underlying e = some (.int k)) (hval : Value.okWide P W r b0 t v) (hd : DataW.Trod enc P w base sp held t v d ps) :
    ∃ x y, v = .agg #[.int k x, .int k y] ∧ (Lit.int k x).wf = true ∧ (Lit.int k y).wf = true := by
  obtain ⟨c0, c1, m, y0, y1, rfl, a, b⟩ := pair_trod hu h2 h1 hval hd
  obtain ⟨x, hx, _, wx⟩ := DataW.trod_int he a
  obtain ⟨y, hy, _, wy⟩ := DataW.trod_int he b
  obtain rfl : c0 = .int k x := by simpa using hx
  obtain rfl : c1 = .int k y := by simpa using hy
  exact ⟨x, y, rfl, wx, wy⟩
theorem pair_strings {H : Type} {enc : TypeId × Value → H} {P : Program} {W w : World} {base : Nat} {sp : Nat → Bool} {held : Bool} {t e : TypeId} {r : Reach} {b0 : Nat} {v : Value} {d : DataW H} {ps : List MemPlace}
    (hu : P.underlying t = some (.array 2 e)) (h2 : P.cellsOf t = 2) (h1 : P.cellsOf e = 1) (he : P.underlying e = some .string) (hval : Value.okWide P W r b0 t v) (hd : DataW.Trod enc P w base sp held t v d ps) :
    ∃ x y, v = .agg #[.string x, .string y] ∧ x.size ≤ maxLen ∧ y.size ≤ maxLen := by
  obtain ⟨c0, c1, m, y0, y1, rfl, a, b⟩ := pair_trod hu h2 h1 hval hd
  obtain ⟨x, hx, _, wx⟩ := DataW.trod_string he a
  obtain ⟨y, hy, _, wy⟩ := DataW.trod_string he b
  obtain rfl : c0 = .string x := by simpa using hx
  obtain rfl : c1 = .string y := by simpa using hy
  exact ⟨x, y, rfl, wx, wy⟩
/-- A byte that came in. -/
theorem byte_wf {x : Int} (h : (Lit.int IntKind.u8 x).wf = true) : 0 ≤ x ∧ x < 256 := by
  have h' : IntKind.u8.min ≤ x ∧ x ≤ IntKind.u8.max := by simpa [Lit.wf] using h
  have e1 : IntKind.u8.min = 0 := by decide
  have e2 : IntKind.u8.max = 255 := by decide
  omega
end Go.Proofs.YtbpaiiljhdohfaaDoor
