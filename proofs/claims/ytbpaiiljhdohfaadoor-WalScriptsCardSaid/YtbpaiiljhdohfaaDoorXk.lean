/- Wal's law: an array of three ints that comes in. -/
import Derived.Test.YtbpaiiljhdohfaaDoorXi
namespace Go.Proofs.YtbpaiiljhdohfaaDoor
open Go.ChangeShapes Go.WideShapes Go.ChangeAt Go.RowKit
theorem triple_trod {H : Type} {enc : TypeId × Value → H} {P : Program} {W w : World} {base : Nat} {sp : Nat → Bool} {held : Bool} {t e : TypeId} {r : Reach} {b0 : Nat} {v : Value} {d : DataW H} {ps : List MemPlace}
    (hu : P.underlying t = some (.array 3 e)) (h2 : P.cellsOf t = 3) (h1 : P.cellsOf e = 1) (hval : Value.okWide P W r b0 t v) (hd : DataW.Trod enc P w base sp held t v d ps) :
    ∃ c0 c1 c2 m y0 y1 y2, v = .agg #[c0, c1, c2] ∧ DataW.trod enc P w base sp held m e [c0] = some y0 ∧ DataW.trod enc P w base sp held m e [c1] = some y1 ∧ DataW.trod enc P w base sp held m e [c2] = some y2 := by
  simp only [Value.okWide, hu] at hval
  obtain ⟨cs, rfl, hs, _⟩ := hval
  rw [h2] at hs
  obtain ⟨c0, c1, c2, rfl⟩ : ∃ c0 c1 c2, cs = #[c0, c1, c2] := by
    rcases cs with ⟨l⟩
    match l, hs with
    | [a, b, c], _ => exact ⟨a, b, c, rfl⟩
  obtain ⟨fuel, hf⟩ := hd
  cases fuel with
  | zero => simp [DataW.trod] at hf
  | succ m =>
    rw [DataW.trod_step] at hf
    unfold DataW.trodStep at hf
    simp only [hu, Value.cells] at hf
    rw [if_pos (by rw [h2]; rfl), h1] at hf
    have hr : List.range 3 = [0, 1, 2] := rfl
    rw [hr] at hf
    simp only [List.mapM_cons, List.mapM_nil] at hf
    cases h0 : DataW.trod enc P w base sp held m e [c0] with
    | none => simp [h0] at hf
    | some y0 =>
      cases h1' : DataW.trod enc P w base sp held m e [c1] with
      | none => simp [h0, h1'] at hf
      | some y1 =>
        cases h2' : DataW.trod enc P w base sp held m e [c2] with
        | none => simp [h0, h1', h2'] at hf
        | some y2 => exact ⟨c0, c1, c2, m, y0, y1, y2, rfl, h0, h1', h2'⟩
set_option maxRecDepth 100000 in
theorem open_three {H : Type} {enc : TypeId × Value → H} {W w : World} {sp : Nat → Bool} {held : Bool} {r : Reach} {b0 : Nat} {v : Value} {d : DataW H} {ps : List MemPlace}
    (hval : Value.okWide Tryd.prog w r b0 22 v) (hd : DataW.Trod enc Tryd.prog W 0 sp held 22 v d ps) :
    ∃ a0 a1 a2 : Int, v = .agg #[.int .i64 a0, .int .i64 a1, .int .i64 a2] := by
  obtain ⟨c0, c1, c2, m, y0, y1, y2, rfl, a, b, c⟩ := triple_trod Tryd.underlying22 (by kernel_rfl) (by kernel_rfl) hval hd
  obtain ⟨k0, hk0, _⟩ := DataW.trod_int Tryd.underlying3 a
  obtain ⟨k1, hk1, _⟩ := DataW.trod_int Tryd.underlying3 b
  obtain ⟨k2, hk2, _⟩ := DataW.trod_int Tryd.underlying3 c
  injection hk0 with hk0; injection hk1 with hk1; injection hk2 with hk2
  subst hk0 hk1 hk2
  exact ⟨k0, k1, k2, rfl⟩
end Go.Proofs.YtbpaiiljhdohfaaDoor
