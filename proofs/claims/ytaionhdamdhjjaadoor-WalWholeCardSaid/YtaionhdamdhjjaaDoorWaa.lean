/- Wal's laws: arguments that are lists of lists of changes; pairs of lists of ints. -/
import Derived.Test.YtaionhdamdhjjaaDoorWx
import Derived.Test.YtaionhdamdhjjaaDoorWoo
import Derived.Test.YtaionhdamdhjjaaDoorKv
namespace Go.Proofs.YtaionhdamdhjjaaDoor
open Go.ChangeShapes Go.WideShapes Go.ChangeAt Go.RowKit
section
variable {H : Type} {enc : TypeId × Value → H} {W : World} {spare : Nat → Bool} {held : Bool} {fuel : Nat}
theorem lc_cap {a : Option Addr} {len cap : Nat} {d : DataW H} {p : List MemPlace} (h : DataW.trod enc Tryd.prog W 0 spare held fuel 38 [.slice a len cap] = some (d, p)) : len ≤ cap := by
  rcases Deep.open_slice Tryd.underlying38 h with ⟨hcs, _⟩ | ⟨x, l, c, m, n, D, Pl, hcs, _, hl, hm, hmm, hx, hi⟩
  · simp at hcs
    obtain ⟨rfl, rfl, rfl⟩ := hcs
    exact Nat.le_refl _
  · simp at hcs
    obtain ⟨rfl, rfl, rfl⟩ := hcs
    exact hl
theorem open_llc {a : Option Addr} {len cap : Nat} {d : DataW H} {p : List MemPlace} (h : DataW.trod enc Tryd.prog W 0 spare held fuel 62 [.slice a len cap] = some (d, p)) : ∃ zss, IsLLC W a len zss ∧ len ≤ 9223372036854775807 := by
  rcases Deep.open_slice Tryd.underlying62 h with ⟨hcs, _⟩ | ⟨x, l, c, m, n, D, Pl, hcs, _, hl, hm, hmm, hx, hi⟩
  · simp at hcs
    obtain ⟨rfl, rfl, rfl⟩ := hcs
    exact ⟨[], ⟨rfl, fun h0 => absurd h0 (by decide)⟩, by omega⟩
  · simp at hcs
    obtain ⟨rfl, rfl, rfl⟩ := hcs
    have hlm : len ≤ m := by rw [hmm]; split <;> omega
    have hc1 : Tryd.prog.cellsOf 38 = 1 := by kernel_rfl
    have hel : ∀ i, i < len → ∃ zs : List (Int × ByteArray), ∃ ai ni ci, W.cell? (x.add i) = some (.slice ai ni ci) ∧ IsLC W ai ni zs ∧ ni ≤ 9223372036854775807 := fun i hil => by
      obtain ⟨cs', hc, ht⟩ := hi i (by omega)
      rw [hc1, Nat.mul_one] at hc
      obtain ⟨_, hcl, hat⟩ := World.cells?_some hc
      have hform : ∃ ai ni ci, cs' = [.slice ai ni ci] := by
        rcases Deep.open_slice Tryd.underlying38 ht with ⟨hcs, _⟩ | ⟨x', l', c', _, _, _, _, hcs, _⟩
        · exact ⟨_, _, _, hcs⟩
        · exact ⟨_, _, _, hcs⟩
      obtain ⟨ai, ni, ci, hcs'⟩ := hform
      subst hcs'
      obtain ⟨zs, hz, hn⟩ := open_lc ht
      have h0 := hat 0 (by omega)
      have e0 : (x.add i).add 0 = x.add i := by unfold Addr.add; rw [if_pos rfl]
      rw [e0] at h0
      exact ⟨zs, ai, ni, ci, h0, hz, hn⟩
    refine ⟨(List.range len).map fun i => if hil : i < len then Classical.choose (hel i hil) else [], ⟨by simp, fun h0 => ?_⟩, by unfold maxLen at hm; omega⟩
    obtain ⟨_, _, _, _, hv0, _⟩ := hel 0 h0
    obtain ⟨b, o, rfl, hlt⟩ := spot_none hv0
    refine ⟨b, o, rfl, hlt, fun i z hz => ?_⟩
    rw [List.getElem?_map] at hz
    obtain ⟨k, hk, rfl⟩ := Option.map_eq_some_iff.1 hz
    have hkl := (List.getElem?_eq_some_iff.1 hk).1
    rw [List.length_range] at hkl
    rw [List.getElem?_range hkl] at hk
    injection hk with hk; subst hk
    rw [dif_pos hkl]
    obtain ⟨ai, ni, ci, q0, q1, q2⟩ := Classical.choose_spec (hel i hkl)
    exact ⟨ai, ni, ci, (congrArg (fun q => W.cell? q) (Addr.add_mid b o i).symm).trans q0, q1, q2⟩
end
/-- An array of two that came in, and its data. -/
theorem pair_trod2 {H : Type} {enc : TypeId × Value → H} {P : Program} {W w : World} {base : Nat} {sp : Nat → Bool} {held : Bool} {t e : TypeId} {r : Reach} {b0 : Nat} {v : Value} {d : DataW H} {ps : List MemPlace}
    (hu : P.underlying t = some (.array 2 e)) (h2 : P.cellsOf t = 2) (h1 : P.cellsOf e = 1) (hval : Value.okWide P W r b0 t v) (hd : DataW.Trod enc P w base sp held t v d ps) :
    ∃ c0 c1 m y0 y1, v = .agg #[c0, c1] ∧ DataW.trod enc P w base sp held m e [c0] = some y0 ∧ DataW.trod enc P w base sp held m e [c1] = some y1 ∧ d = .agg [y0.1, y1.1] := by
  simp only [Value.okWide, hu] at hval
  obtain ⟨cs, rfl, hs, _⟩ := hval
  rw [h2] at hs
  obtain ⟨c0, c1, rfl⟩ : ∃ c0 c1, cs = #[c0, c1] := by
    rcases cs with ⟨l⟩
    match l, hs with
    | [a, b], _ => exact ⟨a, b, rfl⟩
  obtain ⟨fuel, hf⟩ := hd
  cases fuel with
  | zero => simp [DataW.trod] at hf
  | succ m =>
    rw [DataW.trod_step] at hf
    unfold DataW.trodStep at hf
    simp only [hu, Value.cells] at hf
    rw [if_pos (by rw [h2]; rfl), h1] at hf
    have hr : List.range 2 = [0, 1] := rfl
    rw [hr] at hf
    simp only [List.mapM_cons, List.mapM_nil] at hf
    cases h0 : DataW.trod enc P w base sp held m e [c0] with
    | none => simp [h0] at hf
    | some y0 =>
      cases h1' : DataW.trod enc P w base sp held m e [c1] with
      | none => simp [h0, h1'] at hf
      | some y1 =>
        refine ⟨c0, c1, m, y0, y1, rfl, h0, h1', ?_⟩
        simp [h0, h1'] at hf
        exact hf.1.symm
set_option maxRecDepth 100000 in
theorem open_pair_ints {H : Type} {enc : TypeId × Value → H} {W w : World} {sp : Nat → Bool} {held : Bool} {r : Reach} {b0 : Nat} {v : Value} {d : DataW H} {ps : List MemPlace}
    (hval : Value.okWide Tryd.prog w r b0 63 v) (hd : DataW.Trod enc Tryd.prog W 0 sp held 63 v d ps) (hr : ∀ y ∈ d.weights Tryd.prog 63, y ≤ reachBytes) :
    ∃ k0 k1 ks0 ks1, v = .agg #[k0, k1] ∧ IsInts W k0 ks0 ∧ IsInts W k1 ks1 := by
  obtain ⟨c0, c1, m, y0, y1, rfl, a, b, hdd⟩ := pair_trod2 Tryd.underlying63 (by kernel_rfl) (by kernel_rfl) hval hd
  have hw : ∀ x ∈ d.weights Tryd.prog 63, x ≤ reachBytes := hr
  rw [hdd] at hw
  have w0 : ∀ x ∈ y0.1.weights Tryd.prog 39, x ≤ reachBytes := fun x hx => hw x (by
    simp only [DataW.weights, Tryd.underlying63]
    exact weightsAll_mem (List.mem_cons_self ..) hx)
  have w1 : ∀ x ∈ y1.1.weights Tryd.prog 39, x ≤ reachBytes := fun x hx => hw x (by
    simp only [DataW.weights, Tryd.underlying63]
    exact weightsAll_mem (List.mem_cons_of_mem _ (List.mem_cons_self ..)) hx)
  obtain ⟨v0, z0, e0, i0⟩ := open_int_list a w0
  obtain ⟨v1, z1, e1, i1⟩ := open_int_list b w1
  have e0' : c0 = v0 := by injection e0
  have e1' : c1 = v1 := by injection e1
  subst e0' e1'
  exact ⟨c0, c1, z0, z1, rfl, i0, i1⟩
set_option maxRecDepth 100000 in
theorem whole_all {w : World} (a : Option Addr) (len cap : Nat) (zss : List (List (Int × ByteArray))) (hz : IsLLC w a len zss) (hl : len ≤ 9223372036854775807) (a2 : Option Addr) (len2 cap2 : Nat) (zs : List (Int × ByteArray)) (hz2 : IsLC w a2 len2 zs) (hl2 : len2 ≤ 9223372036854775807) (hc2 : len2 ≤ cap2)
    (k0 k1 : Value) (ks0 ks1 : List Int) (hk0 : IsInts w k0 ks0) (hk1 : IsInts w k1 ks1) (hV : CrcVars w) :
    Calls Tryd.prog 4 #[.slice a len cap, .slice a2 len2 cap2, .agg #[k0, k1]] w fun e w' => e = .returned (.bool true) ∧ Below w.heap.size w w' := by
  rcases Nat.lt_or_ge 5 len with h | h
  · exact whole_many a len cap zss hz hl a2 len2 cap2 zs hz2 hl2 hc2 k0 k1 ks0 ks1 hk0 hk1 hV h
  · exact whole_few a len cap zss hz hl a2 len2 cap2 zs hz2 hl2 hc2 k0 k1 ks0 ks1 hk0 hk1 hV h
end Go.Proofs.YtaionhdamdhjjaaDoor
