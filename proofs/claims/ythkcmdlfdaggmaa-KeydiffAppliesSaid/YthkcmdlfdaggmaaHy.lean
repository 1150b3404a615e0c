/- Keyed lists: arguments that come in: rows of two texts; changes. -/
import Derived.Test.YthkcmdlfdaggmaaHq
import Derived.ProofKit
import Derived.SizedLaws
import Derived.OpenShut
import Derived.ShutString
import Derived.ChangeOld
import Derived.Deep.Slices
import Derived.SliceStrings
set_option linter.unusedVariables false
set_option linter.unusedSimpArgs false
namespace Go.Proofs.Ythkcmdlfdaggmaa
open Go.ChangeShapes Go.WideShapes Go.ChangeAt Go.RowKit
variable {w w' : World}

/-- The law's own changes. -/
abbrev LcB := ByteArray × ByteArray × ByteArray × Bool × Bool
def LcAt (w : World) (o : Option Addr) (l : List LcB) : Prop :=
  ∀ k p, l[k]? = some p → (p.1.size ≤ maxLen ∧ p.2.1.size ≤ maxLen ∧ p.2.2.1.size ≤ maxLen) ∧ ∃ b i, o = some ⟨b, i, none⟩ ∧ w.cell? ⟨b, i + k * 5, none⟩ = some (.string p.1) ∧ w.cell? ⟨b, i + k * 5 + 1, none⟩ = some (.string p.2.1) ∧ w.cell? ⟨b, i + k * 5 + 2, none⟩ = some (.string p.2.2.1) ∧ w.cell? ⟨b, i + k * 5 + 3, none⟩ = some (.bool p.2.2.2.1) ∧ w.cell? ⟨b, i + k * 5 + 4, none⟩ = some (.bool p.2.2.2.2)
theorem LcAt.below {o : Option Addr} {l : List LcB} (h : LcAt w o l) (hb : Below w.heap.size w w') : LcAt w' o l := fun k p hk => by
  obtain ⟨hs, b, i, h2, h3, h4, h5, h6, h7⟩ := h k p hk
  have e := hb.block b (World.block_lt_of_cell? w _ h3)
  exact ⟨hs, b, i, h2, (cell_keep e).trans h3, (cell_keep e).trans h4, (cell_keep e).trans h5, (cell_keep e).trans h6, (cell_keep e).trans h7⟩
theorem spot_at {W : World} {a : Addr} {v : Value} (h : W.cell? (a.add 0) = some v) : ∃ b o, a = ⟨b, o, none⟩ := by
  obtain ⟨b, o, sp⟩ := a
  have e : (⟨b, o, sp⟩ : Addr).add 0 = ⟨b, o, sp⟩ := by unfold Addr.add; rw [if_pos rfl]
  rw [e] at h
  obtain rfl : sp = none := by
    cases sp with
    | none => rfl
    | some x => unfold World.cell? at h; split at h <;> simp at h
  exact ⟨b, o, rfl⟩
theorem cells_2s : Try.prog.cellsOf 59 = 2 := by kernel_rfl
theorem cells_s : Try.prog.cellsOf 9 = 1 := by kernel_rfl
section
variable {H : Type} {enc : TypeId × Value → H} {W : World} {spare : Nat → Bool} {held : Bool} {fuel : Nat}
theorem two_trod {cs : List Value} {x : DataW H × List MemPlace} (hd : DataW.trod enc Try.prog W 0 spare held fuel 59 cs = some x) (hcs : cs.length = 2) :
    ∃ a b : ByteArray, cs = [.string a, .string b] ∧ a.size ≤ maxLen ∧ b.size ≤ maxLen := by
  obtain ⟨c0, c1, rfl⟩ : ∃ c0 c1, cs = [c0, c1] := by
    match cs, hcs with
    | [a, b], _ => exact ⟨a, b, rfl⟩
  cases fuel with
  | zero => simp [DataW.trod] at hd
  | succ m =>
    rw [DataW.trod_step] at hd
    unfold DataW.trodStep at hd
    simp only [Try.underlying59] at hd
    rw [if_pos (by rw [cells_2s]; rfl), cells_s] at hd
    have hr2 : List.range 2 = [0, 1] := rfl
    rw [hr2] at hd
    simp only [List.mapM_cons, List.mapM_nil] at hd
    cases h0 : DataW.trod enc Try.prog W 0 spare held m 9 [c0] with
    | none => simp [h0] at hd
    | some y0 =>
      cases h1 : DataW.trod enc Try.prog W 0 spare held m 9 [c1] with
      | none => simp [h0, h1] at hd
      | some y1 =>
        obtain ⟨a, ha, xa, wa⟩ := DataW.trod_string Try.underlying9 h0
        obtain ⟨b, hb, xb, wb⟩ := DataW.trod_string Try.underlying9 h1
        subst xa xb
        simp [h0, h1] at hd
        obtain rfl : c0 = .string a := by simpa using ha
        obtain rfl : c1 = .string b := by simpa using hb
        exact ⟨a, b, rfl, wa, wb⟩
theorem open_pairs {a : Option Addr} {len cap : Nat} {d : DataW H} {p : List MemPlace} (h : DataW.trod enc Try.prog W 0 spare held fuel 22 [.slice a len cap] = some (d, p)) : ∃ l : List KvB, KvAt W a l ∧ l.length = len ∧ len ≤ maxLen := by
  rcases Deep.open_slice Try.underlying22 h with ⟨hcs, _⟩ | ⟨x, l, c, m, n, D, Pl, hcs, _, hl, hm, hmm, hx, hi⟩
  · simp at hcs
    obtain ⟨rfl, rfl, rfl⟩ := hcs
    exact ⟨[], fun k q hk => by simp at hk, rfl, by unfold maxLen; omega⟩
  · simp at hcs
    obtain ⟨rfl, rfl, rfl⟩ := hcs
    have hlm : len ≤ m := by rw [hmm]; split <;> omega
    have hel : ∀ i, ∃ z : KvB, i < len → (z.1.size ≤ maxLen ∧ z.2.size ≤ maxLen) ∧ W.cell? (x.add (i * 2)) = some (.string z.1) ∧ W.cell? ((x.add (i * 2)).add 1) = some (.string z.2) := fun i => by
      by_cases hil : i < len
      · obtain ⟨cs', hc, ht⟩ := hi i (by omega)
        rw [cells_2s] at hc
        obtain ⟨_, hcl, hat⟩ := World.cells?_some hc
        obtain ⟨u, v, rfl, hs1, hs2⟩ := two_trod ht hcl
        have e0 : (x.add (i * 2)).add 0 = x.add (i * 2) := by unfold Addr.add; rw [if_pos rfl]
        refine ⟨(u, v), fun _ => ⟨⟨hs1, hs2⟩, ?_, ?_⟩⟩
        · have := hat 0 (by omega); rw [e0] at this; exact this
        · exact hat 1 (by omega)
      · exact ⟨(⟨#[]⟩, ⟨#[]⟩), fun h => absurd h hil⟩
    obtain ⟨f, hf⟩ := Classical.axiomOfChoice hel
    refine ⟨(List.range len).map f, fun k q hq => ?_, by simp, by omega⟩
    · rw [List.getElem?_map] at hq
      obtain ⟨j, hj, rfl⟩ := Option.map_eq_some_iff.1 hq
      have hkl := (List.getElem?_eq_some_iff.1 hj).1
      rw [List.length_range] at hkl
      rw [List.getElem?_range hkl] at hj
      injection hj with hj; subst hj
      have h0 := (hf 0 (by omega)).2.1
      rw [Nat.zero_mul] at h0
      obtain ⟨b, o, rfl⟩ := spot_at h0
      obtain ⟨es, e1, e2⟩ := hf k hkl
      rw [Addr.add_mid] at e1
      rw [Addr.add_mid, Addr.add_mid] at e2
      exact ⟨es.1, es.2, b, o, rfl, e1, e2⟩
theorem open_changes {a : Option Addr} {len cap : Nat} {d : DataW H} {p : List MemPlace} (h : DataW.trod enc Try.prog W 0 spare held fuel 46 [.slice a len cap] = some (d, p)) :
    ∃ l : List LcB, LcAt W a l ∧ l.length = len ∧ len ≤ maxLen := by
  rcases Deep.open_slice Try.underlying46 h with ⟨hcs, _⟩ | ⟨x, l, c, m, n, D, Pl, hcs, _, hl, hm, hmm, hx, hi⟩
  · simp at hcs
    obtain ⟨rfl, rfl, rfl⟩ := hcs
    exact ⟨[], fun k q hk => by simp at hk, rfl, by unfold maxLen; omega⟩
  · simp at hcs
    obtain ⟨rfl, rfl, rfl⟩ := hcs
    have hlm : len ≤ m := by rw [hmm]; split <;> omega
    have hc5 : Try.prog.cellsOf 48 = 5 := by kernel_rfl
    have hb1 : Try.prog.cellsOf 4 = 1 := by kernel_rfl
    have hel : ∀ i, ∃ z : LcB, i < len → (z.1.size ≤ maxLen ∧ z.2.1.size ≤ maxLen ∧ z.2.2.1.size ≤ maxLen) ∧ W.cell? (x.add (i * 5)) = some (.string z.1) ∧ W.cell? ((x.add (i * 5)).add 1) = some (.string z.2.1) ∧ W.cell? ((x.add (i * 5)).add 2) = some (.string z.2.2.1) ∧ W.cell? ((x.add (i * 5)).add 3) = some (.bool z.2.2.2.1) ∧ W.cell? ((x.add (i * 5)).add 4) = some (.bool z.2.2.2.2) := fun i => by
      by_cases hil : i < len
      · obtain ⟨cs', hc, ht⟩ := hi i (by omega)
        rw [hc5] at hc
        obtain ⟨_, hcl, hat⟩ := World.cells?_some hc
        obtain ⟨ys, n', _, _, hlen, hyl, hf⟩ := DataW.trod_struct Try.underlying48 ht
        have h1 := hf 0 _ rfl
        have h2 := hf 1 _ rfl
        have h3 := hf 2 _ rfl
        have h4 := hf 3 _ rfl
        have h5 := hf 4 _ rfl
        change DataW.trod enc Try.prog W 0 spare held n' 9 ((cs'.drop 0).take (Try.prog.cellsOf 9)) = _ at h1
        change DataW.trod enc Try.prog W 0 spare held n' 9 ((cs'.drop 1).take (Try.prog.cellsOf 9)) = _ at h2
        change DataW.trod enc Try.prog W 0 spare held n' 9 ((cs'.drop 2).take (Try.prog.cellsOf 9)) = _ at h3
        change DataW.trod enc Try.prog W 0 spare held n' 4 ((cs'.drop 3).take (Try.prog.cellsOf 4)) = _ at h4
        change DataW.trod enc Try.prog W 0 spare held n' 4 ((cs'.drop 4).take (Try.prog.cellsOf 4)) = _ at h5
        rw [cells_s] at h1 h2 h3
        rw [hb1] at h4 h5
        have hy1 : ys[0]? = some (ys[0]'(by rw [hyl]; decide)) := List.getElem?_eq_getElem _
        have hy2 : ys[1]? = some (ys[1]'(by rw [hyl]; decide)) := List.getElem?_eq_getElem _
        have hy3 : ys[2]? = some (ys[2]'(by rw [hyl]; decide)) := List.getElem?_eq_getElem _
        have hy4 : ys[3]? = some (ys[3]'(by rw [hyl]; decide)) := List.getElem?_eq_getElem _
        have hy5 : ys[4]? = some (ys[4]'(by rw [hyl]; decide)) := List.getElem?_eq_getElem _
        rw [hy1] at h1
        rw [hy2] at h2
        rw [hy3] at h3
        rw [hy4] at h4
        rw [hy5] at h5
        obtain ⟨s1, hs1, _, hw1⟩ := DataW.trod_string Try.underlying9 h1
        obtain ⟨s2, hs2, _, hw2⟩ := DataW.trod_string Try.underlying9 h2
        obtain ⟨s3, hs3, _, hw3⟩ := DataW.trod_string Try.underlying9 h3
        obtain ⟨t1, ht1, _⟩ := DataW.trod_bool Try.underlying4 h4
        obtain ⟨t2, ht2, _⟩ := DataW.trod_bool Try.underlying4 h5
        have e1 : cs'[0]? = some (.string s1) := by
          have := congrArg (fun l => l[0]?) hs1
          simpa [List.getElem?_take, List.getElem?_drop] using this
        have e2 : cs'[1]? = some (.string s2) := by
          have := congrArg (fun l => l[0]?) hs2
          simpa [List.getElem?_take, List.getElem?_drop] using this
        have e3 : cs'[2]? = some (.string s3) := by
          have := congrArg (fun l => l[0]?) hs3
          simpa [List.getElem?_take, List.getElem?_drop] using this
        have e4 : cs'[3]? = some (.bool t1) := by
          have := congrArg (fun l => l[0]?) ht1
          simpa [List.getElem?_take, List.getElem?_drop] using this
        have e5 : cs'[4]? = some (.bool t2) := by
          have := congrArg (fun l => l[0]?) ht2
          simpa [List.getElem?_take, List.getElem?_drop] using this
        have e0 : (x.add (i * 5)).add 0 = x.add (i * 5) := by unfold Addr.add; rw [if_pos rfl]
        refine ⟨(s1, s2, s3, t1, t2), fun _ => ⟨⟨hw1, hw2, hw3⟩, ?_, ?_, ?_, ?_, ?_⟩⟩
        · have := hat 0 (by omega); rw [e0] at this; rw [this]; exact e1
        · have := hat 1 (by omega); rw [this]; exact e2
        · have := hat 2 (by omega); rw [this]; exact e3
        · have := hat 3 (by omega); rw [this]; exact e4
        · have := hat 4 (by omega); rw [this]; exact e5
      · exact ⟨(⟨#[]⟩, ⟨#[]⟩, ⟨#[]⟩, false, false), fun h => absurd h hil⟩
    obtain ⟨f, hf⟩ := Classical.axiomOfChoice hel
    refine ⟨(List.range len).map f, fun k q hq => ?_, by simp, by omega⟩
    · rw [List.getElem?_map] at hq
      obtain ⟨j, hj, rfl⟩ := Option.map_eq_some_iff.1 hq
      have hkl := (List.getElem?_eq_some_iff.1 hj).1
      rw [List.length_range] at hkl
      rw [List.getElem?_range hkl] at hj
      injection hj with hj; subst hj
      have h0 := (hf 0 (by omega)).2.1
      rw [Nat.zero_mul] at h0
      obtain ⟨b, o, rfl⟩ := spot_at h0
      obtain ⟨es, e1, e2, e3, e4, e5⟩ := hf k hkl
      rw [Addr.add_mid] at e1
      rw [Addr.add_mid, Addr.add_mid] at e2 e3 e4 e5
      exact ⟨es, b, o, rfl, e1, e2, e3, e4, e5⟩
end
end Go.Proofs.Ythkcmdlfdaggmaa
