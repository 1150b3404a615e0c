/- Merges: the law's comparing of texts; the pairs that come in. -/
import Derived.Test.YtdpfpdpaamjefaaDoorPy
import Derived.ProofKit
import Derived.SizedLaws
import Derived.OpenShut
import Derived.ShutString
import Derived.ChangeOld
import Derived.Deep.Slices
namespace Go.Proofs.YtdpfpdpaamjefaaDoor
open Go.ChangeShapes Go.WideShapes Go.ChangeAt Go.RowKit
variable {w w' : World}

def TeS (w : World) (P : List ByteArray) (i : Value) (wr : World) : Prop :=
  ∃ k : Nat, k ≤ P.length ∧ i = .int .i64 k ∧ Below w.heap.size w wr
theorem cells_2s : Tryd.prog.cellsOf 47 = 2 := by kernel_rfl
theorem cells_s : Tryd.prog.cellsOf 9 = 1 := by kernel_rfl
/-- A text is small. -/
def SmP (p : PairB) : Prop := p.1.size ≤ 140737488351232 ∧ p.2.size ≤ 140737488351232
theorem SmP.ok {p : PairB} (h : SmP p) : OkP p := ⟨by have := h.1; unfold maxLen; omega, by have := h.2; unfold maxLen; omega⟩
theorem weightsAll_in {H : Type} {P : Program} {e : TypeId} {d : DataW H} {x : Nat} : ∀ {l : List (DataW H)}, d ∈ l → x ∈ d.weights P e → x ∈ DataW.weightsAll P e l
  | c :: l, h, hx => by
    unfold DataW.weightsAll
    rcases List.mem_cons.1 h with rfl | h
    · exact List.mem_append_left _ hx
    · exact List.mem_append_right _ (weightsAll_in h hx)
theorem spot_at {W : World} {a : Addr} {v : Value} (h : W.cell? (a.add 0) = some v) : ∃ b o, a = ⟨b, o, none⟩ := by
  obtain ⟨b, o, sp⟩ := a
  have e : (⟨b, o, sp⟩ : Addr).add 0 = ⟨b, o, sp⟩ := by unfold Addr.add; rw [if_pos rfl]
  rw [e] at h
  obtain rfl : sp = none := by
    cases sp with
    | none => rfl
    | some x => unfold World.cell? at h; split at h <;> simp at h
  exact ⟨b, o, rfl⟩
section
variable {H : Type} {enc : TypeId × Value → H} {W : World} {spare : Nat → Bool} {held : Bool} {fuel : Nat}
theorem two_trod {cs : List Value} {x : DataW H × List MemPlace} (hd : DataW.trod enc Tryd.prog W 0 spare held fuel 47 cs = some x) (hr : ∀ y ∈ x.1.weights Tryd.prog 47, y ≤ reachBytes) (hcs : cs.length = 2) :
    ∃ a b : ByteArray, cs = [.string a, .string b] ∧ SmP (a, b) := by
  obtain ⟨c0, c1, rfl⟩ : ∃ c0 c1, cs = [c0, c1] := by
    match cs, hcs with
    | [a, b], _ => exact ⟨a, b, rfl⟩
  cases fuel with
  | zero => simp [DataW.trod] at hd
  | succ m =>
    rw [DataW.trod_step] at hd
    unfold DataW.trodStep at hd
    simp only [Tryd.underlying47] at hd
    rw [if_pos (by rw [cells_2s]; rfl), cells_s] at hd
    have hr2 : List.range 2 = [0, 1] := rfl
    rw [hr2] at hd
    simp only [List.mapM_cons, List.mapM_nil] at hd
    cases h0 : DataW.trod enc Tryd.prog W 0 spare held m 9 [c0] with
    | none => simp [h0] at hd
    | some y0 =>
      cases h1 : DataW.trod enc Tryd.prog W 0 spare held m 9 [c1] with
      | none => simp [h0, h1] at hd
      | some y1 =>
        obtain ⟨a, ha, xa, wa⟩ := DataW.trod_string Tryd.underlying9 h0
        obtain ⟨b, hb, xb, wb⟩ := DataW.trod_string Tryd.underlying9 h1
        subst xa xb
        simp [h0, h1] at hd
        subst hd
        simp only [DataW.weights, Tryd.underlying47, DataW.weightsAll, List.append_nil, List.mem_append, List.mem_singleton] at hr
        have e : reachBytes = 140737488351232 := rfl
        obtain rfl : c0 = .string a := by simpa using ha
        obtain rfl : c1 = .string b := by simpa using hb
        refine ⟨a, b, rfl, ?_, ?_⟩
        · have := hr _ (.inl rfl); rw [e] at this; simpa using this
        · have := hr _ (.inr rfl); rw [e] at this; simpa using this
theorem open_pairs {a : Option Addr} {len cap : Nat} {d : DataW H} {p : List MemPlace} (h : DataW.trod enc Tryd.prog W 0 spare held fuel 22 [.slice a len cap] = some (d, p)) (hr : ∀ y ∈ d.weights Tryd.prog 22, y ≤ reachBytes) : ∃ l : List PairB, InAt W a l ∧ l.length = len ∧ len ≤ maxLen ∧ ∀ q ∈ l, SmP q := by
  rcases Deep.open_slice Tryd.underlying22 h with ⟨hcs, _⟩ | ⟨x, l, c, m, n, D, Pl, hcs, _, hl, hm, hmm, hx, hi⟩
  · simp at hcs
    obtain ⟨rfl, rfl, rfl⟩ := hcs
    exact ⟨[], fun k q hk => by simp at hk, rfl, by unfold maxLen; omega, fun q hq => by cases hq⟩
  · simp at hcs
    obtain ⟨rfl, rfl, rfl⟩ := hcs
    have hlm : len ≤ m := by rw [hmm]; split <;> omega
    have hel : ∀ i, ∃ z : PairB, i < len → SmP z ∧ W.cell? (x.add (i * 2)) = some (.string z.1) ∧ W.cell? ((x.add (i * 2)).add 1) = some (.string z.2) := fun i => by
      by_cases hil : i < len
      · obtain ⟨cs', hc, ht⟩ := hi i (by omega)
        rw [cells_2s] at hc
        obtain ⟨_, hcl, hat⟩ := World.cells?_some hc
        obtain ⟨u, v, rfl, hsm⟩ := two_trod ht (fun y hy => hr y (by
          simp only [Prod.mk.injEq] at hx
          rw [hx.1]
          simp only [DataW.weights, Tryd.underlying22]
          exact List.mem_cons_of_mem _ (List.mem_append_left _ (weightsAll_in (List.mem_map.2 ⟨i, List.mem_range.2 hil, rfl⟩) hy)))) hcl
        have e0 : (x.add (i * 2)).add 0 = x.add (i * 2) := by unfold Addr.add; rw [if_pos rfl]
        refine ⟨(u, v), fun _ => ⟨hsm, ?_, ?_⟩⟩
        · have := hat 0 (by omega); rw [e0] at this; exact this
        · exact hat 1 (by omega)
      · exact ⟨(⟨#[]⟩, ⟨#[]⟩), fun h => absurd h hil⟩
    obtain ⟨f, hf⟩ := Classical.axiomOfChoice hel
    refine ⟨(List.range len).map f, fun k q hq => ?_, by simp, by omega, fun q hq => ?_⟩
    · rw [List.getElem?_map] at hq
      obtain ⟨j, hj, rfl⟩ := Option.map_eq_some_iff.1 hq
      have hkl := (List.getElem?_eq_some_iff.1 hj).1
      rw [List.length_range] at hkl
      rw [List.getElem?_range hkl] at hj
      injection hj with hj; subst hj
      have h0 := (hf 0 (by omega)).2.1
      rw [Nat.zero_mul] at h0
      obtain ⟨b, o, rfl⟩ := spot_at h0
      obtain ⟨_, e1, e2⟩ := hf k hkl
      rw [Addr.add_mid] at e1
      rw [Addr.add_mid, Addr.add_mid] at e2
      exact ⟨b, o, rfl, e1, e2⟩
    · obtain ⟨j, hj, rfl⟩ := List.mem_map.1 hq
      exact (hf j (List.mem_range.1 hj)).1
end
end Go.Proofs.YtdpfpdpaamjefaaDoor
