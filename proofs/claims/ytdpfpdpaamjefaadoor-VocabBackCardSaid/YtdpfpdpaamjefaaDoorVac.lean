/- Lists of numbers that come in; a copy of one. -/
import Derived.Test.YtdpfpdpaamjefaaDoorY2
import Derived.Deep.MidRow
import Derived.Deep.AppendLies
import Derived.ChangeSlices
import Derived.ProofKit
import Derived.SizedLaws
import Derived.OpenShut
import Derived.ShutString
import Derived.ChangeOld
import Derived.Deep.Slices
namespace Go.Proofs.YtdpfpdpaamjefaaDoor
open Go.ChangeShapes Go.WideShapes Go.ChangeAt Go.RowKit
section
variable {w w' : World}
theorem cell_below9 {w w' : World} {b j : Nat} {v : Value} (hb : Below w.heap.size w w') (h : w.cell? ⟨b, j, none⟩ = some v) : w'.cell? ⟨b, j, none⟩ = some v :=
  (hb.cell (p := ⟨b, j, none⟩) (World.block_lt_of_cell? w _ h)).trans h
def IsInts (w : World) (v : Value) (zs : List Int) : Prop :=
  ∃ a c, v = .slice a zs.length c ∧ zs.length ≤ 17592186044415 ∧ (0 < zs.length → ∃ b o, a = some ⟨b, o, none⟩ ∧ b < w.heap.size ∧ ∀ j, j < zs.length → w.cell? ⟨b, o + j, none⟩ = some (.int .i64 (zs.getD j 0)))
theorem IsInts.below {v : Value} {zs : List Int} {w' : World} (h : IsInts w v zs) (hb : Below w.heap.size w w') : IsInts w' v zs := by
  obtain ⟨a, c, h1, h2, h3⟩ := h
  exact ⟨a, c, h1, h2, fun h0 => by
    obtain ⟨b, o, h4, h5, h6⟩ := h3 h0
    exact ⟨b, o, h4, Nat.lt_of_lt_of_le h5 hb.size, fun j hj => cell_below9 hb (h6 j hj)⟩⟩
theorem info_int : (Tryd.prog.info? 3).map (fun i => (i.zero, i.size, i.bytes)) = some (some (.int .i64 0), 1, 8) := by kernel_rfl
theorem wpList_append_eq {P : Program} {w : World} {ops : Array Oper} {rest : List Oper} {o : Oper} {a : Act} {Q : Exit → Act → World → Prop} (hgd : o.guard = none) (s x : Operand) (t : TypeId)
    (ho : o.op = .call { callee := .builtin .append, args := #[s, x], argTypes := #[t, t] }) (vs vx : Value) (hs : a.eval s = vs) (hx : a.eval x = vx) (r : Value) (w2 : World)
    (hrun : (Builtin.append_ #[t, t] o.type #[vs, vx]).run P w = .ok r w2) (h : wpList P ops Q rest (a.put o.dst r) w2) : wpList P ops Q (o :: rest) a w := by
  refine wpList_plain hgd fun _ hK => ?_
  unfold Oper.wp execOp
  simp only [ho, resolve, invoke, builtin, Sem.run_bind, Sem.run_pure, Result.andThen_ok, List.map_toArray, List.map_cons, List.map_nil, hs, hx, hrun]
  exact hK _ _ h
/-- A copy of a list of ints. -/
theorem app_ints {v : Value} {zs : List Int} (h : IsInts w v zs) :
    ∃ v' w', (Builtin.append_ #[37, 37] 37 #[.slice (some ⟨w.heap.size, 0, none⟩) 0 0, v]).run Tryd.prog (w.alloc (.cells #[] 3)) = .ok v' w' ∧ Below w.heap.size w w' ∧ ((zs = [] ∧ ∃ a c, v' = .slice a 0 c) ∨ ∃ b c, v' = .slice (some ⟨b, 0, none⟩) zs.length c ∧ 0 < zs.length ∧ w.heap.size ≤ b ∧ ∀ j, j < zs.length → w'.cell? ⟨b, 0 + j, none⟩ = some (.int .i64 (zs.getD j 0))) := by
  obtain ⟨a, c, rfl, hm, hc⟩ := h
  obtain ⟨i0, hi0, hz0, hs0, hy0⟩ := info_parts info_int
  have hB : Below w.heap.size w (w.alloc (.cells #[] 3)) := (Below.refl _ _).alloc (Nat.le_refl _) _
  have hown : (w.alloc (.cells #[] 3)).ownsRow w.heap.size 3 1 (.slice (some ⟨w.heap.size, 0, none⟩) 0 0) 0 [] := World.ownsRow_made w #[] 0 (Nat.le_refl _) (by decide) rfl
  by_cases h0 : 0 < zs.length
  · obtain ⟨b, o, rfl, hb, hj⟩ := hc h0
    obtain ⟨g, cap, w', hr, h1, h2, h3, h4⟩ := run_append_lies (P := Tryd.prog) (w.alloc (.cells #[] 3)) 37 37 w.heap.size 3 i0 _ 1 8 Tryd.underlying37 hi0 hz0 hs0 hy0 rfl (by decide) _ 0 [] hown ⟨b, o, none⟩ zs.length c (zs.map (Value.int .i64)) (by simp) (fun j u hu => by
      rw [List.getElem?_map] at hu
      obtain ⟨x, hx, rfl⟩ := Option.map_eq_some_iff.1 hu
      have hjl := (List.getElem?_eq_some_iff.1 hx).1
      have := hj j hjl
      rw [List.getD_eq_getElem?_getD, hx] at this
      rw [Addr.add_mid]
      exact cell_below9 hB this) (by intro u hu; obtain ⟨x, _, rfl⟩ := List.mem_map.1 hu; rfl) h0 (by unfold maxLen; omega) (by omega) hB.size _ rfl
    rw [Nat.zero_add] at hr h1
    refine ⟨_, w', hr, hB.trans ⟨h2.os, h2.tape, h2.output, h2.size, fun k hk => h2.block k (Nat.lt_of_lt_of_le hk hB.size) (fun e => by have e2 : some k = some w.heap.size := e; injection e2 with e2; omega)⟩, .inr ⟨g, cap, rfl, h0, ?_, fun j hjl => ?_⟩⟩
    · exact (h1.lt g rfl).1
    · have := h1.cells (g := g) rfl j (.int .i64 (zs.getD j 0)) (by rw [List.nil_append, List.getElem?_map, List.getD_eq_getElem?_getD, List.getElem?_eq_getElem hjl]; rfl)
      rw [addr_at] at this
      rw [Nat.zero_add]; exact this
  · have hz : zs = [] := by
      cases zs with
      | nil => rfl
      | cons x l => simp at h0
    subst hz
    refine ⟨.slice (some ⟨w.heap.size, 0, none⟩) 0 0, _, ?_, hB, .inl ⟨rfl, _, _, rfl⟩⟩
    cases a <;> simp [Builtin.append_, run_underlying Tryd.underlying37, sizeOf, typeInfo, hi0, Builtin.lenOf, Builtin.firstCells, hs0, storeCells, loadCells, loadCellsFrom]
end
theorem spot_none {w : World} {a : Addr} {v : Value} (h : w.cell? (a.add 0) = some v) : ∃ b o, a = ⟨b, o, none⟩ ∧ b < w.heap.size := by
  obtain ⟨b, o, sp⟩ := a
  have e : (⟨b, o, sp⟩ : Addr).add 0 = ⟨b, o, sp⟩ := by unfold Addr.add; rw [if_pos rfl]
  rw [e] at h
  obtain rfl : sp = none := by
    cases sp with
    | none => rfl
    | some x => unfold World.cell? at h; split at h <;> simp at h
  exact ⟨b, o, rfl, World.block_lt_of_cell? w _ h⟩
theorem weightsAll_mem {H : Type} {P : Program} {e : TypeId} {d : DataW H} {x : Nat} : ∀ {l : List (DataW H)}, d ∈ l → x ∈ d.weights P e → x ∈ DataW.weightsAll P e l
  | c :: l, h, hx => by
    unfold DataW.weightsAll
    rcases List.mem_cons.1 h with rfl | h
    · exact List.mem_append_left _ hx
    · exact List.mem_append_right _ (weightsAll_mem h hx)
section
variable {H : Type} {enc : TypeId × Value → H} {W : World} {spare : Nat → Bool} {held : Bool} {fuel : Nat}
theorem bytes_int : Tryd.prog.bytesOf 3 = 8 := by kernel_rfl
theorem open_int_list {cs : List Value} {x : DataW H × List MemPlace} (h : DataW.trod enc Tryd.prog W 0 spare held fuel 37 cs = some x) (hr : ∀ y ∈ x.1.weights Tryd.prog 37, y ≤ reachBytes) : ∃ a zs c, cs = [.slice a zs.length c] ∧ IsInts W (.slice a zs.length c) zs ∧ zs.length ≤ c ∧ ∀ z ∈ zs, (Lit.int .i64 z).wf = true := by
  rcases open_ints Tryd.underlying37 Tryd.underlying3 (by kernel_rfl) h with ⟨hcs, _⟩ | ⟨a, len, cap, zs, hcs, _, hl, hm, hz, hx, hcell, hwz⟩
  · exact ⟨none, [], 0, hcs, ⟨none, 0, rfl, by decide, fun h0 => absurd h0 (by decide)⟩, Nat.le_refl _, fun z hz => by cases hz⟩
  · have hle : len ≤ zs.length := by rw [hz]; split <;> omega
    have hlen : (zs.take len).length = len := by rw [List.length_take]; omega
    have hb : zs.length * 8 ≤ 140737488351232 := by
      have := hr (((lits (H := H) .i64 (zs.take len)).length + (lits (H := H) .i64 (zs.drop len)).length) * Tryd.prog.bytesOf 3) (by rw [hx]; simp [DataW.weights, Tryd.underlying37])
      rw [bytes_int] at this
      simp only [lits, List.length_map, List.length_take, List.length_drop] at this
      have e : reachBytes = 140737488351232 := rfl
      omega
    refine ⟨some a, zs.take len, cap, by rw [hlen]; exact hcs, ⟨some a, cap, rfl, by omega, fun h0 => ?_⟩, by omega, fun z hz => hwz z (List.mem_of_mem_take hz)⟩
    rw [hlen] at h0
    obtain ⟨b, o, rfl, hlt⟩ := spot_none (hcell 0 (by omega))
    refine ⟨b, o, rfl, hlt, fun j hj => ?_⟩
    rw [hlen] at hj
    have := hcell j (by omega)
    rw [Addr.add_mid] at this
    rw [this]
    simp [List.getD, List.getElem?_take_of_lt hj]
end
end Go.Proofs.YtdpfpdpaamjefaaDoor
