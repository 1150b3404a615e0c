/- Lists' edits: the law's short; that it speaks. -/
import Derived.Test.YtjdlpcokjcmapaaLq
import Derived.Laws.StructEq
set_option linter.unusedVariables false
set_option linter.unusedSimpArgs false
namespace Go.Proofs.Ytjdlpcokjcmapaa
open Go.RowKit
variable {w w' : World}

theorem wpList_append_eq {P : Program} {w : World} {ops : Array Oper} {rest : List Oper} {o : Oper} {a : Act} {Q : Exit → Act → World → Prop} (hgd : o.guard = none) (s x : Operand) (t : TypeId)
    (ho : o.op = .call { callee := .builtin .append, args := #[s, x], argTypes := #[t, t] }) (vs vx : Value) (hs : a.eval s = vs) (hx : a.eval x = vx) (r : Value) (w2 : World)
    (hrun : (Builtin.append_ #[t, t] o.type #[vs, vx]).run P w = .ok r w2) (h : wpList P ops Q rest (a.put o.dst r) w2) : wpList P ops Q (o :: rest) a w := by
  refine wpList_plain hgd fun _ hK => ?_
  unfold Oper.wp execOp
  simp only [ho, resolve, invoke, builtin, Sem.run_bind, Sem.run_pure, Result.andThen_ok, List.map_toArray, List.map_cons, List.map_nil, hs, hx, hrun]
  exact hK _ _ h
/-- A copy of texts, onto an empty list of one's own. -/
theorem app_texts {o : Option Addr} {c : Nat} {l : List ByteArray} (h : TxAt w o l) (hl : l.length ≤ 100000) :
    ∃ v' w', (Builtin.append_ #[22, 22] 22 #[.slice (some ⟨w.heap.size, 0, none⟩) 0 0, .slice o l.length c]).run Try.prog (w.alloc (.cells #[] 9)) = .ok v' w' ∧ Below w.heap.size w w' ∧ w'.ownsRow w.heap.size 9 1 v' l.length (strV l) := by
  obtain ⟨i0, hi0, hz0, hs0, hy0⟩ := info_parts info_s
  have hB : Below w.heap.size w (w.alloc (.cells #[] 9)) := (Below.refl _ _).alloc (Nat.le_refl _) _
  have hown : (w.alloc (.cells #[] 9)).ownsRow w.heap.size 9 1 (.slice (some ⟨w.heap.size, 0, none⟩) 0 0) 0 [] := World.ownsRow_made w #[] 0 (Nat.le_refl _) (by decide) rfl
  by_cases h0 : 0 < l.length
  · obtain ⟨_, b, i, rfl, _⟩ := h 0 h0
    obtain ⟨g, cap, w', hr, h1, h2, h3, h4⟩ := run_append_lies (P := Try.prog) (w.alloc (.cells #[] 9)) 22 22 w.heap.size 9 i0 _ 1 16 Try.underlying22 hi0 hz0 hs0 hy0 rfl (by decide) _ 0 [] hown ⟨b, i, none⟩ l.length c (strV l) (by simp) (fun j u hu => by
      rw [List.getElem?_map] at hu
      obtain ⟨x, hx, rfl⟩ := Option.map_eq_some_iff.1 hu
      have hjl := (List.getElem?_eq_some_iff.1 hx).1
      obtain ⟨_, b', i', ho, hc⟩ := h j hjl
      injection ho with ho; injection ho with h1 h2; subst h1 h2
      rw [it_get hjl] at hx; injection hx with hx
      rw [Addr.add_mid, ← hx]
      exact (hB.cell (p := ⟨b, i + j, none⟩) (World.block_lt_of_cell? w _ hc)).trans hc) (by intro u hu; obtain ⟨x, _, rfl⟩ := List.mem_map.1 hu; rfl) h0 (by unfold maxLen; omega) (by omega) hB.size _ rfl
    rw [Nat.zero_add] at hr h1
    refine ⟨_, w', hr, hB.trans ⟨h2.os, h2.tape, h2.output, h2.size, fun k hk => h2.block k (Nat.lt_of_lt_of_le hk hB.size) (fun e => by have e2 : some k = some w.heap.size := e; injection e2 with e2; omega)⟩, ?_⟩
    rw [List.nil_append] at h1
    exact h1
  · have hz : l = [] := List.length_eq_zero_iff.1 (by omega)
    subst hz
    refine ⟨.slice (some ⟨w.heap.size, 0, none⟩) 0 0, _, ?_, hB, hown⟩
    cases o <;> simp [Builtin.append_, run_underlying Try.underlying22, sizeOf, typeInfo, hi0, Builtin.lenOf, Builtin.firstCells, hs0, storeCells, loadCells, loadCellsFrom]
theorem TxAt.take {o : Option Addr} {l : List ByteArray} (h : TxAt w o l) (k : Nat) : TxAt w o (l.take k) := fun j hj => by
  rw [List.length_take] at hj
  have e : itB (l.take k) j = itB l j := by unfold itB; rw [List.getD_eq_getElem?_getD, List.getD_eq_getElem?_getD, List.getElem?_take_of_lt (by omega)]
  rw [e]; exact h j (by omega)
end Go.Proofs.Ytjdlpcokjcmapaa
