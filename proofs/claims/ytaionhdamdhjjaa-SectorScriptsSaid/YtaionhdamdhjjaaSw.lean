/- Sector: what was synced lasts: the walk. -/
import Derived.Test.YtaionhdamdhjjaaSv
namespace Go.Proofs.Ytaionhdamdhjjaa
open Go.RowKit
variable {B n g gd gc cd cc : Nat} {vw vk : Value} {S : DS} {w : World}

/-- The power is on, no cut is pending, the row in use is the durable one with the writes over it. -/
structure Calm (S : DS) : Prop where
  off : S.off = false
  left : S.left = 0
  cur : S.cur = putW S.dur S.ws
theorem Calm.beg (h : Calm S) : begS S = (true, { S with done := S.done + 1, left := 0 }) := by
  unfold begS
  rw [if_neg (by rw [h.off]; decide), if_neg (by rw [h.left]; decide), h.left]
  rfl
theorem Calm.write (h : Calm S) (k : Nat) (s : ByteArray) : Calm (writeS k s S).2 := by
  unfold writeS
  rw [h.beg, if_pos rfl]
  refine ⟨h.off, rfl, ?_⟩
  show S.cur.set k (padB s) = putW S.dur (S.ws ++ [(k, padB s)])
  rw [h.cur]
  unfold putW
  rw [List.foldl_append]; rfl
theorem Calm.sync (h : Calm S) : syncS S = (0, { S with done := S.done + 1, left := 0, dur := S.cur, ws := [] }) := by
  unfold syncS
  rw [h.beg, if_pos rfl, h.cur]
theorem Calm.new (n : Nat) : Calm (newS n) := ⟨rfl, rfl, rfl⟩
theorem keep_all (ws : List (Nat × ByteArray)) (lost : Nat → Int → Bool) (h : ∀ k i, lost k i = false) : ∀ k, keepTo lost ws k = ws.take k := by
  intro k
  unfold keepTo
  have : (ws.take k).zipIdx.filter (fun q => !lost q.2 (q.1.1 : Int)) = (ws.take k).zipIdx := List.filter_eq_self.2 fun q _ => by rw [h]; rfl
  rw [this, List.zipIdx_map_fst]
theorem lost13 (k : Nat) : lostB [1, 3] k = false := by
  unfold lostB
  have : k % ([1, 3] : List Int).length < 2 := Nat.mod_lt _ (by decide)
  rcases (show k % ([1, 3] : List Int).length = 0 ∨ k % ([1, 3] : List Int).length = 1 by omega) with h | h <;> rw [h] <;> rfl
theorem Calm.crash13 (h : Calm S) : (crashS [1, 3] S).cur = S.cur := by
  show putW S.dur (keepTo (fun k _ => lostB [1, 3] k) S.ws S.ws.length) = _
  rw [keep_all _ _ (fun k _ => lost13 k), List.take_length, h.cur]
theorem crash_none (zs : List Int) (h : S.ws = []) : (crashS zs S).cur = S.dur ∧ (crashS zs S).dur = S.dur := by
  have e : putW S.dur (keepTo (fun k _ => lostB zs k) S.ws S.ws.length) = S.dur := by rw [h]; rfl
  exact ⟨e, e⟩
/-- The value v is a list of ints. -/
def IsInts (w : World) (v : Value) (zs : List Int) : Prop :=
  ∃ a c, v = .slice a zs.length c ∧ zs.length ≤ 17592186044415 ∧ (0 < zs.length → ∃ b o, a = some ⟨b, o, none⟩ ∧ b < w.heap.size ∧ ∀ j, j < zs.length → w.cell? ⟨b, o + j, none⟩ = some (.int .i64 (zs.getD j 0)))
theorem IsInts.below {v : Value} {zs : List Int} {w' : World} (h : IsInts w v zs) (hb : Below w.heap.size w w') : IsInts w' v zs := by
  obtain ⟨a, c, h1, h2, h3⟩ := h
  exact ⟨a, c, h1, h2, fun h0 => by
    obtain ⟨b, o, h4, h5, h6⟩ := h3 h0
    exact ⟨b, o, h4, Nat.lt_of_lt_of_le h5 hb.size, fun j hj => cell_below hb (h6 j hj)⟩⟩
theorem info_int : (Try.prog.info? 3).map (fun i => (i.zero, i.size, i.bytes)) = some (some (.int .i64 0), 1, 8) := by kernel_rfl
theorem wpList_append_eq {P : Program} {w : World} {ops : Array Oper} {rest : List Oper} {o : Oper} {a : Act} {Q : Exit → Act → World → Prop} (hgd : o.guard = none) (s x : Operand) (t : TypeId)
    (ho : o.op = .call { callee := .builtin .append, args := #[s, x], argTypes := #[t, t] }) (vs vx : Value) (hs : a.eval s = vs) (hx : a.eval x = vx) (r : Value) (w2 : World)
    (hrun : (Builtin.append_ #[t, t] o.type #[vs, vx]).run P w = .ok r w2) (h : wpList P ops Q rest (a.put o.dst r) w2) : wpList P ops Q (o :: rest) a w := by
  refine wpList_plain hgd fun _ hK => ?_
  unfold Oper.wp execOp
  simp only [ho, resolve, invoke, builtin, Sem.run_bind, Sem.run_pure, Result.andThen_ok, List.map_toArray, List.map_cons, List.map_nil, hs, hx, hrun]
  exact hK _ _ h
/-- A copy of a list of ints. -/
theorem app_ints {v : Value} {zs : List Int} (h : IsInts w v zs) :
    ∃ v' w', (Builtin.append_ #[30, 30] 30 #[.slice (some ⟨w.heap.size, 0, none⟩) 0 0, v]).run Try.prog (w.alloc (.cells #[] 3)) = .ok v' w' ∧ Below w.heap.size w w' ∧ ((zs = [] ∧ ∃ a c, v' = .slice a 0 c) ∨ ∃ b c, v' = .slice (some ⟨b, 0, none⟩) zs.length c ∧ 0 < zs.length ∧ w.heap.size ≤ b ∧ ∀ j, j < zs.length → w'.cell? ⟨b, 0 + j, none⟩ = some (.int .i64 (zs.getD j 0))) := by
  obtain ⟨a, c, rfl, hm, hc⟩ := h
  obtain ⟨i0, hi0, hz0, hs0, hy0⟩ := info_parts info_int
  have hB : Below w.heap.size w (w.alloc (.cells #[] 3)) := (Below.refl _ _).alloc (Nat.le_refl _) _
  have hown : (w.alloc (.cells #[] 3)).ownsRow w.heap.size 3 1 (.slice (some ⟨w.heap.size, 0, none⟩) 0 0) 0 [] := World.ownsRow_made w #[] 0 (Nat.le_refl _) (by decide) rfl
  by_cases h0 : 0 < zs.length
  · obtain ⟨b, o, rfl, hb, hj⟩ := hc h0
    obtain ⟨g, cap, w', hr, h1, h2, h3, h4⟩ := run_append_lies (P := Try.prog) (w.alloc (.cells #[] 3)) 30 30 w.heap.size 3 i0 _ 1 8 Try.underlying30 hi0 hz0 hs0 hy0 rfl (by decide) _ 0 [] hown ⟨b, o, none⟩ zs.length c (zs.map (Value.int .i64)) (by simp) (fun j u hu => by
      rw [List.getElem?_map] at hu
      obtain ⟨x, hx, rfl⟩ := Option.map_eq_some_iff.1 hu
      have hjl := (List.getElem?_eq_some_iff.1 hx).1
      have := hj j hjl
      rw [List.getD_eq_getElem?_getD, hx] at this
      rw [Addr.add_mid]
      exact cell_below hB this) (by intro u hu; obtain ⟨x, _, rfl⟩ := List.mem_map.1 hu; rfl) h0 (by unfold maxLen; omega) (by omega) hB.size _ rfl
    rw [Nat.zero_add] at hr h1
    refine ⟨_, w', hr, hB.trans ⟨h2.os, h2.tape, h2.output, h2.size, fun k hk => h2.block k (Nat.lt_of_lt_of_le hk hB.size) (fun e => by have e2 : some k = some w.heap.size := e; injection e2 with e2; omega)⟩, .inr ⟨g, cap, rfl, h0, ?_, fun j hjl => ?_⟩⟩
    · exact (h1.lt g rfl).1
    · have := h1.cells (g := g) rfl j (.int .i64 (zs.getD j 0)) (by rw [List.nil_append, List.getElem?_map, List.getD_eq_getElem?_getD, List.getElem?_eq_getElem hjl]; rfl)
      rw [addr_at] at this
      rw [Nat.zero_add]; exact this
  · have hz : zs = [] := by
      cases zs with
      | nil => rfl
      | cons x l => simp at h0
    subst hz
    refine ⟨.slice (some ⟨w.heap.size, 0, none⟩) 0 0, _, ?_, hB, .inl ⟨rfl, _, _, rfl⟩⟩
    cases a <;> simp [Builtin.append_, run_underlying Try.underlying30, sizeOf, typeInfo, hi0, Builtin.lenOf, Builtin.firstCells, hs0, storeCells, loadCells, loadCellsFrom]
end Go.Proofs.Ytaionhdamdhjjaa
