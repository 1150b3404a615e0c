/- Sector: rows of pairs; which writes are kept; laws on an append of a pair with room, and on clear. -/
import Derived.Test.YtaionhdamdhjjaaSh
import Derived.Laws.CopyOwn
namespace Go.Proofs.Ytaionhdamdhjjaa
open Go.RowKit

/-- The cells of a row of writes. -/
def flat (ws : List (Nat × ByteArray)) : List Value := ws.flatMap fun p => [Value.int .i64 (p.1 : Int), Value.string p.2]
theorem flat_length (ws : List (Nat × ByteArray)) : (flat ws).length = 2 * ws.length := by
  unfold flat
  induction ws with
  | nil => rfl
  | cons p ws ih => rw [List.flatMap_cons, List.length_append, ih, List.length_cons]; simp; omega
theorem flat_append (a b : List (Nat × ByteArray)) : flat (a ++ b) = flat a ++ flat b := by unfold flat; rw [List.flatMap_append]
theorem flat_one (p : Nat × ByteArray) : flat [p] = [Value.int .i64 (p.1 : Int), Value.string p.2] := rfl
theorem flat_get (ws : List (Nat × ByteArray)) (k : Nat) (p : Nat × ByteArray) (h : ws[k]? = some p) : (flat ws)[2 * k]? = some (.int .i64 (p.1 : Int)) ∧ (flat ws)[2 * k + 1]? = some (.string p.2) := by
  induction ws generalizing k with
  | nil => simp at h
  | cons q ws ih =>
    have e : flat (q :: ws) = Value.int .i64 (q.1 : Int) :: Value.string q.2 :: flat ws := rfl
    rw [e]
    cases k with
    | zero => simp at h; subst h; exact ⟨rfl, rfl⟩
    | succ k =>
      rw [List.getElem?_cons_succ] at h
      have := ih k h
      rw [show 2 * (k + 1) = 2 * k + 1 + 1 by omega]
      simpa only [List.getElem?_cons_succ] using this
/-- Of the first k writes those that aren't lost. -/
def keepTo (lost : Nat → Int → Bool) (ws : List (Nat × ByteArray)) (k : Nat) : List (Nat × ByteArray) := ((ws.take k).zipIdx.filter fun q => !lost q.2 (q.1.1 : Int)).map (·.1)
theorem keepTo_succ (lost : Nat → Int → Bool) (ws : List (Nat × ByteArray)) (k : Nat) (p : Nat × ByteArray) (h : ws[k]? = some p) : keepTo lost ws (k + 1) = keepTo lost ws k ++ (if lost k (p.1 : Int) then [] else [p]) := by
  have hk : k < ws.length := (List.getElem?_eq_some_iff.1 h).1
  have hl : (ws.take k).length = k := by rw [List.length_take]; omega
  unfold keepTo
  rw [List.take_add_one, h, Option.toList_some, List.zipIdx_append, List.filter_append, List.map_append, hl]
  congr 1
  by_cases c : lost k (p.1 : Int) = true
  · simp [c]
  · simp [c]
theorem keepTo_length (lost : Nat → Int → Bool) (ws : List (Nat × ByteArray)) (k : Nat) : (keepTo lost ws k).length ≤ k := by
  unfold keepTo
  rw [List.length_map]
  refine Nat.le_trans (List.length_filter_le _ _) ?_
  rw [List.length_zipIdx, List.length_take]
  omega
theorem keepTo_mem (lost : Nat → Int → Bool) (ws : List (Nat × ByteArray)) (k : Nat) (p : Nat × ByteArray) (h : p ∈ keepTo lost ws k) : p ∈ ws := by
  unfold keepTo at h
  obtain ⟨q, hq, rfl⟩ := List.mem_map.1 h
  have := (List.mem_filter.1 hq).1
  obtain ⟨a, b⟩ := q
  have h2 := List.mem_zipIdx this
  have : a ∈ ws.take k := by rw [h2.2.2]; exact List.getElem_mem _
  exact List.mem_of_mem_take this

theorem wpList_append_pair {P : Program} (w : World) {ops : Array Oper} {rest : List Oper} {o : Oper} {a : Act} {Q : Exit → Act → World → Prop} (hgd : o.guard = none) (s x : Operand) (t : TypeId)
    (ho : o.op = .call { callee := .builtin .append, args := #[s, x], argTypes := #[t, t] })
    (e : TypeId) (i : TypeInfo) (ht : P.underlying t = some (.slice e)) (hi : P.info? e = some i) (hsz : i.size = 2)
    (g sLen sCap : Nat) (cur : Array Value) (hg : w.heap[g]? = some (.cells cur e (0, 0))) (hs : a.eval s = .slice (some ⟨g, 0, none⟩) sLen sCap)
    (ad : Addr) (c : Nat) (u v : Value) (hx : a.eval x = .slice (some ad) 1 c) (h0 : w.cell? (ad.add 0) = some u) (h1 : w.cell? (ad.add 1) = some v) (hu : u.oneCell' = true) (hv : v.oneCell' = true)
    (hroom : sLen + 1 ≤ sCap) (hfit : sLen * 2 + 2 ≤ cur.size)
    (h : wpList P ops Q rest (a.put o.dst (.slice (some ⟨g, 0, none⟩) (sLen + 1) sCap)) (w.setRow g (cur.toList.take (sLen * 2) ++ [u, v] ++ cur.toList.drop (sLen * 2 + 2)).toArray)) : wpList P ops Q (o :: rest) a w := by
  refine wpList_plain hgd fun _ hK => ?_
  have hr := run_append_room (P := P) w t o.type e i ht hi g sLen sCap cur hg ad 1 c [u, v] (by simp [hsz]) (fun j y hy => by
    match j, hy with
    | 0, hy => simp at hy; subst hy; exact h0
    | 1, hy => simp at hy; subst hy; exact h1) (by intro y hy; simp at hy; rcases hy with rfl | rfl <;> assumption) hroom (by rw [hsz]; simpa using hfit)
  rw [hsz] at hr
  unfold Oper.wp execOp
  simp only [ho, resolve, invoke, builtin, Sem.run_bind, Sem.run_pure, Result.andThen_ok, List.map_toArray, List.map_cons, List.map_nil, hs, hx, hr]
  exact hK _ _ h
/-- 'clear' of a piece of a row. -/
theorem run_clear_row {P : Program} (w : World) (t e : TypeId) (z : Value) (ht : P.underlying t = some (.slice e)) (hv : ∀ w, (zeroValue e).run P w = .ok z w) (hz2 : z.cells.size = 2) (h1 : ∀ u ∈ z.cells, u.oneCell' = true)
    (g o n c : Nat) (hn : 0 < n) (cur : Array Value) (t' : TypeId) (hg : w.heap[g]? = some (.cells cur t' (0, 0))) (hfit : o + n * 2 ≤ cur.size) :
    ∃ vs : List Value, vs.length = n * 2 ∧ ∀ ty, (Builtin.clear_ #[t] ty #[.slice (some ⟨g, o, none⟩) n c]).run P w = .ok (.tuple #[]) (w.setRow g (cur.toList.take o ++ vs ++ cur.toList.drop (o + n * 2)).toArray) := by
  have hl : (Builtin.zeroCells z.cells n).toList.length = n * 2 := by simp [Builtin.zeroCells, hz2]
  have hst := run_storeCells_at P g o t' (Builtin.zeroCells z.cells n).toList 0 cur w hg (by rw [hl]; simpa using hfit) (by
    intro u hu
    simp only [Builtin.zeroCells, Array.toList_map, List.mem_map] at hu
    obtain ⟨i, _, rfl⟩ := hu
    have : i % z.cells.size < z.cells.size := Nat.mod_lt _ (by omega)
    rw [getElem!_pos z.cells (i % z.cells.size) this]
    exact h1 _ (Array.getElem_mem _))
  rw [hl] at hst
  simp only [Nat.add_zero] at hst
  refine ⟨_, hl, fun ty => ?_⟩
  obtain ⟨m, rfl⟩ : ∃ m, n = m + 1 := ⟨n - 1, by omega⟩
  simp [Builtin.clear_, run_underlying ht, hv, hst]
theorem run_clear_none {P : Program} (w : World) (t e : TypeId) (ht : P.underlying t = some (.slice e)) (a : Option Addr) (c : Nat) (ty : TypeId) :
    (Builtin.clear_ #[t] ty #[.slice a 0 c]).run P w = .ok (.tuple #[]) w := by
  cases a <;> simp [Builtin.clear_, run_underlying ht]
/-- One pair more at the end of what is kept. -/
theorem om_list (L : List Value) (j k : Nat) (u v : Value) (h : j ≤ k) (hl : j * 2 + 2 ≤ L.length) :
    (L.take (j * 2) ++ [u, v] ++ L.drop (j * 2 + 2)).take ((j + 1) * 2) = L.take (j * 2) ++ [u, v] ∧ (L.take (j * 2) ++ [u, v] ++ L.drop (j * 2 + 2)).drop (2 * (k + 1)) = L.drop (2 * (k + 1)) ∧ (L.take (j * 2) ++ [u, v] ++ L.drop (j * 2 + 2)).length = L.length := by
  have hlen : (L.take (j * 2) ++ [u, v]).length = (j + 1) * 2 := by simp; omega
  refine ⟨?_, ?_, ?_⟩
  · rw [List.take_append_of_le_length (by omega), List.take_of_length_le (by omega)]
  · rw [List.drop_append, List.drop_eq_nil_of_le (by omega), List.nil_append, hlen, List.drop_drop]
    congr 1; omega
  · simp; omega
theorem Kept2.below {B g gd : Nat} {w w1 w2 : World} (h : Kept2 B g gd w w1) (hB : B ≤ w1.heap.size) (hb : Below w1.heap.size w1 w2) : Kept2 B g gd w w2 :=
  ⟨h.1.trans (hb.mono hB), Nat.le_trans h.2.1 hb.size, fun b hb' h1 h2 => (hb.block b (Nat.lt_of_lt_of_le hb' h.2.1)).trans (h.2.2 b hb' h1 h2)⟩
theorem Kept2.row {B g gd : Nat} {w w1 : World} (h : Kept2 B g gd w w1) (hB : B ≤ gd) (cs : Array Value) : Kept2 B g gd w (w1.setRow gd cs) :=
  ⟨below_setRow h.1 hB cs, by rw [setRow_size]; exact h.2.1, fun b hb' h1 h2 => (setRow_other w1 gd b cs h2).trans (h.2.2 b hb' h1 h2)⟩
theorem Kept2.mix {B g gd : Nat} {w w1 : World} (h : Kept2 B gd gd w w1) : Kept2 B g gd w w1 := ⟨h.1, h.2.1, fun b hb _ h2 => h.2.2 b hb h2 h2⟩
theorem cell_below {w w' : World} {g i : Nat} {v : Value} (hb : Below w.heap.size w w') (h : w.cell? ⟨g, i, none⟩ = some v) : w'.cell? ⟨g, i, none⟩ = some v :=
  (World.cell?_of_block (a := ⟨g, i, none⟩) (hb.block g (World.block_lt_of_cell? w _ h))).trans h
end Go.Proofs.Ytaionhdamdhjjaa
