/- Sector: a row of strings that is written in place; a row of writes. -/
import Derived.Test.YtaionhdamdhjjaaSc
namespace Go.Proofs.Ytaionhdamdhjjaa
open Go.RowKit

/-- The block at g begins with the strings of l. -/
def RowS (g : Nat) (l : List ByteArray) (w : World) : Prop := ∃ cur : Array Value, w.heap[g]? = some (.cells cur 9 (0, 0)) ∧ ∀ (i : Nat) (s : ByteArray), l[i]? = some s → cur[i]? = some (Value.string s)
theorem RowS.cell {g : Nat} {l : List ByteArray} {w : World} (h : RowS g l w) (i : Nat) (s : ByteArray) (hs : l[i]? = some s) : w.cell? ⟨g, i, none⟩ = some (.string s) := by
  obtain ⟨cur, h1, h2⟩ := h
  unfold World.cell?
  simp only [h1]
  exact h2 i s hs
theorem RowS.free {g : Nat} {l : List ByteArray} {w : World} (h : RowS g l w) (i : Nat) : w.frozen? ⟨g, i, none⟩ = false := by
  obtain ⟨cur, h1, _⟩ := h
  simp [World.frozen?, h1]
theorem RowS.lt {g : Nat} {l : List ByteArray} {w : World} (h : RowS g l w) : g < w.heap.size := by
  obtain ⟨cur, h1, _⟩ := h
  exact (Array.getElem?_eq_some_iff.1 h1).1
theorem RowS.below {g : Nat} {l : List ByteArray} {w w' : World} (h : RowS g l w) (hb : Below w.heap.size w w') : RowS g l w' := by
  have hl := h.lt
  obtain ⟨cur, h1, h2⟩ := h
  exact ⟨cur, (hb.block g hl).trans h1, h2⟩
theorem RowS.same {g : Nat} {l : List ByteArray} {w w' : World} (h : RowS g l w) (hb : w'.heap[g]? = w.heap[g]?) : RowS g l w' := by
  obtain ⟨cur, h1, h2⟩ := h
  exact ⟨cur, hb.trans h1, h2⟩
theorem RowS.set {g : Nat} {l : List ByteArray} {w : World} (h : RowS g l w) (k : Nat) (s : ByteArray) : RowS g (l.set k s) (w.setCell ⟨g, k, none⟩ (.string s)) := by
  obtain ⟨cur, h1, h2⟩ := h
  refine ⟨cur.setIfInBounds k (.string s), ?_, fun i x hx => ?_⟩
  · show (w.heap.modify g _)[g]? = _
    rw [Array.getElem?_modify, if_pos rfl, h1]
    rfl
  · rw [List.getElem?_set] at hx
    rw [Array.getElem?_setIfInBounds]
    by_cases e : k = i
    · subst e
      rw [if_pos rfl] at hx ⊢
      by_cases hk : k < l.length
      · rw [if_pos hk] at hx
        injection hx with hx
        have : k < cur.size := by
          obtain ⟨y, hy⟩ : ∃ y, l[k]? = some y := ⟨_, List.getElem?_eq_getElem hk⟩
          exact (Array.getElem?_eq_some_iff.1 (h2 k y hy)).1
        rw [if_pos this, hx]
      · rw [if_neg hk] at hx; cases hx
    · rw [if_neg e] at hx ⊢
      exact h2 i x hx
/-- The cells of the block at g are the writes ws, a pair each. -/
def WrAt (g : Nat) (ws : List (Nat × ByteArray)) (w : World) : Prop := ∀ (j : Nat) (p : Nat × ByteArray), ws[j]? = some p → w.cell? ⟨g, 2 * j, none⟩ = some (.int .i64 p.1) ∧ w.cell? ⟨g, 2 * j + 1, none⟩ = some (.string p.2)
/-- The writes, in their order, over a row. -/
def putW (l : List ByteArray) (ws : List (Nat × ByteArray)) : List ByteArray := ws.foldl (fun l p => l.set p.1 p.2) l
theorem putW_length (l : List ByteArray) (ws : List (Nat × ByteArray)) : (putW l ws).length = l.length := by
  unfold putW
  induction ws generalizing l with
  | nil => rfl
  | cons p ws ih => rw [List.foldl_cons, ih, List.length_set]
theorem putW_take (l : List ByteArray) (ws : List (Nat × ByteArray)) (k : Nat) (p : Nat × ByteArray) (h : ws[k]? = some p) : putW l (ws.take (k + 1)) = (putW l (ws.take k)).set p.1 p.2 := by
  unfold putW
  rw [List.take_add_one, h, List.foldl_append]
  rfl
theorem addr_at (g i : Nat) : (⟨g, 0, none⟩ : Addr).add i = ⟨g, i, none⟩ := by unfold Addr.add; split <;> simp_all
/-- The row of a slice that the call itself made is such a row. -/
theorem RowS.own {w : World} {B n : Nat} {v : Value} {l : List ByteArray} (h : w.ownsRow B 9 1 v n (l.map Value.string)) (hn : 0 < n) : ∃ g cap, v = .slice (some ⟨g, 0, none⟩) n cap ∧ B ≤ g ∧ RowS g l w := by
  rcases h.2 with ⟨hv, h0⟩ | ⟨g, cap, cur, hv, hB, hg, hr⟩
  · omega
  · refine ⟨g, cap, hv, hB, cur, hg, fun i s hs => ?_⟩
    have := h.cells (g := g) (by rw [hv]; rfl) i (.string s) (by rw [List.getElem?_map, hs]; rfl)
    rw [addr_at] at this
    unfold World.cell? at this
    simpa [hg] using this
end Go.Proofs.Ytaionhdamdhjjaa
