/- Merges: rows of pairs; the law's pairs, which makes both. -/
import Derived.Test.YtbegjgceemffcaaPd
import Derived.RangeFuncBox
namespace Go.Proofs.Ytbegjgceemffcaa
open Go.RowKit

/-- The cells of a row of pairs. -/
def flatP (l : List PairB) : List Value := l.flatMap fun p => [Value.string p.1, Value.string p.2]
theorem flatP_length (l : List PairB) : (flatP l).length = l.length * 2 := by
  unfold flatP
  induction l with
  | nil => rfl
  | cons p l ih => rw [List.flatMap_cons, List.length_append, ih, List.length_cons]; simp; omega
theorem flatP_snoc (l : List PairB) (p : PairB) : flatP (l ++ [p]) = flatP l ++ [Value.string p.1, Value.string p.2] := by unfold flatP; rw [List.flatMap_append]; rfl
theorem flatP_get : ∀ (l : List PairB) (k : Nat) (p : PairB), l[k]? = some p → (flatP l)[k * 2]? = some (.string p.1) ∧ (flatP l)[k * 2 + 1]? = some (.string p.2)
  | [], k, p, h => by simp at h
  | q :: l, 0, p, h => by simp at h; subst h; exact ⟨rfl, rfl⟩
  | q :: l, k + 1, p, h => by
    rw [List.getElem?_cons_succ] at h
    have := flatP_get l k p h
    have e : flatP (q :: l) = Value.string q.1 :: Value.string q.2 :: flatP l := rfl
    rw [e, show (k + 1) * 2 = k * 2 + 1 + 1 by omega]
    simpa only [List.getElem?_cons_succ] using this
/-- A slice's pairs, in its row of type t. -/
def PrAt (w : World) (t : TypeId) (o : Option Addr) (l : List PairB) : Prop :=
  ∀ k p, l[k]? = some p → ∃ g cur, o = some ⟨g, 0, none⟩ ∧ w.heap[g]? = some (.cells cur t (0, 0)) ∧ w.cell? ⟨g, k * 2, none⟩ = some (.string p.1) ∧ w.cell? ⟨g, k * 2 + 1, none⟩ = some (.string p.2)
theorem PrAt.same {w w' : World} {t : TypeId} {o : Option Addr} {l : List PairB} (h : PrAt w t o l) (hb : ∀ g cur, o = some ⟨g, 0, none⟩ → w.heap[g]? = some (.cells cur t (0, 0)) → w'.heap[g]? = w.heap[g]?) : PrAt w' t o l := fun k p hp => by
  obtain ⟨b, cur, h1, h2, h3, h4⟩ := h k p hp
  have e := hb b cur h1 h2
  refine ⟨b, cur, h1, e.trans h2, ?_, ?_⟩
  · unfold World.cell? at h3 ⊢; simp only [e]; exact h3
  · unfold World.cell? at h4 ⊢; simp only [e]; exact h4
theorem lt_of_some {w : World} {g : Nat} {o : Obj} (h : w.heap[g]? = some o) : g < w.heap.size := (Array.getElem?_eq_some_iff.1 h).1
theorem PrAt.below {w w' : World} {t : TypeId} {o : Option Addr} {l : List PairB} (h : PrAt w t o l) (hb : Below w.heap.size w w') : PrAt w' t o l := h.same fun _ _ _ h2 => hb.block _ (lt_of_some h2)
theorem addr_at (g j : Nat) : ((⟨g, 0, none⟩ : Addr).add j) = ⟨g, j, none⟩ := by unfold Addr.add; split <;> simp_all
theorem cell_of_row {w : World} {g : Nat} {cur : Array Value} {t : TypeId} {x : Nat × Nat} {j : Nat} (h : w.heap[g]? = some (.cells cur t x)) : w.cell? ⟨g, j, none⟩ = cur[j]? := by
  unfold World.cell?; simp only [h]; rfl
/-- What a row of one's own holds. -/
theorem own_pairs {w : World} {B : Nat} {t : TypeId} {v : Value} {l : List PairB} (h : w.ownsRow B t 2 v l.length (flatP l)) : ∃ o cap, v = .slice o l.length cap ∧ PrAt w t o l := by
  rcases h.2 with ⟨h1, h2⟩ | ⟨g, cap, cur, h1, _, hg, hn, _, hz, ht⟩
  · exact ⟨none, 0, by rw [h1, h2], fun k p hp => by have := (List.getElem?_eq_some_iff.1 hp).1; omega⟩
  · refine ⟨some ⟨g, 0, none⟩, cap, h1, fun k p hp => ⟨g, cur, rfl, hg, ?_, ?_⟩⟩
    · have h3 := (flatP_get l k p hp).1
      have hk := (List.getElem?_eq_some_iff.1 hp).1
      rw [← ht, List.getElem?_take, if_pos (by omega), Array.getElem?_toList] at h3
      rw [cell_of_row hg]; exact h3
    · have h3 := (flatP_get l k p hp).2
      have hk := (List.getElem?_eq_some_iff.1 hp).1
      rw [← ht, List.getElem?_take, if_pos (by omega), Array.getElem?_toList] at h3
      rw [cell_of_row hg]; exact h3
theorem own_below {w w' : World} {B : Nat} {e : TypeId} {size : Nat} {v : Value} {n : Nat} {xs : List Value} (h : w.ownsRow B e size v n xs) (hb : Below w.heap.size w w') : w'.ownsRow B e size v n xs := by
  refine ⟨h.1, ?_⟩
  rcases h.2 with hv | ⟨g, cap, cur, hv, hB, hg, r⟩
  · exact .inl hv
  · exact .inr ⟨g, cap, cur, hv, hB, (hb.block g (lt_of_some hg)).trans hg, r⟩

/-- The pairs that come in: rows of two texts, one behind the other. -/
def InAt (w : World) (o : Option Addr) (l : List PairB) : Prop :=
  ∀ k p, l[k]? = some p → ∃ b i, o = some ⟨b, i, none⟩ ∧ w.cell? ⟨b, i + k * 2, none⟩ = some (.string p.1) ∧ w.cell? ⟨b, i + k * 2 + 1, none⟩ = some (.string p.2)
theorem below_drewN {B : Nat} {a w : World} (h : Below B a w) (n : Nat) : Below B a (w.drewN n) := ⟨h.os, h.tape, h.output, h.size, h.block⟩
theorem cell_two_new (w : World) (t : TypeId) (a b : Value) : ∀ (j : Nat) (u : Value), [a, b][j]? = some u → (w.alloc (.cells #[a, b] t)).cell? ((⟨w.heap.size, 0, none⟩ : Addr).add j) = some u := fun j u h => by
  have hg : (w.alloc (.cells #[a, b] t)).heap[w.heap.size]? = some (.cells #[a, b] t (0, 0)) := World.alloc_heap_new w _
  rw [addr_at, cell_of_row hg]
  match j, h with
  | 0, h => exact h
  | 1, h => exact h
theorem row_apart {w : World} {B B' : Nat} {t t' : TypeId} {v v' : Value} {n n' s s' : Nat} {xs ys : List Value} (h : w.ownsRow B t s v n xs) (h' : w.ownsRow B' t' s' v' n' ys) (hne : t ≠ t') : v.ownBlock = none ∨ v.ownBlock ≠ v'.ownBlock := by
  rcases h.2 with ⟨h1, _⟩ | ⟨g, cap, cur, h1, _, hg, _⟩
  · exact .inl (by rw [h1]; rfl)
  · right
    subst h1
    rcases h'.2 with ⟨h2, _⟩ | ⟨g', cap', cur', h2, _, hg', _⟩
    · subst h2; simp [Value.ownBlock]
    · subst h2
      intro e
      have : g = g' := by simpa [Value.ownBlock] using e
      subst this
      rw [hg] at hg'
      injection hg' with hg'; injection hg' with _ h3
      exact hne h3
theorem own_base {w : World} {B : Nat} {t : TypeId} {v : Value} {n s : Nat} {xs : List Value} (h : w.ownsRow B t s v n xs) : ∀ k, v.ownBlock = some k → B ≤ k := fun k hk => by
  rcases h.2 with ⟨h1, _⟩ | ⟨g, cap, cur, h1, hB, _⟩
  · rw [h1] at hk; cases hk
  · rw [h1] at hk
    have : g = k := by simpa [Value.ownBlock] using hk
    omega
theorem flatP_take (l : List PairB) (k : Nat) (p : PairB) (h : l[k]? = some p) : flatP (l.take (k + 1)) = flatP (l.take k) ++ [Value.string p.1, Value.string p.2] := by
  rw [List.take_add_one, h, Option.toList_some, flatP_snoc]
theorem two_mem {a b : ByteArray} : ∀ u ∈ [Value.string a, Value.string b], u.oneCell' = true := by
  intro u hu; simp at hu; rcases hu with rfl | rfl <;> rfl
end Go.Proofs.Ytbegjgceemffcaa
