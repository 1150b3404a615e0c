/- Sector: what a sector may hold: lists of strings in an array of four. -/
import Derived.Test.YtppnaajeogkkeaaTo
import Derived.Deep.AppendLies
namespace Go.Proofs.Ytppnaajeogkkeaa
open Go.RowKit
variable {B n g gd gc cd cc : Nat} {vw vk : Value} {S : DS} {w : World}

/-- What sector s held, and every write to it. -/
def hist (C : List ByteArray) (ws : List (Nat × ByteArray)) (s : Nat) : List ByteArray := C.getD s ⟨#[]⟩ :: (ws.filter fun p => p.1 == s).map (·.2)
theorem hist_append (C : List ByteArray) (ws : List (Nat × ByteArray)) (k : Nat) (x : ByteArray) (s : Nat) : hist C (ws ++ [(k, x)]) s = if s = k then hist C ws k ++ [x] else hist C ws s := by
  unfold hist
  rw [List.filter_append, List.map_append]
  by_cases h : s = k
  · subst h
    rw [if_pos rfl, List.filter_cons_of_pos (by simp)]; rfl
  · rw [if_neg h, List.filter_cons_of_neg (by simp; omega)]; simp
theorem putW_mem (s : Nat) (H : List ByteArray) : ∀ (ks : List (Nat × ByteArray)) (L : List ByteArray), L.getD s ⟨#[]⟩ ∈ H → (∀ p ∈ ks, p.1 = s → p.2 ∈ H) → (putW L ks).getD s ⟨#[]⟩ ∈ H
  | [], L, h, _ => h
  | p :: ks, L, h, hk => by
    show (putW (L.set p.1 p.2) ks).getD s ⟨#[]⟩ ∈ H
    refine putW_mem s H ks _ ?_ (fun q hq => hk q (List.mem_cons_of_mem _ hq))
    rw [List.getD_eq_getElem?_getD, List.getElem?_set]
    by_cases e : p.1 = s
    · rw [if_pos e]
      split
      · exact hk p List.mem_cons_self e
      · rw [List.getD_eq_getElem?_getD, ← e] at h
        rename_i hn
        rw [List.getElem?_eq_none (by omega)] at h
        exact h
    · rw [if_neg e, ← List.getD_eq_getElem?_getD]; exact h
theorem kept_hist (C : List ByteArray) (ws ks : List (Nat × ByteArray)) (s : Nat) (h : ∀ p ∈ ks, p ∈ ws) : (putW C ks).getD s ⟨#[]⟩ ∈ hist C ws s :=
  putW_mem s _ ks C List.mem_cons_self fun p hp he => List.mem_cons_of_mem _ (List.mem_map.2 ⟨p, List.mem_filter.2 ⟨h p hp, by simp [he]⟩, rfl⟩)
theorem putW_last (s : Nat) : ∀ (ws : List (Nat × ByteArray)) (C : List ByteArray) (H : List ByteArray), s < C.length → H.getLast? = some (C.getD s ⟨#[]⟩) → (H ++ (ws.filter fun p => p.1 == s).map (·.2)).getLast? = some ((putW C ws).getD s ⟨#[]⟩)
  | [], C, H, _, h => by simpa [putW] using h
  | p :: ws, C, H, hs, h => by
    show _ = some ((putW (C.set p.1 p.2) ws).getD s ⟨#[]⟩)
    by_cases e : p.1 = s
    · rw [List.filter_cons_of_pos (by simp [e]), List.map_cons, show H ++ p.2 :: (ws.filter fun p => p.1 == s).map (·.2) = (H ++ [p.2]) ++ (ws.filter fun p => p.1 == s).map (·.2) by simp]
      refine putW_last s ws _ _ (by rw [List.length_set]; exact hs) ?_
      rw [List.getD_eq_getElem?_getD, List.getElem?_set, if_pos e, if_pos (by omega)]
      simp
    · rw [List.filter_cons_of_neg (by simpa using e)]
      refine putW_last s ws _ _ (by rw [List.length_set]; exact hs) ?_
      rw [List.getD_eq_getElem?_getD, List.getElem?_set, if_neg e, ← List.getD_eq_getElem?_getD]; exact h
theorem hist_last (C : List ByteArray) (ws : List (Nat × ByteArray)) (s : Nat) (hs : s < C.length) : (hist C ws s)[(hist C ws s).length - 1]? = some ((putW C ws).getD s ⟨#[]⟩) := by
  rw [← List.getLast?_eq_getElem?]
  exact putW_last s ws C [C.getD s ⟨#[]⟩] hs rfl

/-- The block at gm is an array of four lists of strings. -/
structure MayAt (B gm : Nat) (V : Nat → Value) (M : Nat → List ByteArray) (w : World) : Prop where
  m : w.heap[gm]? = some (.cells #[V 0, V 1, V 2, V 3] 47 (0, 0))
  row : ∀ s, s < 4 → w.ownsRow B 9 1 (V s) (M s).length ((M s).map Value.string)
  ne : ∀ s t, s < 4 → t < 4 → s ≠ t → ∀ x, (V s).ownBlock = some x → (V t).ownBlock ≠ some x
  b : B ≤ gm
theorem MayAt.lt {gm : Nat} {V : Nat → Value} {M : Nat → List ByteArray} (h : MayAt B gm V M w) : gm < w.heap.size := (Array.getElem?_eq_some_iff.1 h.m).1
theorem MayAt.keep {gm : Nat} {V : Nat → Value} {M : Nat → List ByteArray} {w' : World} (h : MayAt B gm V M w) (h0 : w'.heap[gm]? = w.heap[gm]?) (hb : ∀ s, s < 4 → ∀ b, (V s).ownBlock = some b → w'.heap[b]? = w.heap[b]?) : MayAt B gm V M w' :=
  ⟨h0.trans h.m, fun s hs => own_same (h.row s hs) (hb s hs), h.ne, h.b⟩
theorem MayAt.below {gm : Nat} {V : Nat → Value} {M : Nat → List ByteArray} {w' : World} (h : MayAt B gm V M w) (hb : Below w.heap.size w w') : MayAt B gm V M w' :=
  h.keep (hb.block gm h.lt) fun s hs b e => hb.block b ((h.row s hs).lt b e).2
/-- A write to a disk beside it. -/
theorem MayAt.disk {gm na ga gda gca cda cca : Nat} {va ka : Value} {Sa : DS} {V : Nat → Value} {M : Nat → List ByteArray} {w' : World} (h : MayAt B gm V M w) (ha : IsD B na ga gda gca cda cca va ka Sa w) (far : ∀ s, s < 4 → ∀ x, (V s).ownBlock = some x → x ≠ gda ∧ x ≠ gca) (f : FrD B ga gda gca va w w') : MayAt B gm V M w' := by
  obtain ⟨c1, h1, _⟩ := ha.rd
  obtain ⟨c2, h2, _⟩ := ha.rc
  have h0 : w.heap[ga]? = _ := ha.d
  have ne : ∀ {x y : Nat} {c c' : Array Value} {t t' : TypeId}, w.heap[x]? = some (.cells c t (0, 0)) → w.heap[y]? = some (.cells c' t' (0, 0)) → t ≠ t' → x ≠ y := fun {x y c c' t t'} hx hy ht e => by
    subst e
    rw [hx] at hy
    injection hy with hy
    injection hy with _ hy
    exact ht hy
  refine h.keep (f.block gm h.lt (ne h.m h0 (by decide)) (ne h.m h1 (by decide)) (ne h.m h2 (by decide)) (fun e => by obtain ⟨c, hc⟩ := own_block ha.vw e; exact ne h.m hc (by decide) rfl)) fun s hs b e => ?_
  obtain ⟨c, hc⟩ := own_block (h.row s hs) e
  exact f.block b ((h.row s hs).lt b e).2 (ne hc h0 (by decide)) (far s hs b e).1 (far s hs b e).2 (fun e2 => by obtain ⟨c', hc'⟩ := own_block ha.vw e2; exact ne hc hc' (by decide) rfl)
/-- One string more in the list of s. -/
theorem MayAt.push {gm s : Nat} {V : Nat → Value} {M : Nat → List ByteArray} {w1 : World} {v' : Value} {x : ByteArray} (h : MayAt B gm V M w) (hs : s < 4) (hg : w.grownBy w1 (V s).ownBlock) (ho : w1.ownsRow B 9 1 v' ((M s).length + 1) ((M s).map Value.string ++ [Value.string x])) (hat : ∀ y, v'.ownBlock = some y → (V s).ownBlock = some y ∨ w.heap.size ≤ y) :
    MayAt B gm (fun t => if t = s then v' else V t) (fun t => if t = s then M s ++ [x] else M t) (w1.setCell ⟨gm, s, none⟩ v') := by
  have hgm : ∀ t, t < 4 → (V t).ownBlock ≠ some gm := fun t ht e => by
    obtain ⟨c, hc⟩ := own_block (h.row t ht) e
    rw [h.m] at hc
    injection hc with hc
    injection hc with _ hc
    exact absurd hc (by decide)
  have hm1 : w1.heap[gm]? = some (.cells #[V 0, V 1, V 2, V 3] 47 (0, 0)) := (hg.block gm h.lt (fun e => hgm s hs e.symm)).trans h.m
  have hb2 : ∀ b, b ≠ gm → (w1.setCell ⟨gm, s, none⟩ v').heap[b]? = w1.heap[b]? := fun b hb => Below.heap_setCell _ _ _ _ hb
  have hvg : ∀ y, v'.ownBlock = some y → y ≠ gm := fun y hy e => by
    subst e
    obtain ⟨c, hc⟩ := own_block ho hy
    rw [hm1] at hc
    injection hc with hc
    injection hc with _ hc
    exact absurd hc (by decide)
  refine ⟨?_, fun t ht => ?_, fun t u ht hu htu y hy => ?_, h.b⟩
  · show (w1.heap.modify gm _)[gm]? = _
    rw [Array.getElem?_modify, if_pos rfl, hm1]
    match s, hs with
    | 0, _ => rfl
    | 1, _ => rfl
    | 2, _ => rfl
    | 3, _ => rfl
  · by_cases e : t = s
    · simp only [if_pos e]
      have := own_same (w' := w1.setCell ⟨gm, s, none⟩ v') ho (fun b hb => hb2 b (hvg b hb))
      rw [List.length_append, List.map_append]; exact this
    · simp only [if_neg e]
      exact own_same (h.row t ht) fun b hb => (hb2 b (fun e2 => hgm t ht (e2 ▸ hb))).trans (hg.block b ((h.row t ht).lt b hb).2 (fun e2 => h.ne t s ht hs e b hb e2.symm))
  · by_cases e : t = s
    · by_cases e2 : u = s
      · omega
      · simp only [if_pos e] at hy
        simp only [if_neg e2]
        rcases hat y hy with h1 | h1
        · exact h.ne s u hs hu (Ne.symm e2) y h1
        · exact fun h2 => absurd ((h.row u hu).lt y h2).2 (by omega)
    · simp only [if_neg e] at hy
      by_cases e2 : u = s
      · simp only [if_pos e2]
        intro h2
        rcases hat y h2 with h1 | h1
        · exact h.ne t s ht hs e y hy h1
        · exact absurd ((h.row t ht).lt y hy).2 (by omega)
      · simp only [if_neg e2]
        exact h.ne t u ht hu htu y hy
theorem MayAt.cell {gm : Nat} {V : Nat → Value} {M : Nat → List ByteArray} (h : MayAt B gm V M w) (s : Nat) (hs : s < 4) : w.cell? ⟨gm, s, none⟩ = some (V s) := by
  unfold World.cell?
  simp only [h.m]
  match s, hs with
  | 0, _ => rfl
  | 1, _ => rfl
  | 2, _ => rfl
  | 3, _ => rfl
theorem MayAt.free {gm : Nat} {V : Nat → Value} {M : Nat → List ByteArray} (h : MayAt B gm V M w) (s : Nat) : w.frozen? ⟨gm, s, none⟩ = false := by simp [World.frozen?, h.m]
end Go.Proofs.Ytppnaajeogkkeaa
