/- Lists' edits: matrices; the program's lengths. -/
import Derived.Test.YtjdlpcokjcmapaaLd
import Derived.Laws.MakeOwn
import Derived.Laws.OwnMore
import Derived.Laws.NewBlocks
import Derived.WalkLawsBesides
set_option linter.unusedVariables false
set_option linter.unusedSimpArgs false
namespace Go.Proofs.Ytjdlpcokjcmapaa
open Go.RowKit
variable {w w' : World}

/-- A matrix: rows R of the block g. -/
structure Mat (kd : IntKind) (g : Nat) (R : Nat → Nat) (n m : Nat) (f : Nat → Nat → Nat) (w : World) : Prop where
  row : ∀ i, i < n → w.cell? ⟨g, i, none⟩ = some (.slice (some ⟨R i, 0, none⟩) m m)
  cell : ∀ i j, i < n → j < m → w.cell? ⟨R i, j, none⟩ = some (.int kd (f i j))
  thaw : ∀ i j, i < n → w.frozen? ⟨R i, j, none⟩ = false
  inj : ∀ i i', i < n → i' < n → R i = R i' → i = i'
  ne : ∀ i, i < n → R i ≠ g
variable {kd : IntKind} {g : Nat} {R : Nat → Nat} {n m : Nat} {f : Nat → Nat → Nat}
theorem Mat.keep (h : Mat kd g R n m f w) (hb : ∀ k, (k = g ∨ ∃ i, i < n ∧ k = R i) → w'.heap[k]? = w.heap[k]?) : Mat kd g R n m f w' :=
  ⟨fun i hi => (cell_keep (hb g (.inl rfl))).trans (h.row i hi), fun i j hi hj => (cell_keep (hb (R i) (.inr ⟨i, hi, rfl⟩))).trans (h.cell i j hi hj), fun i j hi => (frozen_keep (hb (R i) (.inr ⟨i, hi, rfl⟩))).trans (h.thaw i j hi), h.inj, h.ne⟩
theorem Mat.drewN (h : Mat kd g R n m f w) (q : Nat) : Mat kd g R n m f (w.drewN q) := h.keep fun _ _ => rfl
theorem Mat.set (h : Mat kd g R n m f w) {i j v : Nat} (hi : i < n) (hj : j < m) : Mat kd g R n m (fun a b => if a = i ∧ b = j then v else f a b) (w.setCell ⟨R i, j, none⟩ (.int kd v)) := by
  refine ⟨fun a ha => ?_, fun a b ha hb => ?_, fun a b ha => ?_, h.inj, h.ne⟩
  · rw [World.cell?_setCell_other _ _ _ _ (by intro e; injection e with e; exact h.ne i hi e)]; exact h.row a ha
  · by_cases e : a = i ∧ b = j
    · obtain ⟨rfl, rfl⟩ := e
      rw [if_pos ⟨rfl, rfl⟩, World.cell?_setCell_same _ _ _ (h.cell a b ha hb)]
    · rw [if_neg e, World.cell?_setCell_other _ _ _ _ (by intro e2; injection e2 with e2 e3; exact e ⟨(h.inj i a hi ha e2).symm, e3.symm⟩)]; exact h.cell a b ha hb
  · rw [World.frozen?_setCell]; exact h.thaw a b ha
theorem Mat.congr {f' : Nat → Nat → Nat} (h : Mat kd g R n m f w) (e : ∀ i j, i < n → j < m → f i j = f' i j) : Mat kd g R n m f' w :=
  ⟨h.row, fun i j hi hj => by rw [← e i j hi hj]; exact h.cell i j hi hj, h.thaw, h.inj, h.ne⟩
/-- What has been reckoned: the rows from p on, of the row ahead of it the places from q on. -/
def cmF (E : Nat → Nat → Bool) (n m p q i j : Nat) : Nat := if p ≤ i ∨ i + 1 = p ∧ q ≤ j then cmI E n m i j else 0
theorem cmF_start (E : Nat → Nat → Bool) {n m i j : Nat} : cmF E n m n m i j = 0 := by
  unfold cmF; split
  · rename_i h; exact cmI_end (by omega)
  · rfl
theorem cmF_row (E : Nat → Nat → Bool) {n m p i j : Nat} : cmF E n m (p + 1) 0 i j = if j ≤ m then cmF E n m p m i j else cmF E n m (p + 1) 0 i j := by
  split
  · rename_i hj
    unfold cmF
    by_cases h1 : p + 1 ≤ i
    · rw [if_pos (.inl h1), if_pos (.inl (by omega))]
    · by_cases h2 : i = p
      · rw [if_pos (.inr (by omega)), if_pos (.inl (by omega))]
      · by_cases h3 : i + 1 = p ∧ m ≤ j
        · rw [if_neg (by omega), if_pos (.inr h3), cmI_end (by omega)]
        · rw [if_neg (by omega), if_neg (by omega)]
  · rfl
theorem cmF_next (E : Nat → Nat → Bool) {n m i j a b : Nat} : (if a = i ∧ b = j then cmI E n m i j else cmF E n m (i + 1) (j + 1) a b) = cmF E n m (i + 1) j a b := by
  unfold cmF
  by_cases e : a = i ∧ b = j
  · obtain ⟨rfl, rfl⟩ := e; rw [if_pos ⟨rfl, rfl⟩, if_pos (.inr ⟨rfl, Nat.le_refl _⟩)]
  · rw [if_neg e]
    by_cases h1 : i + 1 ≤ a ∨ a + 1 = i + 1 ∧ j + 1 ≤ b
    · rw [if_pos h1, if_pos (by omega)]
    · rw [if_neg h1, if_neg (by omega)]
theorem cmF_at {E : Nat → Nat → Bool} {n m p q i j : Nat} (h : p ≤ i ∨ i + 1 = p ∧ q ≤ j) : cmF E n m p q i j = cmI E n m i j := if_pos h
theorem info_u16 : (Try.prog.info? 82).map (fun i => (i.zero, i.size, i.bytes)) = some (some (.int .u16 0), 1, 2) := by kernel_rfl
theorem info_u16s : (Try.prog.info? 83).map (fun i => (i.zero, i.size, i.bytes)) = some (some (.slice none 0 0), 1, 24) := by kernel_rfl
theorem run_mk16 (n : Nat) (hn : n ≤ 90000) (w : World) : (Instr.makeSlice 83 (.int .i64 ((n : Int) + 1)) (.int .i64 ((n : Int) + 1))).run Try.prog w = .ok (.slice (some ⟨w.heap.size, 0, none⟩) (n + 1) (n + 1)) (w.alloc (.cells (madeCells #[.int .u16 0] (n + 1)) 82)) := by
  obtain ⟨i0, hi, hz0, hz1, hz2⟩ := info_parts info_u16
  have := run_make (P := Try.prog) w 83 82 i0 (.int .u16 0) Try.underlying83 hi hz0 .i64 .i64 (n + 1 : Nat) (n + 1 : Nat) (by omega) (by omega) (by rw [hz2]; show (2 : Int) * _ ≤ _; omega) (by omega)
  rw [hz1] at this
  simp only [Int.toNat_natCast, Nat.mul_one] at this
  rw [Int.natCast_succ] at this
  exact this
theorem run_mk16s (n : Nat) (hn : n ≤ 90000) (w : World) : (Instr.makeSlice 80 (.int .i64 ((n : Int) + 1)) (.int .i64 ((n : Int) + 1))).run Try.prog w = .ok (.slice (some ⟨w.heap.size, 0, none⟩) (n + 1) (n + 1)) (w.alloc (.cells (madeCells #[.slice none 0 0] (n + 1)) 83)) := by
  obtain ⟨i0, hi, hz0, hz1, hz2⟩ := info_parts info_u16s
  have := run_make (P := Try.prog) w 80 83 i0 (.slice none 0 0) Try.underlying80 hi hz0 .i64 .i64 (n + 1 : Nat) (n + 1 : Nat) (by omega) (by omega) (by rw [hz2]; show (24 : Int) * _ ≤ _; omega) (by omega)
  rw [hz1] at this
  simp only [Int.toNat_natCast, Nat.mul_one] at this
  rw [Int.natCast_succ] at this
  exact this
/-- The first k rows are made. -/
def BldS (n m : Nat) (w : World) (i : Value) (wr : World) : Prop :=
  ∃ k : Nat, k ≤ n + 1 ∧ i = .int .i64 k ∧ wr.heap.size = w.heap.size + 1 + k ∧ Mat .u16 w.heap.size (fun i => w.heap.size + 1 + i) k (m + 1) (fun _ _ => 0) wr ∧ (∃ cur, wr.heap[w.heap.size]? = some (.cells cur 83 (0, 0)) ∧ cur.size = n + 1) ∧ Below w.heap.size w wr
theorem BldS.start (n m : Nat) (w : World) : BldS n m w (.int .i64 0) (w.alloc (.cells (madeCells #[.slice none 0 0] (n + 1)) 83)) :=
  ⟨0, Nat.zero_le _, rfl, by simp, ⟨fun i hi => absurd hi (Nat.not_lt_zero i), fun i _ hi => absurd hi (Nat.not_lt_zero i), fun i _ hi => absurd hi (Nat.not_lt_zero i), fun i _ hi => absurd hi (Nat.not_lt_zero i), fun i hi => absurd hi (Nat.not_lt_zero i)⟩, ⟨_, World.alloc_heap_new w _, size_madeCells _ _⟩, (Below.refl _ w).alloc (Nat.le_refl _) _⟩
theorem made_cell {w : World} {z : Value} {n j : Nat} {t : TypeId} (hj : j < n) : (w.alloc (.cells (madeCells #[z] n) t)).cell? ⟨w.heap.size, j, none⟩ = some z := by
  rw [cell_of_row (World.alloc_heap_new w _), ← Array.getElem?_toList, toList_madeCells_one, List.getElem?_replicate, if_pos hj]
theorem BldS.more {k : Nat} {cur : Array Value} {wr : World} (hk : k < n + 1) (hsz : wr.heap.size = w.heap.size + 1 + k) (hM : Mat .u16 w.heap.size (fun i => w.heap.size + 1 + i) k (m + 1) (fun _ _ => 0) wr) (hg : wr.heap[w.heap.size]? = some (.cells cur 83 (0, 0))) (hcs : cur.size = n + 1) (hb : Below w.heap.size w wr) :
    BldS n m w (.int .i64 (k + 1 : Nat)) ((wr.setCell ⟨w.heap.size, k, none⟩ (.slice (some ⟨wr.heap.size, 0, none⟩) (m + 1) (m + 1))).alloc (.cells (madeCells #[.int .u16 0] (m + 1)) 82)) := by
  obtain ⟨W, hW⟩ : ∃ W, W = wr.setCell ⟨w.heap.size, k, none⟩ (.slice (some ⟨wr.heap.size, 0, none⟩) (m + 1) (m + 1)) := ⟨_, rfl⟩
  have hWs : W.heap.size = w.heap.size + 1 + k := by rw [hW]; simp; exact hsz
  have hWb : Below w.heap.size w W := by rw [hW]; exact hb.setCell (p := ⟨w.heap.size, k, none⟩) (Nat.le_refl _) _
  have hWo : ∀ j, j ≠ w.heap.size → W.heap[j]? = wr.heap[j]? := fun j hj => by rw [hW]; exact Below.heap_setCell wr _ _ j hj
  have hWc : W.cell? ⟨w.heap.size, k, none⟩ = some (.slice (some ⟨wr.heap.size, 0, none⟩) (m + 1) (m + 1)) := by
    have h : wr.cell? ⟨w.heap.size, k, none⟩ = some cur[k] := by rw [cell_of_row hg]; exact Array.getElem?_eq_getElem (by omega)
    rw [hW]; exact World.cell?_setCell_same _ _ _ h
  have hWr : ∀ j, j ≠ k → W.cell? ⟨w.heap.size, j, none⟩ = wr.cell? ⟨w.heap.size, j, none⟩ := fun j hj => by
    rw [hW]; exact World.cell?_setCell_other _ _ _ _ (by intro e; injection e with _ e; exact hj e.symm)
  have hWg : ∃ cur, W.heap[w.heap.size]? = some (.cells cur 83 (0, 0)) ∧ cur.size = n + 1 := by
    rw [hW]
    obtain ⟨hlt, hk2⟩ := Array.getElem?_eq_some_iff.1 hg
    refine ⟨cur.setIfInBounds k (.slice (some ⟨wr.heap.size, 0, none⟩) (m + 1) (m + 1)), ?_, by simp [hcs]⟩
    show (wr.heap.modify w.heap.size _)[w.heap.size]? = _
    rw [Array.getElem?_eq_getElem (by rw [Array.size_modify]; exact hlt), Array.getElem_modify_self, hk2]
    rfl
  rw [← hW]
  obtain ⟨W2, hW2⟩ : ∃ W2, W2 = W.alloc (.cells (madeCells #[.int .u16 0] (m + 1)) 82) := ⟨_, rfl⟩
  have hnew : ∀ j, j < m + 1 → W2.cell? ⟨W.heap.size, j, none⟩ = some (.int .u16 0) := fun j hj => by rw [hW2]; exact made_cell hj
  have hnf : ∀ j, W2.frozen? ⟨W.heap.size, j, none⟩ = false := fun j => by
    have h : W2.heap[W.heap.size]? = some (.cells (madeCells #[.int .u16 0] (m + 1)) 82 (0, 0)) := by rw [hW2]; exact World.alloc_heap_new W _
    simp [World.frozen?, h]
  have hold : ∀ j, j < W.heap.size → W2.heap[j]? = W.heap[j]? := fun j hj => by rw [hW2]; exact Lib.alloc_old _ _ _ hj
  rw [← hW2]
  refine ⟨k + 1, hk, rfl, by rw [hW2]; simp; omega, ⟨fun i hi => ?_, fun i j hi hj => ?_, fun i j hi => ?_, fun i i' _ _ e => by omega, fun i _ => by show _ + 1 + _ ≠ _; omega⟩, ?_, by rw [hW2]; exact hWb.alloc (by omega) _⟩
  · rw [cell_keep (hold _ (by show w.heap.size < _; omega))]
    by_cases e : i = k
    · subst e; rw [hWc, hsz]
    · rw [hWr i e]; exact hM.row i (by omega)
  · by_cases e : i = k
    · subst e; show W2.cell? ⟨w.heap.size + 1 + i, j, none⟩ = _; rw [← hWs]; exact hnew j hj
    · show W2.cell? ⟨w.heap.size + 1 + i, j, none⟩ = _
      rw [cell_keep (hold _ (by show w.heap.size + 1 + i < _; omega)), cell_keep (hWo _ (by show w.heap.size + 1 + i ≠ _; omega))]
      exact hM.cell i j (by omega) hj
  · by_cases e : i = k
    · subst e; show W2.frozen? ⟨w.heap.size + 1 + i, j, none⟩ = _; rw [← hWs]; exact hnf j
    · show W2.frozen? ⟨w.heap.size + 1 + i, j, none⟩ = _
      rw [frozen_keep (hold _ (by show w.heap.size + 1 + i < _; omega)), frozen_keep (hWo _ (by show w.heap.size + 1 + i ≠ _; omega))]
      exact hM.thaw i j (by omega)
  · obtain ⟨cur', h1, h2⟩ := hWg
    exact ⟨cur', (hold _ (by omega)).trans h1, h2⟩
end Go.Proofs.Ytjdlpcokjcmapaa
