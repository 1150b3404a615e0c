/- Lists' edits: the document's matrix. -/
import Derived.Test.YtjdlpcokjcmapaaLm
set_option linter.unusedVariables false
set_option linter.unusedSimpArgs false
namespace Go.Proofs.Ytjdlpcokjcmapaa
open Go.RowKit
variable {w w' : World}

theorem run_mki (n : Nat) (hn : n ≤ 90000) (w : World) : (Instr.makeSlice 52 (.int .i64 ((n : Int) + 1)) (.int .i64 ((n : Int) + 1))).run Try.prog w = .ok (.slice (some ⟨w.heap.size, 0, none⟩) (n + 1) (n + 1)) (w.alloc (.cells (madeCells #[.int .i64 0] (n + 1)) 3)) := by
  obtain ⟨i0, hi, hz0, hz1, hz2⟩ := info_parts info_i
  have := run_make (P := Try.prog) w 52 3 i0 (.int .i64 0) Try.underlying52 hi hz0 .i64 .i64 (n + 1 : Nat) (n + 1 : Nat) (by omega) (by omega) (by rw [hz2]; show (8 : Int) * _ ≤ _; omega) (by omega)
  rw [hz1] at this
  simp only [Int.toNat_natCast, Nat.mul_one] at this
  rw [Int.natCast_succ] at this
  exact this
theorem info_is : (Try.prog.info? 52).map (fun i => (i.zero, i.size, i.bytes)) = some (some (.slice none 0 0), 1, 24) := by kernel_rfl
def rowV (m : Nat) (Rs : List Nat) : List Value := Rs.map fun r => Value.slice (some ⟨r, 0, none⟩) (m + 1) (m + 1)
/-- The first k rows are made. -/
def CbS (n m : Nat) (w : World) (v i : Value) (wr : World) : Prop :=
  ∃ (k : Nat) (Rs : List Nat), k ≤ n + 1 ∧ i = .int .i64 k ∧ Rs.length = k ∧ wr.ownsRow w.heap.size 52 1 v k (rowV m Rs) ∧ (∀ r ∈ Rs, w.heap.size ≤ r ∧ wr.heap[r]? = some (.cells (madeCells #[.int .i64 0] (m + 1)) 3 (0, 0))) ∧ Rs.Nodup ∧ Below w.heap.size w wr
theorem CbS.more {n m k : Nat} {Rs : List Nat} {wr w4 : World} {v v' : Value} (hk : k < n + 1) (hl : Rs.length = k) (hrow : wr.ownsRow w.heap.size 52 1 v k (rowV m Rs)) (hr : ∀ r ∈ Rs, w.heap.size ≤ r ∧ wr.heap[r]? = some (.cells (madeCells #[.int .i64 0] (m + 1)) 3 (0, 0))) (hnd : Rs.Nodup) (hb : Below w.heap.size w wr)
    {o : Obj} (hown : w4.ownsRow w.heap.size 52 1 v' (k + 1) (rowV m Rs ++ [.slice (some ⟨wr.heap.size, 0, none⟩) (m + 1) (m + 1)])) (hg : ((wr.alloc (.cells (madeCells #[.int .i64 0] (m + 1)) 3)).alloc o).grownBy w4 v.ownBlock) : CbS n m w v' (.int .i64 (k + 1 : Nat)) w4 := by
  obtain ⟨W, hW⟩ : ∃ W, W = wr.alloc (.cells (madeCells #[.int .i64 0] (m + 1)) 3) := ⟨_, rfl⟩
  have hWb : Below w.heap.size w W := by rw [hW]; exact hb.alloc hb.size _
  have hWs : W.heap.size = wr.heap.size + 1 := by rw [hW]; simp
  have hnew : W.heap[wr.heap.size]? = some (.cells (madeCells #[.int .i64 0] (m + 1)) 3 (0, 0)) := by rw [hW]; exact World.alloc_heap_new _ _
  have hold : ∀ j, j < wr.heap.size → W.heap[j]? = wr.heap[j]? := fun j hj => by rw [hW]; exact Lib.alloc_old _ _ _ hj
  rw [← hW] at hg
  have h4 : ∀ j, j < W.heap.size → some j ≠ v.ownBlock → w4.heap[j]? = W.heap[j]? := fun j hj hne => (hg.block j (by simp; omega) hne).trans (Lib.alloc_old _ _ _ hj)
  have hnr : ∀ r c, wr.heap[r]? = some (.cells c 3 (0, 0)) → some r ≠ v.ownBlock := fun r c hc e => by
    rcases hrow.2 with ⟨h1, _⟩ | ⟨g, cap, cur, h1, _, hgg, _⟩
    · rw [h1] at e; cases e
    · rw [h1] at e; injection e with e; subst e; rw [hgg] at hc; injection hc with hc; injection hc with _ hc; exact absurd hc (by decide)
  refine ⟨k + 1, Rs ++ [wr.heap.size], hk, rfl, by simp [hl], by unfold rowV at hown ⊢; rw [List.map_append]; exact hown, fun r hr2 => ?_, ?_, (hWb.alloc hWb.size _).grown hg (by have := hWb.size; simp; omega) (fun j hj => (hrow.lt j hj).1)⟩
  · rcases List.mem_append.1 hr2 with h | h
    · obtain ⟨h1, h2⟩ := hr r h
      have hlt := lt_of_some h2
      exact ⟨h1, (h4 r (by omega) (hnr r _ h2)).trans ((hold r hlt).trans h2)⟩
    · simp at h; subst h
      refine ⟨hb.size, (h4 _ (by omega) (fun e => ?_)).trans hnew⟩
      have := (hrow.lt _ e.symm).2
      omega
  · rw [List.nodup_append]
    refine ⟨hnd, by simp, fun x hx y hy => ?_⟩
    simp at hy; subst hy
    have := lt_of_some (hr x hx).2
    omega
theorem CbS.mat {n m : Nat} {Rs : List Nat} {wr : World} {v : Value} (hl : Rs.length = n + 1) (hrow : wr.ownsRow w.heap.size 52 1 v (n + 1) (rowV m Rs)) (hr : ∀ r ∈ Rs, w.heap.size ≤ r ∧ wr.heap[r]? = some (.cells (madeCells #[.int .i64 0] (m + 1)) 3 (0, 0))) (hnd : Rs.Nodup) :
    ∃ g cap, v = .slice (some ⟨g, 0, none⟩) (n + 1) cap ∧ w.heap.size ≤ g ∧ Mat .i64 g (fun i => Rs.getD i 0) (n + 1) (m + 1) (fun _ _ => 0) wr ∧ ∀ i, i < n + 1 → w.heap.size ≤ Rs.getD i 0 := by
  have hget : ∀ i, i < n + 1 → Rs[i]? = some (Rs.getD i 0) := fun i hi => by rw [List.getD_eq_getElem?_getD, List.getElem?_eq_getElem (by omega)]; rfl
  have hmem : ∀ i, i < n + 1 → Rs.getD i 0 ∈ Rs := fun i hi => List.mem_of_getElem? (hget i hi)
  obtain ⟨a, cap, rfl, h0 | ⟨g, rfl, hB, hg, hc⟩⟩ := own_at hrow
  · omega
  refine ⟨g, cap, rfl, hB, ⟨fun i hi => hc i _ (by unfold rowV; rw [List.getElem?_map, hget i hi]; rfl), fun i j hi hj => ?_, fun i j hi => ?_, fun i i' hi hi' e => ?_, fun i hi e => ?_⟩, fun i hi => (hr _ (hmem i hi)).1⟩
  · rw [cell_of_row (hr _ (hmem i hi)).2, ← Array.getElem?_toList, toList_madeCells_one, List.getElem?_replicate, if_pos hj]; rfl
  · have h := (hr _ (hmem i hi)).2
    show wr.frozen? ⟨Rs.getD i 0, j, none⟩ = false
    generalize Rs.getD i 0 = r at h ⊢
    simp [World.frozen?, h]
  · have e1 := hget i hi
    have e2 := hget i' hi'
    rw [← e] at e2
    exact (List.getElem?_inj (by omega) hnd).1 (e1.trans e2.symm)
  · have h1 := (hr _ (hmem i hi)).2
    rcases hrow.2 with ⟨h2, _⟩ | ⟨g', cap', cur, h2, _, hgg, _⟩
    · cases h2
    · injection h2 with h2; injection h2 with h2; injection h2 with h2
      subst h2
      rw [e, hgg] at h1
      injection h1 with h1; injection h1 with _ h1
      exact absurd h1 (by decide)
end Go.Proofs.Ytjdlpcokjcmapaa
