/- The document's Sum: the text with its end, grown byte by byte; its table. -/
import Derived.Test.YtodmomhilpheiaaDoorQq
import Derived.ArgAppend
import Derived.Lib.ConvBytes
import Derived.Lib.AtoiErrMem
namespace Go.Proofs.YtodmomhilpheiaaDoor
open Go.RowKit

def u8L (F : Nat → Int) (m : Nat) : List Value := (List.range m).map fun i => Value.int .u8 (F i)
theorem u8L_len (F : Nat → Int) (m : Nat) : (u8L F m).length = m := by simp [u8L]
theorem u8L_get (F : Nat → Int) (m i : Nat) (h : i < m) : (u8L F m)[i]? = some (.int .u8 (F i)) := by simp [u8L, h]
theorem u8L_snoc (F : Nat → Int) (m : Nat) : u8L F (m + 1) = u8L F m ++ [.int .u8 (F m)] := by unfold u8L; rw [List.range_succ, List.map_append]; rfl
/-- A slice of bytes whose spare room may be written. -/
def TextAt (w : World) (B g cap : Nat) (m : Nat) (F : Nat → Int) : Prop :=
  B ≤ g ∧ g < w.heap.size ∧ m ≤ cap ∧ cap ≤ maxLen ∧ (∀ i, i < m → w.cell? ⟨g, i, none⟩ = some (.int .u8 (F i))) ∧ (∀ i, m ≤ i → i < cap → (w.cell? ⟨g, i, none⟩).isSome = true ∧ w.frozen? ⟨g, i, none⟩ = false)
theorem TextAt.drew {w : World} {B g cap m : Nat} {F : Nat → Int} (h : TextAt w B g cap m F) : TextAt w.drew B g cap m F := h
theorem TextAt.below {w w' : World} {B g cap m : Nat} {F : Nat → Int} (h : TextAt w B g cap m F) (hb : Below w.heap.size w w') : TextAt w' B g cap m F := by
  obtain ⟨h1, h2, h3, h4, h5, h6⟩ := h
  refine ⟨h1, Nat.lt_of_lt_of_le h2 hb.size, h3, h4, fun i hi => (hb.cell (p := ⟨g, i, none⟩) h2).trans (h5 i hi), fun i hi hc => ?_⟩
  rw [hb.cell (p := ⟨g, i, none⟩) h2, hb.frozen (p := ⟨g, i, none⟩) h2]
  exact h6 i hi hc
theorem addr_at (g i : Nat) : (⟨g, 0, none⟩ : Addr).add i = ⟨g, i, none⟩ := by unfold Addr.add; split <;> simp_all
theorem byteInfo : (Tryd.prog.info? 5).map (fun i => (i.zero, i.size, i.bytes)) = some (some (.int .u8 0), 1, 1) := by kernel_rfl
theorem wordInfo : (Tryd.prog.info? 25).map (fun i => (i.zero, i.size, i.bytes)) = some (some (.int .u32 0), 1, 4) := by kernel_rfl

theorem run_append_text (w : World) (B g cap m : Nat) (F : Nat → Int) (h : TextAt w B g cap m F) (c : Int) (hc : w.cell? ⟨w.heap.size - 1, 0, none⟩ = some (.int .u8 c)) (hF : F m = c) (hg : g < w.heap.size - 1) (hm : m ≤ 1000000) :
    ∃ g' cap' w', (Builtin.append_ #[44, 44] 44 #[.slice (some ⟨g, 0, none⟩) m cap, .slice (some ⟨w.heap.size - 1, 0, none⟩) 1 1]).run Tryd.prog w = .ok (.slice (some ⟨g', 0, none⟩) (m + 1) cap') w' ∧ TextAt w' B g' cap' (m + 1) F ∧ w.grownBy w' (some g) ∧ (∀ k, k < w.heap.size → k ≠ g → w'.heap[k]? = w.heap[k]?) := by
  obtain ⟨h1, h2, h3, h4, h5, h6⟩ := h
  obtain ⟨i0, hi, hz0, hz1, hz2⟩ := info_parts byteInfo
  have hnews : ∀ j u, [Value.int .u8 c][j]? = some u → w.cell? ((⟨w.heap.size - 1, 0, none⟩ : Addr).add j) = some u := by
    intro j u hj
    match j, hj with
    | 0, hj => simp at hj; subst hj; simpa [Addr.add] using hc
  have h1c : ∀ u ∈ [Value.int .u8 c], u.oneCell' = true := by intro u hu; simp at hu; subst hu; rfl
  by_cases hr : m + 1 ≤ cap
  · have hrun := run_append_room_cells (P := Tryd.prog) w 44 44 5 i0 Tryd.underlying44 hi g 0 m cap ⟨w.heap.size - 1, 0, none⟩ 1 1 [.int .u8 c] (by rw [hz1]; rfl) hnews h1c hr (fun j hj => by
        have hj0 : j = 0 := by simp at hj; omega
        subst hj0
        rw [hz1]; simpa using (h6 m (Nat.le_refl _) (by omega)).1) (fun j hj => by
        have hj0 : j = 0 := by simp at hj; omega
        subst hj0
        rw [hz1]; simpa using (h6 m (Nat.le_refl _) (by omega)).2)
    have e : w.setCells g (0 + m * i0.size) [.int .u8 c] = w.setCell ⟨g, m, none⟩ (.int .u8 c) := by
      rw [hz1, Nat.zero_add, Nat.mul_one]; rfl
    rw [e] at hrun
    have hms := h6 m (Nat.le_refl _) (by omega)
    refine ⟨g, cap, _, hrun, ⟨h1, by simpa [World.setCell] using h2, hr, h4, fun i hi' => ?_, fun i hi' hic => ?_⟩, ?_, fun k hk hne => ?_⟩
    · by_cases hie : i = m
      · subst hie
        obtain ⟨u, hu⟩ := Option.isSome_iff_exists.1 hms.1
        rw [World.cell?_setCell_same w ⟨g, i, none⟩ _ hu, hF]
      · rw [World.cell?_setCell_other w ⟨g, m, none⟩ ⟨g, i, none⟩ _ (fun x => hie (by injection x with _ h2 _; exact h2.symm))]
        exact h5 i (by omega)
    · rw [World.cell?_setCell_other w ⟨g, m, none⟩ ⟨g, i, none⟩ _ (fun x => by injection x with _ h2 _; omega)]
      have := h6 i (by omega) hic
      exact ⟨this.1, by simpa using this.2⟩
    · exact kept_set (kept_below (Below.refl _ _)) m _
    · exact Below.heap_setCell _ _ _ _ hne
  · obtain ⟨v', w', hrun, hown, hgr⟩ := run_append_arg_grows (P := Tryd.prog) w 44 44 5 i0 (.int .u8 0) 1 1 Tryd.underlying44 hi hz0 hz1 hz2 rfl (by decide) ⟨g, 0, none⟩ m cap (u8L F m) (by rw [u8L_len]; omega) (fun j u hj => by
        have hjm : j < m := by
          rcases Nat.lt_or_ge j m with h' | h'
          · exact h'
          · rw [List.getElem?_eq_none (by rw [u8L_len]; exact h')] at hj; cases hj
        rw [u8L_get F m j hjm] at hj
        injection hj with hj
        subst hj
        rw [addr_at]; exact h5 j hjm) ⟨w.heap.size - 1, 0, none⟩ 1 1 [.int .u8 c] rfl hnews (by omega) (by unfold maxLen; omega) (by omega)
    have ha : u8L F m ++ [.int .u8 c] = u8L F (m + 1) := by rw [u8L_snoc, hF]
    rw [ha] at hown
    rcases hown.2 with ⟨_, h0⟩ | ⟨g', cap', cur, rfl, hbg, hgg, hnc, hcm, hcs, htake⟩
    · omega
    refine ⟨g', cap', w', hrun, ⟨by omega, (Array.getElem?_eq_some_iff.1 hgg).1, hnc, hcm, fun i hi' => ?_, fun i hi' hic => ?_⟩, ⟨hgr.os, hgr.tape, hgr.output, hgr.size, fun k hk _ => hgr.block k hk (by simp)⟩, fun k hk _ => hgr.block k hk (by simp)⟩
    · have := hown.cells (g := g') rfl i (.int .u8 (F i)) (u8L_get F _ i hi')
      rw [addr_at] at this; exact this
    · refine ⟨?_, by simp [World.frozen?, hgg]⟩
      unfold World.cell?
      simp only [hgg]
      rw [Array.getElem?_eq_getElem (by rw [hcs]; omega)]
      rfl
end Go.Proofs.YtodmomhilpheiaaDoor
