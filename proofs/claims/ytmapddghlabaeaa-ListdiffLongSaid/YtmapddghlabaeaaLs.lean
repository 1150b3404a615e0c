/- Lists' edits: the law speaks. -/
import Derived.Test.YtmapddghlabaeaaLr
set_option linter.unusedVariables false
set_option linter.unusedSimpArgs false
namespace Go.Proofs.Ytmapddghlabaeaa
open Go.RowKit
variable {w w' : World}

def spA : List ByteArray := [⟨#[97]⟩, ⟨#[98]⟩, ⟨#[99]⟩]
def spB : List ByteArray := [⟨#[98]⟩, ⟨#[99]⟩, ⟨#[100]⟩]
theorem cmI_bound2 (E : Nat → Nat → Bool) (n m i j : Nat) : cmI E n m i j ≤ m - j := by
  rw [cmI_turn E n m _ i j (Nat.le_refl _)]; exact cmI_bound _ _ _ _ _
theorem spL : diffL spA spB = [(1, ⟨#[97]⟩), (0, ⟨#[98]⟩), (0, ⟨#[99]⟩), (2, ⟨#[100]⟩)] := by
  have h : cmI (eqB spA spB) spA.length spB.length 0 (0 + 1) ≤ cmI (eqB spA spB) spA.length spB.length (0 + 1) 0 := by
    have h1 := cmI_bound2 (eqB spA spB) spA.length spB.length 0 (0 + 1)
    have h2 : cmI (eqB spA spB) spA.length spB.length (0 + 1) 0 = 2 := by
      rw [cmI_same (by decide) (by decide) (by decide), cmI_same (by decide) (by decide) (by decide), cmI_end (by decide)]
    rw [h2]; exact h1
  unfold diffL
  rw [edI_ofDrop (by decide) (.inr ⟨by decide, by decide, h⟩), edI_keep (by decide) (by decide) (by decide), edI_keep (by decide) (by decide) (by decide), edI_ofAdd (by decide) (.inl (by decide)), edI_end (by decide) (by decide)]
  rfl
theorem tx_three (W : World) (x y z : ByteArray) (t : TypeId) (hx : x.size ≤ maxLen) (hy : y.size ≤ maxLen) (hz : z.size ≤ maxLen) : TxAt (W.alloc (.cells #[.string x, .string y, .string z] t)) (some ⟨W.heap.size, 0, none⟩) [x, y, z] := fun k hk => by
  have hg : (W.alloc (.cells #[.string x, .string y, .string z] t)).heap[W.heap.size]? = some (.cells #[.string x, .string y, .string z] t (0, 0)) := World.alloc_heap_new W _
  match k, hk with
  | 0, _ => exact ⟨hx, _, 0, rfl, by rw [cell_of_row hg]; rfl⟩
  | 1, _ => exact ⟨hy, _, 0, rfl, by rw [cell_of_row hg]; rfl⟩
  | 2, _ => exact ⟨hz, _, 0, rfl, by rw [cell_of_row hg]; rfl⟩
theorem under_de : Try.prog.underlying 37 = some (.struct (Try.prog.fieldsOf 37)) := by kernel_rfl
theorem held_de : Try.prog.stoodInHeld 37 = false := by kernel_rfl
theorem under_rd : Try.prog.underlying 36 = some (.struct (Try.prog.fieldsOf 36)) := by kernel_rfl
theorem held_rd : Try.prog.stoodInHeld 36 = false := by kernel_rfl
theorem run_ne_de (a : Int) (b : ByteArray) (w : World) : (binOp .neq 37 (.agg #[.int .i64 a, .string b]) (.agg #[.int .i64 a, .string b])).run Try.prog w = .ok (.bool false) w := by
  rw [run_neq_struct, run_equalIn_agg _ _ _ _ _ under_de held_de]
  simp [Op.eqFields, Program.fieldsOf, Try.underlying37, part, go_sem, Try.underlying9, Try.underlying3]
theorem run_ne_rd (a : Int) (b : ByteArray) (w : World) : (binOp .neq 36 (.agg #[.int .i64 a, .string b]) (.agg #[.int .i64 a, .string b])).run Try.prog w = .ok (.bool false) w := by
  rw [run_neq_struct, run_equalIn_agg _ _ _ _ _ under_rd held_rd]
  simp [Op.eqFields, Program.fieldsOf, Try.underlying36, part, go_sem, Try.underlying9, Try.underlying3]
set_option maxHeartbeats 4000000 in
set_option maxRecDepth 100000 in
theorem speaks_any (w : World) : Calls Try.prog 8 #[] w fun e w' => e = .returned (.bool true) ∧ Below w.heap.size w w' := by
  obtain ⟨W, hW⟩ : ∃ W, W = (w.alloc (.cells #[.string ⟨#[97]⟩, .string ⟨#[98]⟩, .string ⟨#[99]⟩] 9)).alloc (.cells #[.string ⟨#[98]⟩, .string ⟨#[99]⟩, .string ⟨#[100]⟩] 9) := ⟨_, rfl⟩
  have ta : TxAt W (some ⟨w.heap.size, 0, none⟩) spA := by rw [hW]; exact (tx_three w _ _ _ _ (by decide) (by decide) (by decide)).below ((Below.refl _ _).alloc (Nat.le_refl _) _)
  have tb : TxAt W (some ⟨w.heap.size + 1, 0, none⟩) spB := by
    rw [hW]
    have h := tx_three (w.alloc (.cells #[.string ⟨#[97]⟩, .string ⟨#[98]⟩, .string ⟨#[99]⟩] 9)) ⟨#[98]⟩ ⟨#[99]⟩ ⟨#[100]⟩ 9 (by decide) (by decide) (by decide)
    have hs : (w.alloc (.cells #[.string ⟨#[97]⟩, .string ⟨#[98]⟩, .string ⟨#[99]⟩] 9)).heap.size = w.heap.size + 1 := by simp
    rw [hs] at h
    exact h
  have hWb : Below w.heap.size w W := by rw [hW]; exact ((Below.refl _ w).alloc (Nat.le_refl _) _).alloc (by simp) _
  have H1 := Lib.hid (Diff_any (some ⟨w.heap.size, 0, none⟩) (some ⟨w.heap.size + 1, 0, none⟩) spA spB 3 3 W (by decide) (by decide) ta tb)
  rw [spL] at H1
  have HWB := Lib.hid hWb; have HW := Lib.hid hW
  clear ta tb hWb
  have hne1 : ∀ W : World, (binOp .neq 37 (.agg #[.int .i64 1, .string ⟨#[97]⟩]) (.agg #[.int .i64 1, .string ⟨#[97]⟩])).run Try.prog W = .ok (.bool false) W := fun W => run_ne_de 1 ⟨#[97]⟩ W
  have hne2 : ∀ W : World, (binOp .neq 37 (.agg #[.int .i64 2, .string ⟨#[100]⟩]) (.agg #[.int .i64 2, .string ⟨#[100]⟩])).run Try.prog W = .ok (.bool false) W := fun W => run_ne_de 2 ⟨#[100]⟩ W
  clear hW
  go_enter Try.func8, Try.ntmps8
  go_wp2_with (rw [← HW.out]; go_at_call 10; refine H1.out.mono ?_)
  rintro e w1 ⟨v, rfl, hrow, hb1⟩
  have hl4 : w1.ownsRow W.heap.size 37 2 v 4 (flatZ ([(1, ⟨#[97]⟩), (0, ⟨#[98]⟩), (0, ⟨#[99]⟩), (2, ⟨#[100]⟩)] : List EdZ)) := hrow
  obtain ⟨o, cl, rfl, h0 | ⟨g, rfl, _, hg, hc⟩⟩ := own_at hl4
  · cases h0
  have d0 : w1.cell? ⟨g, 0, none⟩ = some (.int .i64 1) := hc 0 _ rfl
  have d1 : w1.cell? ⟨g, 1, none⟩ = some (.string ⟨#[97]⟩) := hc 1 _ rfl
  have d6 : w1.cell? ⟨g, 6, none⟩ = some (.int .i64 2) := hc 6 _ rfl
  have d7 : w1.cell? ⟨g, 7, none⟩ = some (.string ⟨#[100]⟩) := hc 7 _ rfl
  have hed : EdAt w1 (some ⟨g, 0, none⟩) ([(1, ⟨#[97]⟩), (0, ⟨#[98]⟩), (0, ⟨#[99]⟩), (2, ⟨#[100]⟩)] : List EdZ) := fun k p hk => by
    have h2 := flatZ_get _ k p hk
    exact ⟨g, 0, rfl, by rw [Nat.zero_add]; exact hc _ _ h2.1, by rw [Nat.zero_add]; exact hc _ _ h2.2⟩
  have hB2 : Below w1.heap.size w1 (w1.alloc (.cells #[.string ⟨#[97]⟩, .string ⟨#[98]⟩, .string ⟨#[99]⟩] 9)) := (Below.refl _ _).alloc (Nat.le_refl _) _
  have H2 := Lib.hid (Apply_any (some ⟨w1.heap.size, 0, none⟩) (some ⟨g, 0, none⟩) spA ([(1, ⟨#[97]⟩), (0, ⟨#[98]⟩), (0, ⟨#[99]⟩), (2, ⟨#[100]⟩)] : List EdZ) 3 cl (w1.alloc (.cells #[.string ⟨#[97]⟩, .string ⟨#[98]⟩, .string ⟨#[99]⟩] 9)) (by decide) (by decide) (tx_three w1 _ _ _ _ (by decide) (by decide) (by decide)) (hed.below hB2) (by intro p hp; simp at hp; rcases hp with rfl | rfl | rfl | rfl <;> (show _ ≤ maxLen; decide)))
  have HAP : Hid (apD spA 0 [] ([(1, ⟨#[97]⟩), (0, ⟨#[98]⟩), (0, ⟨#[99]⟩), (2, ⟨#[100]⟩)] : List EdZ) = (spB, 0)) := Lib.hid (by have h := apply_diff spA spB; rw [spL] at h; exact h)
  have HB1 := Lib.hid (HWB.out.trans (hb1.mono HWB.out.size)); have HB2 := Lib.hid hB2
  clear hrow hl4 hc hed hb1 hB2 H1
  go_wp2_with (go_at_call 16; refine H2.out.mono ?_)
  rintro e w2 ⟨v2, rfl, hrow, _, hb2⟩
  rw [HAP.out] at hrow ⊢
  have hl3 : w2.ownsRow (w1.alloc (.cells #[.string ⟨#[97]⟩, .string ⟨#[98]⟩, .string ⟨#[99]⟩] 9)).heap.size 9 1 v2 3 (strV spB) := hrow
  obtain ⟨o2, c2, rfl, h0 | ⟨g2, rfl, _, hg2, hc2⟩⟩ := own_at hl3
  · cases h0
  have e0 : w2.cell? ⟨g2, 0, none⟩ = some (.string ⟨#[98]⟩) := hc2 0 _ rfl
  have HB3 := Lib.hid (HB1.out.trans ((HB2.out.trans (hb2.mono (by simp))).mono HB1.out.size))
  clear hrow hl3 hc2 hb2 H2
  go_wp2_with fail
  go_ret
  exact ⟨rfl, HB3.out⟩
end Go.Proofs.Ytmapddghlabaeaa
