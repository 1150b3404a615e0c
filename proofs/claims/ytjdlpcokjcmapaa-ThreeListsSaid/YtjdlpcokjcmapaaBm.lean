/- Three lists: the law's first play. -/
import Derived.Test.YtjdlpcokjcmapaaBl
set_option linter.unusedVariables false
set_option linter.unusedSimpArgs false
namespace Go.Proofs.Ytjdlpcokjcmapaa
open Go.RowKit Go.Maps Go.WideShapes
variable {w w' : World}

def spX : List ByteArray := [⟨#[97]⟩, ⟨#[98]⟩]
def spO : List ByteArray := [⟨#[120]⟩, ⟨#[97]⟩, ⟨#[98]⟩]
def spT : List ByteArray := [⟨#[97]⟩, ⟨#[98]⟩, ⟨#[121]⟩]
def spW : List ByteArray := [⟨#[120]⟩, ⟨#[97]⟩, ⟨#[98]⟩, ⟨#[121]⟩]
theorem sp_lists : listsL spX spO spT = (spW, [], 0) := by
  have h1 : stayL spX spT spO = spO := by decide
  have h2 : stayL spX spO spT = spT := by decide
  unfold listsL
  rw [if_neg (by decide), if_neg (by decide), if_neg (by decide), h1, h2]
  have h3 : wv spO spT = (spW, []) := by
    unfold spO spT
    rw [wv_left (by decide) (by decide), wv_both, wv_both, wv_nil]; rfl
  rw [h3]
theorem sp_m1 : matchL spX spO = [1, 2] := by
  have h2 : cmI (eqB spX spO) spX.length spO.length 0 (0 + 1) = 2 := by
    rw [cmI_same (by decide) (by decide) (by decide), cmI_same (by decide) (by decide) (by decide), cmI_end (by decide)]
  have h : cmI (eqB spX spO) spX.length spO.length (0 + 1) 0 < cmI (eqB spX spO) spX.length spO.length 0 (0 + 1) := by
    have h1 := cmI_bound (eqB spX spO) spX.length spO.length (0 + 1) 0
    rw [h2]
    exact Nat.lt_of_le_of_lt h1 (by decide)
  unfold matchL
  rw [edI_add (by decide) (by decide) (by decide) h, edI_keep (by decide) (by decide) (by decide), edI_keep (by decide) (by decide) (by decide), edI_end (by decide) (by decide)]
  rfl
theorem sp_m2 : matchL spX spT = [0, 1] := by
  unfold matchL
  rw [edI_keep (by decide) (by decide) (by decide), edI_keep (by decide) (by decide) (by decide), edI_ofAdd (by decide) (.inl (by decide)), edI_end (by decide) (by decide)]
  rfl
theorem sp_lines : lnE spX spO spT = (spW, 0) := by
  have h : lnF spX spO spT 2 = ((2, 3, 2), ([⟨#[120]⟩, ⟨#[97]⟩, ⟨#[98]⟩], 0)) := by
    show lnStp spX spO spT 1 _ _ (lnStp spX spO spT 0 _ _ ((0, 0, 0), ([], 0))) = _
    rw [sp_m1, sp_m2]
    decide
  unfold lnE
  rw [show spX.length = 2 from rfl, h]
  decide
theorem tx_two (W : World) (x y : ByteArray) (t : TypeId) (hx : x.size ≤ maxLen) (hy : y.size ≤ maxLen) : TxAt (W.alloc (.cells #[.string x, .string y] t)) (some ⟨W.heap.size, 0, none⟩) [x, y] := fun k hk => by
  have hg : (W.alloc (.cells #[.string x, .string y] t)).heap[W.heap.size]? = some (.cells #[.string x, .string y] t (0, 0)) := World.alloc_heap_new W _
  match k, hk with
  | 0, _ => exact ⟨hx, _, 0, rfl, by rw [cell_of_row hg]; rfl⟩
  | 1, _ => exact ⟨hy, _, 0, rfl, by rw [cell_of_row hg]; rfl⟩
theorem tx_three (W : World) (x y z : ByteArray) (t : TypeId) (hx : x.size ≤ maxLen) (hy : y.size ≤ maxLen) (hz : z.size ≤ maxLen) : TxAt (W.alloc (.cells #[.string x, .string y, .string z] t)) (some ⟨W.heap.size, 0, none⟩) [x, y, z] := fun k hk => by
  have hg : (W.alloc (.cells #[.string x, .string y, .string z] t)).heap[W.heap.size]? = some (.cells #[.string x, .string y, .string z] t (0, 0)) := World.alloc_heap_new W _
  match k, hk with
  | 0, _ => exact ⟨hx, _, 0, rfl, by rw [cell_of_row hg]; rfl⟩
  | 1, _ => exact ⟨hy, _, 0, rfl, by rw [cell_of_row hg]; rfl⟩
  | 2, _ => exact ⟨hz, _, 0, rfl, by rw [cell_of_row hg]; rfl⟩
theorem tx_four (W : World) (x y z u : ByteArray) (t : TypeId) (hx : x.size ≤ maxLen) (hy : y.size ≤ maxLen) (hz : z.size ≤ maxLen) (hu : u.size ≤ maxLen) : TxAt (W.alloc (.cells #[.string x, .string y, .string z, .string u] t)) (some ⟨W.heap.size, 0, none⟩) [x, y, z, u] := fun k hk => by
  have hg : (W.alloc (.cells #[.string x, .string y, .string z, .string u] t)).heap[W.heap.size]? = some (.cells #[.string x, .string y, .string z, .string u] t (0, 0)) := World.alloc_heap_new W _
  match k, hk with
  | 0, _ => exact ⟨hx, _, 0, rfl, by rw [cell_of_row hg]; rfl⟩
  | 1, _ => exact ⟨hy, _, 0, rfl, by rw [cell_of_row hg]; rfl⟩
  | 2, _ => exact ⟨hz, _, 0, rfl, by rw [cell_of_row hg]; rfl⟩
  | 3, _ => exact ⟨hu, _, 0, rfl, by rw [cell_of_row hg]; rfl⟩
/-- The world of the three lists, and where they lie. -/
def spWd (w : World) : World := ((w.alloc (.cells #[.string ⟨#[97]⟩, .string ⟨#[98]⟩] 9)).alloc (.cells #[.string ⟨#[120]⟩, .string ⟨#[97]⟩, .string ⟨#[98]⟩] 9)).alloc (.cells #[.string ⟨#[97]⟩, .string ⟨#[98]⟩, .string ⟨#[121]⟩] 9)
theorem sp_at (w : World) : TxAt (spWd w) (some ⟨w.heap.size, 0, none⟩) spX ∧ TxAt (spWd w) (some ⟨w.heap.size + 1, 0, none⟩) spO ∧ TxAt (spWd w) (some ⟨w.heap.size + 1 + 1, 0, none⟩) spT ∧ Below w.heap.size w (spWd w) := by
  have b1 : Below w.heap.size w (w.alloc (.cells #[.string ⟨#[97]⟩, .string ⟨#[98]⟩] 9)) := (Below.refl _ w).alloc (Nat.le_refl _) _
  have s1 : (w.alloc (.cells #[.string ⟨#[97]⟩, .string ⟨#[98]⟩] 9)).heap.size = w.heap.size + 1 := by simp
  have t1 := tx_two w ⟨#[97]⟩ ⟨#[98]⟩ 9 (by decide) (by decide)
  unfold spWd
  generalize w.alloc (.cells #[.string ⟨#[97]⟩, .string ⟨#[98]⟩] 9) = w1 at b1 s1 t1 ⊢
  have b2 : Below w1.heap.size w1 (w1.alloc (.cells #[.string ⟨#[120]⟩, .string ⟨#[97]⟩, .string ⟨#[98]⟩] 9)) := (Below.refl _ w1).alloc (Nat.le_refl _) _
  have s2 : (w1.alloc (.cells #[.string ⟨#[120]⟩, .string ⟨#[97]⟩, .string ⟨#[98]⟩] 9)).heap.size = w1.heap.size + 1 := by simp
  have t2 := tx_three w1 ⟨#[120]⟩ ⟨#[97]⟩ ⟨#[98]⟩ 9 (by decide) (by decide) (by decide)
  generalize w1.alloc (.cells #[.string ⟨#[120]⟩, .string ⟨#[97]⟩, .string ⟨#[98]⟩] 9) = w2 at b2 s2 t2 ⊢
  have b3 : Below w2.heap.size w2 (w2.alloc (.cells #[.string ⟨#[97]⟩, .string ⟨#[98]⟩, .string ⟨#[121]⟩] 9)) := (Below.refl _ w2).alloc (Nat.le_refl _) _
  have t3 := tx_three w2 ⟨#[97]⟩ ⟨#[98]⟩ ⟨#[121]⟩ 9 (by decide) (by decide) (by decide)
  rw [s1] at t2 s2
  rw [s2] at t3
  exact ⟨(t1.below b2).below b3, t2.below b3, t3, b1.trans ((b2.mono (by omega)).trans (b3.mono (by omega)))⟩
set_option maxHeartbeats 4000000 in
set_option maxRecDepth 100000 in
theorem speaks_any (w : World) : Calls Try.prog 8 #[] w fun e w' => e = .returned (.bool true) ∧ Below w.heap.size w w' := by
  have HS1 : Hid (∀ W : World, Calls Try.prog 10 #[.slice (some ⟨W.heap.size, 0, none⟩) 2 2, .slice (some ⟨W.heap.size + 1, 0, none⟩) 3 3, .slice (some ⟨W.heap.size + 1 + 1, 0, none⟩) 3 3] (spWd W) fun e w' => ∃ a c d f, e = .returned (.tuple #[.slice a 4 c, .slice d 0 f, .int .i64 0]) ∧ TxAt w' a spW ∧ Below W.heap.size W w') := Lib.hid (fun W => by
    obtain ⟨t1, t2, t3, hb⟩ := sp_at W
    refine (Lists_any _ _ _ spX spO spT 2 3 3 (spWd W) (by decide) (by decide) (by decide) t1 t2 t3).mono ?_
    rintro e w' ⟨v1, v2, rfl, r1, r2, hb2⟩
    rw [sp_lists] at r1 r2 ⊢
    obtain ⟨a, c, rfl, ht, _⟩ := own_texts (l := spW) r1 (by decide)
    obtain ⟨d, f, rfl, _⟩ := own_at r2
    exact ⟨a, c, d, f, rfl, ht, hb.trans (hb2.mono hb.size)⟩)
  have HS2 : Hid (∀ W : World, Calls Try.prog 13 #[.slice (some ⟨W.heap.size, 0, none⟩) 2 2, .slice (some ⟨W.heap.size + 1, 0, none⟩) 3 3, .slice (some ⟨W.heap.size + 1 + 1, 0, none⟩) 3 3] (spWd W) fun e w' => ∃ a c d f, e = .returned (.tuple #[.slice a 4 c, .slice d 0 f, .int .i64 0]) ∧ TxAt w' a spW ∧ Below W.heap.size W w') := Lib.hid (fun W => by
    obtain ⟨t1, t2, t3, hb⟩ := sp_at W
    refine (Lines_any _ _ _ spX spO spT 2 3 3 (spWd W) (by decide) (by decide) (by decide) (by decide) (by decide) (by decide) t1 t2 t3).mono ?_
    rintro e w' ⟨v1, d, f, rfl, r1, hb2⟩
    have hl : linesO spX spO spT = spW := by unfold linesO; rw [sp_lines, if_pos rfl]
    rw [hl] at r1
    rw [sp_lines]
    obtain ⟨a, c, rfl, ht, _⟩ := own_texts (l := spW) r1 (by decide)
    exact ⟨a, c, d, f, rfl, ht, hb.trans (hb2.mono hb.size)⟩)
  have HW : Hid (∀ W, spWd W = ((W.alloc (.cells #[.string ⟨#[97]⟩, .string ⟨#[98]⟩] 9)).alloc (.cells #[.string ⟨#[120]⟩, .string ⟨#[97]⟩, .string ⟨#[98]⟩] 9)).alloc (.cells #[.string ⟨#[97]⟩, .string ⟨#[98]⟩, .string ⟨#[121]⟩] 9)) := Lib.hid (fun _ => rfl)
  go_enter Try.func8, Try.ntmps8
  go_upto_region 3 with (first
    | (go_at_call 10; rw [← HW.out]; refine (HS1.out _).mono ?_; rintro e w1 ⟨a1, c1, d1, f1, rfl, ht1, hb1⟩; have HT1 := Lib.hid ht1; have HB1 := Lib.hid hb1; clear ht1 hb1)
    | (go_at_call 13; rw [← HW.out]; refine (HS2.out _).mono ?_; rintro e w2 ⟨a2, c2, d2, f2, rfl, ht2, hb2⟩; have HT2 := Lib.hid ht2; have HT1' := Lib.hid (HT1.out.below hb2); have HB2 := Lib.hid (HB1.out.trans (hb2.mono HB1.out.size)); clear ht2 hb2))
  have hB4 : Below w2.heap.size w2 (w2.alloc (.cells #[.string ⟨#[120]⟩, .string ⟨#[97]⟩, .string ⟨#[98]⟩, .string ⟨#[121]⟩] 9)) := (Below.refl _ w2).alloc (Nat.le_refl _) _
  have ht4 : TxAt (w2.alloc (.cells #[.string ⟨#[120]⟩, .string ⟨#[97]⟩, .string ⟨#[98]⟩, .string ⟨#[121]⟩] 9)) (some ⟨w2.heap.size, 0, none⟩) spW := tx_four w2 _ _ _ _ _ (by decide) (by decide) (by decide) (by decide)
  have h1 := HT1'.out.below hB4
  have h2 := HT2.out.below hB4
  have HB4 := Lib.hid (HB2.out.trans (hB4.mono HB2.out.size))
  obtain ⟨W4, hW4⟩ : ∃ W, w2.alloc (.cells #[.string ⟨#[120]⟩, .string ⟨#[97]⟩, .string ⟨#[98]⟩, .string ⟨#[121]⟩] 9) = W := ⟨_, rfl⟩
  rw [hW4] at ht4 h1 h2 HB4
  have HA1 := Lib.hid (fun q => Alike_any a1 (some ⟨w2.heap.size, 0, none⟩) spW spW c1 4 (W4.drewN q) (by decide) (by decide) (h1.below (below_drewN (Below.refl _ _) q)) (ht4.below (below_drewN (Below.refl _ _) q)))
  have HA2 := Lib.hid (fun q => Alike_any a2 (some ⟨w2.heap.size, 0, none⟩) spW spW c2 4 (W4.drewN q) (by decide) (by decide) (h2.below (below_drewN (Below.refl _ _) q)) (ht4.below (below_drewN (Below.refl _ _) q)))
  have HW4 := Lib.hid hW4
  have FIRST : Hid (1 = 1) := Lib.hid rfl
  clear hB4 ht4 h1 h2 hW4
  go_wp2_with (first
    | (clear FIRST; go_at_call 12; rw [HW4.out]; refine (show Calls Try.prog 12 #[.slice a1 4 c1, .slice (some ⟨w2.heap.size, 0, none⟩) 4 4] W4 _ from HA1.out 0).mono ?_; rintro e w5 ⟨rfl, q, hq⟩; (obtain rfl : w5 = W4.drewN q := hq))
    | (go_at_call 12; refine (show Calls Try.prog 12 #[.slice a2 4 c2, .slice (some ⟨w2.heap.size, 0, none⟩) 4 4] _ _ from HA2.out _).mono ?_; rintro e w6 ⟨rfl, q2, rfl⟩))
  go_ret
  exact ⟨by simp, below_drewN HB4.out _⟩
end Go.Proofs.Ytjdlpcokjcmapaa
