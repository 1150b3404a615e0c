/- Merges: a word's parts while a round merges them. -/
import Derived.Test.YtlfjlkmikmajaaaPl
namespace Go.Proofs.Ytlfjlkmikmajaaa
open Go.RowKit Go.Maps
variable {g gf gr cf cr m : Nat} {word : ByteArray} {P : List ByteArray} {F : Nat → Nat} {R : Nat → Int} {w w' w'' : World}

structure MxAt (g gf gr cf cr m : Nat) (word : ByteArray) (F : Nat → Nat) (R : Nat → Int) (w : World) : Prop where
  d : w.heap[g]? = some (.cells #[.string word, .slice (some ⟨gf, 0, none⟩) (m + 1) cf, .slice (some ⟨gr, 0, none⟩) m cr] 99 (0, 0))
  f : ∃ cur, w.heap[gf]? = some (.cells cur 3 (0, 0)) ∧ ∀ j, j ≤ m → cur[j]? = some (.int .i64 (F j : Nat))
  r : ∃ cur, w.heap[gr]? = some (.cells cur 3 (0, 0)) ∧ ∀ j, j < m → cur[j]? = some (.int .i64 (R j))
  ne : gf ≠ gr
  cf : m + 1 ≤ cf
  cr : m ≤ cr
theorem PtAt.mx (h : PtAt g gf gr cf cr word P R w) : MxAt g gf gr cf cr P.length word (offB P) R w := ⟨h.d, h.f, h.r, h.ne, h.cf, h.cr⟩
theorem MxAt.c0 (h : MxAt g gf gr cf cr m word F R w) : w.cell? ⟨g, 0, none⟩ = some (.string word) := cell_of_row h.d
theorem MxAt.c1 (h : MxAt g gf gr cf cr m word F R w) : w.cell? ⟨g, 1, none⟩ = some (.slice (some ⟨gf, 0, none⟩) (m + 1) cf) := cell_of_row h.d
theorem MxAt.c2 (h : MxAt g gf gr cf cr m word F R w) : w.cell? ⟨g, 2, none⟩ = some (.slice (some ⟨gr, 0, none⟩) m cr) := cell_of_row h.d
theorem MxAt.cf' (h : MxAt g gf gr cf cr m word F R w) {j : Nat} (hj : j ≤ m) : w.cell? ⟨gf, j, none⟩ = some (.int .i64 (F j : Nat)) := by
  obtain ⟨cur, hg, hc⟩ := h.f
  rw [cell_of_row hg]; exact hc j hj
theorem MxAt.cr' (h : MxAt g gf gr cf cr m word F R w) {j : Nat} (hj : j < m) : w.cell? ⟨gr, j, none⟩ = some (.int .i64 (R j)) := by
  obtain ⟨cur, hg, hc⟩ := h.r
  rw [cell_of_row hg]; exact hc j hj
theorem MxAt.fr_f (h : MxAt g gf gr cf cr m word F R w) (j : Nat) : w.frozen? ⟨gf, j, none⟩ = false := by
  obtain ⟨cur, hg, _⟩ := h.f
  simp [World.frozen?, hg]
theorem MxAt.fr_r (h : MxAt g gf gr cf cr m word F R w) (j : Nat) : w.frozen? ⟨gr, j, none⟩ = false := by
  obtain ⟨cur, hg, _⟩ := h.r
  simp [World.frozen?, hg]
theorem MxAt.fr_g (h : MxAt g gf gr cf cr m word F R w) (j : Nat) : w.frozen? ⟨g, j, none⟩ = false := by simp [World.frozen?, h.d]
theorem MxAt.lt (h : MxAt g gf gr cf cr m word F R w) : g < w.heap.size ∧ gf < w.heap.size ∧ gr < w.heap.size := by
  obtain ⟨_, hf, _⟩ := h.f
  obtain ⟨_, hr, _⟩ := h.r
  exact ⟨lt_of_some h.d, lt_of_some hf, lt_of_some hr⟩
theorem MxAt.apart (h : MxAt g gf gr cf cr m word F R w) : g ≠ gf ∧ g ≠ gr := by
  obtain ⟨_, hf, _⟩ := h.f
  obtain ⟨_, hr, _⟩ := h.r
  have hd := h.d
  constructor
  · rintro rfl; rw [hd] at hf; injection hf with hf; injection hf with _ h3; exact absurd h3 (by decide)
  · rintro rfl; rw [hd] at hr; injection hr with hr; injection hr with _ h3; exact absurd h3 (by decide)
theorem MxAt.keep (h : MxAt g gf gr cf cr m word F R w) (hb : ∀ k, k < w.heap.size → w'.heap[k]? = w.heap[k]?) : MxAt g gf gr cf cr m word F R w' := by
  obtain ⟨l1, l2, l3⟩ := h.lt
  obtain ⟨c1, f1, f2⟩ := h.f
  obtain ⟨c2, r1, r2⟩ := h.r
  exact ⟨(hb g l1).trans h.d, ⟨c1, (hb gf l2).trans f1, f2⟩, ⟨c2, (hb gr l3).trans r1, r2⟩, h.ne, h.cf, h.cr⟩
theorem MxAt.below (h : MxAt g gf gr cf cr m word F R w) (hb : Below w.heap.size w w') : MxAt g gf gr cf cr m word F R w' := h.keep fun k hk => hb.block k hk
theorem MxAt.drewN (h : MxAt g gf gr cf cr m word F R w) (q : Nat) : MxAt g gf gr cf cr m word F R (w.drewN q) := h.keep fun _ _ => rfl
theorem MxAt.setr (h : MxAt g gf gr cf cr m word F R w) (i : Nat) (v : Int) : MxAt g gf gr cf cr m word F (upd R i v) (w.setCell ⟨gr, i, none⟩ (.int .i64 v)) := by
  obtain ⟨a1, a2⟩ := h.apart
  obtain ⟨c1, f1, f2⟩ := h.f
  obtain ⟨c2, r1, r2⟩ := h.r
  refine ⟨(Below.heap_setCell w ⟨gr, i, none⟩ _ _ a2).trans h.d, ⟨c1, (Below.heap_setCell w ⟨gr, i, none⟩ _ _ h.ne).trans f1, f2⟩, ⟨_, heap_set _ r1, fun j hj => ?_⟩, h.ne, h.cf, h.cr⟩
  have hs := r2 j hj
  have hlt := (Array.getElem?_eq_some_iff.1 hs).1
  unfold upd
  by_cases e : j = i
  · subst e; rw [Array.getElem?_setIfInBounds_self_of_lt hlt, if_pos rfl]
  · rw [Array.getElem?_setIfInBounds_ne (Ne.symm e), if_neg e]; exact hs
def updN (F : Nat → Nat) (i v : Nat) : Nat → Nat := fun j => if j = i then v else F j
theorem MxAt.setf (h : MxAt g gf gr cf cr m word F R w) (i v : Nat) : MxAt g gf gr cf cr m word (updN F i v) R (w.setCell ⟨gf, i, none⟩ (.int .i64 (v : Nat))) := by
  obtain ⟨a1, a2⟩ := h.apart
  obtain ⟨c1, f1, f2⟩ := h.f
  obtain ⟨c2, r1, r2⟩ := h.r
  refine ⟨(Below.heap_setCell w ⟨gf, i, none⟩ _ _ a1).trans h.d, ⟨_, heap_set _ f1, fun j hj => ?_⟩, ⟨c2, (Below.heap_setCell w ⟨gf, i, none⟩ _ _ (Ne.symm h.ne)).trans r1, r2⟩, h.ne, h.cf, h.cr⟩
  have hs := f2 j hj
  have hlt := (Array.getElem?_eq_some_iff.1 hs).1
  unfold updN
  by_cases e : j = i
  · subst e; rw [Array.getElem?_setIfInBounds_self_of_lt hlt, if_pos rfl]
  · rw [Array.getElem?_setIfInBounds_ne (Ne.symm e), if_neg e]; exact hs
set_option maxHeartbeats 1000000 in
set_option maxRecDepth 100000 in
theorem text_mx (h : MxAt g gf gr cf cr m word F R w) (_ : word.size ≤ 4096) (hm : m ≤ 4096) (i : Nat) (hi : i < m) (h1 : F i ≤ F (i + 1)) (h2 : F (i + 1) ≤ word.size) :
    Calls Try.prog 51 #[.pointer (some ⟨g, 0, none⟩), .int .i64 i] w fun e w' => e = .returned (.string (word.extract (F i) (F (i + 1)))) ∧ ∃ m, w' = w.drewN m := by
  have c0 := h.c0; have c1 := h.c1
  have d0 := h.cf' (j := i) (by omega)
  have d1 := h.cf' (j := i + 1) (by omega)
  obtain ⟨x, hx⟩ : ∃ x, F i = x := ⟨_, rfl⟩
  obtain ⟨y, hy⟩ : ∃ y, F (i + 1) = y := ⟨_, rfl⟩
  rw [hx] at d0 h1 ⊢; rw [hy] at d1 h1 h2 ⊢
  clear hx hy h
  go_enter Try.func51, Try.ntmps51
  go_wp2_with fail
  go_quiet (fail)
  go_wp2_with fail
  go_ret
  exact ⟨rfl, _, rfl⟩
set_option maxHeartbeats 1000000 in
set_option maxRecDepth 100000 in
theorem two_mx (h : MxAt g gf gr cf cr m word F R w) (hw : word.size ≤ 4096) (hm : m ≤ 4096) (i : Nat) (hi : i + 1 < m) (h1 : F i ≤ F (i + 1)) (h2 : F (i + 1) ≤ F (i + 2)) (h3 : F (i + 2) ≤ word.size) (p q : ByteArray) (hp : word.extract (F i) (F (i + 1)) = p) (hq : word.extract (F (i + 1)) (F (i + 2)) = q) :
    Calls Try.prog 52 #[.pointer (some ⟨g, 0, none⟩), .int .i64 i] w fun e w' => e = .returned (.agg #[.string p, .string q]) ∧ Below w.heap.size w w' := by
  have hi3 : (i : Int) ≤ 4096 := by omega
  have HA : ∀ W, Below w.heap.size w W → Calls Try.prog 51 #[.pointer (some ⟨g, 0, none⟩), .int .i64 i] W fun e w' => e = .returned (.string p) ∧ ∃ m, w' = W.drewN m := fun W hb => hp ▸ text_mx (h.below hb) hw hm i (by omega) h1 (by omega)
  have HB : ∀ W, Below w.heap.size w W → Calls Try.prog 51 #[.pointer (some ⟨g, 0, none⟩), .int .i64 ((i : Int) + 1)] W fun e w' => e = .returned (.string q) ∧ ∃ m, w' = W.drewN m := fun W hb => hq ▸ text_mx (h.below hb) hw hm (i + 1) (by omega) h2 h3
  have HA := Lib.hid HA; have HB := Lib.hid HB
  clear h hi hp hq h1 h2 h3
  go_enter Try.func52, Try.ntmps52
  go_wp2_with fail
  have hb0 : Below w.heap.size w (w.alloc (.cells #[.string ⟨#[]⟩, .string ⟨#[]⟩] 32)) := (Below.refl _ _).alloc (Nat.le_refl _) _
  refine (HA.out _ hb0).mono ?_
  rintro e w1 ⟨rfl, m1, rfl⟩
  have hb1 := below_drewN hb0 m1
  go_wp2_with fail
  refine (HB.out _ hb1).mono ?_
  rintro e w2 ⟨rfl, m2, rfl⟩
  go_wp2_with fail
  have hb2 := below_drewN hb1 m2
  refine bodyPost_ret (v := .agg #[.string p, .string q]) (by simp [results, Try.results52, go_sem]) rfl ⟨rfl, ?_⟩
  first
    | exact (hb2.setCell (p := ⟨w.heap.size, 0, none⟩) (Nat.le_refl _) _).setCell (p := ⟨w.heap.size, 1, none⟩) (Nat.le_refl _) _
    | (simp only [World.drewN_drewN] at hb2 ⊢; exact (hb2.setCell (p := ⟨w.heap.size, 0, none⟩) (Nat.le_refl _) _).setCell (p := ⟨w.heap.size, 1, none⟩) (Nat.le_refl _) _)
theorem under_mp : Try.prog.underlying 32 = some (.struct (Try.prog.fieldsOf 32)) := by kernel_rfl
theorem held_mp : Try.prog.stoodInHeld 32 = false := by kernel_rfl
theorem run_eq_mp (a b c d : ByteArray) (w : World) : (binOp .eql 32 (.agg #[.string a, .string b]) (.agg #[.string c, .string d])).run Try.prog w = .ok (.bool (decide ((a, b) = (c, d)))) w := by
  rw [run_eql_struct, run_equalIn_agg _ _ _ _ _ under_mp held_mp]
  have e1 : (decide ((a, b) = (c, d)) : Bool) = (decide (a = c) && decide (b = d)) := by
    rw [Bool.eq_iff_iff]; simp
  rw [e1]
  simp [Op.eqFields, Program.fieldsOf, Try.underlying32, part, go_sem, Try.underlying9, ba_beq]
  by_cases h1 : a = c <;> by_cases h2 : b = d <;> simp [h1, h2]
end Go.Proofs.Ytlfjlkmikmajaaa
