/- Merges: the parts of a word in memory; text, two. -/
import Derived.Test.YtmdhendfmhhniaaDoorPf
namespace Go.Proofs.YtmdhendfmhhniaaDoor
open Go.RowKit

/-- The parts P of a word, with ranks R, at g: their ends in the row gf, the ranks in the row gr. -/
structure PtAt (g gf gr cf cr : Nat) (word : ByteArray) (P : List ByteArray) (R : Nat → Int) (w : World) : Prop where
  d : w.heap[g]? = some (.cells #[.string word, .slice (some ⟨gf, 0, none⟩) (P.length + 1) cf, .slice (some ⟨gr, 0, none⟩) P.length cr] 155 (0, 0))
  f : ∃ cur, w.heap[gf]? = some (.cells cur 3 (0, 0)) ∧ ∀ j, j ≤ P.length → cur[j]? = some (.int .i64 (offB P j : Nat))
  r : ∃ cur, w.heap[gr]? = some (.cells cur 3 (0, 0)) ∧ ∀ j, j < P.length → cur[j]? = some (.int .i64 (R j))
  cat : catB P = word.data.toList
  ne : gf ≠ gr
  cf : P.length + 1 ≤ cf
  cr : P.length ≤ cr
/-- Only the blocks of a word's parts have changed. -/
structure FrP (g gf gr : Nat) (w w' : World) : Prop where
  low : Below 0 w w'
  size : w.heap.size ≤ w'.heap.size
  block : ∀ k, k < w.heap.size → k ≠ g → k ≠ gf → k ≠ gr → w'.heap[k]? = w.heap[k]?
variable {g gf gr cf cr : Nat} {word : ByteArray} {P : List ByteArray} {R : Nat → Int} {w w' w'' : World}
theorem FrP.refl (g gf gr : Nat) (w : World) : FrP g gf gr w w := ⟨(Below.refl w.heap.size w).mono (Nat.zero_le _), Nat.le_refl _, fun _ _ _ _ _ => rfl⟩
theorem FrP.trans (h : FrP g gf gr w w') (k : FrP g gf gr w' w'') : FrP g gf gr w w'' :=
  ⟨h.low.trans k.low, Nat.le_trans h.size k.size, fun i hi a b c => (k.block i (Nat.lt_of_lt_of_le hi h.size) a b c).trans (h.block i hi a b c)⟩
theorem FrP.of_below (h : Below w.heap.size w w') : FrP g gf gr w w' := ⟨h.mono (Nat.zero_le _), h.size, fun k hk _ _ _ => h.block k hk⟩
theorem FrP.below {B : Nat} (h : FrP g gf gr w w') (hB : B ≤ w.heap.size) (h1 : B ≤ g) (h2 : B ≤ gf) (h3 : B ≤ gr) : Below B w w' :=
  ⟨h.low.os, h.low.tape, h.low.output, h.size, fun k hk => h.block k (by omega) (by omega) (by omega) (by omega)⟩
theorem FrP.drewN (h : FrP g gf gr w w') (m : Nat) : FrP g gf gr w (w'.drewN m) := ⟨below_drewN h.low m, h.size, h.block⟩
theorem FrP.undrew {m : Nat} (h : FrP g gf gr (w.drewN m) w') : FrP g gf gr w w' := ⟨⟨h.low.os, h.low.tape, h.low.output, h.size, fun _ hk => absurd hk (Nat.not_lt_zero _)⟩, h.size, h.block⟩
theorem FrP.set (w : World) (b i : Nat) (v : Value) (hb : b = g ∨ b = gf ∨ b = gr) : FrP g gf gr w (w.setCell ⟨b, i, none⟩ v) :=
  ⟨(Below.refl 0 w).setCell (p := ⟨b, i, none⟩) (Nat.zero_le _) _, (KeepsWalks.setCell w _ v).size, fun k _ h1 h2 h3 => Below.heap_setCell w _ v k (by rcases hb with rfl | rfl | rfl <;> assumption)⟩
theorem heap_set {b i : Nat} {cur : Array Value} {t : TypeId} {x : Nat × Nat} (v : Value) (h : w.heap[b]? = some (.cells cur t x)) : (w.setCell ⟨b, i, none⟩ v).heap[b]? = some (.cells (cur.setIfInBounds i v) t x) := by
  show (w.heap.modify b _)[b]? = _
  rw [Array.getElem?_modify, if_pos rfl, h]
  rfl
theorem PtAt.c0 (h : PtAt g gf gr cf cr word P R w) : w.cell? ⟨g, 0, none⟩ = some (.string word) := cell_of_row h.d
theorem PtAt.c1 (h : PtAt g gf gr cf cr word P R w) : w.cell? ⟨g, 1, none⟩ = some (.slice (some ⟨gf, 0, none⟩) (P.length + 1) cf) := cell_of_row h.d
theorem PtAt.c2 (h : PtAt g gf gr cf cr word P R w) : w.cell? ⟨g, 2, none⟩ = some (.slice (some ⟨gr, 0, none⟩) P.length cr) := cell_of_row h.d
theorem PtAt.cf' (h : PtAt g gf gr cf cr word P R w) {j : Nat} (hj : j ≤ P.length) : w.cell? ⟨gf, j, none⟩ = some (.int .i64 (offB P j : Nat)) := by
  obtain ⟨cur, hg, hc⟩ := h.f
  rw [cell_of_row hg]; exact hc j hj
theorem PtAt.cr' (h : PtAt g gf gr cf cr word P R w) {j : Nat} (hj : j < P.length) : w.cell? ⟨gr, j, none⟩ = some (.int .i64 (R j)) := by
  obtain ⟨cur, hg, hc⟩ := h.r
  rw [cell_of_row hg]; exact hc j hj
theorem PtAt.fr_f (h : PtAt g gf gr cf cr word P R w) (j : Nat) : w.frozen? ⟨gf, j, none⟩ = false := by
  obtain ⟨cur, hg, _⟩ := h.f
  simp [World.frozen?, hg]
theorem PtAt.fr_r (h : PtAt g gf gr cf cr word P R w) (j : Nat) : w.frozen? ⟨gr, j, none⟩ = false := by
  obtain ⟨cur, hg, _⟩ := h.r
  simp [World.frozen?, hg]
theorem PtAt.fr_g (h : PtAt g gf gr cf cr word P R w) (j : Nat) : w.frozen? ⟨g, j, none⟩ = false := by simp [World.frozen?, h.d]
theorem PtAt.lt (h : PtAt g gf gr cf cr word P R w) : g < w.heap.size ∧ gf < w.heap.size ∧ gr < w.heap.size := by
  obtain ⟨_, hf, _⟩ := h.f
  obtain ⟨_, hr, _⟩ := h.r
  exact ⟨lt_of_some h.d, lt_of_some hf, lt_of_some hr⟩
theorem PtAt.apart (h : PtAt g gf gr cf cr word P R w) : g ≠ gf ∧ g ≠ gr := by
  obtain ⟨_, hf, _⟩ := h.f
  obtain ⟨_, hr, _⟩ := h.r
  have hd := h.d
  constructor
  · rintro rfl; rw [hd] at hf; injection hf with hf; injection hf with _ h3; exact absurd h3 (by decide)
  · rintro rfl; rw [hd] at hr; injection hr with hr; injection hr with _ h3; exact absurd h3 (by decide)
theorem PtAt.keep (h : PtAt g gf gr cf cr word P R w) (hb : ∀ k, k < w.heap.size → w'.heap[k]? = w.heap[k]?) : PtAt g gf gr cf cr word P R w' := by
  obtain ⟨l1, l2, l3⟩ := h.lt
  obtain ⟨c1, f1, f2⟩ := h.f
  obtain ⟨c2, r1, r2⟩ := h.r
  exact ⟨(hb g l1).trans h.d, ⟨c1, (hb gf l2).trans f1, f2⟩, ⟨c2, (hb gr l3).trans r1, r2⟩, h.cat, h.ne, h.cf, h.cr⟩
theorem PtAt.below (h : PtAt g gf gr cf cr word P R w) (hb : Below w.heap.size w w') : PtAt g gf gr cf cr word P R w' := h.keep fun k hk => hb.block k hk
theorem PtAt.drewN (h : PtAt g gf gr cf cr word P R w) (m : Nat) : PtAt g gf gr cf cr word P R (w.drewN m) := h.keep fun _ _ => rfl
theorem PtAt.size_word (h : PtAt g gf gr cf cr word P R w) (k : Nat) : offB P k ≤ word.size := by
  have := offB_le P k
  rw [h.cat, size_len] at this
  exact this

set_option maxHeartbeats 1000000 in
set_option maxRecDepth 100000 in
theorem text_any (h : PtAt g gf gr cf cr word P R w) (_ : word.size ≤ 4096) (hP : P.length ≤ 4096) (i : Nat) (p : ByteArray) (hi : P[i]? = some p) :
    Calls Tryd.prog 80 #[.pointer (some ⟨g, 0, none⟩), .int .i64 i] w fun e w' => e = .returned (.string p) ∧ ∃ m, w' = w.drewN m := by
  have hil := (List.getElem?_eq_some_iff.1 hi).1
  have c0 := h.c0; have c1 := h.c1
  have d0 := h.cf' (j := i) (by omega)
  have d1 := h.cf' (j := i + 1) (by omega)
  have hs := h.size_word (i + 1)
  have hle : offB P i ≤ offB P (i + 1) := by rw [offB_succ hi]; omega
  have HE := Lib.hid (part_ext h.cat hi)
  obtain ⟨n, hn⟩ : ∃ n, P.length = n := ⟨_, rfl⟩
  rw [hn] at c1 hil hP
  obtain ⟨x, hx⟩ : ∃ x, offB P i = x := ⟨_, rfl⟩
  obtain ⟨y, hy⟩ : ∃ y, offB P (i + 1) = y := ⟨_, rfl⟩
  rw [hx] at d0 HE hle; rw [hy] at d1 HE hle hs
  clear hx hy hi hn h
  go_enter Tryd.func80, Tryd.ntmps80
  go_wp2_with fail
  go_quiet (fail)
  go_wp2_with fail
  go_ret
  refine ⟨?_, _, rfl⟩
  try rw [HE.out]
  rfl
theorem PtAt.undrew {m : Nat} (h : PtAt g gf gr cf cr word P R (w.drewN m)) : PtAt g gf gr cf cr word P R w := h.keep fun _ _ => rfl
set_option maxHeartbeats 1000000 in
set_option maxRecDepth 100000 in
theorem two_any (h : PtAt g gf gr cf cr word P R w) (hw : word.size ≤ 4096) (hP : P.length ≤ 4096) (i : Nat) (p q : ByteArray) (hi : P[i]? = some p) (hj : P[i + 1]? = some q) :
    Calls Tryd.prog 81 #[.pointer (some ⟨g, 0, none⟩), .int .i64 i] w fun e w' => e = .returned (.agg #[.string p, .string q]) ∧ Below w.heap.size w w' := by
  have hil := (List.getElem?_eq_some_iff.1 hj).1
  have hi3 : (i : Int) ≤ 4096 := by omega
  have HA : ∀ W, Below w.heap.size w W → Calls Tryd.prog 80 #[.pointer (some ⟨g, 0, none⟩), .int .i64 i] W fun e w' => e = .returned (.string p) ∧ ∃ m, w' = W.drewN m := fun W hb => text_any (h.below hb) hw hP i p hi
  have HB : ∀ W, Below w.heap.size w W → Calls Tryd.prog 80 #[.pointer (some ⟨g, 0, none⟩), .int .i64 ((i : Int) + 1)] W fun e w' => e = .returned (.string q) ∧ ∃ m, w' = W.drewN m := fun W hb => text_any (h.below hb) hw hP (i + 1) q hj
  have HA := Lib.hid HA; have HB := Lib.hid HB
  clear h hi hj
  go_enter Tryd.func81, Tryd.ntmps81
  go_wp2_with fail
  have hb0 : Below w.heap.size w (w.alloc (.cells #[.string ⟨#[]⟩, .string ⟨#[]⟩] 48)) := (Below.refl _ _).alloc (Nat.le_refl _) _
  refine (HA.out _ hb0).mono ?_
  rintro e w1 ⟨rfl, m, rfl⟩
  have hb1 := below_drewN hb0 m
  go_wp2_with fail
  refine (HB.out _ hb1).mono ?_
  rintro e w2 ⟨rfl, m2, rfl⟩
  go_wp2_with fail
  have hb2 := below_drewN hb1 m2
  refine bodyPost_ret (v := .agg #[.string p, .string q]) (by simp [results, Tryd.results81, go_sem]) rfl ⟨rfl, ?_⟩
  first
    | exact (hb2.setCell (p := ⟨w.heap.size, 0, none⟩) (Nat.le_refl _) _).setCell (p := ⟨w.heap.size, 1, none⟩) (Nat.le_refl _) _
    | (simp only [World.drewN_drewN] at hb2 ⊢; exact (hb2.setCell (p := ⟨w.heap.size, 0, none⟩) (Nat.le_refl _) _).setCell (p := ⟨w.heap.size, 1, none⟩) (Nat.le_refl _) _)
end Go.Proofs.YtmdhendfmhhniaaDoor
