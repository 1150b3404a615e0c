/- Space: how many units are free. -/
import Derived.Test.YtbegjgceemffcaaZb
namespace Go.Proofs.Ytbegjgceemffcaa
open Go.RowKit Go.Shelf
attribute [local go_sem] Oper.semAt_some
variable {w w' : World}

def freeC (x : UInt8) (k : Nat) : Nat := (List.range k).countP fun i => !bitS x i
theorem freeC_yes {x : UInt8} {k : Nat} (h : bitS x k = true) : freeC x (k + 1) = freeC x k := by
  unfold freeC; rw [List.range_succ, List.countP_append]; simp [h]
theorem freeC_no {x : UInt8} {k : Nat} (h : bitS x k = false) : freeC x (k + 1) = freeC x k + 1 := by
  unfold freeC; rw [List.range_succ, List.countP_append]; simp [h]
theorem freeC_le (x : UInt8) (k : Nat) : freeC x k ≤ k := by
  unfold freeC
  exact Nat.le_trans (List.countP_le_length) (by simp)
structure FcI (B : Nat) (v : Value) (t : TypeId) (w W : World) : Prop where
  box : W.heap[B]? = some (.cells #[v] t (0, 0))
  bel : Below w.heap.size w W
theorem FcI.stab {B Bn D : Nat} {v : Value} {t : TypeId} (hB : B = w.heap.size + 1) (hBn : Bn = w.heap.size + 2) (hD : D = w.heap.size + 3) : Stab Bn D (FcI B v t w) := by
  intro W W' h hl hs hk
  have hb := lt_of_some h.box
  have hz := h.bel.size
  exact ⟨(hk B hb (by omega) (by omega) (by omega)).trans h.box, ⟨hl.os.trans h.bel.os, hl.tape.trans h.bel.tape, hl.output.trans h.bel.output, Nat.le_trans hz hs, fun j hj => (hk j (by omega) (by omega) (by omega) (by omega)).trans (h.bel.block j hj)⟩⟩
set_option maxHeartbeats 2000000 in
set_option maxRecDepth 100000 in
theorem Free_n (x : UInt8) (hx : x = 2 ∨ x = 7) (w : World) :
    Calls Try.prog 9 #[spV x] w fun e w' => e = .returned (.int .i64 (freeC x 5)) ∧ Below w.heap.size w w' := by
  refine callsIn_wide.1 (?_ : CallsIn Fence.wide 5 _ _ _ _ _)
  refine callsIn_of_wp_marks Try.func9 rfl trivial ?_ rfl
  simp only [Try.ntmps9, List.size_toArray, List.length_cons, List.length_nil, Nat.reduceAdd, Nat.reduceSub, Array.replicate_succ, Array.replicate_zero, List.push_toArray, List.append_toArray, List.nil_append, List.cons_append]
  have HFA := Lib.hid (fun W => free_any x W)
  unfold spV at HFA ⊢
  obtain ⟨W1, hW1⟩ : ∃ W1, (w.alloc (.cells #[.int .i64 5, .string ⟨#[x]⟩] 30)).alloc (.cells #[.int .i64 0] 3) = W1 := ⟨_, rfl⟩
  have hs1 : W1.heap.size = w.heap.size + 2 := by rw [← hW1]; simp
  have hb1 : Below w.heap.size w W1 := by rw [← hW1]; exact ((Below.refl _ w).alloc (Nat.le_refl _) _).alloc (by simp) _
  have hr1 : W1.heap[w.heap.size + 1]? = some (.cells #[.int .i64 0] 3 (0, 0)) := by
    rw [← hW1]
    have := World.alloc_heap_new (w.alloc (.cells #[.int .i64 5, .string ⟨#[x]⟩] 30)) (.cells #[.int .i64 0] 3)
    rw [World.size_alloc] at this; exact this
  have hq1 : W1.heap[w.heap.size]? = some (.cells #[.int .i64 5, .string ⟨#[x]⟩] 30 (0, 0)) := by
    rw [← hW1]; exact (Lib.alloc_old _ _ _ (by simp)).trans (World.alloc_heap_new w _)
  have k1 : W1.cell? ⟨w.heap.size + 1, 0, none⟩ = some (.int .i64 0) := cell_of_row hr1
  have kf1 : W1.frozen? ⟨w.heap.size + 1, 0, none⟩ = false := by simp [World.frozen?, hr1]
  obtain ⟨W2, hW2⟩ : ∃ W2, W1.setCell ⟨w.heap.size + 1, 0, none⟩ (.int .i64 0) = W2 := ⟨_, rfl⟩
  have hs2 : W2.heap.size = w.heap.size + 2 := by rw [← hW2]; simp [hs1]
  have hb2 : Below w.heap.size w W2 := by rw [← hW2]; exact hb1.setCell (p := ⟨w.heap.size + 1, 0, none⟩) (Nat.le_succ _) _
  have hr2 : W2.heap[w.heap.size + 1]? = some (.cells #[.int .i64 0] 3 (0, 0)) := by rw [← hW2]; exact heap_set (i := 0) _ hr1
  have hq2 : W2.heap[w.heap.size]? = some (.cells #[.int .i64 5, .string ⟨#[x]⟩] 30 (0, 0)) := by
    rw [← hW2]; exact (Below.heap_setCell W1 ⟨w.heap.size + 1, 0, none⟩ _ _ (by show w.heap.size ≠ w.heap.size + 1; omega)).trans hq1
  have c0 : W2.cell? ⟨w.heap.size, 0, none⟩ = some (.int .i64 5) := cell_of_row hq2
  have c1 : W2.cell? ⟨w.heap.size, 1, none⟩ = some (.string ⟨#[x]⟩) := cell_of_row hq2
  have HB2 := Lib.hid hb2; have HR2 := Lib.hid hr2
  gi_wp2_with (refine ⟨trivial, ?_⟩; gi_at_call 13; refine (callsIn_wide.2 (HFA.out _)).mono ?_; rintro e w3 ⟨rfl, rfl⟩)
  have hb3 := (Below.refl W2.heap.size W2).alloc (Nat.le_refl _) (.cells #[.int .i64 5, .string ⟨#[x]⟩] 30)
  have hr3 := World.alloc_heap_new W2 (.cells #[.int .i64 5, .string ⟨#[x]⟩] 30)
  have hs3 : (W2.alloc (.cells #[.int .i64 5, .string ⟨#[x]⟩] 30)).heap.size = w.heap.size + 3 := by simp [hs2]
  generalize W2.alloc (.cells #[.int .i64 5, .string ⟨#[x]⟩] 30) = W3 at hb3 hr3 hs3 ⊢
  rw [hs2] at hr3 hb3
  have HI0 : Hid (FcI (w.heap.size + 1) (.int .i64 ((freeC x 0 : Nat) : Int)) 3 w W3) := Lib.hid ⟨(hb3.block _ (by omega)).trans HR2.out, HB2.out.trans (hb3.mono (by omega))⟩
  have HR3 := Lib.hid hr3; have HS3 := Lib.hid hs3
  clear hb3 hr3 c0 c1 hW1 hW2 hs1 hb1 hr1 hq1 k1 kf1 hs2 hb2 hr2 hq2 HB2 HR2
  refine range_free (w := W3) (n := 5) (by omega) (w.heap.size + 2) x hx rfl rfl HR3.out (fun k W => FcI (w.heap.size + 1) (.int .i64 ((freeC x k : Nat) : Int)) 3 w W) (fun _ _ => False)
    (fun k => FcI.stab rfl rfl HS3.out) (fun c => fun _ _ h => h.elim) (fun k W _ hb h => by rw [freeC_yes hb]; exact h) HI0.out
    (fun k => { tmps := #[.agg #[.int .i64 5, .string ⟨#[x]⟩], .pointer (some ⟨w.heap.size, 0, none⟩), .int .i64 0, .pointer (some ⟨w.heap.size + 1, 0, none⟩), .agg #[.int .i64 5, .string ⟨#[x]⟩], .func (.func 21) #[] #[.pointer (some ⟨w.heap.size + 2, 0, none⟩)], .int .i64 (k : Nat), undef, undef, undef], defers := [] }) ?assign ?body ?done ?stop
  case assign =>
    intro l k W K hK
    gi_wp2
    first | exact hK | simpa using hK
  case body =>
    rintro l k W hk hb ⟨hbx, hbl⟩ hDW
    have HBX := Lib.hid hbx; have HBL := Lib.hid hbl
    have k0 : W.cell? ⟨w.heap.size + 1, 0, none⟩ = some (.int .i64 ((freeC x k : Nat) : Int)) := cell_of_row hbx
    have kf : W.frozen? ⟨w.heap.size + 1, 0, none⟩ = false := by simp [World.frozen?, hbx]
    have hfl := freeC_le x k
    have hfi : ((freeC x k : Nat) : Int) ≤ 5 := by omega
    have HFS := Lib.hid (freeC_no hb)
    obtain ⟨q, hq⟩ : ∃ q, freeC x k = q := ⟨_, rfl⟩
    rw [hq] at HBX k0 hfi HFS
    clear hbx hbl hfl hq hb
    gi_wp2
    have hk2 : ∀ j, j ≠ w.heap.size + 1 → (W.setCell ⟨w.heap.size + 1, 0, none⟩ (.int .i64 ((q : Int) + 1))).heap[j]? = W.heap[j]? := fun j hj => Below.heap_setCell _ _ _ j hj
    refine ⟨fun j hj => hk2 j (by have := HS3.out; omega), by simp, ?_, ?_⟩
    · rw [HFS.out, Int.natCast_succ]; exact heap_set (i := 0) _ HBX.out
    · exact HBL.out.setCell (p := ⟨w.heap.size + 1, 0, none⟩) (Nat.le_succ _) _
  case done =>
    rintro W ⟨hbx, hbl⟩ hD
    have k0 : W.cell? ⟨w.heap.size + 1, 0, none⟩ = some (.int .i64 ((freeC x 5 : Nat) : Int)) := cell_of_row hbx
    have HBL := Lib.hid hbl; have HD := Lib.hid hD
    clear hbx hbl hD
    gi_wp2
    refine ⟨by simp, .inl ⟨_, _, rfl, run_takeDeferred HD.out, ?_⟩⟩
    refine ⟨.int .i64 ((freeC x 5 : Nat) : Int), by simp [results, Try.results9, go_sem], rfl, ?_⟩
    exact HBL.out.trans (by
      have hz := HS3.out
      exact ⟨(put_low W _ _).os, (put_low W _ _).tape, (put_low W _ _).output, by simp, fun j hj => put_other W _ (by omega)⟩)
  case stop =>
    intro c W h _
    exact h.elim
end Go.Proofs.Ytbegjgceemffcaa
