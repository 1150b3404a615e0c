/- Space: the law's own question. -/
import Derived.Test.YtbegjgceemffcaaZg
import Derived.Laws.StructEq
namespace Go.Proofs.Ytbegjgceemffcaa
open Go.RowKit Go.Shelf
variable {w w' : World}

theorem under_ex : Try.prog.underlying 26 = some (.struct (Try.prog.fieldsOf 26)) := by kernel_rfl
theorem held_ex : Try.prog.stoodInHeld 26 = false := by kernel_rfl
theorem run_eq_ex (a b c d : Int) (w : World) : (binOp .eql 26 (.agg #[.int .i64 a, .int .i64 b]) (.agg #[.int .i64 c, .int .i64 d])).run Try.prog w = .ok (.bool (decide (a = c) && decide (b = d))) w := by
  rw [run_eql_struct, run_equalIn_agg _ _ _ _ _ under_ex held_ex]
  simp [Op.eqFields, Program.fieldsOf, Try.underlying26, part, go_sem, Try.underlying3]
  by_cases h1 : a = c <;> by_cases h2 : b = d <;> simp [h1, h2]
set_option maxHeartbeats 2000000 in
set_option maxRecDepth 100000 in
theorem speaks_any (w : World) : Calls Try.prog 4 #[] w fun e w' => e = .returned (.bool true) ∧ Below w.heap.size w w' := by
  have HN := Lib.hid (fun W => New_5 W)
  have HT := Lib.hid (fun o cap W hp => Claim_n 0 (.inl rfl) 0 rfl o cap W hp)
  have HK := Lib.hid (fun W => Take_2 W)
  have HF2 := Lib.hid (fun W => Free_n 2 (.inl rfl) W)
  have HF7 := Lib.hid (fun W => Free_n 7 (.inr rfl) W)
  have e2 : freeC 2 5 = 4 := by decide +kernel
  have e7 : freeC 7 5 = 2 := by decide +kernel
  rw [e2] at HF2
  rw [e7] at HF7
  clear e2 e7
  have hl : (tuL 0).length = 1 := rfl
  have he : tuE 0 = 2 := rfl
  rw [hl, he] at HT
  clear hl he
  unfold spV at HN HT HK HF2 HF7
  go_enter Try.func4, Try.ntmps4
  go_wp2_with (go_at_call 6; refine (HN.out _).mono ?_)
  rintro e w1 ⟨rfl, hb1⟩
  have HB1 := Lib.hid hb1
  have hx := World.alloc_heap_new w1 (.cells #[.int .i64 5, .string ⟨#[0]⟩] 30)
  clear hb1
  clear hx
  have HX := Lib.hid (two_blocks w1 (.cells #[.int .i64 5, .string ⟨#[0]⟩] 30) (.cells #[.int .i64 1, .int .i64 1] 26))
  have HE : Hid (ExAt ((w1.alloc (.cells #[.int .i64 5, .string ⟨#[0]⟩] 30)).alloc (.cells #[.int .i64 1, .int .i64 1] 26)) (some ⟨w1.heap.size + 1, 0, none⟩) (tuL 0)) := Lib.hid (by
    intro k p hp
    have hk := (List.getElem?_eq_some_iff.1 hp).1
    obtain rfl : k = 0 := by simp [tuL] at hk; exact hk
    obtain rfl : (1, 1) = p := by simpa [tuL] using hp
    exact ⟨w1.heap.size + 1, _, rfl, HX.out.2.2.2, cell_of_row HX.out.2.2.2, cell_of_row HX.out.2.2.2⟩)
  go_wp2_with (go_at_call 7; refine (HT.out _ 1 _ HE.out).mono ?_)
  rintro e w3 ⟨rfl, hb3⟩
  obtain ⟨hsz, hb0, hr0, _⟩ := HX.out
  have hr3 := (hb3.block _ (by omega)).trans hr0
  obtain ⟨s1, s2, f1, f2, r0, r1⟩ := res_set hr3 (.int .i64 5) (.string ⟨#[2]⟩)
  have r2 : ((w3.setCell ⟨w1.heap.size, 0, none⟩ (.int .i64 5)).setCell ⟨w1.heap.size, 1, none⟩ (.string ⟨#[2]⟩)).cell? ⟨w1.heap.size, 0, none⟩ = some (.int .i64 5) :=
    (World.cell?_setCell_other _ ⟨w1.heap.size, 1, none⟩ ⟨w1.heap.size, 0, none⟩ _ (fun x => by injection x with _ h2 _; omega)).trans r0
  have HR : Hid (((w3.setCell ⟨w1.heap.size, 0, none⟩ (.int .i64 5)).setCell ⟨w1.heap.size, 1, none⟩ (.string ⟨#[2]⟩)).heap[w1.heap.size]? = some (.cells #[.int .i64 5, .string ⟨#[2]⟩] 30 (0, 0))) := Lib.hid (heap_set (i := 1) (.string ⟨#[2]⟩) (heap_set (i := 0) (.int .i64 5) hr3))
  have HB3 : Hid (Below w1.heap.size w1 ((w3.setCell ⟨w1.heap.size, 0, none⟩ (.int .i64 5)).setCell ⟨w1.heap.size, 1, none⟩ (.string ⟨#[2]⟩))) := Lib.hid (((hb0.trans (hb3.mono (by omega))).setCell (p := ⟨w1.heap.size, 0, none⟩) (Nat.le_refl _) _).setCell (p := ⟨w1.heap.size, 1, none⟩) (Nat.le_refl _) _)
  clear hsz hb0 hr0 hr3 hb3 HX HE HT HN
  go_wp2_with (go_at_call 8; refine (HK.out _).mono ?_)
  generalize ((w3.setCell ⟨w1.heap.size, 0, none⟩ (.int .i64 5)).setCell ⟨w1.heap.size, 1, none⟩ (.string ⟨#[2]⟩)) = W3 at HR HB3 ⊢
  clear s1 s2 f1 f2 r0 r1 r2
  rintro e w5 ⟨v, rfl, hown, hb5⟩
  obtain ⟨o, cap, hv, hex⟩ := own_exts (l := [(0, 1), (2, 1)]) hown
  subst hv
  obtain ⟨g, cur, ho, hg, d0, d1⟩ := hex 1 (2, 1) rfl
  subst ho
  have hr5 := (hb5.block _ (lt_of_some HR.out)).trans HR.out
  have c0 : w5.cell? ⟨w1.heap.size, 0, none⟩ = some (.int .i64 5) := cell_of_row hr5
  have c1 : w5.cell? ⟨w1.heap.size, 1, none⟩ = some (.string ⟨#[2]⟩) := cell_of_row hr5
  have z1 : w1.heap.size < w5.heap.size := lt_of_some hr5
  have z2 : g < w5.heap.size := lt_of_some hg
  have HB5 := Lib.hid (HB1.out.trans ((HB3.out.trans (hb5.mono HB3.out.size)).mono HB1.out.size))
  have hgd : Try.prog.eqGuardType Try.prog.depth 26 = false := by kernel_rfl
  have heq : ∀ W : World, (binOp .eql 26 (.agg #[.int .i64 2, .int .i64 1]) (.agg #[.int .i64 2, .int .i64 1])).run Try.prog W = .ok (.bool true) W := fun W => by rw [run_eq_ex]; rfl
  simp only [List.length_cons, List.length_nil, Nat.zero_add, Nat.reduceAdd, Nat.reduceMul] at d0 d1 ⊢
  clear hown hb5 hex hg hr5 HR HB3
  go_wp2_with (go_at_call 9; refine (HF7.out _).mono ?_)
  rintro e w6 ⟨rfl, hb6⟩
  have q0 : w6.cell? ⟨w1.heap.size, 0, none⟩ = some (.int .i64 5) := (hb6.cell (p := ⟨w1.heap.size, 0, none⟩) (by simp; omega)).trans (((Below.refl w5.heap.size w5).alloc (Nat.le_refl _) _).cell (p := ⟨w1.heap.size, 0, none⟩) z1 |>.trans c0)
  have q1 : w6.cell? ⟨w1.heap.size, 1, none⟩ = some (.string ⟨#[2]⟩) := (hb6.cell (p := ⟨w1.heap.size, 1, none⟩) (by simp; omega)).trans (((Below.refl w5.heap.size w5).alloc (Nat.le_refl _) _).cell (p := ⟨w1.heap.size, 1, none⟩) z1 |>.trans c1)
  have HB6 := Lib.hid ((HB5.out.alloc HB5.out.size (.cells #[.int .i64 5, .string ⟨#[7]⟩] 30)).trans (hb6.mono (by have := HB5.out.size; simp; omega)))
  clear hb6 c0 c1 d0 d1
  go_wp2_with (go_at_call 9; refine (HF2.out _).mono ?_)
  rintro e w7 ⟨rfl, hb7⟩
  have HB7 := Lib.hid (HB6.out.trans (hb7.mono HB6.out.size))
  clear hb7
  go_wp2_with fail
  go_ret
  exact ⟨rfl, HB7.out⟩
end Go.Proofs.Ytbegjgceemffcaa
