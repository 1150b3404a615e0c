/- Merges: apply. -/
import Derived.Test.YtdpfpdpaamjefaaDoorY4
import Derived.StillTailTactics
import Derived.Deep.RegionHeld3
namespace Go.Proofs.YtdpfpdpaamjefaaDoor
open Go.RowKit Go.Maps
variable {g gf gr cf cr m : Nat} {word : ByteArray} {P : List ByteArray} {R : Nat → Int} {w w' w'' : World} {a b : ByteArray} {l : List PairB}

def ApW (g gf gr cf cr : Nat) (word a b : ByteArray) (l : List PairB) (P : List ByteArray) (w1 : World) (nv iv : Value) (wr : World) : Prop :=
  ∃ (Q : List ByteArray) (n i : Nat) (F : Nat → Nat) (R : Nat → Int), n = Q.length ∧ nv = .int .i64 n ∧ iv = .int .i64 i ∧ ApS a b l P Q i F R ∧ MxAt g gf gr cf cr P.length word F R wr ∧ FrP g gf gr w1 wr
set_option maxHeartbeats 4000000 in
set_option maxRecDepth 100000 in
theorem apply_any (h : PtAt g gf gr cf cr word P R w) (hw : word.size ≤ 4096) (hP : P.length ≤ 4096) (hP0 : P ≠ []) (hk : RkOk l P R) :
    Calls Tryd.prog 34 #[.pointer (some ⟨g, 0, none⟩), .agg #[.string a, .string b]] w fun e w' => e = .returned (.tuple #[]) ∧ ∃ R', PtAt g gf gr cf cr word (mergeL a b P) R' w' ∧ RkOk l (mergeL a b P) R' ∧ FrP g gf gr w w' := by
  have hm0 : 0 < P.length := List.length_pos_iff.2 hP0
  obtain ⟨m, hm⟩ : ∃ m, P.length = m + 1 := ⟨P.length - 1, by omega⟩
  obtain ⟨w1, hw1⟩ : ∃ w1, w.alloc (.cells #[.string a, .string b] 31) = w1 := ⟨_, rfl⟩
  have hb1 : Below w.heap.size w w1 := by rw [← hw1]; exact (Below.refl _ w).alloc (Nat.le_refl _) _
  have hT1 := h.below hb1
  have c2 : w1.cell? ⟨g, 2, none⟩ = some (.slice (some ⟨gr, 0, none⟩) (m + 1) cr) := by have := hT1.c2; rwa [hm] at this
  have p0 : w1.cell? ⟨w.heap.size, 0, none⟩ = some (.string a) := by rw [← hw1]; exact cell_of_row (World.alloc_heap_new w _)
  have p1 : w1.cell? ⟨w.heap.size, 1, none⟩ = some (.string b) := by rw [← hw1]; exact cell_of_row (World.alloc_heap_new w _)
  have hsz : w.heap.size < w1.heap.size := by rw [← hw1]; simp
  obtain ⟨hl1, hl2, hl3⟩ := h.lt
  have H0 : Hid (ApW g gf gr cf cr word a b l P w1 (.int .i64 0) (.int .i64 0) w1) := Lib.hid ⟨[], 0, 0, _, R, rfl, rfl, rfl, ApS.start a b hk, hT1.mx, FrP.refl _ _ _ _⟩
  have HM := Lib.hid hm; have HW1 := Lib.hid hw1; have HT := Lib.hid h; have HP0 := Lib.hid p0; have HP1 := Lib.hid p1; have HB1 := Lib.hid hb1
  have hm4 : m + 1 ≤ 4096 := by omega
  clear hm hT1 h hk p0 p1 hP0 hm0 hP hb1
  have hwr : IntKind.i64.wrap (((m + 1 : Nat) : Int) - 1) = ((m : Nat) : Int) := by rw [IntKind.wrap_i64]; omega
  go_enter Tryd.func34, Tryd.ntmps34
  go_wp2_with fail
  clear c2 hw1
  go_loopw [5, 6] (fun n i wr => ApW g gf gr cf cr word a b l P w1 n i wr) (fun _ i _ => m + 1 - (intOf i).toNat)
  case atStart => exact H0.out
  case round =>
    obtain ⟨Q, n, i, F, R, hn, rfl, rfl, hS, hT, hF⟩ := hrel
    have HS := Lib.hid hS; have HTr := Lib.hid hT; have HF := Lib.hid hF; have HN := Lib.hid hn
    clear hS hT hF hn H0
    have hni : n ≤ i := by have := HS.out.le; have := HN.out; omega
    have him : i ≤ m + 1 := by have := HS.out.il; have := HM.out; omega
    by_cases hlt : i < m + 1
    · have c1 : wr.cell? ⟨gf, i, none⟩ = some (.int .i64 (offB P i : Nat)) := by have := HTr.out.cf' (j := i) (by rw [HM.out]; omega); rwa [HS.out.f2 i (Nat.le_refl _) (by rw [HM.out]; omega)] at this
      have c0 : wr.cell? ⟨g, 1, none⟩ = some (.slice (some ⟨gf, 0, none⟩) (m + 1 + 1) cf) := by have := HTr.out.c1; rwa [HM.out] at this
      have c3 := HTr.out.cf' (j := n) (by rw [HM.out]; omega)
      have f3 := HTr.out.fr_f n
      have hcf : m + 1 + 1 ≤ cf := by have := HTr.out.cf; rw [HM.out] at this; exact this
      obtain ⟨x, hx⟩ : ∃ x, offB P i = x := ⟨_, rfl⟩
      rw [hx] at c1
      obtain ⟨W1, hW1⟩ : ∃ W1, (World.drew wr).setCell ⟨gf, n, none⟩ (.int .i64 (x : Nat)) = W1 := ⟨_, rfl⟩
      have HX := Lib.hid hx
      have b1 : i < m + 1 + 1 := by omega
      have b2 : n < m + 1 + 1 := by omega
      have b3 : (i : Int) < (m : Int) + 1 + 1 := by omega
      have b4 : (n : Int) < (m : Int) + 1 + 1 := by omega
      clear hx
      go_wp2_with fail
      refine wp_region_still_tail 13 (by kernel_rfl) (by kernel_rfl) ?_
      change wpStill _ _ (World.drew _) _ _ _
      simp only [List.take_succ_cons, List.take_zero, List.drop_succ_cons, List.drop_zero]
      repeat still_step
      try refine wpStill_nil ?_
      change wpList _ _ _ _ _ (World.drew _)
      go_wp2_with fail
      have HTw : MxAt g gf gr cf cr P.length word (updN F n x) R W1 := by
        rw [← hW1]
        exact MxAt.setf (w := World.drew wr) (HTr.out.keep fun _ _ => rfl) n x
      have HFw : FrP g gf gr w1 W1 := by
        rw [← hW1]
        exact HF.out.trans (FrP.trans (w' := World.drew wr) ((FrP.refl g gf gr wr).drewN 1) (FrP.set (World.drew wr) gf n _ (.inr (.inl rfl))))
      have HTw := Lib.hid HTw; have HFw := Lib.hid HFw
      obtain ⟨p, hp⟩ : ∃ p, P[i]? = some p := ⟨_, List.getElem?_eq_getElem (by rw [HM.out]; omega)⟩
      have HPp := Lib.hid hp
      clear hp hW1 c0 c1 c3 f3
      by_cases him2 : i < m
      · obtain ⟨q, hq⟩ : ∃ q, P[i + 1]? = some q := ⟨_, List.getElem?_eq_getElem (by rw [HM.out]; omega)⟩
        have HQq := Lib.hid hq
        clear hq
        have g0 : updN F n x i = offB P i := by
          unfold updN
          by_cases e : i = n
          · rw [if_pos e, HX.out]
          · rw [if_neg e]; exact HS.out.f2 i (Nat.le_refl _) (by rw [HM.out]; omega)
        have g1 : updN F n x (i + 1) = offB P (i + 1) := by unfold updN; rw [if_neg (by omega)]; exact HS.out.f2 _ (by omega) (by rw [HM.out]; omega)
        have g2 : updN F n x (i + 2) = offB P (i + 2) := by unfold updN; rw [if_neg (by omega)]; exact HS.out.f2 _ (by omega) (by rw [HM.out]; omega)
        have H2 := two_mx (MxAt.keep (w' := World.drew W1) HTw.out fun _ _ => rfl) hw (by rw [HM.out]; omega) i (by rw [HM.out]; omega) (by rw [g0, g1, offB_succ HPp.out]; omega) (by rw [g1, g2, show i + 2 = (i + 1) + 1 from rfl, offB_succ HQq.out]; omega) (by rw [g2]; exact HT.out.size_word _) p q (by rw [g0, g1]; exact part_ext HT.out.cat HPp.out) (by rw [g1, g2]; exact part_ext HT.out.cat HQq.out)
        have H2 := Lib.hid H2
        have q0 : W1.cell? ⟨w.heap.size, 0, none⟩ = some (.string a) := (World.cell?_of_block (a := ⟨w.heap.size, 0, none⟩) (HFw.out.block w.heap.size hsz (by omega) (by omega) (by omega))).trans HP0.out
        have q1 : W1.cell? ⟨w.heap.size, 1, none⟩ = some (.string b) := (World.cell?_of_block (a := ⟨w.heap.size, 1, none⟩) (HFw.out.block w.heap.size hsz (by omega) (by omega) (by omega))).trans HP1.out
        have hgd : Tryd.prog.eqGuardType Tryd.prog.depth 31 = false := by kernel_rfl
        have him3 : (i : Int) < m := by omega
        clear g0 g1 g2
        by_cases he : (p, q) = (a, b)
        · have heq : ∀ W : World, (binOp .eql 31 (.agg #[.string p, .string q]) (.agg #[.string a, .string b])).run Tryd.prog W = .ok (.bool true) W := fun W => by rw [run_eq_mp, decide_eq_true he]
          have HE := Lib.hid he
          clear he
          go_wp2_with fail
          go_region_held3 (fun w' => w'.cell? ⟨w.heap.size, 0, none⟩ = some (.string a) ∧ w'.cell? ⟨w.heap.size, 1, none⟩ = some (.string b)) (go_keep) ((go_at_call 44; refine H2.out.mono ?_; first | rintro e W2 rfl hb2 | rintro e W2 ⟨rfl, hb2⟩; have cA := (hb2.cell (p := ⟨w.heap.size, 0, none⟩) (World.block_lt_of_cell? _ _ q0)).trans q0; have cB := (hb2.cell (p := ⟨w.heap.size, 1, none⟩) (World.block_lt_of_cell? _ _ q1)).trans q1; have HB2 := Lib.hid hb2; clear hb2))
          all_goals
            clear cA cB hgd heq q0 q1 H2
            have HT2 := Lib.hid ((MxAt.keep (w' := World.drew W1) HTw.out fun _ _ => rfl).below HB2.out)
            have HF2 := Lib.hid ((HFw.out.drewN 1).trans (FrP.of_below HB2.out))
            obtain ⟨nm, hnm⟩ : ∃ nm, n - 1 = nm := ⟨_, rfl⟩
            obtain ⟨i2, hi2⟩ : ∃ i2, i + 1 = i2 := ⟨_, rfl⟩
            have hI : (i : Int) + 1 = (i2 : Int) := by omega
            have hmx : max ((n : Int) - 1) 0 = (nm : Int) := by omega
            have hcr : m + 1 ≤ cr := by have := HT2.out.cr; rw [HM.out] at this; exact this
            have b5 : n < m + 1 := by omega
            have b6 : (i2 : Int) < (m : Int) + 1 := by omega
            have b7 : (n : Int) < (m : Int) + 1 := by omega
            have b8 : (nm : Int) < (m : Int) + 1 := by omega
            have b9 : nm < m + 1 := by omega
            have b10 : i2 < m + 1 := by omega
            have HNM := Lib.hid hnm; have HI2 := Lib.hid hi2
            have k2 : W2.cell? ⟨g, 2, none⟩ = some (.slice (some ⟨gr, 0, none⟩) (m + 1) cr) := by have := HT2.out.c2; rwa [HM.out] at this
            have ki := HT2.out.cr' (j := i2) (by rw [HM.out]; omega)
            have fi := HT2.out.fr_r i2
            obtain ⟨W3, hW3⟩ : ∃ W3, W2.setCell ⟨gr, i2, none⟩ (.int .i64 (-1)) = W3 := ⟨_, rfl⟩
            have HT3 : Hid (MxAt g gf gr cf cr P.length word (updN F n x) (upd R i2 (-1)) W3) := Lib.hid (by rw [← hW3]; exact HT2.out.setr i2 (-1))
            have HF3 : Hid (FrP g gf gr w1 W3) := Lib.hid (by rw [← hW3]; exact HF2.out.trans (FrP.set _ _ _ _ (.inr (.inr rfl))))
            have k3 : W3.cell? ⟨g, 2, none⟩ = some (.slice (some ⟨gr, 0, none⟩) (m + 1) cr) := by have := HT3.out.c2; rwa [HM.out] at this
            have kn := HT3.out.cr' (j := nm) (by rw [HM.out]; omega)
            have fn := HT3.out.fr_r nm
            obtain ⟨W4, hW4⟩ : ∃ W4, W3.setCell ⟨gr, nm, none⟩ (.int .i64 (-1)) = W4 := ⟨_, rfl⟩
            have HT4 : Hid (MxAt g gf gr cf cr P.length word (updN F n x) (upd (upd R i2 (-1)) nm (-1)) W4) := Lib.hid (by rw [← hW4]; exact HT3.out.setr nm (-1))
            have HF4 : Hid (FrP g gf gr w1 W4) := Lib.hid (by rw [← hW4]; exact HF3.out.trans (FrP.set _ _ _ _ (.inr (.inr rfl))))
            have k4 : W4.cell? ⟨g, 2, none⟩ = some (.slice (some ⟨gr, 0, none⟩) (m + 1) cr) := by have := HT4.out.c2; rwa [HM.out] at this
            have k4i : W4.cell? ⟨gr, i2, none⟩ = some (.int .i64 (-1)) := by
              have := HT4.out.cr' (j := i2) (by rw [HM.out]; omega)
              rw [this]
              unfold upd
              by_cases e : i2 = nm
              · rw [if_pos e]
              · rw [if_neg e, if_pos rfl]
            have k4n := HT4.out.cr' (j := n) (by rw [HM.out]; omega)
            have f4n := HT4.out.fr_r n
            obtain ⟨W5, hW5⟩ : ∃ W5, (World.drew W4).setCell ⟨gr, n, none⟩ (.int .i64 (-1)) = W5 := ⟨_, rfl⟩
            clear hnm hi2
            go_wp2_with fail
            refine wp_region_still_tail 13 (by kernel_rfl) (by kernel_rfl) ?_
            change wpStill _ _ (World.drew _) _ _ _
            simp only [List.take_succ_cons, List.take_zero, List.drop_succ_cons, List.drop_zero]
            repeat still_step
            try refine wpStill_nil ?_
            change wpList _ _ _ _ _ (World.drew _)
            go_wp2_with fail
            have hend : Hid (ApW g gf gr cf cr word a b l P w1 (.int .i64 ((n : Int) + 1)) (.int .i64 ((i2 : Int) + 1)) W5) := Lib.hid
              ⟨Q ++ [a ++ b], n + 1, i2 + 1, updN F n x, upd (upd (upd R i2 (-1)) nm (-1)) n (-1), by rw [List.length_append, ← HN.out]; rfl, by rw [Int.natCast_succ], by rw [Int.natCast_succ],
                by
                  have e1 : p = a := congrArg Prod.fst HE.out
                  have e2 : q = b := congrArg Prod.snd HE.out
                  have := HS.out.yes (by rw [← e1]; exact HPp.out) (by rw [← e2]; exact HQq.out)
                  rw [← HN.out, HX.out, HNM.out, HI2.out] at this
                  exact HI2.out ▸ this,
                by rw [← hW5]; exact MxAt.setr (w := World.drew W4) (HT4.out.keep fun _ _ => rfl) n (-1),
                by rw [← hW5]; exact HF4.out.trans (FrP.trans (w' := World.drew W4) ((FrP.refl g gf gr W4).drewN 1) (FrP.set (World.drew W4) gr n _ (.inr (.inr rfl))))⟩
            clear hW3 hW4 hW5
            go_roundw
            case rel => exact hend.out
            case measure => simp [intOf]; omega
        · have heq : ∀ W : World, (binOp .eql 31 (.agg #[.string p, .string q]) (.agg #[.string a, .string b])).run Tryd.prog W = .ok (.bool false) W := fun W => by rw [run_eq_mp, decide_eq_false he]
          have HE := Lib.hid he
          clear he
          go_wp2_with fail
          go_region_held3 (fun w' => w'.cell? ⟨w.heap.size, 0, none⟩ = some (.string a) ∧ w'.cell? ⟨w.heap.size, 1, none⟩ = some (.string b)) (go_keep) ((go_at_call 44; refine H2.out.mono ?_; first | rintro e W2 rfl hb2 | rintro e W2 ⟨rfl, hb2⟩; have cA := (hb2.cell (p := ⟨w.heap.size, 0, none⟩) (World.block_lt_of_cell? _ _ q0)).trans q0; have cB := (hb2.cell (p := ⟨w.heap.size, 1, none⟩) (World.block_lt_of_cell? _ _ q1)).trans q1; have HB2 := Lib.hid hb2; clear hb2))
          all_goals
            clear cA cB hgd heq q0 q1 H2
            have HT2 := Lib.hid ((MxAt.keep (w' := World.drew W1) HTw.out fun _ _ => rfl).below HB2.out)
            have HF2 := Lib.hid ((HFw.out.drewN 1).trans (FrP.of_below HB2.out))
            have k2 : W2.cell? ⟨g, 2, none⟩ = some (.slice (some ⟨gr, 0, none⟩) (m + 1) cr) := by have := HT2.out.c2; rwa [HM.out] at this
            have ki := HT2.out.cr' (j := i) (by rw [HM.out]; omega)
            have kn := HT2.out.cr' (j := n) (by rw [HM.out]; omega)
            have fn := HT2.out.fr_r n
            have hcr : m + 1 ≤ cr := by have := HT2.out.cr; rw [HM.out] at this; exact this
            have b5 : n < m + 1 := by omega
            have b6 : (i : Int) < (m : Int) + 1 := by omega
            have b7 : (n : Int) < (m : Int) + 1 := by omega
            obtain ⟨r0, hr0⟩ : ∃ r0, R i = r0 := ⟨_, rfl⟩
            rw [hr0] at ki
            have HR0 := Lib.hid hr0
            obtain ⟨W3, hW3⟩ : ∃ W3, (World.drew W2).setCell ⟨gr, n, none⟩ (.int .i64 r0) = W3 := ⟨_, rfl⟩
            clear hr0
            go_wp2_with fail
            refine wp_region_still_tail 13 (by kernel_rfl) (by kernel_rfl) ?_
            change wpStill _ _ (World.drew _) _ _ _
            simp only [List.take_succ_cons, List.take_zero, List.drop_succ_cons, List.drop_zero]
            repeat still_step
            try refine wpStill_nil ?_
            change wpList _ _ _ _ _ (World.drew _)
            go_wp2_with fail
            have hend : Hid (ApW g gf gr cf cr word a b l P w1 (.int .i64 ((n : Int) + 1)) (.int .i64 ((i : Int) + 1)) W3) := Lib.hid
              ⟨Q ++ [p], n + 1, i + 1, updN F n x, upd R n r0, by rw [List.length_append, ← HN.out]; rfl, by rw [Int.natCast_succ], by rw [Int.natCast_succ],
                by have := HS.out.no HPp.out (fun q' hq' => by rw [HQq.out] at hq'; injection hq' with hq'; subst hq'; exact fun h => HE.out (Prod.ext h.1 h.2)); rw [← HN.out, HX.out, HR0.out] at this; exact this,
                by rw [← hW3]; exact MxAt.setr (w := World.drew W2) (HT2.out.keep fun _ _ => rfl) n r0,
                by rw [← hW3]; exact HF2.out.trans (FrP.trans (w' := World.drew W2) ((FrP.refl g gf gr W2).drewN 1) (FrP.set (World.drew W2) gr n _ (.inr (.inr rfl))))⟩
            clear hW3
            go_roundw
            case rel => exact hend.out
            case measure => simp [intOf]; omega
      · have him3 : ¬ (i : Int) < m := by omega
        go_wp2_with fail
        go_quiet (fail)
        rename_i nq
        have HTA : Hid (MxAt g gf gr cf cr P.length word (updN F n x) R (W1.drewN nq)) := Lib.hid (HTw.out.drewN nq)
        have HFA : Hid (FrP g gf gr w1 (W1.drewN nq)) := Lib.hid (HFw.out.drewN nq)
        generalize W1.drewN nq = W2 at HTA HFA ⊢
        have HT2 := Lib.hid HTA.out
        have HF2 := Lib.hid HFA.out
        have k2 : W2.cell? ⟨g, 2, none⟩ = some (.slice (some ⟨gr, 0, none⟩) (m + 1) cr) := by have := HT2.out.c2; rwa [HM.out] at this
        have ki := HT2.out.cr' (j := i) (by rw [HM.out]; omega)
        have kn := HT2.out.cr' (j := n) (by rw [HM.out]; omega)
        have fn := HT2.out.fr_r n
        have hcr : m + 1 ≤ cr := by have := HT2.out.cr; rw [HM.out] at this; exact this
        have b5 : n < m + 1 := by omega
        have b6 : (i : Int) < (m : Int) + 1 := by omega
        have b7 : (n : Int) < (m : Int) + 1 := by omega
        obtain ⟨r0, hr0⟩ : ∃ r0, R i = r0 := ⟨_, rfl⟩
        rw [hr0] at ki
        have HR0 := Lib.hid hr0
        obtain ⟨W3, hW3⟩ : ∃ W3, (World.drew W2).setCell ⟨gr, n, none⟩ (.int .i64 r0) = W3 := ⟨_, rfl⟩
        clear hr0
        go_wp2_with fail
        refine wp_region_still_tail 13 (by kernel_rfl) (by kernel_rfl) ?_
        change wpStill _ _ (World.drew _) _ _ _
        simp only [List.take_succ_cons, List.take_zero, List.drop_succ_cons, List.drop_zero]
        repeat still_step
        try refine wpStill_nil ?_
        change wpList _ _ _ _ _ (World.drew _)
        go_wp2_with fail
        have hend : Hid (ApW g gf gr cf cr word a b l P w1 (.int .i64 ((n : Int) + 1)) (.int .i64 ((i : Int) + 1)) W3) := Lib.hid
          ⟨Q ++ [p], n + 1, i + 1, updN F n x, upd R n r0, by rw [List.length_append, ← HN.out]; rfl, by rw [Int.natCast_succ], by rw [Int.natCast_succ],
            by have := HS.out.no HPp.out (fun q' hq' => by have := (List.getElem?_eq_some_iff.1 hq').1; rw [HM.out] at this; omega); rw [← HN.out, HX.out, HR0.out] at this; exact this,
            by rw [← hW3]; exact MxAt.setr (w := World.drew W2) (HT2.out.keep fun _ _ => rfl) n r0,
            by rw [← hW3]; exact HF2.out.trans (FrP.trans (w' := World.drew W2) ((FrP.refl g gf gr W2).drewN 1) (FrP.set (World.drew W2) gr n _ (.inr (.inr rfl))))⟩
        clear hW3
        go_roundw
        case rel => exact hend.out
        case measure => simp [intOf]; omega
    · have hie : i = P.length := by have := HM.out; omega
      have hD := (by rw [hie] at HS; exact HS.out.done : mergeL a b P = Q ∧ RkOk l Q R ∧ ∀ j, j ≤ Q.length → updN F Q.length (catB P).length j = offB Q j)
      have HD := Lib.hid hD
      have hwz : (catB P).length = word.size := by rw [HT.out.cat, size_len]
      have HWZ := Lib.hid hwz
      clear hie hD hwz
      have c0 : wr.cell? ⟨g, 0, none⟩ = some (.string word) := HTr.out.c0
      have c1 : wr.cell? ⟨g, 1, none⟩ = some (.slice (some ⟨gf, 0, none⟩) (m + 1 + 1) cf) := by have := HTr.out.c1; rwa [HM.out] at this
      have hnm : n ≤ m + 1 := by omega
      have c3 := HTr.out.cf' (j := n) (by rw [HM.out]; omega)
      have f3 := HTr.out.fr_f n
      have b2 : n < m + 1 + 1 := by omega
      have b4 : (n : Int) < (m : Int) + 1 + 1 := by omega
      obtain ⟨W1, hW1⟩ : ∃ W1, (World.drew wr).setCell ⟨gf, n, none⟩ (.int .i64 (word.size : Nat)) = W1 := ⟨_, rfl⟩
      go_wp2_with fail
      refine wp_region_still_tail 11 (by kernel_rfl) (by kernel_rfl) ?_
      change wpStill _ _ (World.drew _) _ _ _
      simp only [List.take_succ_cons, List.take_zero, List.drop_succ_cons, List.drop_zero]
      repeat still_step
      try refine wpStill_nil ?_
      change wpList _ _ _ _ _ (World.drew _)
      go_wp2_with fail
      have HT1 : Hid (MxAt g gf gr cf cr P.length word (updN F n word.size) R W1) := Lib.hid (by rw [← hW1]; exact MxAt.setf (w := World.drew wr) (HTr.out.keep fun _ _ => rfl) n word.size)
      have HF1 : Hid (FrP g gf gr w1 W1) := Lib.hid (by rw [← hW1]; exact HF.out.trans (FrP.trans (w' := World.drew wr) ((FrP.refl g gf gr wr).drewN 1) (FrP.set (World.drew wr) gf n _ (.inr (.inl rfl)))))
      clear hW1 c0 c1 c3 f3
      obtain ⟨n1, hn1⟩ : ∃ n1, n + 1 = n1 := ⟨_, rfl⟩
      have hN1 : (n : Int) + 1 = (n1 : Int) := by omega
      have hw1 : IntKind.i64.wrap ((n1 : Nat) : Int) = ((n1 : Nat) : Int) := by rw [IntKind.wrap_i64]; omega
      have hw2 : IntKind.i64.wrap ((n : Int) + 1) = ((n1 : Nat) : Int) := by rw [IntKind.wrap_i64]; omega
      have hcf : n1 ≤ cf := by have := HT1.out.cf; rw [HM.out] at this; omega
      have hcr : n ≤ cr := by have := HT1.out.cr; rw [HM.out] at this; omega
      have hcf' : (n1 : Int) ≤ cf := by omega
      have hcr' : (n : Int) ≤ cr := by omega
      have HN1 := Lib.hid hn1
      have k1 : W1.cell? ⟨g, 1, none⟩ = some (.slice (some ⟨gf, 0, none⟩) (m + 1 + 1) cf) := by have := HT1.out.c1; rwa [HM.out] at this
      have k2 : W1.cell? ⟨g, 2, none⟩ = some (.slice (some ⟨gr, 0, none⟩) (m + 1) cr) := by have := HT1.out.c2; rwa [HM.out] at this
      have fg := HT1.out.fr_g 1
      obtain ⟨W2, hW2⟩ : ∃ W2, (World.drew W1).setCell ⟨g, 1, none⟩ (.slice (some ⟨gf, 0, none⟩) n1 cf) = W2 := ⟨_, rfl⟩
      have hg2 : W2.heap[g]? = some (.cells #[.string word, .slice (some ⟨gf, 0, none⟩) n1 cf, .slice (some ⟨gr, 0, none⟩) P.length cr] 107 (0, 0)) := by
        rw [← hW2]; exact heap_set (w := World.drew W1) _ HT1.out.d
      have k3 : ∃ v, W2.cell? ⟨g, 2, none⟩ = some v := ⟨_, cell_of_row hg2⟩
      obtain ⟨v3, k3⟩ := k3
      have fg2 : W2.frozen? ⟨g, 2, none⟩ = false := by simp [World.frozen?, hg2]
      obtain ⟨W3, hW3⟩ : ∃ W3, W2.setCell ⟨g, 2, none⟩ (.slice (some ⟨gr, 0, none⟩) n cr) = W3 := ⟨_, rfl⟩
      have HG2 := Lib.hid hg2
      clear hn1 hg2
      have hend : Hid (PtAt g gf gr cf cr word (mergeL a b P) R W3 ∧ RkOk l (mergeL a b P) R ∧ FrP g gf gr w W3) := Lib.hid (by
        have hmq := HD.out.1
        obtain ⟨a1, a2⟩ := HT1.out.apart
        obtain ⟨c1, f1, f2⟩ := HT1.out.f
        obtain ⟨c2, r1, r2⟩ := HT1.out.r
        have hQ := HN.out
        have hPl := HM.out
        rw [hmq]
        refine ⟨⟨?_, ⟨c1, ?_, fun j hj => ?_⟩, ⟨c2, ?_, fun j hj => ?_⟩, ?_, HT1.out.ne, ?_, ?_⟩, HD.out.2.1, ?_⟩
        · rw [← hW3, ← hQ]
          have := heap_set (i := 2) (.slice (some ⟨gr, 0, none⟩) n cr) HG2.out
          rw [HN1.out]
          exact this
        · rw [← hW3, ← hW2]
          exact (Below.heap_setCell _ ⟨g, 2, none⟩ _ _ (Ne.symm a1)).trans ((Below.heap_setCell (World.drew W1) ⟨g, 1, none⟩ _ _ (Ne.symm a1)).trans f1)
        · rw [f2 j (by omega)]
          have := HD.out.2.2 j hj
          rw [HWZ.out, ← hQ] at this
          rw [this]
        · rw [← hW3, ← hW2]
          exact (Below.heap_setCell _ ⟨g, 2, none⟩ _ _ (Ne.symm a2)).trans ((Below.heap_setCell (World.drew W1) ⟨g, 1, none⟩ _ _ (Ne.symm a2)).trans r1)
        · exact r2 j (by omega)
        · rw [← hmq, mergeL_cat]; exact HT.out.cat
        · rw [← hQ, HN1.out]; exact hcf
        · rw [← hQ]; exact hcr
        · have e1 : FrP g gf gr w w1 := FrP.of_below HB1.out
          rw [← hW3, ← hW2]
          exact (e1.trans HF1.out).trans ((FrP.trans (w' := World.drew W1) ((FrP.refl g gf gr W1).drewN 1) (FrP.set (World.drew W1) g 1 _ (.inl rfl))).trans (FrP.set _ g 2 _ (.inl rfl))))
      go_wp2_with fail
      go_region
      all_goals go_wp2_with fail
      all_goals go_end0
      all_goals exact ⟨rfl, R, hend.out⟩
end Go.Proofs.YtdpfpdpaamjefaaDoor
