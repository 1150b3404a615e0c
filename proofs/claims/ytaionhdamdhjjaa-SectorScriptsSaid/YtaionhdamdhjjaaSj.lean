/- Sector: omit, with the function value of fail. -/
import Derived.Test.YtaionhdamdhjjaaSi
namespace Go.Proofs.Ytaionhdamdhjjaa
open Go.RowKit

def OmS (lost : Nat → Int → Bool) (B gw m cw : Nat) (ws : List (Nat × ByteArray)) (cur0 : Array Value) (w : World) (i kept : Value) (wr : World) : Prop :=
  ∃ (k : Nat) (cur : Array Value), k ≤ m ∧ i = .int .i64 k ∧ kept = .slice (some ⟨gw, 0, none⟩) (keepTo lost ws k).length cw ∧ wr.heap[gw]? = some (.cells cur 70 (0, 0)) ∧ cur.size = cw * 2 ∧ cur.toList.take ((keepTo lost ws k).length * 2) = flat (keepTo lost ws k) ∧ cur.toList.drop (2 * k) = cur0.toList.drop (2 * k) ∧ Kept2 B gw gw w wr

theorem info_writefail : (Try.prog.info? 70).map (fun i => (i.zero, i.size, i.bytes)) = some (some (.agg #[.int .i64 0, .string ⟨#[]⟩]), 2, 24) := by kernel_rfl

set_option maxHeartbeats 1000000 in
set_option maxRecDepth 100000 in
theorem omit_fail (lost : Nat → Int → Bool) (B g gw kb m cw : Nat) (ws : List (Nat × ByteArray)) (cur0 : Array Value) (du cu : Value) (done left : Int) (kp : Value) (off : Bool) (w : World)
    (h : DiskAt g du cu (.slice (some ⟨gw, 0, none⟩) m cw) done left kp off w) (hr : w.heap[gw]? = some (.cells cur0 70 (0, 0))) (hcs : cur0.size = cw * 2) (hct : cur0.toList.take (m * 2) = flat ws) (hm : ws.length = m) (hmc : m ≤ cw) (hmm : m ≤ 100000000)
    (h3 : gw ≠ g) (hB1 : B ≤ g) (hB2 : B ≤ gw)
    (hF : ∀ (k : Nat) (i : Int) (s : ByteArray) (w1 : World), k ≤ 100000000 → Kept2 B gw gw w w1 → Calls Try.prog 47 #[.int .i64 k, .agg #[.int .i64 i, .string s], .pointer (some ⟨kb, 0, none⟩)] w1 fun e w' => e = .returned (.bool (lost k i)) ∧ Below w1.heap.size w1 w') :
    Calls Try.prog 33 #[.pointer (some ⟨g, 0, none⟩), .func (.func 47) #[] #[.pointer (some ⟨kb, 0, none⟩)]] w fun e w' => e = .returned (.tuple #[]) ∧ (∃ cur, DiskAt g du cu (.slice (some ⟨gw, 0, none⟩) (keepTo lost ws m).length cw) done left kp off w' ∧ w'.heap[gw]? = some (.cells cur 70 (0, 0)) ∧ cur.size = cw * 2 ∧ cur.toList.take ((keepTo lost ws m).length * 2) = flat (keepTo lost ws m)) ∧ Kept2 B g gw w w' := by
  have c2 := h.c2
  have hm' : (m : Int) ≤ 100000000 := by omega
  have hS : OmS lost B gw m cw ws cur0 w (.int .i64 0) (.slice (some ⟨gw, 0, none⟩) 0 cw) w := ⟨0, cur0, Nat.zero_le _, rfl, rfl, hr, hcs, rfl, rfl, Kept2.refl _ _ _ _⟩
  have HS := Lib.hid hS; have HCT := Lib.hid hct; have HM := Lib.hid hm; have HMC := Lib.hid hmc; have HH := Lib.hid h; have HF := Lib.hid hF; have HR := Lib.hid hr; have HGW := Lib.hid (Array.getElem?_eq_some_iff.1 hr).1; have HGL := Lib.hid h.lt; have HCS := Lib.hid hcs
  clear hS hr hcs hct hm hmc h hF
  obtain ⟨i0, hi0, hz0, hs0, hy0⟩ := info_parts info_writefail
  go_enter Try.func33, Try.ntmps33
  go_wp2_with fail
  clear c2
  go_loopw [17, 4] (fun i v wr => OmS lost B gw m cw ws cur0 w i v wr) (fun i _ _ => m - (intOf i).toNat)
  case atStart => exact HS.out
  case round =>
    obtain ⟨k, cur, hk, rfl, rfl, hg, hz, ht, hd, hK⟩ := hrel
    have HG := Lib.hid hg; have HZ := Lib.hid hz; have HT := Lib.hid ht; have HD := Lib.hid hd; have HK := Lib.hid hK
    clear hg hz ht hd hK
    have hjk : (keepTo lost ws k).length ≤ k := keepTo_length lost ws k
    obtain ⟨j, hj⟩ : ∃ j, (keepTo lost ws k).length = j := ⟨_, rfl⟩
    rw [hj] at hjk ⊢
    by_cases hkm : k < m
    · have hki : (k : Int) < m := by omega
      obtain ⟨p, hp⟩ : ∃ p, ws[k]? = some p := ⟨_, List.getElem?_eq_getElem (by rw [HM.out]; exact hkm)⟩
      have hfl := flat_get ws k p hp
      have hcell : ∀ c u, c < 2 → (flat ws)[2 * k + c]? = some u → wr.cell? ⟨gw, 2 * k + c, none⟩ = some u := fun c u hc hu => by
        rw [← HCT.out, List.getElem?_take, if_pos (by omega), ] at hu
        have e1 := congrArg (fun l => l[c]?) HD.out
        simp only [List.getElem?_drop] at e1
        unfold World.cell?
        simp only [HG.out]
        rw [← Array.getElem?_toList, e1]; exact hu
      have d0 : wr.cell? ⟨gw, k * 2, none⟩ = some (.int .i64 p.1) := by rw [show k * 2 = 2 * k + 0 by omega]; exact hcell 0 _ (by omega) hfl.1
      have d1 : wr.cell? ⟨gw, k * 2 + 1, none⟩ = some (.string p.2) := by rw [show k * 2 + 1 = 2 * k + 1 by omega]; exact hcell 1 _ (by omega) hfl.2
      have HP := Lib.hid hp
      clear hcell hfl hp
      obtain ⟨pi, ps⟩ := p
      go_wp2_with (refine wpList_store_row rfl 70 _ _ rfl wr.heap.size #[.int .i64 pi, .string ps] rfl rfl 70 _ (heap_alloc_new wr _) write_size rfl (by rfl) ?_)
      have hK1 := HK.out.alloc (.cells #[.int .i64 pi, .string ps] 70) (Nat.le_trans (Nat.le_trans hB2 (Nat.le_of_lt HGW.out)) HK.out.2.1)
      have hgl : gw < wr.heap.size := (Array.getElem?_eq_some_iff.1 HG.out).1
      have hg1 : (wr.alloc (.cells #[.int .i64 pi, .string ps] 70)).heap[gw]? = some (.cells cur 70 (0, 0)) := (Lib.alloc_old wr _ gw hgl).trans HG.out
      have z0 : (wr.alloc (.cells #[.int .i64 pi, .string ps] 70)).cell? ⟨wr.heap.size, 0, none⟩ = some (.int .i64 pi) := by unfold World.cell?; simp only [heap_alloc_new wr]; rfl
      have z1 : (wr.alloc (.cells #[.int .i64 pi, .string ps] 70)).cell? ⟨wr.heap.size, 1, none⟩ = some (.string ps) := by unfold World.cell?; simp only [heap_alloc_new wr]; rfl
      obtain ⟨w1, hw1⟩ : ∃ w1, wr.alloc (.cells #[.int .i64 pi, .string ps] 70) = w1 := ⟨_, rfl⟩
      rw [hw1] at hK1 hg1 z0 z1 ⊢
      obtain ⟨gz, hgz⟩ : ∃ gz, wr.heap.size = gz := ⟨_, rfl⟩
      rw [hgz] at z0 z1 hgl ⊢
      have HK1 := Lib.hid hK1; have HG1 := Lib.hid hg1
      clear hw1 d0 d1 hgz HK HG hK1 hg1
      go_wp2_with (go_at_call 47; refine (HF.out k pi ps w1 (by omega) HK1.out).mono ?_)
      rintro e w2 ⟨rfl, hb2⟩
      have hK2 := HK1.out.below (Nat.le_trans (Nat.le_trans hB2 (Nat.le_of_lt HGW.out)) HK1.out.2.1) hb2
      have z0' := cell_below hb2 z0
      have z1' := cell_below hb2 z1
      have hg2 := (hb2.block gw (Array.getElem?_eq_some_iff.1 HG1.out).1).trans HG1.out
      have hk9 : (k : Int) ≤ 100000000 := by omega
      have hb9 : B ≤ w2.heap.size := Nat.le_trans (Nat.le_trans hB2 (Nat.le_of_lt HGW.out)) hK2.2.1
      clear z0 z1 hb2 hgl HK1 HG1
      cases hlo : lost k pi
      · have hj1 : (keepTo lost ws (k + 1)).length = j + 1 := by rw [keepTo_succ lost ws k _ HP.out, hlo]; simp [hj]
        have hgl2 : gw < w2.heap.size := (Array.getElem?_eq_some_iff.1 hg2).1
        have hg3 : (w2.alloc (.cells #[.int .i64 pi, .string ps] 70)).heap[gw]? = some (.cells cur 70 (0, 0)) := (Lib.alloc_old w2 _ gw hgl2).trans hg2
        have y0 : (w2.alloc (.cells #[.int .i64 pi, .string ps] 70)).cell? ⟨w2.heap.size, 0, none⟩ = some (.int .i64 pi) := by unfold World.cell?; simp only [heap_alloc_new w2]; rfl
        have y1 : (w2.alloc (.cells #[.int .i64 pi, .string ps] 70)).cell? ⟨w2.heap.size, 1, none⟩ = some (.string ps) := by unfold World.cell?; simp only [heap_alloc_new w2]; rfl
        have hL := om_list cur.toList j k (.int .i64 pi) (.string ps) hjk (by rw [Array.length_toList, HZ.out]; have := HMC.out; omega)
        have hT := HT.out
        rw [hj] at hT
        have hstep : Hid (OmS lost B gw m cw ws cur0 w (.int .i64 ((k : Int) + 1)) (.slice (some ⟨gw, 0, none⟩) (j + 1) cw) ((w2.alloc (.cells #[.int .i64 pi, .string ps] 70)).setRow gw (cur.toList.take (j * 2) ++ [Value.int .i64 pi, Value.string ps] ++ cur.toList.drop (j * 2 + 2)).toArray)) := Lib.hid
          ⟨k + 1, _, by omega, by rw [Int.natCast_succ], by rw [hj1], setRow_heap _ _ _ _ _ _ hg3, by rw [List.size_toArray, hL.2.2, Array.length_toList, HZ.out], by
            rw [hj1]; show List.take _ (_ : List Value) = _; rw [hL.1, hT, keepTo_succ lost ws k _ HP.out, hlo, flat_append]; rfl, by
            show List.drop _ (_ : List Value) = _; rw [hL.2.1, show 2 * (k + 1) = 2 * k + 2 by omega, ← List.drop_drop, HD.out, List.drop_drop], (hK2.alloc _ hb9).row hB2 _⟩
        have hroom : j + 1 ≤ cw := by have := HMC.out; omega
        have hfit : j * 2 + 2 ≤ cur.size := by rw [HZ.out]; omega
        have Y0 := Lib.hid y0; have Y1 := Lib.hid y1; have HG3 := Lib.hid hg3
        clear hL hT y0 y1 hg3 hj1 hgl2 hg2 hK2 hb9
        go_wp2_with (refine wpList_append_pair _ rfl _ _ 56 rfl 70 i0 Try.underlying56 hi0 hs0 gw j cw cur HG3.out rfl ⟨w2.heap.size, 0, none⟩ 1 _ _ rfl Y0.out Y1.out rfl rfl hroom hfit ?_)
        exact ⟨by have := hstep.out; rw [List.append_assoc] at this; exact this, by simp [intOf]; omega⟩
      · have hj1 : (keepTo lost ws (k + 1)).length = j := by rw [keepTo_succ lost ws k _ HP.out, hlo]; simp [hj]
        have hstep : Hid (OmS lost B gw m cw ws cur0 w (.int .i64 ((k : Int) + 1)) (.slice (some ⟨gw, 0, none⟩) j cw) w2) := Lib.hid
          ⟨k + 1, cur, by omega, by rw [Int.natCast_succ], by rw [hj1], hg2, HZ.out, by rw [keepTo_succ lost ws k _ HP.out, hlo]; simp [HT.out], by
            rw [show 2 * (k + 1) = 2 * k + 2 by omega, ← List.drop_drop, HD.out, List.drop_drop], hK2⟩
        clear hK2 hg2 hb9
        go_wp2_with fail
        exact ⟨hstep.out, by simp [intOf]; omega⟩
    · have hkm' : k = m := by omega
      subst hkm'
      have hD2 : DiskAt g du cu (.slice (some ⟨gw, 0, none⟩) k cw) done left kp off wr := (HK.out.2.2 g HGL.out (Ne.symm h3) (Ne.symm h3)).trans HH.out
      have c2 := hD2.c2
      have hT := HT.out
      rw [hj] at hT
      by_cases hjm : j < k
      · have hne : ¬ cw = j := by have := HMC.out; omega
        obtain ⟨vs, hvl, hcl⟩ := run_clear_row (P := Try.prog) wr 56 70 (.agg #[.int .i64 0, .string ⟨#[]⟩]) Try.underlying56 (fun w => by kernel_rfl) rfl (by intro u hu; simp [Value.cells] at hu; rcases hu with rfl | rfl <;> rfl) gw (j * 2) (k - j) (cw - j) (by omega) cur 70 HG.out (by rw [HZ.out]; have := HMC.out; omega)
        have hfin : (cur.toList.take (j * 2) ++ vs ++ cur.toList.drop (j * 2 + (k - j) * 2)).take (j * 2) = flat (keepTo lost ws k) := by
          have hcz : j * 2 ≤ cur.toList.length := by rw [Array.length_toList, HZ.out]; have := HMC.out; omega
          rw [List.append_assoc, List.take_append_of_le_length (by rw [List.length_take]; omega), List.take_take, Nat.min_self]; exact hT
        have hszf : (cur.toList.take (j * 2) ++ vs ++ cur.toList.drop (j * 2 + (k - j) * 2)).toArray.size = cw * 2 := by
          have hcz : cur.toList.length = cw * 2 := by rw [Array.length_toList, HZ.out]
          have := HMC.out
          simp only [List.size_toArray, List.length_append, List.length_take, List.length_drop, hcz, hvl]; omega
        obtain ⟨w3, hw3⟩ : ∃ w3, wr.setRow gw (cur.toList.take (j * 2) ++ vs ++ cur.toList.drop (j * 2 + (k - j) * 2)).toArray = w3 := ⟨_, rfl⟩
        have hD3 : DiskAt g du cu (.slice (some ⟨gw, 0, none⟩) k cw) done left kp off w3 := by rw [← hw3]; exact (setRow_other wr gw g _ (Ne.symm h3)).trans hD2
        have hG3 : w3.heap[gw]? = some (.cells (cur.toList.take (j * 2) ++ vs ++ cur.toList.drop (j * 2 + (k - j) * 2)).toArray 70 (0, 0)) := by rw [← hw3]; exact setRow_heap wr gw cur _ _ _ HG.out
        have hK3 : Kept2 B gw gw w w3 := by rw [← hw3]; exact HK.out.row hB2 _
        rw [hw3] at hcl
        have hw2 : IntKind.i64.wrap ((k : Int) - j) = ((k - j : Nat) : Int) := by rw [IntWalk.i64_in _ (by omega)]; omega
        have f2 := hD3.free 2
        have c2' := hD3.c2
        have hD4 := hD3.set 2 (.slice (some ⟨gw, 0, none⟩) j cw)
        have HD4 := Lib.hid hD4; have HG3 := Lib.hid hG3; have HK3 := Lib.hid hK3; have HFIN := Lib.hid hfin; have HSZ := Lib.hid hszf
        clear hw3 hvl hT hD2 hD3 hD4 hG3 hK3 hfin hszf
        go_wp2_with (simp only [hcl])
        go_end0
        exact ⟨rfl, ⟨_, by rw [hj]; exact HD4.out, (Below.heap_setCell _ _ _ _ (by show gw ≠ g; exact h3)).trans HG3.out, HSZ.out, by rw [hj]; exact HFIN.out⟩, (Kept2.mix HK3.out).setg hB1 2 _⟩
      · obtain rfl : j = k := by omega
        have hcl := run_clear_none (P := Try.prog) wr 56 70 Try.underlying56
        have f2 := hD2.free 2
        have hD4 := hD2.set 2 (.slice (some ⟨gw, 0, none⟩) j cw)
        have HD4 := Lib.hid hD4; have HT2 := Lib.hid hT
        have hmc : j ≤ cw := HMC.out
        clear hT hD2 hD4
        go_wp2_with (simp only [hcl])
        all_goals go_end0
        all_goals subst_vars
        all_goals exact ⟨rfl, ⟨HD4.out, cur, (Below.heap_setCell _ _ _ _ (by show gw ≠ g; exact h3)).trans HG.out, HZ.out, HT2.out⟩, (Kept2.mix HK.out).setg hB1 2 _⟩
end Go.Proofs.Ytaionhdamdhjjaa
