/- Sector: what was synced lasts: the walk. -/
import Derived.Test.YtppnaajeogkkeaaSw
import Derived.StillTailTactics
namespace Go.Proofs.Ytppnaajeogkkeaa
open Go.RowKit

/-- Two disks that hold the same, behind j writes. -/
def LaS (B ga gda gca cda cca gb gdb gcb cdb ccb m : Nat) (w : World) (i : Value) (wr : World) : Prop :=
  ∃ (j : Nat) (S : DS) (va ka vb kb : Value), i = .int .i64 j ∧ j ≤ m ∧ Bd j S ∧ Calm S ∧ IsD B 4 ga gda gca cda cca va ka S wr ∧ IsD B 4 gb gdb gcb cdb ccb vb kb S wr ∧ Apart ga gda gca gb gdb gcb va vb ∧ Below B w wr
/-- One disk that was synced, the other one behind a loss of power: both hold C. -/
def LbS (B ga gda gca cda cca gb gdb gcb cdb ccb m : Nat) (C : List ByteArray) (w : World) (i : Value) (wr : World) : Prop :=
  ∃ (j : Nat) (Sa Sb : DS) (va ka vb kb : Value), i = .int .i64 j ∧ j ≤ m ∧ Bd 40 Sb ∧ Sb.ws = [] ∧ Sb.dur = C ∧ Sb.cur = C ∧ Sb.off = false ∧ Sa.cur = C ∧ Sa.off = false ∧ IsD B 4 ga gda gca cda cca va ka Sa wr ∧ IsD B 4 gb gdb gcb cdb ccb vb kb Sb wr ∧ Apart ga gda gca gb gdb gcb va vb ∧ Below B w wr
def IsKeeps (w : World) (a : Option Addr) (len : Nat) (kss : List (List Int)) : Prop :=
  kss.length = len ∧ (0 < len → ∃ b o, a = some ⟨b, o, none⟩ ∧ b < w.heap.size ∧ ∀ i zs, kss[i]? = some zs → ∃ v, w.cell? ⟨b, o + i, none⟩ = some v ∧ IsInts w v zs)
set_option maxHeartbeats 2000000 in
set_option maxRecDepth 100000 in
theorem lasts_any (a : Option Addr) (len cap : Nat) (zs : List (Int × ByteArray)) (a2 : Option Addr) (len2 cap2 : Nat) (kss : List (List Int)) (w : World) (hz : IsActs w a len zs) (hk : IsKeeps w a2 len2 kss) (hl : len ≤ 9223372036854775807) (hl2 : len2 ≤ 9223372036854775807) :
    Calls Try.prog 6 #[.slice a len cap, .slice a2 len2 cap2] w fun e w' => e = .returned (.bool true) ∧ Below w.heap.size w w' := by
  have HZ := Lib.hid hz; have HK := Lib.hid hk; have HL := Lib.hid hl; have HL2 := Lib.hid hl2
  clear hz hk hl hl2
  go_enter Try.func6, Try.ntmps6
  go_wp2_with (go_at_call 8; refine (speaks_any w).mono ?_)
  rintro e w1 ⟨rfl, hb1⟩
  have HB1 := Lib.hid hb1
  clear hb1
  go_wp2_with (go_at_call 9; refine (NewD 4 w1 (by decide) (by decide)).mono ?_)
  rintro e w2 ⟨ga, gda, gca, cda, cca, rfl, h2, hb2⟩
  have H2 := Lib.hid (h2.base HB1.out.size); have HB2 := Lib.hid (HB1.out.trans (hb2.mono HB1.out.size))
  clear h2 hb2
  go_wp2_with (go_at_call 9; refine (NewD 4 w2 (by decide) (by decide)).mono ?_)
  rintro e w3 ⟨gb, gdb, gcb, cdb, ccb, rfl, h3, hb3⟩
  have ap3 : Apart ga gda gca gb gdb gcb (.slice none 0 0) (.slice none 0 0) := by
    have q1 := H2.out.d.lt; have q2 := H2.out.rd.lt; have q3 := H2.out.rc.lt
    have q4 := h3.b1; have q5 := h3.b2; have q6 := h3.b3
    exact ⟨by omega, by omega, by omega, by omega, by omega, fun x hx => by cases hx⟩
  have hS0 : Hid (LaS w.heap.size ga gda gca cda cca gb gdb gcb cdb ccb (min len 30) w (.int .i64 0) w3) := Lib.hid
    ⟨0, newS 4, _, _, _, _, rfl, Nat.zero_le _, Bd.new 4, Calm.new 4, H2.out.below hb3, h3.base HB2.out.size, ap3, HB2.out.trans (hb3.mono HB2.out.size)⟩
  clear h3 ap3 hb3 H2
  go_wp2_with fail
  go_loopw [9] (fun i wr => LaS w.heap.size ga gda gca cda cca gb gdb gcb cdb ccb (min len 30) w i wr) (fun i _ => 30 - (intOf i).toNat)
  case atStart => exact hS0.out
  case round =>
    obtain ⟨j, S, va, ka, vb, kb, rfl, hj, hbd, hcm, hA, hB, hap, hbl⟩ := hrel
    by_cases hlt : j < min len 30
    · have hj1 : (j : Int) < len := by omega
      have hj2 : (j : Int) < 30 := by omega
      obtain ⟨b, o, rfl, hbw, hcell⟩ := HZ.out.2 (by omega)
      obtain ⟨z, hz⟩ : ∃ z, zs[j]? = some z := ⟨_, List.getElem?_eq_getElem (by rw [HZ.out.1]; omega)⟩
      obtain ⟨hc1, hc2⟩ := hcell j z hz
      have d1 : wr.cell? ⟨b, o + j * 4 + 1, none⟩ = some (.int .i64 z.1) := by rw [Nat.add_assoc]; exact cell_below hbl hc1
      have d2 : wr.cell? ⟨b, o + j * 4 + 2, none⟩ = some (.string z.2) := by rw [Nat.add_assoc]; exact cell_below hbl hc2
      obtain ⟨zx, zs1⟩ := z
      obtain ⟨k, hk⟩ : ∃ k, (zx % 4).toNat = k := ⟨_, rfl⟩
      have hk4 : Hid (k < 4) := Lib.hid (by omega)
      have hand : bits .and .i64 zx 3 = (k : Int) := by rw [and_three, hk]
      have hl1 : (len : Int) ≤ 9223372036854775807 := by have := HL.out; omega
      have HA := Lib.hid hA; have HBd := Lib.hid hB; have HAP := Lib.hid hap; have HBL := Lib.hid hbl; have HBD := Lib.hid hbd; have HCM := Lib.hid hcm; have HC1 := Lib.hid hc1; have HC2 := Lib.hid hc2
      clear hcell hc1 hc2 hA hB hap hbl hbd hcm hz hk
      go_wp2_with fail
      refine wp_region_still_tail 13 (by kernel_rfl) (by kernel_rfl) ?_
      change wpStill _ _ (World.drew _) _ _ _
      simp only [List.take_succ_cons, List.take_zero, List.drop_succ_cons, List.drop_zero]
      iterate 12 still_step
      still_call (short_any zs1 _)
      try refine wpStill_nil ?_
      change wpList _ _ _ _ _ (World.drew _)
      go_wp2_with (go_at_call 19; refine (WriteD (HA.out.keep (w' := wr.drew) (fun _ _ => rfl)) (HBD.out.ok (by decide) (by decide) (by omega)) k _ hk4.out (short_size zs1)).mono ?_)
      first | rintro e w4 rfl va' ka' h4 hv4 f4 | rintro e w4 ⟨rfl, va', ka', h4, hv4, f4⟩
      obtain ⟨hb4, ap4⟩ := HA.out.other HBd.out HAP.out f4.undrew hv4
      have hbl4 := HBL.out.trans f4.undrew.below
      have d1' : w4.cell? ⟨b, o + j * 4 + 1, none⟩ = some (.int .i64 zx) := by rw [Nat.add_assoc]; exact cell_below hbl4 HC1.out
      have d2' : w4.cell? ⟨b, o + j * 4 + 2, none⟩ = some (.string zs1) := by rw [Nat.add_assoc]; exact cell_below hbl4 HC2.out
      have H4 := Lib.hid h4; have HB4 := Lib.hid hb4; have HAP4 := Lib.hid ap4; have HBL4 := Lib.hid hbl4
      clear h4 hv4 f4 hb4 ap4 hbl4 d1 d2 HA HBd HAP HBL
      go_wp2_with fail
      refine wp_region_still_tail 13 (by kernel_rfl) (by kernel_rfl) ?_
      change wpStill _ _ (World.drew _) _ _ _
      simp only [List.take_succ_cons, List.take_zero, List.drop_succ_cons, List.drop_zero]
      iterate 12 still_step
      still_call (short_any zs1 _)
      try refine wpStill_nil ?_
      change wpList _ _ _ _ _ (World.drew _)
      go_wp2_with (go_at_call 19; refine (WriteD (HB4.out.keep (w' := w4.drew) (fun _ _ => rfl)) (HBD.out.ok (by decide) (by decide) (by omega)) k _ hk4.out (short_size zs1)).mono ?_)
      first | rintro e w5 rfl vb' kb' h5 hv5 f5 | rintro e w5 ⟨rfl, vb', kb', h5, hv5, f5⟩
      obtain ⟨ha5, ap5⟩ := HB4.out.other H4.out HAP4.out.symm f5.undrew hv5
      have hstep : Hid (LaS w.heap.size ga gda gca cda cca gb gdb gcb cdb ccb (min len 30) w (.int .i64 ((j : Int) + 1)) w5) := Lib.hid
        ⟨j + 1, _, va', ka', vb', kb', by rw [Int.natCast_succ], by omega, HBD.out.write k _, HCM.out.write k _, ha5, h5, ap5.symm, HBL4.out.trans f5.undrew.below⟩
      clear h5 hv5 f5 ha5 ap5
      go_wp2_with fail
      exact ⟨hstep.out, by simp [intOf]; omega⟩
    · have hex : (¬ (j : Int) < len) ∨ ((j : Int) < len ∧ ¬ (j : Int) < 30) := by omega
      have hj30 : j ≤ 30 := by omega
      have HA := Lib.hid hA; have HBd := Lib.hid hB; have HAP := Lib.hid hap; have HBL := Lib.hid hbl; have HBD := Lib.hid hbd; have HCM := Lib.hid hcm
      clear hA hB hap hbl hbd hcm
      rcases hex with hx1 | ⟨hx1, hx2⟩
      all_goals
        go_wp2_with (go_at_call 11; refine (SyncD HBd.out (HBD.out.ok (by decide) (by decide) (by omega))).mono ?_)
        first | rintro e w4 rfl vb' kb' h4 hv4 f4 | rintro e w4 ⟨rfl, vb', kb', h4, hv4, f4⟩
        obtain ⟨ha4, ap4⟩ := HBd.out.other HA.out HAP.out.symm f4 (fun x hx => .inl (hv4 x hx))
        have hbl4 := HBL.out.trans f4.below
        have hal : Below w4.heap.size w4 (w4.alloc (.cells #[.int .i64 1, .int .i64 3] 3)) := (Below.refl _ _).alloc (Nat.le_refl _) _
        have hka : KeepArg (.slice (some ⟨w4.heap.size, 0, none⟩) 2 2) [1, 3] va (w4.alloc (.cells #[.int .i64 1, .int .i64 3] 3)) := .inr ⟨w4.heap.size, 0, 2, rfl, by decide, fun e => absurd (ha4.vw.lt _ e).2 (Nat.lt_irrefl _), fun j hj => by
          have hj2 : j < 2 := hj
          unfold World.cell?
          simp only [heap_alloc_new w4]
          rcases (show j = 0 ∨ j = 1 by omega) with rfl | rfl <;> rfl⟩
        have HCR := Lib.hid (CrashD (ha4.below hal) (HBD.out.ok (by decide) (by decide) (by omega)) _ [1, 3] (by decide) hka)
        have HA4 := Lib.hid (ha4.below hal); have H4 := Lib.hid (h4.below hal); have HAP4 := Lib.hid ap4; have HBL4 := Lib.hid (hbl4.trans (hal.mono (Nat.le_trans (HBd.out.lts (.inl rfl)).1 (Nat.le_of_lt h4.d.lt))))
        clear ha4 h4 ap4 hv4 f4 hbl4 hal hka
        go_wp2_with (go_at_call 14; refine HCR.out.mono ?_)
        rintro e w5 ⟨rfl, h5, f5⟩
        obtain ⟨hb5, ap5⟩ := HA4.out.other H4.out HAP4.out.symm f5 (va' := .slice none 0 0) (fun x hx => by cases hx)
        have hS1 : Hid (LbS w.heap.size ga gda gca cda cca gb gdb gcb cdb ccb (min len2 5) S.cur w (.int .i64 0) w5) := Lib.hid
          ⟨0, crashS [1, 3] S, (syncS S).2, _, _, vb', kb', rfl, Nat.zero_le _, by have := HBD.out.sync; exact ⟨Nat.le_trans this.ws (by omega), this.kp, Nat.le_trans this.done (by omega), this.l0, this.l1⟩, by rw [HCM.out.sync], by rw [HCM.out.sync], by rw [HCM.out.sync], by rw [HCM.out.sync]; exact HCM.out.off, HCM.out.crash13, rfl, h5, hb5, ap5, HBL4.out.trans f5.below⟩
        clear h5 f5 hb5 ap5 HCR HA4 H4 HAP4 HBL4
        go_wp2_with fail
        go_loopw [10] (fun i wr => LbS w.heap.size ga gda gca cda cca gb gdb gcb cdb ccb (min len2 5) S.cur w i wr) (fun i _ => 5 - (intOf i).toNat)
        case atStart => exact hS1.out
        case round =>
          obtain ⟨q, Sa, Sb, va2, ka2, vb2, kb2, rfl, hq, hbd2, hw2, hdu2, hcu2, ho2, hca2, hoa2, hA2, hB2, hap2, hbl2⟩ := hrel
          by_cases hlt2 : q < min len2 5
          · have hq1 : (q : Int) < len2 := by omega
            have hq2 : (q : Int) < 5 := by omega
            obtain ⟨b2, o2, rfl, hbw2, hcell2⟩ := HK.out.2 (by omega)
            obtain ⟨ks, hks⟩ : ∃ ks, kss[q]? = some ks := ⟨_, List.getElem?_eq_getElem (by rw [HK.out.1]; omega)⟩
            obtain ⟨v, hv, hin⟩ := hcell2 q ks hks
            have dv : (wr.alloc (.cells #[] 3)).cell? ⟨b2, o2 + q, none⟩ = some v := cell_below (hbl2.alloc hbl2.size _) hv
            have hin2 := hin.below hbl2
            obtain ⟨v', w6, hap6, hb6, hcase⟩ := app_ints hin2
            have hlk : ks.length ≤ 100000000000000 := by obtain ⟨_, _, _, h9, _⟩ := hin2; omega
            have hka : KeepArg v' ks vb2 w6 := by
              rcases hcase with ⟨h8, h9⟩ | ⟨b, c, h8, h9, h10, h11⟩
              · exact .inl ⟨h8, h9⟩
              · exact .inr ⟨b, 0, c, h8, h9, fun e => absurd (hB2.vw.lt b e).2 (by omega), h11⟩
            obtain ⟨av, cv, hveq, _⟩ := id hin2
            subst hveq
            have HCR := Lib.hid (CrashD (hB2.below hb6) (hbd2.ok (by decide) (by decide) (by decide)) v' ks hlk hka)
            have HA6 := Lib.hid (hA2.below hb6); have HB6 := Lib.hid (hB2.below hb6); have HAP6 := Lib.hid hap2; have HBL6 := Lib.hid (hbl2.trans (hb6.mono (Nat.le_trans (hB2.lts (.inl rfl)).1 (Nat.le_of_lt hB2.d.lt))))
            have HI := Lib.hid (show Bd 40 Sb ∧ Sb.ws = [] ∧ Sb.dur = S.cur ∧ Sa.cur = S.cur ∧ Sa.off = false from ⟨hbd2, hw2, hdu2, hca2, hoa2⟩)
            clear hA2 hB2 hap2 hbl2 hb6 hcase hka hin hin2 hv hcell2 hks hbd2 hw2 hdu2 hcu2 ho2 hca2 hoa2 hlk
            go_wp2_with (first | (at_builtin; refine wpList_append_eq rfl _ _ 30 rfl _ _ rfl rfl v' w6 hap6 ?_) | (go_at_call 14; refine HCR.out.mono ?_))
            first | rintro e w7 rfl h7 f7 | rintro e w7 ⟨rfl, h7, f7⟩
            obtain ⟨ha7, ap7⟩ := HB6.out.other HA6.out HAP6.out.symm f7 (va' := .slice none 0 0) (fun x hx => by cases hx)
            have hstep : Hid (LbS w.heap.size ga gda gca cda cca gb gdb gcb cdb ccb (min len2 5) S.cur w (.int .i64 ((q : Int) + 1)) w7) := Lib.hid
              ⟨q + 1, Sa, crashS ks Sb, va2, ka2, _, _, by rw [Int.natCast_succ], by omega, HI.out.1.crash ks, rfl, (crash_none ks HI.out.2.1).2.trans HI.out.2.2.1, (crash_none ks HI.out.2.1).1.trans HI.out.2.2.1, rfl, HI.out.2.2.2.1, HI.out.2.2.2.2, ha7, h7, ap7.symm, HBL6.out.trans f7.below⟩
            clear h7 f7 ha7 ap7 hap6
            go_wp2_with fail
            exact ⟨hstep.out, by simp [intOf]; omega⟩
          · have hex2 : (¬ (q : Int) < len2) ∨ ((q : Int) < len2 ∧ ¬ (q : Int) < 5) := by omega
            have hrd : ∀ s : Nat, ∃ x y, readS 4 s Sa = (x, y) ∧ readS 4 s Sb = (x, y) := fun s => ⟨(readS 4 s Sa).1, (readS 4 s Sa).2, rfl, by unfold readS; rw [ho2, hoa2, hcu2, hca2]⟩
            have hct := CountsD hB2
            rw [hw2] at hct
            have HA6 := Lib.hid hA2; have HB6 := Lib.hid hB2; have HBL6 := Lib.hid hbl2; have HRD := Lib.hid hrd; have HCT := Lib.hid hct
            clear hA2 hB2 hap2 hbl2 hbd2 hw2 hdu2 hcu2 ho2 hca2 hoa2 hrd hct
            rcases hex2 with hx3 | ⟨hx3, hx4⟩
            all_goals
              go_wp2_with fail
              go_loopw [11] (fun i wz => ∃ s : Nat, s ≤ 4 ∧ i = .int .i64 s ∧ wz = wr) (fun i _ => 4 - (intOf i).toNat)
              case atStart => exact ⟨0, by omega, rfl, rfl⟩
              case round =>
                obtain ⟨s, hs, rfl, rfl⟩ := hrel
                by_cases hs4 : s < 4
                · have hs1 : (s : Int) < 4 := by omega
                  obtain ⟨x, y, hr1, hr2⟩ := HRD.out s
                  have hra := ReadD HA6.out s
                  have hrb := ReadD HB6.out s
                  rw [hr1] at hra
                  rw [hr2] at hrb
                  have HRA := Lib.hid hra; have HRB := Lib.hid hrb
                  clear hra hrb hr1 hr2
                  go_wp2_with (first | (go_at_call 23; refine HRA.out.mono ?_; rintro e w' ⟨rfl, rfl⟩; clear HRA) | (go_at_call 23; refine HRB.out.mono ?_; rintro e w' ⟨rfl, rfl⟩))
                  exact ⟨⟨s + 1, by omega, by rw [Int.natCast_succ], trivial⟩, by simp [intOf]; omega⟩
                · obtain rfl : s = 4 := by omega
                  go_wp2_with (go_at_call 24; refine HCT.out.mono ?_)
                  first | rintro e w9 rfl hb9 | rintro e w9 ⟨rfl, hb9⟩
                  have HB9 := Lib.hid (HBL6.out.trans (hb9.mono (Nat.le_trans (HB6.out.lts (.inl rfl)).1 (Nat.le_of_lt HB6.out.d.lt))))
                  clear hb9
                  go_wp2_with fail
                  go_ret
                  exact ⟨rfl, HB9.out⟩
end Go.Proofs.Ytppnaajeogkkeaa
