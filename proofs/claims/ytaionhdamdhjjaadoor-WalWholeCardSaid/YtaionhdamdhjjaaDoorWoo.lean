/- WalWhole: the walk, where there are more than five commits. -/
import Derived.Test.YtaionhdamdhjjaaDoorWo
namespace Go.Proofs.YtaionhdamdhjjaaDoor
open Go.RowKit
variable {w : World}
set_option maxHeartbeats 16000000 in
set_option maxRecDepth 100000 in
theorem whole_many (a : Option Addr) (len cap : Nat) (zss : List (List (Int × ByteArray))) (hz : IsLLC w a len zss) (hl : len ≤ 9223372036854775807) (a2 : Option Addr) (len2 cap2 : Nat) (zs : List (Int × ByteArray)) (hz2 : IsLC w a2 len2 zs) (hl2 : len2 ≤ 9223372036854775807) (hc2 : len2 ≤ cap2)
    (k0 k1 : Value) (ks0 ks1 : List Int) (hk0 : IsInts w k0 ks0) (hk1 : IsInts w k1 ks1) (hV : CrcVars w) (hcase : 5 < len) :
    Calls Tryd.prog 4 #[.slice a len cap, .slice a2 len2 cap2, .agg #[k0, k1]] w fun e w' => e = .returned (.bool true) ∧ Below w.heap.size w w' := by
  obtain ⟨b0, c0, hk0v, hk0l, _⟩ := id hk0
  obtain ⟨b1, c1, hk1v, hk1l, _⟩ := id hk1
  subst hk0v hk1v
  obtain ⟨m0, hm0⟩ : ∃ m0, ks0.length = m0 := ⟨_, rfl⟩
  obtain ⟨m1, hm1⟩ : ∃ m1, ks1.length = m1 := ⟨_, rfl⟩
  rw [hm0] at hk0 ⊢
  rw [hm1] at hk1 ⊢
  obtain ⟨mn, hmn⟩ : ∃ mn, min len2 5 = mn := ⟨_, rfl⟩
  have hmni : min (len2 : Int) 5 = (mn : Int) := by omega
  have hmn1 : (mn : Int) ≤ cap2 := by omega
  have hmn2 : (mn : Int) ≤ len2 := by omega
  have hli : (len : Int) ≤ 9223372036854775807 := by omega
  have hl2i : (len2 : Int) ≤ 9223372036854775807 := by omega
  have hz5 : IsLC w a2 mn (zs.take mn) := hz2.take mn (by omega)
  have HX5 : Hid (tameL (zs.take mn) = tameL zs) := Lib.hid (by
    rcases (show mn = 5 ∨ mn = len2 by omega) with e | e
    · rw [e]; exact tame_eq zs
    · rw [e, ← hz2.1, List.take_length])
  have HZ := Lib.hid hz; have HZ5 := Lib.hid hz5; have HV := Lib.hid hV; have HK0 := Lib.hid hk0; have HK1 := Lib.hid hk1; have HKL0 := Lib.hid hk0l; have HKL1 := Lib.hid hk1l
  have HGB : Hid (0 < w.heap.size) := Lib.hid hV.2
  clear hz hz2 hz5 hV hk0 hk1 hk0l hk1l hm0 hm1 hmn
  go_enter Tryd.func4, Tryd.ntmps4
  go_wp2_with (go_at_call 6; refine (wspeaks_any (HV.out.below ((Below.refl _ _).alloc (Nat.le_refl _) _))).mono ?_)
  rintro e w1 ⟨rfl, hb1⟩
  have hx0 := cell_below hb1 (show (w.alloc (.cells #[.slice b0 m0 c0, .slice b1 m1 c1] 63)).cell? ⟨w.heap.size, 0, none⟩ = some (.slice b0 m0 c0) by unfold World.cell?; simp only [heap_alloc_new w]; rfl)
  have hx1 := cell_below hb1 (show (w.alloc (.cells #[.slice b0 m0 c0, .slice b1 m1 c1] 63)).cell? ⟨w.heap.size, 1, none⟩ = some (.slice b1 m1 c1) by unfold World.cell?; simp only [heap_alloc_new w]; rfl)
  have hsz1 : w.heap.size < w1.heap.size := Nat.lt_of_lt_of_le (by show _ < (w.heap.push _).size; simp) hb1.size
  have hB1 : Below w.heap.size w w1 := ((Below.refl _ _).alloc (Nat.le_refl _) _).trans (hb1.mono (by show _ ≤ (w.heap.push _).size; simp))
  have H0 : Hid (WoS w.heap.size (.slice b0 m0 c0) (.slice b1 m1 c1) w (.int .i64 1) w1) := Lib.hid ⟨1, by decide, by decide, rfl, hx0, hx1, hsz1, hB1⟩
  clear hx0 hx1 hsz1 hB1 hb1
  obtain ⟨xs, hxs⟩ : ∃ xs, zss.map tameL = xs := ⟨_, rfl⟩
  have HXS := Lib.hid hxs
  clear hxs
  go_wp2_with fail
  go_loopw [7] (fun i wr => WoS w.heap.size (.slice b0 m0 c0) (.slice b1 m1 c1) w i wr) (fun i _ => 20 - (intOf i).toNat)
  case atStart => exact H0.out
  case round =>
    obtain ⟨c, hc1, hc20, rfl, hx0, hx1, hgx, hbl⟩ := hrel
    obtain ⟨wo, hwo⟩ : ∃ wo, wo = wr := ⟨wr, rfl⟩
    subst hwo
    have HBL := Lib.hid hbl; have HX0 := Lib.hid hx0; have HX1 := Lib.hid hx1; have HGX := Lib.hid hgx
    clear hbl hx0 hx1 hgx H0
    by_cases hlt : c < 20
    · have hci : (c : Int) < 20 := by omega
      have hci0 : (1 : Int) ≤ c := by omega
      have HVr := Lib.hid (HV.out.below HBL.out)
      have HGr : Hid (0 < wo.heap.size) := Lib.hid (HV.out.below HBL.out).2
      have HZr := Lib.hid (HZ.out.below HBL.out); have HZ5r := Lib.hid (HZ5.out.below HBL.out); have HK0r := Lib.hid (HK0.out.below HBL.out); have HK1r := Lib.hid (HK1.out.below HBL.out)
      go_wp2_with (go_at_call 7; refine (NewD 12 wo (by decide) (by decide)).mono ?_)
      rintro e w2 ⟨g, gd, gc, cd, cc, rfl, h2, hb2⟩
      have H2 := Lib.hid h2; have HB2 := Lib.hid hb2
      clear h2 hb2
      have hop := open_good (f := 3) (m := 5) H2.out (by decide) (by decide) (by decide) (by decide) (SzA.new 12).cur (Bd.new 12) (HVr.out.below HB2.out) (by decide) 3 6 rfl rfl
      rw [open_new (n := 12) (f := 3) (m := 5) (by decide)] at hop
      have HOP := Lib.hid hop
      clear hop
      go_wp2_with (go_at_call 9; refine HOP.out.mono ?_)
      rintro e w3 ⟨⟨l, rfl, hl3⟩, va, ka, h3, hv3, f3⟩
      obtain ⟨hl4, _⟩ := hl3 rfl
      rw [if_pos rfl]
      have HS3 : Hid (WhS wo.heap.size g gd gc cd cc l xs (min len 5) wo (.int .i64 0) w3) := Lib.hid ⟨0, va, ka, Nat.zero_le _, rfl, h3, hl4, HB2.out.trans f3.below⟩
      clear h3 hl3 hl4 hv3 f3 HOP H2
      go_wp2_with fail
      go_loopw [13] (fun i wq => WhS wo.heap.size g gd gc cd cc l xs (min len 5) wo i wq) (fun i _ => 5 - (intOf i).toNat)
      case atStart => exact HS3.out
      case round =>
        obtain ⟨j, va, ka, hj, rfl, hI, hL, hb⟩ := hrel
        have HI := Lib.hid hI; have HL := Lib.hid hL; have HB := Lib.hid hb
        clear hI hL hb HS3
        by_cases hj2 : j < min len 5
        · have hja : (j : Int) < len := by omega
          have hjb : (j : Int) < 5 := by omega
          obtain ⟨bz, oz, hbz, hbzl, hcz⟩ := HZr.out.2 (by omega)
          subst hbz
          obtain ⟨zi, hzi⟩ : ∃ zi, zss[j]? = some zi := ⟨_, List.getElem?_eq_getElem (by rw [HZr.out.1]; omega)⟩
          obtain ⟨ai, ni, ci, d0, hlc, hni⟩ := hcz j zi hzi
          have dq := (HB.out.cell (p := ⟨bz, oz + j, none⟩) (by show bz < _; exact hbzl)).trans d0
          have hxj : xs[j]? = some (tameL zi) := by rw [← HXS.out, List.getElem?_map, hzi]; rfl
          have htm := Lib.hid (tame_any ai ni ci zi (hlc.below HB.out) hni)
          have HST := Lib.hid (seqS_step (newS 12) xs j _ hxj)
          clear hcz hzi d0 hlc hxj
          go_wp2_with (go_at_call 20; refine htm.out.mono ?_)
          first | rintro e w6 v6 rfl hown6 hb6 | rintro e w6 ⟨v6, rfl, hown6, hb6⟩
          obtain ⟨hrow6, ao6, an6, ac6, hv6⟩ := tame_row hown6
          subst hv6
          have hB6 : Below wo.heap.size wo w6 := HB.out.trans (hb6.mono HB.out.size)
          have hbd : Bd 700 (seqS (newS 12) (xs.take j)) := (Bd.seq (xs.take j) (Bd.new 12)).more (by rw [List.length_take]; omega)
          have hcm := Lib.hid (commit_any (HL.out.below hb6) (HI.out.below hb6) (by decide) (by decide) (by decide) hbd _ (intC (tameL zi)) hrow6 (HVr.out.below hB6) HGr.out (by decide))
          have HL6 := Lib.hid (HL.out.below hb6); have HI6 := Lib.hid (HI.out.below hb6); have HB6 := Lib.hid hB6
          clear hown6 hb6 hrow6 hB6 hbd htm dq
          go_wp2_with (go_at_call 17; refine hcm.out.mono ?_)
          rintro e w7 ⟨rfl, vb7, kb7, h7, hv7, f7⟩
          rw [← HST.out] at h7
          have HN : Hid (WhS wo.heap.size g gd gc cd cc l xs (min len 5) wo (.int .i64 ((j : Int) + 1)) w7) := Lib.hid ⟨j + 1, vb7, kb7, by omega, by rw [Int.natCast_succ], h7, HL6.out.disk HI6.out f7, HB6.out.trans f7.below⟩
          clear h7 hv7 f7 hcm
          go_wp2_with fail
          exact ⟨HN.out, by simp [intOf] <;> omega⟩
        · have hjm : j = min len 5 := by omega
          obtain ⟨S1, hS1⟩ : ∃ S1, seqS (newS 12) (xs.take (min len 5)) = S1 := ⟨_, rfl⟩
          have hcalm : Calm6 S1 := hS1 ▸ Calm6.new.seq _
          have hbd1 : Bd 700 S1 := hS1 ▸ (Bd.seq (xs.take (min len 5)) (Bd.new 12)).more (by rw [List.length_take]; omega)
          have hI1 := HI.out
          rw [hjm, hS1] at hI1
          have HI1 := Lib.hid hI1; have HS1 := Lib.hid hS1; have HCALM := Lib.hid hcalm; have HBD1 := Lib.hid hbd1
          first | (have hx1 : ¬ (j : Int) < len := by omega) | (have hx1 : (j : Int) < len := (by omega); have hx2 : ¬ (j : Int) < 5 := (by omega))
          have hout := outside_any hI1 hcalm.clean.off hcalm.sz.cur (by decide) 3 6 (by decide) (by decide)
          obtain ⟨OW, hOW⟩ : ∃ OW, outK 3 6 S1.cur 12 = OW := ⟨_, rfl⟩
          rw [hOW] at hout
          have HOUT := Lib.hid hout; have HOW := Lib.hid hOW
          obtain ⟨wp, hwp⟩ : ∃ wp, wp = wr := ⟨wr, rfl⟩
          subst hwp
          clear hI1 hcalm hbd1 hS1 hout hOW hj HI
          have X0 := HX0.out; have X1 := HX1.out
          have y0 := (HB.out.cell (p := ⟨w.heap.size, 0, none⟩) (by show w.heap.size < _; exact HGX.out)).trans X0
          have y1 := (HB.out.cell (p := ⟨w.heap.size, 1, none⟩) (by show w.heap.size < _; exact HGX.out)).trans X1
          obtain ⟨v4, w4, hap4, hb4, hka4⟩ := app_ints (HK0r.out.below HB.out)
          have y0a : (wp.alloc (.cells #[] 3)).cell? ⟨w.heap.size, 0, none⟩ = some (.slice b0 m0 c0) := (World.cell?_alloc_past _ _ _ (Nat.lt_of_lt_of_le HGX.out HB.out.size)).trans y0
          have hka : ∀ (v : Value), (∀ b, v.ownBlock = some b → b < wp.heap.size) → KeepArg v4 ks0 v w4 := fun v hv => by
            rcases hka4 with ⟨h8, h9⟩ | ⟨b, c, h8, h9, h10, h11⟩
            · exact .inl ⟨h8, h9⟩
            · exact .inr ⟨b, 0, c, h8, h9, fun e => absurd (hv b e) (by omega), h11⟩
          obtain ⟨vs4, vn4, vc4, hvs4⟩ : ∃ a n c, v4 = .slice a n c := by
            rcases hka4 with ⟨_, a', c', h⟩ | ⟨_, _, h, _⟩
            · exact ⟨_, _, _, h⟩
            · exact ⟨_, _, _, h⟩
          subst hvs4
          have H4 := Lib.hid (HI1.out.below hb4); have HL4 := Lib.hid (HL.out.below hb4); have HB4 : Hid (Below wo.heap.size wo w4) := Lib.hid (HB.out.trans (hb4.mono HB.out.size))
          have hct := Lib.hid (CutD_any H4.out (c : Int) _ ks0 HKL0.out (hka _ (fun b e => (HI1.out.vw.lt b e).2)))
          have HB4b := Lib.hid hb4
          clear X0 X1 y0 y1 hka4 hka hb4
          go_wp2_with (first | (go_at_call 21; refine HOUT.out.mono ?_; rintro e w' ⟨rfl, hw'⟩; subst w') | (at_builtin; refine wpList_append_eq rfl _ _ 39 rfl _ _ rfl rfl (.slice vs4 vn4 vc4) w4 hap4 ?_) | (go_at_call 14; refine hct.out.mono ?_))
          rintro e w5 ⟨rfl, kb, h5, f5⟩
          obtain ⟨S2, hS2⟩ : ∃ S2, cutS (c : Int) ks0 S1 = S2 := ⟨_, rfl⟩
          rw [hS2] at h5
          have hbd2 : Bd 700 S2 := hS2 ▸ HBD1.out.cut _ _ (by have := HKL0.out; omega) (by omega)
          have hsz2 : SzA S2 := hS2 ▸ HCALM.out.sz.cut _ _
          have H5 := Lib.hid h5; have HL5 := Lib.hid (HL4.out.disk H4.out f5); have HB5 := Lib.hid (HB4.out.trans f5.below); have HS2 := Lib.hid hS2; have HBD2 := Lib.hid hbd2; have HSZ2 := Lib.hid hsz2
          clear h5 f5 hS2 hbd2 hsz2 hct hap4 y0a HOUT
          have htm := Lib.hid (tame_any a2 mn cap2 (zs.take mn) (HZ5r.out.below HB5.out) (by omega))
          obtain ⟨x, hx⟩ : ∃ x, tameL (zs.take mn) = x := ⟨_, rfl⟩
          rw [hx] at htm
          have HXX := Lib.hid hx
          clear hx
          go_wp2_with (go_at_call 20; refine htm.out.mono ?_)
          first | rintro e w6 v6 rfl hown6 hb6 | rintro e w6 ⟨v6, rfl, hown6, hb6⟩
          obtain ⟨hrow6, ao6, an6, ac6, hv6⟩ := tame_row hown6
          subst hv6
          have hB6 : Below wo.heap.size wo w6 := HB5.out.trans (hb6.mono HB5.out.size)
          have hcm := Lib.hid (commit_any (HL5.out.below hb6) (H5.out.below hb6) (by decide) (by decide) (by decide) HBD2.out _ (intC x) hrow6 (HVr.out.below hB6) HGr.out (by decide))
          have HB6 := Lib.hid hB6
          clear hown6 hb6 hrow6 hB6 htm
          go_wp2_with (go_at_call 17; refine hcm.out.mono ?_)
          rintro e w7 ⟨rfl, vb7, kb7, h7, hv7, f7⟩
          obtain ⟨r, hr⟩ : ∃ r, commitI 12 3 5 (intC x) S2 = r := ⟨_, rfl⟩
          rw [hr] at h7 ⊢
          have hbd7 : Bd 840 r.2 := hr ▸ HBD2.out.commitI 12 3 5 (intC x) (by decide)
          have hsz7 : SzA r.2 := hr ▸ HSZ2.out.commitI 12 3 5 (intC x) (by decide)
          have H7 := Lib.hid h7; have HB7 := Lib.hid (HB6.out.trans f7.below); have HR := Lib.hid hr; have HBD7 := Lib.hid hbd7; have HSZ7 := Lib.hid hsz7
          clear h7 hv7 f7 hr hbd7 hsz7 hcm
          obtain ⟨T, hT⟩ : ∃ T, T = if r.1 = 7 then r.2 else crashS ks0 r.2 := ⟨_, rfl⟩
          have hszT : SzA T := by
            rw [hT]; split
            · exact HSZ7.out
            · exact HSZ7.out.crash _
          have hbdT : Bd 840 T := by
            rw [hT]; split
            · exact HBD7.out
            · exact HBD7.out.crash _
          have HT := Lib.hid hT; have HSZT := Lib.hid hszT; have HBDT := Lib.hid hbdT
          clear hT hszT hbdT
          by_cases he7 : r.1 = 7
          rotate_left
          · have hbe : (r.1 == 7) = false := beq_eq_false_iff_ne.2 he7
            have y0 := (HB7.out.cell (p := ⟨w.heap.size, 0, none⟩) (by show w.heap.size < _; exact HGX.out)).trans HX0.out
            have y0a : (w7.alloc (.cells #[] 3)).cell? ⟨w.heap.size, 0, none⟩ = some (.slice b0 m0 c0) := (World.cell?_alloc_past _ _ _ (Nat.lt_of_lt_of_le HGX.out HB7.out.size)).trans y0
            obtain ⟨v8, w8, hap8, hb8, hka8⟩ := app_ints (HK0r.out.below HB7.out)
            have hka : KeepArg v8 ks0 vb7 w8 := by
              rcases hka8 with ⟨h8, h9⟩ | ⟨b, c, h8, h9, h10, h11⟩
              · exact .inl ⟨h8, h9⟩
              · exact .inr ⟨b, 0, c, h8, h9, fun e => absurd (H7.out.vw.lt b e).2 (by omega), h11⟩
            obtain ⟨vs8, vn8, vc8, hvs8⟩ : ∃ a n c, v8 = .slice a n c := by
              rcases hka with ⟨_, a', c', h⟩ | ⟨_, _, _, h, _⟩
              · exact ⟨_, _, _, h⟩
              · exact ⟨_, _, _, h⟩
            subst hvs8
            have hcr := Lib.hid (CrashD (H7.out.below hb8) (HBD7.out.ok (by decide) (by decide) (by decide)) _ ks0 (by have := HKL0.out; omega) hka)
            have HB8 : Hid (Below wo.heap.size wo w8) := Lib.hid (HB7.out.trans (hb8.mono HB7.out.size))
            clear y0 hka8 hka hb8
            go_wp2_with (first | (at_builtin; refine wpList_append_eq rfl _ _ 39 rfl _ _ rfl rfl (.slice vs8 vn8 vc8) w8 hap8 ?_) | (go_at_call 12; refine hcr.out.mono ?_))
            rintro e w9 ⟨rfl, h9, f9⟩
            have HT9 := Lib.hid (show IsD wo.heap.size 12 g gd gc cd cc (.slice none 0 0) (.slice none 0 0) T w9 by rw [HT.out, if_neg he7]; exact h9)
            have HB9 := Lib.hid (HB8.out.trans f9.below)
            clear h9 f9 y0a hap8 hcr
            go_wp2_with (go_at_call 22; refine (OnD HT9.out).mono ?_)
            rintro e wa ⟨rfl, ha, fa⟩
            have HA := Lib.hid (show IsD wo.heap.size 12 g gd gc cd cc (.slice none 0 0) (.slice none 0 0) (onS T) wa from ha); have HBA := Lib.hid (HB9.out.trans fa.below)
            clear ha fa
            go_wp2_with (go_at_call 7; refine (NewD 12 wa (by decide) (by decide)).mono ?_)
            rintro e wb ⟨q, qd, qc, qe, qf, rfl, hb', hbb⟩
            have HQ := Lib.hid hb'; have HBB := Lib.hid hbb
            clear hb' hbb
            have hop := open_good (f := 3) (m := 5) HQ.out (by decide) (by decide) (by decide) (by decide) (SzA.new 12).cur (Bd.new 12) ((HVr.out.below HBA.out).below HBB.out) (by decide) 3 6 rfl rfl
            rw [open_new (n := 12) (f := 3) (m := 5) (by decide)] at hop
            have HOP := Lib.hid hop
            clear hop
            go_wp2_with (go_at_call 9; refine HOP.out.mono ?_)
            rintro e wc ⟨⟨l2, rfl, hl3⟩, vq, kq, h3, hv3, f3⟩
            obtain ⟨hl4, _⟩ := hl3 rfl
            rw [if_pos rfl]
            have HQ0 : Hid (WhS wa.heap.size q qd qc qe qf l2 xs (min len 5) wa (.int .i64 0) wc) := Lib.hid ⟨0, vq, kq, Nat.zero_le _, rfl, h3, hl4, HBB.out.trans f3.below⟩
            have HGa : Hid (0 < wa.heap.size) := Lib.hid (HVr.out.below HBA.out).2
            clear h3 hl3 hl4 hv3 f3 HOP HQ
            go_wp2_with fail
            go_loopw [22] (fun i wq => WhS wa.heap.size q qd qc qe qf l2 xs (min len 5) wa i wq) (fun i _ => 5 - (intOf i).toNat)
            case atStart => exact HQ0.out
            case round =>
              obtain ⟨j2, va2, ka2, hj, rfl, hI, hL, hb⟩ := hrel
              have HI2 := Lib.hid hI; have HL2 := Lib.hid hL; have HBq := Lib.hid hb
              have HBo : Hid (Below wo.heap.size wo wr) := Lib.hid (HBA.out.trans (hb.mono HBA.out.size))
              clear hI hL hb HQ0
              by_cases hj2 : j2 < min len 5
              · have hja : (j2 : Int) < len := by omega
                have hjb : (j2 : Int) < 5 := by omega
                obtain ⟨bz, oz, hbz, hbzl, hcz⟩ := HZr.out.2 (by omega)
                subst hbz
                obtain ⟨zi, hzi⟩ : ∃ zi, zss[j2]? = some zi := ⟨_, List.getElem?_eq_getElem (by rw [HZr.out.1]; omega)⟩
                obtain ⟨ai, ni, ci, d0, hlc, hni⟩ := hcz j2 zi hzi
                have dq := (HBo.out.cell (p := ⟨bz, oz + j2, none⟩) (by show bz < _; exact hbzl)).trans d0
                have hxj : xs[j2]? = some (tameL zi) := by rw [← HXS.out, List.getElem?_map, hzi]; rfl
                have htm := Lib.hid (tame_any ai ni ci zi (hlc.below HBo.out) hni)
                have HST := Lib.hid (seqS_step (newS 12) xs j2 _ hxj)
                clear hcz hzi d0 hlc hxj
                go_wp2_with (go_at_call 20; refine htm.out.mono ?_)
                first | rintro e w6b v6 rfl hown6 hb6 | rintro e w6b ⟨v6, rfl, hown6, hb6⟩
                obtain ⟨hrow6, ao6b, an6b, ac6b, hv6⟩ := tame_row hown6
                subst hv6
                have hB6 : Below wa.heap.size wa w6b := HBq.out.trans (hb6.mono HBq.out.size)
                have hbd : Bd 700 (seqS (newS 12) (xs.take j2)) := (Bd.seq (xs.take j2) (Bd.new 12)).more (by rw [List.length_take]; omega)
                have hcm := Lib.hid (commit_any (HL2.out.below hb6) (HI2.out.below hb6) (by decide) (by decide) (by decide) hbd _ (intC (tameL zi)) hrow6 ((HVr.out.below HBA.out).below hB6) HGa.out (by decide))
                have HL6b := Lib.hid (HL2.out.below hb6); have HI6b := Lib.hid (HI2.out.below hb6); have HB6b := Lib.hid hB6
                clear hown6 hb6 hrow6 hB6 hbd htm dq
                go_wp2_with (go_at_call 17; refine hcm.out.mono ?_)
                rintro e w7b ⟨rfl, vb7b, kb7b, h7, hv7, f7⟩
                rw [← HST.out] at h7
                have HN : Hid (WhS wa.heap.size q qd qc qe qf l2 xs (min len 5) wa (.int .i64 ((j2 : Int) + 1)) w7b) := Lib.hid ⟨j2 + 1, vb7b, kb7b, by omega, by rw [Int.natCast_succ], h7, HL6b.out.disk HI6b.out f7, HB6b.out.trans f7.below⟩
                clear h7 hv7 f7 hcm
                go_wp2_with fail
                exact ⟨HN.out, by simp [intOf] <;> omega⟩
              · have hjm : j2 = min len 5 := by omega
                have hI1 := HI2.out
                rw [hjm, HS1.out] at hI1
                have HQ1 := Lib.hid hI1
                first | have hx1 : ¬ (j2 : Int) < len := by omega | (have hx1 : (j2 : Int) < len := (by omega); have hx2 : ¬ (j2 : Int) < 5 := (by omega))
                obtain ⟨wq, hwq⟩ : ∃ wq, wq = wr := ⟨wr, rfl⟩
                subst hwq
                clear hI1 hj
                have htm := Lib.hid (tame_any a2 mn cap2 (zs.take mn) (HZ5r.out.below HBo.out) (by omega))
                rw [HXX.out] at htm
                go_wp2_with (go_at_call 20; refine htm.out.mono ?_)
                first | rintro e w6b v6 rfl hown6 hb6 | rintro e w6b ⟨v6, rfl, hown6, hb6⟩
                obtain ⟨hrow6, ao6b, an6b, ac6b, hv6⟩ := tame_row hown6
                subst hv6
                have hB6 : Below wa.heap.size wa w6b := HBq.out.trans (hb6.mono HBq.out.size)
                have hcm := Lib.hid (commit_any (HL2.out.below hb6) (HQ1.out.below hb6) (by decide) (by decide) (by decide) HBD1.out _ (intC x) hrow6 ((HVr.out.below HBA.out).below hB6) HGa.out (by decide))
                have HB6b := Lib.hid hB6
                clear hown6 hb6 hrow6 hB6 htm
                go_wp2_with (go_at_call 17; refine hcm.out.mono ?_)
                rintro e w7b ⟨rfl, vb7b, kb7b, h7, hv7, f7⟩
                have hct2 := HCALM.out.commit x
                have hout := outside_any h7 hct2.1.clean.off hct2.1.sz.cur (by decide) 3 6 (by decide) (by decide)
                obtain ⟨OT, hOT⟩ : ∃ OT, outK 3 6 (commitI 12 3 5 (intC x) S1).2.cur 12 = OT := ⟨_, rfl⟩
                rw [hOT] at hout
                have HOUT := Lib.hid hout; have HOT := Lib.hid hOT
                have HBt : Hid (Below wa.heap.size wa w7b) := Lib.hid (HB6b.out.trans f7.below)
                clear h7 hv7 f7 hct2 hout hOT hcm
                have HB7b : Hid (Below wo.heap.size wo w7b) := Lib.hid (HBA.out.trans (HBt.out.mono HBA.out.size))
                have HD := Lib.hid (HA.out.below HBt.out)
                obtain ⟨c3, hc3⟩ : ∃ c3, bits .and .i64 (c : Int) 3 = c3 := ⟨_, rfl⟩
                have hr3 := and_3 (c : Int)
                rw [hc3] at hr3
                obtain ⟨hr30, hr31⟩ := hr3
                have hw3 : IntKind.i64.wrap (1 + c3) = 1 + c3 := IntWalk.i64_in _ (by omega)
                have y1 := (HB7b.out.cell (p := ⟨w.heap.size, 1, none⟩) (by show w.heap.size < _; exact HGX.out)).trans HX1.out
                have y1a : (w7b.alloc (.cells #[] 3)).cell? ⟨w.heap.size, 1, none⟩ = some (.slice b1 m1 c1) := (World.cell?_alloc_past _ _ _ (Nat.lt_of_lt_of_le HGX.out HB7b.out.size)).trans y1
                obtain ⟨v8, w8b, hap8, hb8, hka8⟩ := app_ints (HK1r.out.below HB7b.out)
                have hka : KeepArg v8 ks1 (.slice none 0 0) w8b := by
                  rcases hka8 with ⟨h8, h9⟩ | ⟨b, c, h8, h9, h10, h11⟩
                  · exact .inl ⟨h8, h9⟩
                  · exact .inr ⟨b, 0, c, h8, h9, fun e => absurd (HD.out.vw.lt b e).2 (by omega), h11⟩
                obtain ⟨vs8b, vn8b, vc8b, hvs8⟩ : ∃ a n c, v8 = .slice a n c := by
                  rcases hka with ⟨_, a', c', h⟩ | ⟨_, _, _, h, _⟩
                  · exact ⟨_, _, _, h⟩
                  · exact ⟨_, _, _, h⟩
                subst hvs8
                have HD8 := Lib.hid (HD.out.below hb8)
                have HB8b : Hid (Below wo.heap.size wo w8b) := Lib.hid (HB7b.out.trans (hb8.mono HB7b.out.size))
                have hcu := Lib.hid (CutD_any HD8.out (1 + c3) _ ks1 HKL1.out hka)
                clear y1 hka8 hka hb8
                go_wp2_with (first | (go_at_call 21; refine HOUT.out.mono ?_; rintro e w' ⟨rfl, hw'⟩; subst w') | (at_builtin; refine wpList_append_eq rfl _ _ 39 rfl _ _ rfl rfl (.slice vs8b vn8b vc8b) w8b hap8 ?_) | (go_at_call 14; refine hcu.out.mono ?_))
                rintro e w9b ⟨rfl, kz, h9, f9⟩
                have HD9 := Lib.hid h9; have HB9b := Lib.hid (HB8b.out.trans f9.below)
                clear h9 f9 y1a hap8 hcu HOUT
                have hsz5 : SzA (cutS (1 + c3) ks1 (onS T)) := HSZT.out.on.cut _ _
                have hbd5 : Bd 840 (cutS (1 + c3) ks1 (onS T)) := HBDT.out.on.cut _ _ (by have := HKL1.out; omega) (by omega)
                obtain ⟨o1, ho1⟩ : ∃ o1, openS 12 3 5 (cutS (1 + c3) ks1 (onS T)) = o1 := ⟨_, rfl⟩
                obtain ⟨o2, ho2⟩ : ∃ o2, openS 12 3 5 (onS o1.2) = o2 := ⟨_, rfl⟩
                obtain ⟨z1, z2, z3, z4⟩ := whole_data x (c : Int) (1 + c3) ks0 ks1 S1 HCALM.out r (HS2.out ▸ HR.out) T HT.out o1 o2 ho1 ho2
                have hop1 := open_good (f := 3) (m := 5) HD9.out (by decide) (by decide) (by decide) (by decide) hsz5.cur hbd5 (HVr.out.below HB9b.out) (by decide) 3 6 rfl rfl
                rw [ho1] at hop1
                have hbd6 : Bd 980 o1.2 := ho1 ▸ hbd5.open 12 3 5 (by decide)
                have hsz6 : SzA o1.2 := ho1 ▸ hsz5.open 12 3 5
                have hsz7' : SzA o2.2 := ho2 ▸ hsz6.on.open 12 3 5
                have HOP1 := Lib.hid hop1; have HBD6 := Lib.hid hbd6; have HSZ6 := Lib.hid hsz6; have HSZ8 := Lib.hid hsz7'; have HO2 := Lib.hid ho2; have Z1 := Lib.hid z1; have Z2 := Lib.hid z2; have Z3 := Lib.hid z3; have Z4 := Lib.hid z4
                clear hsz5 hbd5 hop1 hbd6 hsz6 hsz7' ho1 ho2 z1 z2 z3 z4
                go_wp2_with (go_at_call 9; refine HOP1.out.mono ?_)
                rintro e w10 ⟨⟨l5, rfl, _⟩, vc, kc, h10, hv10, f10⟩
                obtain ⟨p5, hp5⟩ : ∃ p5, (if o1.1.2 = 0 then Value.pointer (some ⟨l5, 0, none⟩) else Value.pointer none) = p5 := ⟨_, rfl⟩
                rw [hp5]
                have H10 := Lib.hid h10; have HB10 := Lib.hid (HB9b.out.trans f10.below)
                clear h10 hv10 f10 HOP1 hp5
                obtain ⟨n5, hn5⟩ : ∃ n5, o1.1.1 = n5 := ⟨_, rfl⟩
                obtain ⟨f5, hf5⟩ : ∃ f5, o1.1.2 = f5 := ⟨_, rfl⟩
                rw [hf5] at Z1
                rw [hn5, hf5]
                clear hn5 hf5
                go_wp2_with (go_at_call 22; refine (OnD H10.out).mono ?_)
                rintro e w11 ⟨rfl, h11, f11⟩
                have H11 := Lib.hid (show IsD wo.heap.size 12 g gd gc cd cc vc (.slice none 0 0) (onS o1.2) w11 from h11); have HB11 := Lib.hid (HB10.out.trans f11.below)
                clear h11 f11
                have hop2 := open_good (f := 3) (m := 5) H11.out (by decide) (by decide) (by decide) (by decide) HSZ6.out.on.cur HBD6.out.on (HVr.out.below HB11.out) (by decide) 3 6 rfl rfl
                rw [HO2.out] at hop2
                have HOP2 := Lib.hid hop2
                clear hop2
                go_wp2_with (go_at_call 9; refine HOP2.out.mono ?_)
                rintro e w12 ⟨⟨l6, rfl, _⟩, vd, kd, h12, hv12, f12⟩
                rw [Z2.out, if_pos rfl]
                have hout := outside_any h12 Z3.out HSZ8.out.cur (by decide) 3 6 (by decide) (by decide)
                obtain ⟨ON, hON⟩ : ∃ ON, outK 3 6 o2.2.cur 12 = ON := ⟨_, rfl⟩
                rw [hON] at hout
                have HOUT := Lib.hid hout
                have HB12 := Lib.hid (HB11.out.trans f12.below)
                have HNOW : Hid (ON = OT ∨ (ON = OW ∧ r.1 ≠ 0)) := Lib.hid (by
                  have := Z4.out
                  rw [hON, HOT.out, HOW.out] at this
                  exact this)
                have HFIN : Hid (∀ w', w' = w12 → Below w.heap.size w w') := Lib.hid (fun w' e => e ▸ HBL.out.trans (HB12.out.mono HBL.out.size))
                have HNEXT : Hid (WoS w.heap.size (.slice b0 m0 c0) (.slice b1 m1 c1) w (.int .i64 ((c : Int) + 1)) w12) := Lib.hid
                  ⟨c + 1, by omega, by omega, by rw [Int.natCast_succ], (HB12.out.cell (p := ⟨w.heap.size, 0, none⟩) (by show w.heap.size < _; exact HGX.out)).trans HX0.out, (HB12.out.cell (p := ⟨w.heap.size, 1, none⟩) (by show w.heap.size < _; exact HGX.out)).trans HX1.out, Nat.lt_of_lt_of_le HGX.out HB12.out.size, HBL.out.trans (HB12.out.mono HBL.out.size)⟩
                clear h12 hv12 f12 hout hON HOP2
                obtain ⟨n6, hn6⟩ : ∃ n6, o2.1.1 = n6 := ⟨_, rfl⟩
                rw [hn6]
                clear hn6
                have hend := HNOW.out
                have hz1 := Z1.out
                clear HNOW Z1
                rcases hend with hnow | ⟨hnow, hr0⟩
                · have hb1' : (ON.toList == OT.toList) = true := by rw [hnow]; exact beq_self_eq_true _
                  clear hnow
                  rcases hz1 with hz1 | hz1
                  all_goals
                    subst hz1
                    go_wp2_with (first | (go_at_call 21; refine HOUT.out.mono ?_; rintro e w' ⟨rfl, hw'⟩; subst w'))
                    go_ret
                    exact ⟨rfl, HFIN.out _ rfl⟩
                · have hb2' : (ON.toList == OW.toList) = true := by rw [hnow]; exact beq_self_eq_true _
                  have hr0b : (r.1 == 0) = false := beq_eq_false_iff_ne.2 hr0
                  obtain ⟨bb, hbb⟩ : ∃ bb, (ON.toList == OT.toList) = bb := ⟨_, rfl⟩
                  clear hnow
                  rcases hz1 with hz1 | hz1 <;> cases bb
                  all_goals
                    subst hz1
                    go_wp2_with (first | (go_at_call 21; refine HOUT.out.mono ?_; rintro e w' ⟨rfl, hw'⟩; subst w'))
                    go_ret
                    exact ⟨rfl, HFIN.out _ rfl⟩
          · have HT9 := Lib.hid (show IsD wo.heap.size 12 g gd gc cd cc vb7 kb7 T w7 by rw [HT.out, if_pos he7]; exact H7.out)
            have HB9 := HB7
            have hbe : r.1 = 7 := he7
            go_wp2_with (go_at_call 22; refine (OnD HT9.out).mono ?_)
            rintro e wa ⟨rfl, ha, fa⟩
            have HA := Lib.hid (show IsD wo.heap.size 12 g gd gc cd cc vb7 (.slice none 0 0) (onS T) wa from ha); have HBA := Lib.hid (HB9.out.trans fa.below)
            clear ha fa
            go_wp2_with (go_at_call 7; refine (NewD 12 wa (by decide) (by decide)).mono ?_)
            rintro e wb ⟨q, qd, qc, qe, qf, rfl, hb', hbb⟩
            have HQ := Lib.hid hb'; have HBB := Lib.hid hbb
            clear hb' hbb
            have hop := open_good (f := 3) (m := 5) HQ.out (by decide) (by decide) (by decide) (by decide) (SzA.new 12).cur (Bd.new 12) ((HVr.out.below HBA.out).below HBB.out) (by decide) 3 6 rfl rfl
            rw [open_new (n := 12) (f := 3) (m := 5) (by decide)] at hop
            have HOP := Lib.hid hop
            clear hop
            go_wp2_with (go_at_call 9; refine HOP.out.mono ?_)
            rintro e wc ⟨⟨l2, rfl, hl3⟩, vq, kq, h3, hv3, f3⟩
            obtain ⟨hl4, _⟩ := hl3 rfl
            rw [if_pos rfl]
            have HQ0 : Hid (WhS wa.heap.size q qd qc qe qf l2 xs (min len 5) wa (.int .i64 0) wc) := Lib.hid ⟨0, vq, kq, Nat.zero_le _, rfl, h3, hl4, HBB.out.trans f3.below⟩
            have HGa : Hid (0 < wa.heap.size) := Lib.hid (HVr.out.below HBA.out).2
            clear h3 hl3 hl4 hv3 f3 HOP HQ
            go_wp2_with fail
            go_loopw [22] (fun i wq => WhS wa.heap.size q qd qc qe qf l2 xs (min len 5) wa i wq) (fun i _ => 5 - (intOf i).toNat)
            case atStart => exact HQ0.out
            case round =>
              obtain ⟨j2, va2, ka2, hj, rfl, hI, hL, hb⟩ := hrel
              have HI2 := Lib.hid hI; have HL2 := Lib.hid hL; have HBq := Lib.hid hb
              have HBo : Hid (Below wo.heap.size wo wr) := Lib.hid (HBA.out.trans (hb.mono HBA.out.size))
              clear hI hL hb HQ0
              by_cases hj2 : j2 < min len 5
              · have hja : (j2 : Int) < len := by omega
                have hjb : (j2 : Int) < 5 := by omega
                obtain ⟨bz, oz, hbz, hbzl, hcz⟩ := HZr.out.2 (by omega)
                subst hbz
                obtain ⟨zi, hzi⟩ : ∃ zi, zss[j2]? = some zi := ⟨_, List.getElem?_eq_getElem (by rw [HZr.out.1]; omega)⟩
                obtain ⟨ai, ni, ci, d0, hlc, hni⟩ := hcz j2 zi hzi
                have dq := (HBo.out.cell (p := ⟨bz, oz + j2, none⟩) (by show bz < _; exact hbzl)).trans d0
                have hxj : xs[j2]? = some (tameL zi) := by rw [← HXS.out, List.getElem?_map, hzi]; rfl
                have htm := Lib.hid (tame_any ai ni ci zi (hlc.below HBo.out) hni)
                have HST := Lib.hid (seqS_step (newS 12) xs j2 _ hxj)
                clear hcz hzi d0 hlc hxj
                go_wp2_with (go_at_call 20; refine htm.out.mono ?_)
                first | rintro e w6b v6 rfl hown6 hb6 | rintro e w6b ⟨v6, rfl, hown6, hb6⟩
                obtain ⟨hrow6, ao6b, an6b, ac6b, hv6⟩ := tame_row hown6
                subst hv6
                have hB6 : Below wa.heap.size wa w6b := HBq.out.trans (hb6.mono HBq.out.size)
                have hbd : Bd 700 (seqS (newS 12) (xs.take j2)) := (Bd.seq (xs.take j2) (Bd.new 12)).more (by rw [List.length_take]; omega)
                have hcm := Lib.hid (commit_any (HL2.out.below hb6) (HI2.out.below hb6) (by decide) (by decide) (by decide) hbd _ (intC (tameL zi)) hrow6 ((HVr.out.below HBA.out).below hB6) HGa.out (by decide))
                have HL6b := Lib.hid (HL2.out.below hb6); have HI6b := Lib.hid (HI2.out.below hb6); have HB6b := Lib.hid hB6
                clear hown6 hb6 hrow6 hB6 hbd htm dq
                go_wp2_with (go_at_call 17; refine hcm.out.mono ?_)
                rintro e w7b ⟨rfl, vb7b, kb7b, h7, hv7, f7⟩
                rw [← HST.out] at h7
                have HN : Hid (WhS wa.heap.size q qd qc qe qf l2 xs (min len 5) wa (.int .i64 ((j2 : Int) + 1)) w7b) := Lib.hid ⟨j2 + 1, vb7b, kb7b, by omega, by rw [Int.natCast_succ], h7, HL6b.out.disk HI6b.out f7, HB6b.out.trans f7.below⟩
                clear h7 hv7 f7 hcm
                go_wp2_with fail
                exact ⟨HN.out, by simp [intOf] <;> omega⟩
              · have hjm : j2 = min len 5 := by omega
                have hI1 := HI2.out
                rw [hjm, HS1.out] at hI1
                have HQ1 := Lib.hid hI1
                first | have hx1 : ¬ (j2 : Int) < len := by omega | (have hx1 : (j2 : Int) < len := (by omega); have hx2 : ¬ (j2 : Int) < 5 := (by omega))
                obtain ⟨wq, hwq⟩ : ∃ wq, wq = wr := ⟨wr, rfl⟩
                subst hwq
                clear hI1 hj
                have htm := Lib.hid (tame_any a2 mn cap2 (zs.take mn) (HZ5r.out.below HBo.out) (by omega))
                rw [HXX.out] at htm
                go_wp2_with (go_at_call 20; refine htm.out.mono ?_)
                first | rintro e w6b v6 rfl hown6 hb6 | rintro e w6b ⟨v6, rfl, hown6, hb6⟩
                obtain ⟨hrow6, ao6b, an6b, ac6b, hv6⟩ := tame_row hown6
                subst hv6
                have hB6 : Below wa.heap.size wa w6b := HBq.out.trans (hb6.mono HBq.out.size)
                have hcm := Lib.hid (commit_any (HL2.out.below hb6) (HQ1.out.below hb6) (by decide) (by decide) (by decide) HBD1.out _ (intC x) hrow6 ((HVr.out.below HBA.out).below hB6) HGa.out (by decide))
                have HB6b := Lib.hid hB6
                clear hown6 hb6 hrow6 hB6 htm
                go_wp2_with (go_at_call 17; refine hcm.out.mono ?_)
                rintro e w7b ⟨rfl, vb7b, kb7b, h7, hv7, f7⟩
                have hct2 := HCALM.out.commit x
                have hout := outside_any h7 hct2.1.clean.off hct2.1.sz.cur (by decide) 3 6 (by decide) (by decide)
                obtain ⟨OT, hOT⟩ : ∃ OT, outK 3 6 (commitI 12 3 5 (intC x) S1).2.cur 12 = OT := ⟨_, rfl⟩
                rw [hOT] at hout
                have HOUT := Lib.hid hout; have HOT := Lib.hid hOT
                have HBt : Hid (Below wa.heap.size wa w7b) := Lib.hid (HB6b.out.trans f7.below)
                clear h7 hv7 f7 hct2 hout hOT hcm
                have HB7b : Hid (Below wo.heap.size wo w7b) := Lib.hid (HBA.out.trans (HBt.out.mono HBA.out.size))
                have HD := Lib.hid (HA.out.below HBt.out)
                obtain ⟨c3, hc3⟩ : ∃ c3, bits .and .i64 (c : Int) 3 = c3 := ⟨_, rfl⟩
                have hr3 := and_3 (c : Int)
                rw [hc3] at hr3
                obtain ⟨hr30, hr31⟩ := hr3
                have hw3 : IntKind.i64.wrap (1 + c3) = 1 + c3 := IntWalk.i64_in _ (by omega)
                have y1 := (HB7b.out.cell (p := ⟨w.heap.size, 1, none⟩) (by show w.heap.size < _; exact HGX.out)).trans HX1.out
                have y1a : (w7b.alloc (.cells #[] 3)).cell? ⟨w.heap.size, 1, none⟩ = some (.slice b1 m1 c1) := (World.cell?_alloc_past _ _ _ (Nat.lt_of_lt_of_le HGX.out HB7b.out.size)).trans y1
                obtain ⟨v8, w8b, hap8, hb8, hka8⟩ := app_ints (HK1r.out.below HB7b.out)
                have hka : KeepArg v8 ks1 vb7 w8b := by
                  rcases hka8 with ⟨h8, h9⟩ | ⟨b, c, h8, h9, h10, h11⟩
                  · exact .inl ⟨h8, h9⟩
                  · exact .inr ⟨b, 0, c, h8, h9, fun e => absurd (HD.out.vw.lt b e).2 (by omega), h11⟩
                obtain ⟨vs8b, vn8b, vc8b, hvs8⟩ : ∃ a n c, v8 = .slice a n c := by
                  rcases hka with ⟨_, a', c', h⟩ | ⟨_, _, _, h, _⟩
                  · exact ⟨_, _, _, h⟩
                  · exact ⟨_, _, _, h⟩
                subst hvs8
                have HD8 := Lib.hid (HD.out.below hb8)
                have HB8b : Hid (Below wo.heap.size wo w8b) := Lib.hid (HB7b.out.trans (hb8.mono HB7b.out.size))
                have hcu := Lib.hid (CutD_any HD8.out (1 + c3) _ ks1 HKL1.out hka)
                clear y1 hka8 hka hb8
                go_wp2_with (first | (go_at_call 21; refine HOUT.out.mono ?_; rintro e w' ⟨rfl, hw'⟩; subst w') | (at_builtin; refine wpList_append_eq rfl _ _ 39 rfl _ _ rfl rfl (.slice vs8b vn8b vc8b) w8b hap8 ?_) | (go_at_call 14; refine hcu.out.mono ?_))
                rintro e w9b ⟨rfl, kz, h9, f9⟩
                have HD9 := Lib.hid h9; have HB9b := Lib.hid (HB8b.out.trans f9.below)
                clear h9 f9 y1a hap8 hcu HOUT
                have hsz5 : SzA (cutS (1 + c3) ks1 (onS T)) := HSZT.out.on.cut _ _
                have hbd5 : Bd 840 (cutS (1 + c3) ks1 (onS T)) := HBDT.out.on.cut _ _ (by have := HKL1.out; omega) (by omega)
                obtain ⟨o1, ho1⟩ : ∃ o1, openS 12 3 5 (cutS (1 + c3) ks1 (onS T)) = o1 := ⟨_, rfl⟩
                obtain ⟨o2, ho2⟩ : ∃ o2, openS 12 3 5 (onS o1.2) = o2 := ⟨_, rfl⟩
                obtain ⟨z1, z2, z3, z4⟩ := whole_data x (c : Int) (1 + c3) ks0 ks1 S1 HCALM.out r (HS2.out ▸ HR.out) T HT.out o1 o2 ho1 ho2
                have hop1 := open_good (f := 3) (m := 5) HD9.out (by decide) (by decide) (by decide) (by decide) hsz5.cur hbd5 (HVr.out.below HB9b.out) (by decide) 3 6 rfl rfl
                rw [ho1] at hop1
                have hbd6 : Bd 980 o1.2 := ho1 ▸ hbd5.open 12 3 5 (by decide)
                have hsz6 : SzA o1.2 := ho1 ▸ hsz5.open 12 3 5
                have hsz7' : SzA o2.2 := ho2 ▸ hsz6.on.open 12 3 5
                have HOP1 := Lib.hid hop1; have HBD6 := Lib.hid hbd6; have HSZ6 := Lib.hid hsz6; have HSZ8 := Lib.hid hsz7'; have HO2 := Lib.hid ho2; have Z1 := Lib.hid z1; have Z2 := Lib.hid z2; have Z3 := Lib.hid z3; have Z4 := Lib.hid z4
                clear hsz5 hbd5 hop1 hbd6 hsz6 hsz7' ho1 ho2 z1 z2 z3 z4
                go_wp2_with (go_at_call 9; refine HOP1.out.mono ?_)
                rintro e w10 ⟨⟨l5, rfl, _⟩, vc, kc, h10, hv10, f10⟩
                obtain ⟨p5, hp5⟩ : ∃ p5, (if o1.1.2 = 0 then Value.pointer (some ⟨l5, 0, none⟩) else Value.pointer none) = p5 := ⟨_, rfl⟩
                rw [hp5]
                have H10 := Lib.hid h10; have HB10 := Lib.hid (HB9b.out.trans f10.below)
                clear h10 hv10 f10 HOP1 hp5
                obtain ⟨n5, hn5⟩ : ∃ n5, o1.1.1 = n5 := ⟨_, rfl⟩
                obtain ⟨f5, hf5⟩ : ∃ f5, o1.1.2 = f5 := ⟨_, rfl⟩
                rw [hf5] at Z1
                rw [hn5, hf5]
                clear hn5 hf5
                go_wp2_with (go_at_call 22; refine (OnD H10.out).mono ?_)
                rintro e w11 ⟨rfl, h11, f11⟩
                have H11 := Lib.hid (show IsD wo.heap.size 12 g gd gc cd cc vc (.slice none 0 0) (onS o1.2) w11 from h11); have HB11 := Lib.hid (HB10.out.trans f11.below)
                clear h11 f11
                have hop2 := open_good (f := 3) (m := 5) H11.out (by decide) (by decide) (by decide) (by decide) HSZ6.out.on.cur HBD6.out.on (HVr.out.below HB11.out) (by decide) 3 6 rfl rfl
                rw [HO2.out] at hop2
                have HOP2 := Lib.hid hop2
                clear hop2
                go_wp2_with (go_at_call 9; refine HOP2.out.mono ?_)
                rintro e w12 ⟨⟨l6, rfl, _⟩, vd, kd, h12, hv12, f12⟩
                rw [Z2.out, if_pos rfl]
                have hout := outside_any h12 Z3.out HSZ8.out.cur (by decide) 3 6 (by decide) (by decide)
                obtain ⟨ON, hON⟩ : ∃ ON, outK 3 6 o2.2.cur 12 = ON := ⟨_, rfl⟩
                rw [hON] at hout
                have HOUT := Lib.hid hout
                have HB12 := Lib.hid (HB11.out.trans f12.below)
                have HNOW : Hid (ON = OT ∨ (ON = OW ∧ r.1 ≠ 0)) := Lib.hid (by
                  have := Z4.out
                  rw [hON, HOT.out, HOW.out] at this
                  exact this)
                have HFIN : Hid (∀ w', w' = w12 → Below w.heap.size w w') := Lib.hid (fun w' e => e ▸ HBL.out.trans (HB12.out.mono HBL.out.size))
                have HNEXT : Hid (WoS w.heap.size (.slice b0 m0 c0) (.slice b1 m1 c1) w (.int .i64 ((c : Int) + 1)) w12) := Lib.hid
                  ⟨c + 1, by omega, by omega, by rw [Int.natCast_succ], (HB12.out.cell (p := ⟨w.heap.size, 0, none⟩) (by show w.heap.size < _; exact HGX.out)).trans HX0.out, (HB12.out.cell (p := ⟨w.heap.size, 1, none⟩) (by show w.heap.size < _; exact HGX.out)).trans HX1.out, Nat.lt_of_lt_of_le HGX.out HB12.out.size, HBL.out.trans (HB12.out.mono HBL.out.size)⟩
                clear h12 hv12 f12 hout hON HOP2
                obtain ⟨n6, hn6⟩ : ∃ n6, o2.1.1 = n6 := ⟨_, rfl⟩
                rw [hn6]
                clear hn6
                have hend := HNOW.out
                have hz1 := Z1.out
                clear HNOW Z1
                rcases hend with hnow | ⟨hnow, hr0⟩
                · have hb1' : (ON.toList == OT.toList) = true := by rw [hnow]; exact beq_self_eq_true _
                  clear hnow
                  rcases hz1 with hz1 | hz1
                  all_goals
                    subst hz1
                    go_wp2_with (first | (go_at_call 21; refine HOUT.out.mono ?_; rintro e w' ⟨rfl, hw'⟩; subst w'))
                    exact ⟨HNEXT.out, by simp [intOf] <;> omega⟩
                · have hb2' : (ON.toList == OW.toList) = true := by rw [hnow]; exact beq_self_eq_true _
                  have hr0b : (r.1 == 0) = false := beq_eq_false_iff_ne.2 hr0
                  obtain ⟨bb, hbb⟩ : ∃ bb, (ON.toList == OT.toList) = bb := ⟨_, rfl⟩
                  clear hnow
                  rcases hz1 with hz1 | hz1 <;> cases bb
                  all_goals
                    subst hz1
                    go_wp2_with (first | (go_at_call 21; refine HOUT.out.mono ?_; rintro e w' ⟨rfl, hw'⟩; subst w'))
                    exact ⟨HNEXT.out, by simp [intOf] <;> omega⟩
    · have hge : ¬ (c : Int) < 20 := by omega
      go_wp2_with fail
      go_ret
      exact ⟨rfl, HBL.out⟩
end Go.Proofs.YtaionhdamdhjjaaDoor
