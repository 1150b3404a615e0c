/- WalOnce: the walk. -/
import Derived.Test.YtaionhdamdhjjaaDoorWv
namespace Go.Proofs.YtaionhdamdhjjaaDoor
open Go.RowKit
variable {w : World}

set_option maxHeartbeats 8000000 in
set_option maxRecDepth 100000 in
theorem once_any (a : Option Addr) (len cap : Nat) (zs : List (Int × ByteArray)) (hz : IsLC w a len zs) (hl : len ≤ 9223372036854775807) (cut : Int) (kv : Value) (ks : List Int) (hk : IsInts w kv ks) (hV : CrcVars w) :
    Calls Tryd.prog 5 #[.slice a len cap, .int .i64 cut, kv] w fun e w' => e = .returned (.bool true) ∧ Below w.heap.size w w' := by
  have HZ := Lib.hid hz; have HV := Lib.hid hV; have HK := Lib.hid hk
  have HGB : Hid (0 < w.heap.size) := Lib.hid hV.2
  obtain ⟨ak, ck, hkv, hkl, _⟩ := id hk
  subst hkv
  have HKL := Lib.hid hkl
  obtain ⟨kn, hkn⟩ : ∃ kn, ks.length = kn := ⟨_, rfl⟩
  rw [hkn] at HK ⊢
  obtain ⟨c31, hc31⟩ : ∃ c31, bits .and .i64 cut 31 = c31 := ⟨_, rfl⟩
  have hr := and_31 cut
  rw [hc31] at hr
  obtain ⟨hr0, hr1⟩ := hr
  have hw1 : IntKind.i64.wrap (1 + c31) = 1 + c31 := IntWalk.i64_in _ (by omega)
  clear hz hV hk hkl hkn
  go_enter Tryd.func5, Tryd.ntmps5
  go_wp2_with (go_at_call 6; refine (wspeaks_any HV.out).mono ?_)
  rintro e w1 ⟨rfl, hb1⟩
  have HB1 := Lib.hid hb1
  clear hb1
  go_wp2_with (go_at_call 7; refine (NewD 12 w1 (by decide) (by decide)).mono ?_)
  rintro e w2 ⟨g, gd, gc, cd, cc, rfl, h2', hb2⟩
  have H2 := Lib.hid (h2'.base HB1.out.size); have HB2 := Lib.hid (HB1.out.trans (hb2.mono HB1.out.size))
  clear h2' hb2
  have hop := open_good (f := 3) (m := 5) H2.out (by decide) (by decide) (by decide) (by decide) (SzA.new 12).cur (Bd.new 12) (HV.out.below HB2.out) (by decide) 3 6 rfl rfl
  rw [open_new (n := 12) (f := 3) (m := 5) (by decide)] at hop
  have HOP := Lib.hid hop
  clear hop
  go_wp2_with (go_at_call 9; refine HOP.out.mono ?_)
  rintro e w3 ⟨⟨l, rfl, hl3⟩, va, ka, h3, hv3, f3⟩
  obtain ⟨hl4, _⟩ := hl3 rfl
  rw [if_pos rfl]
  have H3 := Lib.hid (show IsD w.heap.size 12 g gd gc cd cc va ka (newS 12) w3 from h3); have HL3 := Lib.hid hl4; have HB3 := Lib.hid (HB2.out.trans f3.below)
  clear h3 hl3 hl4 hv3 f3 HOP H2
  obtain ⟨v', w4, hap, hb4, hka⟩ := app_ints (HK.out.below HB3.out)
  have hka4 : KeepArg v' ks va w4 := by
    rcases hka with ⟨h8, h9⟩ | ⟨b, c, h8, h9, h10, h11⟩
    · exact .inl ⟨h8, h9⟩
    · exact .inr ⟨b, 0, c, h8, h9, fun e => absurd (H3.out.vw.lt b e).2 (by omega), h11⟩
  have H4 := Lib.hid (H3.out.below hb4)
  have HL4 := Lib.hid (HL3.out.below hb4)
  have HB4 : Hid (Below w.heap.size w w4) := Lib.hid (HB3.out.trans (hb4.mono (Nat.le_trans H3.out.b1 (Nat.le_of_lt H3.out.d.lt))))
  have hct := Lib.hid (CutD_any H4.out (1 + c31) v' ks HKL.out hka4)
  obtain ⟨va', vn', vc', hvs⟩ : ∃ va' vn' vc', v' = .slice va' vn' vc' := by
    rcases hka4 with ⟨_, a', c', h⟩ | ⟨_, _, _, h, _⟩
    · exact ⟨_, _, _, h⟩
    · exact ⟨_, _, _, h⟩
  subst hvs
  clear hka hka4 hb4
  go_wp2_with (first | (at_builtin; refine wpList_append_eq rfl _ _ 39 rfl _ _ rfl rfl (.slice va' vn' vc') w4 hap ?_) | (go_at_call 14; refine hct.out.mono ?_))
  rintro e w5 ⟨rfl, kb, h5, f5⟩
  obtain ⟨S1, hS1⟩ : ∃ S1, cutS (1 + c31) ks (newS 12) = S1 := ⟨_, rfl⟩
  rw [hS1] at h5
  have H5 := Lib.hid h5; have HL5 := Lib.hid (HL4.out.disk H4.out f5); have HB5 := Lib.hid (HB4.out.trans f5.below)
  have HS1 := Lib.hid hS1
  have hbd1 : Bd 0 S1 := hS1 ▸ (Bd.new 12).cut _ _ (by have := HKL.out; omega) (by omega)
  have hsz1 : SzA S1 := hS1 ▸ (SzA.new 12).cut _ _
  have HBD1 := Lib.hid hbd1; have HSZ1 := Lib.hid hsz1
  have htm := Lib.hid (tame_any a len cap zs (HZ.out.below HB5.out) hl)
  clear h5 f5 hS1 hct hap hbd1 hsz1
  go_wp2_with (go_at_call 20; refine htm.out.mono ?_)
  rintro e w6 ⟨v6, rfl, hown6, hb6⟩
  obtain ⟨x, hx⟩ : ∃ x, tameL zs = x := ⟨_, rfl⟩
  rw [hx] at hown6
  have hrow6 : ChRow w6 v6 (intC x) := by
    have := own_base hown6 (Nat.zero_le _)
    show w6.ownsRow 0 _ 2 v6 (intC x).length (flatI (intC x))
    rw [intC_length, ← flat_intC]; exact this
  have H6 := Lib.hid (H5.out.below hb6); have HL6 := Lib.hid (HL5.out.below hb6)
  have HB6 : Hid (Below w.heap.size w w6) := Lib.hid (HB5.out.trans (hb6.mono (Nat.le_trans H5.out.b1 (Nat.le_of_lt H5.out.d.lt))))
  have hcm := Lib.hid (commit_any HL6.out H6.out (by decide) (by decide) (by decide) HBD1.out v6 (intC x) hrow6 (HV.out.below HB6.out) HGB.out (by decide))
  have HXX := Lib.hid hx
  obtain ⟨ao6, an6, ac6, hv6⟩ : ∃ ao an ac, v6 = .slice ao an ac := by
    obtain ⟨ox, cx, hv, _⟩ := hrow6.opened; exact ⟨_, _, _, hv⟩
  subst hv6
  clear hown6 hb6 hrow6 htm hx
  go_wp2_with (go_at_call 17; refine hcm.out.mono ?_)
  rintro e w7 ⟨rfl, vb7, kb7, h7, hv7, f7⟩
  obtain ⟨c, hc⟩ : ∃ c, commitI 12 3 5 (intC x) S1 = c := ⟨_, rfl⟩
  rw [hc] at h7 ⊢
  have hbd7 : Bd 140 c.2 := hc ▸ HBD1.out.commitI 12 3 5 (intC x) (by decide)
  have hsz7 : SzA c.2 := hc ▸ HSZ1.out.commitI 12 3 5 (intC x) (by decide)
  have H7 := Lib.hid h7; have HB7 := Lib.hid (HB6.out.trans f7.below); have HC := Lib.hid hc; have HBD7 := Lib.hid hbd7; have HSZ7 := Lib.hid hsz7
  clear h7 hv7 f7 hc hbd7 hsz7 hcm
  go_wp2_with (go_at_call 22; refine (OnD H7.out).mono ?_)
  rintro e w8 ⟨rfl, h8, f8⟩
  have H8 := Lib.hid (show IsD w.heap.size 12 g gd gc cd cc vb7 (.slice none 0 0) (onS c.2) w8 from h8); have HB8 := Lib.hid (HB7.out.trans f8.below)
  clear h8 f8
  go_wp2_with (go_at_call 12; refine (CrashD H8.out (HBD7.out.on.ok (by decide) (by decide) (by decide)) (.slice none 0 0) [] (by decide) (.inl ⟨rfl, _, _, rfl⟩)).mono ?_)
  rintro e w9 ⟨rfl, h9, f9⟩
  have H9 := Lib.hid h9; have HB9 := Lib.hid (HB8.out.trans f9.below)
  clear h9 f9
  obtain ⟨o1, ho1⟩ : ∃ o1, openS 12 3 5 (crashS [] (onS c.2)) = o1 := ⟨_, rfl⟩
  obtain ⟨o2, ho2⟩ : ∃ o2, openS 12 3 5 o1.2 = o2 := ⟨_, rfl⟩
  obtain ⟨r1, r2, r3, r4, r5⟩ := once_data x (1 + c31) ks (newS 12) (Clean.new 12) (newS_len 12) (newS_get 12 3 (by decide)) c (HS1.out ▸ HC.out) o1 o2 ho1 ho2
  have hbd9 : Bd 140 (crashS [] (onS c.2)) := HBD7.out.on.crash []
  have hsz9 : SzA (crashS [] (onS c.2)) := HSZ7.out.on.crash []
  have hop1 := open_good (f := 3) (m := 5) H9.out (by decide) (by decide) (by decide) (by decide) hsz9.cur hbd9 (HV.out.below HB9.out) (by decide) 3 6 rfl rfl
  rw [ho1] at hop1
  have hbd10 : Bd 280 o1.2 := ho1 ▸ hbd9.open 12 3 5 (by decide)
  have hsz10 : SzA o1.2 := ho1 ▸ hsz9.open 12 3 5
  have HOP1 := Lib.hid hop1; have HBD10 := Lib.hid hbd10; have HSZ10 := Lib.hid hsz10; have HO2 := Lib.hid ho2; have R1 := Lib.hid r1; have R2 := Lib.hid r2; have R3 := Lib.hid r3; have R4 := Lib.hid r4; have R5 := Lib.hid r5
  clear hbd9 hsz9 hop1 hbd10 hsz10 ho1 ho2 r1 r2 r3 r4 r5
  go_wp2_with (go_at_call 9; refine HOP1.out.mono ?_)
  rintro e w10 ⟨⟨l1, rfl, _⟩, vc, kc, h10, hv10, f10⟩
  rw [R1.out, if_pos rfl]
  have H10 := Lib.hid h10; have HB10 := Lib.hid (HB9.out.trans f10.below)
  clear h10 hv10 f10 HOP1
  have hout := outside_any H10.out R4.out HSZ10.out.cur (by decide) 3 6 (by decide) (by decide)
  obtain ⟨O, hO⟩ : ∃ O, outK 3 6 o1.2.cur 12 = O := ⟨_, rfl⟩
  rw [hO] at hout
  have HOUT := Lib.hid hout; have HOO := Lib.hid hO
  clear hout hO
  go_wp2_with (go_at_call 21; refine HOUT.out.mono ?_)
  rintro e w' ⟨rfl, hw'⟩
  subst w'
  have hop2 := open_good (f := 3) (m := 5) H10.out (by decide) (by decide) (by decide) (by decide) HSZ10.out.cur HBD10.out (HV.out.below HB10.out) (by decide) 3 6 rfl rfl
  rw [HO2.out] at hop2
  have HOP2 := Lib.hid hop2
  clear hop2 HOUT
  go_wp2_with (go_at_call 9; refine HOP2.out.mono ?_)
  rintro e w11 ⟨⟨l2, rfl, _⟩, vd, kd, h11, hv11, f11⟩
  rw [R2.out, if_pos rfl]
  rw [R3.out] at h11
  have hout := outside_any h11 R4.out HSZ10.out.cur (by decide) 3 6 (by decide) (by decide)
  rw [HOO.out] at hout
  have hout2 : ∀ w', Below w11.heap.size w11 w' → Calls Tryd.prog 21 #[.pointer (some ⟨g, 0, none⟩), .int .i64 3, .int .i64 6] w' fun e w'' => e = .returned (.string O) ∧ w'' = w' := fun w' hb => by
    have := outside_any (h11.below hb) R4.out HSZ10.out.cur (by decide) 3 6 (by decide) (by decide)
    rw [HOO.out] at this
    exact this
  have HOUT := Lib.hid hout; have HOUT2 := Lib.hid hout2; have HB11 := Lib.hid (HB10.out.trans f11.below)
  clear h11 hv11 f11 hout hout2 HOP2
  rcases R5.out with hn | ⟨hn, hn1, hc7⟩
  · rw [hn]
    go_wp2_with (first | (go_at_call 21; refine HOUT.out.mono ?_; rintro e w' ⟨rfl, hw'⟩; subst w'))
    go_ret
    exact ⟨rfl, HB11.out⟩
  · have htm := Lib.hid (tame_any a len cap zs (HZ.out.below HB11.out) hl)
    obtain ⟨N, hN⟩ : ∃ N, x.length = N := ⟨_, rfl⟩
    rw [hn, hN]
    have hN1 : 1 ≤ N := by omega
    have hN0 : ((N : Int) == 0) = false := beq_eq_false_iff_ne.2 (by omega)
    have HNX := Lib.hid hN
    have hcc : c.1 = 7 := hc7
    clear hN hn hn1
    go_wp2_with (first | (go_at_call 20; refine htm.out.mono ?_))
    rintro e w12 ⟨v12, rfl, hown12, hb12⟩
    have hlen : ∃ ao ac, v12 = .slice ao N ac := by
      have hl12 : (tameL zs).length = N := by rw [HXX.out]; exact HNX.out
      rcases hown12.2 with ⟨h, h0⟩ | ⟨_, _, _, h, _⟩
      · omega
      · exact ⟨_, _, by rw [hl12] at h; exact h⟩
    obtain ⟨ao12, ac12, hv12⟩ := hlen
    subst hv12
    have HOUT3 := Lib.hid (HOUT2.out w12 hb12)
    have HB12 : Hid (Below w.heap.size w w12) := Lib.hid (HB11.out.trans (hb12.mono HB11.out.size))
    clear hown12 hb12 htm
    go_wp2_with (first | (go_at_call 21; refine HOUT3.out.mono ?_; rintro e w' ⟨rfl, hw'⟩; subst w'))
    go_ret
    exact ⟨rfl, HB12.out⟩
end Go.Proofs.YtaionhdamdhjjaaDoor
