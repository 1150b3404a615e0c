/- Vocabularies: the two laws on texts. -/
import Derived.Test.YtmkaecpecikcaaaGreatDoorV7
namespace Go.Proofs.YtmkaecpecikcaaaGreatDoor
open Go.RowKit Go.Shelf Go.Maps
variable {w w' : World}

theorem parseV_facts (S : ByteArray) : OkE (parseV S).1 ∧ (parseV S).1.length ≤ 4096 ∧ ((parseV S).2.2 = 0 → showV (parseV S).1 = S.data.toList) := by
  obtain ⟨h1, h2⟩ := parseP_eq S
  refine ⟨h1, ?_, fun h => ?_⟩
  · by_cases hb : 262144 < S.size
    · unfold parseV parseL
      rw [if_pos hb]; simp
    · rw [parseL_eq rdP (by omega)] at h2
      have := (parse_len (rd := rdP) S _ 0 [] _ (parseV S).2.1 (parseV S).2.2 rfl (by simp) h2).1
      simpa using this
  · exact parseV_show (n := (parseV S).2.1) (Prod.ext rfl (Prod.ext rfl h))
set_option maxHeartbeats 4000000 in
set_option maxRecDepth 100000 in
theorem LParse_any (S : ByteArray) (w : World) (hS : S.size ≤ maxLen) (hw : StrAt w) :
    Calls Tryz.prog 3 #[.string S] w fun e w' => e = .returned (.bool true) ∧ Below w.heap.size w w' := by
  have HS := Lib.hid (speaks9_any w hw)
  have HW := Lib.hid hw; have HSZ := Lib.hid hS
  unfold maxLen at hS
  clear hw
  go_enter Tryz.func3, Tryz.ntmps3
  go_wp2_with (go_at_call 5; refine HS.out.mono ?_)
  rintro e w1 ⟨rfl, hb1⟩
  have HB1 := Lib.hid hb1
  clear hb1
  by_cases hbig : 3000 < S.size
  · have hbi : (3000 : Int) < S.size := by omega
    go_wp2_with fail
    go_ret
    exact ⟨rfl, HB1.out⟩
  · have hbi : ¬ (3000 : Int) < S.size := by omega
    have HP := Lib.hid (ParseV_any S w1 HSZ.out (HW.out.below HB1.out))
    have HR := Lib.hid (fun W => RParseV_any S W (by omega))
    obtain ⟨f1, f2, f3⟩ := parseV_facts S
    generalize parseV S = R at HP HR f1 f2 f3
    obtain ⟨L, n, E⟩ := R
    simp only at HP HR f1 f2 f3
    have F1 := Lib.hid f1; have F2 := Lib.hid f2; have F3 := Lib.hid f3
    clear f1 f2 f3
    go_wp2_with (go_at_call 6; refine HP.out.mono ?_)
    first | rintro e w2 ⟨v, rfl, h1, hb2⟩ | rintro e w2 v rfl h1 hb2
    obtain ⟨o1, c1, rfl, en1⟩ := own_entries h1
    have HB2 := Lib.hid (HB1.out.trans (hb2.mono HB1.out.size)); have HE1 := Lib.hid en1
    clear h1 hb2 en1
    go_wp2_with (go_at_call 7; refine (HR.out _).mono ?_)
    first | rintro e w3 ⟨v, rfl, h1, hb3⟩ | rintro e w3 v rfl h1 hb3
    obtain ⟨o2, c2, rfl, en2⟩ := own_entries h1
    have HB3 := Lib.hid (HB2.out.trans (hb3.mono HB2.out.size)); have HE2 := Lib.hid en2; have HE1b := Lib.hid (HE1.out.below hb3)
    have HSM := Lib.hid (same9_any o1 o2 c1 c2 L w3 (by have := F2.out; omega) HE1b.out HE2.out)
    clear h1 hb3 en2
    by_cases he : E = 0
    · subst he
      have HSH := Lib.hid (fun (W : World) (hW : Below w3.heap.size w3 W) => ShowV_any o1 L c1 W (by have := F2.out; omega) (HE1b.out.below hW).toO F1.out (HW.out.below (HB3.out.trans (hW.mono HB3.out.size))) (by rw [F3.out rfl, size_len]; omega))
      have HST : Hid ((⟨(showV L).toArray⟩ : ByteArray) = S) := Lib.hid (by rw [F3.out rfl])
      go_wp2_with (first
        | (go_at_call 8; refine HSM.out.mono ?_; rintro e w4 ⟨rfl, hb4⟩; have HB4 := Lib.hid hb4; clear hb4)
        | (go_at_call 9; refine (HSH.out _ HB4.out).mono ?_; rintro e w5 ⟨rfl, hb5⟩; rw [HST.out]; have HB5 := Lib.hid ((HB3.out.trans (HB4.out.mono HB3.out.size)).trans (hb5.mono (Nat.le_trans HB3.out.size HB4.out.size))); clear hb5))
      go_ret
      exact ⟨rfl, HB5.out⟩
    · go_wp2_with (go_at_call 8; refine HSM.out.mono ?_; rintro e w4 ⟨rfl, hb4⟩; have HB4 := Lib.hid (HB3.out.trans (hb4.mono HB3.out.size)); clear hb4)
      go_ret
      exact ⟨rfl, HB4.out⟩
theorem sm_sum9 {l : List PairB} (h : ∀ q ∈ l, SmP q) : ∀ q ∈ l, q.1.size + q.2.size ≤ maxLen := fun q hq => by
  have h1 := (h q hq).1; have h2 := (h q hq).2; unfold maxLen; omega
theorem take60_sm9 {l : List PairB} (h : ∀ q ∈ l, SmP q) : ∀ q ∈ l.take 60, SmP q := fun q hq => h q (List.mem_of_mem_take hq)
theorem inAt_below9 {o : Option Addr} {l : List PairB} (h : InAt w o l) (hb : Below w.heap.size w w') : InAt w' o l := fun k p hp => by
  obtain ⟨b, i, rfl, c0, c1⟩ := h k p hp
  have hlt : b < w.heap.size := World.block_lt_of_cell? w _ c0
  exact ⟨b, i, rfl, (hb.cell (p := ⟨b, i + k * 2, none⟩) hlt).trans c0, (hb.cell (p := ⟨b, i + k * 2 + 1, none⟩) hlt).trans c1⟩
set_option maxHeartbeats 4000000 in
set_option maxRecDepth 100000 in
theorem LOf_any (o : Option Addr) (l : List PairB) (c : Nat) (w : World) (hl : l.length ≤ maxLen) (hi : InAt w o l) (hsm : ∀ q ∈ l, SmP q) (hw : StrAt w) :
    Calls Tryz.prog 4 #[.slice o l.length c] w fun e w' => e = .returned (.bool true) ∧ Below w.heap.size w w' := by
  have HS := Lib.hid (speaks9_any w hw)
  have HW := Lib.hid hw; have HI := Lib.hid hi; have HSM := Lib.hid hsm
  obtain ⟨n0, hn0⟩ : ∃ n, l.length = n := ⟨_, rfl⟩
  have HN0 := Lib.hid hn0
  rw [hn0] at hl ⊢
  clear hw hi hsm hn0
  go_enter Tryz.func4, Tryz.ntmps4
  go_wp2_with (go_at_call 5; refine HS.out.mono ?_)
  rintro e w1 ⟨rfl, hb1⟩
  have HF := Lib.hid (pairs9_any o l c w1 (by rw [HN0.out]; exact hl) (inAt_below9 HI.out hb1))
  rw [HN0.out] at HF
  have HB1 := Lib.hid hb1
  clear hb1
  go_wp2_with (go_at_call 10; refine HF.out.mono ?_)
  first | rintro e w2 ⟨va, vb, rfl, ra, rb, hb2⟩ | rintro e w2 va vb rfl ra rb hb2
  obtain ⟨oa, ca, rfl, pa⟩ := own_pairs ra
  obtain ⟨ob, cb, rfl, pb⟩ := own_pairs rb
  have hsA := take60_sm9 HSM.out
  have hlA : (l.take 60).length ≤ 60 := List.length_take_le _ _
  generalize l.take 60 = A at ra rb pa pb hsA hlA ⊢
  have HB2 := Lib.hid (HB1.out.trans (hb2.mono HB1.out.size)); have HPA := Lib.hid pa; have HPB := Lib.hid pb
  have HOA := Lib.hid (fun (W : World) (hW : Below w2.heap.size w2 W) => Of_any oa A ca W (by omega) (HPA.out.below hW) (sm_sum9 hsA))
  have HOB := Lib.hid (fun (W : World) (hW : Below w2.heap.size w2 W) => ROf_any ob A cb W (by omega) (HPB.out.below hW) (sm_sum9 hsA))
  have hvo := ofP_voc A
  have hll := ofP_len A
  generalize ofP A = L at HOA HOB hvo hll
  have hsl := hvo.showLen (by omega)
  have hok : OkE L := (hvo.okL (by omega)).2.2
  obtain ⟨T, hT⟩ : ∃ T : ByteArray, (⟨(showV L).toArray⟩ : ByteArray) = T := ⟨_, rfl⟩
  have hTs : T.data.toList = showV L := by rw [← hT]
  have hTz : T.size ≤ 262144 := by rw [← size_len, hTs]; omega
  have hpT : parseV T = (L, 0, 0) := showV_parse hTs hTz (by omega) hvo
  have HP := Lib.hid (fun W (hW : StrAt W) => ParseV_any T W (by unfold maxLen; omega) hW)
  rw [hpT] at HP
  simp only at HP
  obtain ⟨nA, hnA⟩ : ∃ n, A.length = n := ⟨_, rfl⟩
  rw [hnA] at HOA HOB hlA ⊢
  obtain ⟨nL, hnL⟩ : ∃ n, L.length = n := ⟨_, rfl⟩
  have HNL := Lib.hid hnL; have HT := Lib.hid hT; have HOK := Lib.hid hok
  rw [hnL] at HOA HOB HP hll
  have hnL2 : nL ≤ 154 := by omega
  have HSL : Hid ((showV L).length ≤ 1099511627776) := Lib.hid (by omega)
  clear ra rb pa pb hsA hb2 HF hvo hsl hok hT hTs hTz hpT hnL hnA hll
  go_wp2_with (go_at_call 11; refine (HOA.out _ (Below.refl _ _)).mono ?_)
  first | rintro e w3 ⟨vx, rfl, rx, hb3⟩ | rintro e w3 vx rfl rx hb3
  obtain ⟨ox, cx, rfl, ex⟩ := own_entries (l := L) (by rw [HNL.out]; exact rx)
  rw [HNL.out]
  have HB3 := Lib.hid hb3; have HEX := Lib.hid ex
  have HB3w := Lib.hid (HB2.out.trans (hb3.mono HB2.out.size))
  have HSH := Lib.hid (ShowV_any ox L cx w3 (by rw [HNL.out]; omega) ex.toO HOK.out (HW.out.below HB3w.out) HSL.out)
  rw [HNL.out, HT.out] at HSH
  clear rx hb3 ex
  go_wp2_with (go_at_call 9; refine HSH.out.mono ?_)
  rintro e w4 ⟨rfl, hb4⟩
  have HB4 := Lib.hid (HB3.out.trans (hb4.mono HB3.out.size)); have HEX4 := Lib.hid (HEX.out.below hb4)
  have HB4w := Lib.hid (HB2.out.trans (HB4.out.mono HB2.out.size))
  clear hb4
  go_wp2_with (go_at_call 6; refine (HP.out _ (HW.out.below HB4w.out)).mono ?_)
  first | rintro e w5 ⟨vy, rfl, ry, hb5⟩ | rintro e w5 vy rfl ry hb5
  obtain ⟨oy, cy, rfl, ey⟩ := own_entries (l := L) (by rw [HNL.out]; exact ry)
  rw [HNL.out]
  have HB5 := Lib.hid (HB4.out.trans (hb5.mono HB4.out.size)); have HEX5 := Lib.hid (HEX4.out.below hb5); have HEY5 := Lib.hid ey
  clear ry hb5 ey
  go_wp2_with (go_at_call 12; refine (HOB.out _ HB5.out).mono ?_)
  first | rintro e w6 ⟨vz, rfl, rz, hb6⟩ | rintro e w6 vz rfl rz hb6
  obtain ⟨oz, cz, rfl, ez⟩ := own_entries (l := L) (by rw [HNL.out]; exact rz)
  rw [HNL.out]
  have HB6 := Lib.hid (HB5.out.trans (hb6.mono HB5.out.size)); have HEY6 := Lib.hid (HEY5.out.below hb6)
  have HQ1 := Lib.hid (same9_any ox oz cx cz L w6 (by rw [HNL.out]; omega) (HEX5.out.below hb6) ez)
  rw [HNL.out] at HQ1
  clear rz hb6 ez
  go_wp2_with (go_at_call 8; refine HQ1.out.mono ?_)
  rintro e w7 ⟨rfl, hb7⟩
  have HB7 := Lib.hid (HB6.out.trans (hb7.mono HB6.out.size)); have HEY7 := Lib.hid (HEY6.out.below hb7)
  clear hb7
  go_wp2_with (go_at_call 12; refine (HOB.out _ HB7.out).mono ?_)
  first | rintro e w8 ⟨vz, rfl, rz, hb8⟩ | rintro e w8 vz rfl rz hb8
  obtain ⟨oq, cq, rfl, eq⟩ := own_entries (l := L) (by rw [HNL.out]; exact rz)
  rw [HNL.out]
  have HB8 := Lib.hid (HB7.out.trans (hb8.mono HB7.out.size))
  have HQ2 := Lib.hid (same9_any oy oq cy cq L w8 (by rw [HNL.out]; omega) (HEY7.out.below hb8) eq)
  rw [HNL.out] at HQ2
  clear rz hb8 eq
  go_wp2_with (go_at_call 8; refine HQ2.out.mono ?_)
  rintro e w9 ⟨rfl, hb9⟩
  have HB9 := Lib.hid (HB2.out.trans ((HB8.out.trans (hb9.mono HB8.out.size)).mono HB2.out.size))
  clear hb9
  go_wp2_with fail
  go_ret
  exact ⟨rfl, HB9.out⟩
end Go.Proofs.YtmkaecpecikcaaaGreatDoor
