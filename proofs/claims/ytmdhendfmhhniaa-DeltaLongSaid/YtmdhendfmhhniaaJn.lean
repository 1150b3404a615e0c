/- Deltas: the law's own word; DeltaApplies; DeltaMakes. -/
import Derived.Test.YtmdhendfmhhniaaJm
namespace Go.Proofs.Ytmdhendfmhhniaa
open Go.RowKit
variable {w w' : World}

def d8 : ByteArray := ⟨#[4, 5, 1, 0, 2, 0, 1, 120, 1, 2, 2]⟩
theorem app8 : appD ⟨#[97, 98, 99, 100]⟩ d8 = (⟨#[97, 98, 120, 99, 100]⟩, 0) := by decide +kernel
theorem made_size {base target D : ByteArray} (h : MadeD base target D) : D.size ≤ target.size + 19 := by
  obtain ⟨L, rfl, _, _, h3, _⟩ := h
  have h1 := putL_len base.size; have h2 := putL_len target.size; have h4 := addL_len target
  rw [mkB_size, List.length_append, List.length_append]; omega
set_option maxHeartbeats 2000000 in
set_option maxRecDepth 100000 in
theorem speaks_any (w : World) (hm : MaxAt w) : Calls Try.prog 8 #[] w fun e w' => e = .returned (.bool true) ∧ Below w.heap.size w w' := by
  have HA := Lib.hid (fun W => Apply_any ⟨#[97, 98, 99, 100]⟩ d8 W (by decide) (by decide))
  rw [app8] at HA
  have HM := Lib.hid (fun W hW => Make_any ⟨#[97]⟩ ⟨#[98]⟩ W (by decide) (by decide) hW)
  have HMA := Lib.hid hm
  clear hm
  go_enter Try.func8, Try.ntmps8
  go_wp2_with fail
  refine (HA.out _).mono ?_
  rintro e w1 ⟨rfl, hb1⟩
  have HB1 := Lib.hid hb1
  clear hb1
  go_wp2_with fail
  refine (HM.out _ (HMA.out.below HB1.out)).mono ?_
  rintro e w2 ⟨D, rfl, hD, hb2⟩
  have HB2 := Lib.hid (HB1.out.trans (hb2.mono HB1.out.size))
  have hDs := made_size hD
  have hap := appD_made hD (by decide) (by decide)
  have HAD := Lib.hid (fun W => Apply_any ⟨#[97]⟩ D W (by unfold maxLen; have : (⟨#[98]⟩ : ByteArray).size = 1 := rfl; omega) (by decide))
  rw [hap] at HAD
  clear hb2 hDs hap hD
  go_wp2_with fail
  refine (HAD.out _).mono ?_
  rintro e w3 ⟨rfl, hb3⟩
  have HB3 := Lib.hid (HB2.out.trans (hb3.mono HB2.out.size))
  clear hb3
  go_wp2_with fail
  go_ret
  exact ⟨rfl, HB3.out⟩
set_option maxHeartbeats 2000000 in
set_option maxRecDepth 100000 in
theorem LApplies (base d : ByteArray) (w : World) (hbs : base.size ≤ maxLen) (hds : d.size ≤ maxLen) (hm : MaxAt w) :
    Calls Try.prog 3 #[.string base, .string d] w fun e w' => e = .returned (.bool true) ∧ Below w.heap.size w w' := by
  have HS := Lib.hid (speaks_any w hm)
  unfold maxLen at hbs hds
  by_cases h1 : 3000 < base.size
  · have h1i : (3000 : Int) < base.size := by omega
    clear hm
    go_enter Try.func3, Try.ntmps3
    go_wp2_with (go_at_call 8; refine HS.out.mono ?_; rintro e w1 ⟨rfl, hb1⟩; have HB1 := Lib.hid hb1; clear hb1)
    go_ret
    exact ⟨rfl, HB1.out⟩
  by_cases h2 : 3000 < d.size
  · have h1i : ¬ (3000 : Int) < base.size := by omega
    have h2i : (3000 : Int) < d.size := by omega
    clear hm
    go_enter Try.func3, Try.ntmps3
    go_wp2_with (go_at_call 8; refine HS.out.mono ?_; rintro e w1 ⟨rfl, hb1⟩; have HB1 := Lib.hid hb1; clear hb1)
    go_ret
    exact ⟨rfl, HB1.out⟩
  have h1i : ¬ (3000 : Int) < base.size := by omega
  have h2i : ¬ (3000 : Int) < d.size := by omega
  have H1 := Lib.hid (fun W => Apply_any base d W (by unfold maxLen; omega) (by omega))
  have H2 := Lib.hid (fun W => RApply_any base d W (by omega) (by omega))
  have H3 := Lib.hid (fun W => Sizes_any d W (by unfold maxLen; omega))
  have H4 := Lib.hid (fun W => RSizes_any d W (by unfold maxLen; omega))
  obtain ⟨⟨t, e⟩, ha⟩ : ∃ z, appD base d = z := ⟨_, rfl⟩
  obtain ⟨⟨x, y, k, f⟩, hz⟩ : ∃ z, sizD d = z := ⟨_, rfl⟩
  rw [ha] at H1 H2
  rw [hz] at H3 H4
  clear ha hz hm
  go_enter Try.func3, Try.ntmps3
  go_wp2_with (first
    | (go_at_call 8; refine HS.out.mono ?_; rintro e w1 ⟨rfl, hb1⟩; have HB1 := Lib.hid hb1; clear hb1)
    | (go_at_call 9; (with_reducible refine (H1.out _).mono ?_); rintro e w2 ⟨rfl, hb2⟩; have HB2 := Lib.hid (HB1.out.trans (hb2.mono HB1.out.size)); clear hb2)
    | (go_at_call 10; (with_reducible refine (H2.out _).mono ?_); rintro e w3 ⟨rfl, hb3⟩; have HB3 := Lib.hid (HB2.out.trans (hb3.mono HB2.out.size)); clear hb3)
    | (go_at_call 11; (with_reducible refine (H3.out _).mono ?_); rintro e w4 ⟨rfl, hb4⟩; have HB4 := Lib.hid (HB3.out.trans (hb4.mono HB3.out.size)); clear hb4)
    | (go_at_call 12; (with_reducible refine (H4.out _).mono ?_); rintro e w5 ⟨rfl, hb5⟩; have HB5 := Lib.hid (HB4.out.trans (hb5.mono HB4.out.size)); clear hb5))
  go_ret
  exact ⟨rfl, HB5.out⟩
set_option maxHeartbeats 2000000 in
set_option maxRecDepth 100000 in
theorem LMakes (base target : ByteArray) (w : World) (hbs : base.size ≤ maxLen) (hts : target.size ≤ maxLen) (hm : MaxAt w) :
    Calls Try.prog 4 #[.string base, .string target] w fun e w' => e = .returned (.bool true) ∧ Below w.heap.size w w' := by
  have HS := Lib.hid (speaks_any w hm)
  unfold maxLen at hbs hts
  by_cases h1 : 5000 < base.size
  · have h1i : (5000 : Int) < base.size := by omega
    clear hm
    go_enter Try.func4, Try.ntmps4
    go_wp2_with (go_at_call 8; refine HS.out.mono ?_; rintro e w1 ⟨rfl, hb1⟩; have HB1 := Lib.hid hb1; clear hb1)
    go_ret
    exact ⟨rfl, HB1.out⟩
  by_cases h2 : 5000 < target.size
  · have h1i : ¬ (5000 : Int) < base.size := by omega
    have h2i : (5000 : Int) < target.size := by omega
    clear hm
    go_enter Try.func4, Try.ntmps4
    go_wp2_with (go_at_call 8; refine HS.out.mono ?_; rintro e w1 ⟨rfl, hb1⟩; have HB1 := Lib.hid hb1; clear hb1)
    go_ret
    exact ⟨rfl, HB1.out⟩
  have h1i : ¬ (5000 : Int) < base.size := by omega
  have h2i : ¬ (5000 : Int) < target.size := by omega
  have HMK := Lib.hid (fun W hW => Make_any base target W (by omega) (by omega) hW)
  have HMA := Lib.hid hm
  obtain ⟨p, hp⟩ : ∃ p, strOfNums (putI base.size) = p := ⟨_, rfl⟩
  obtain ⟨q, hq⟩ : ∃ q, strOfNums (putI target.size) = q := ⟨_, rfl⟩
  have hpl := putL_len base.size
  have hql := putL_len target.size
  have hps : (putL base.size).length = p.size := by rw [← hp]; exact dl_len _
  have hqs : (putL target.size).length = q.size := by rw [← hq]; exact dl_len _
  have HP := Lib.hid (fun W => put_nat base.size p W (by omega) (by omega) hp)
  have HQ := Lib.hid (fun W => put_nat target.size q W (by omega) (by omega) hq)
  have hp6 : p.size ≤ 6 := by omega
  have hq6 : q.size ≤ 6 := by omega
  have HPS := Lib.hid hps; have HQS := Lib.hid hqs
  have h5 : target.size ≤ 5000 := by omega
  have h4 : base.size ≤ 5000 := by omega
  clear hm hp hq hpl hql hps hqs
  go_enter Try.func4, Try.ntmps4
  go_wp2_with (go_at_call 8; refine HS.out.mono ?_; rintro e w1 ⟨rfl, hb1⟩; have HB1 := Lib.hid hb1; clear hb1)
  refine (HMK.out _ (HMA.out.below HB1.out)).mono ?_
  rintro e w2 ⟨D, rfl, hD, hb2⟩
  have HB2 := Lib.hid (HB1.out.trans (hb2.mono HB1.out.size))
  have hDs := made_size hD
  have hap := appD_made hD (by omega) (by omega)
  have HA := Lib.hid (fun W => Apply_any base D W (by unfold maxLen; omega) (by omega))
  have HRA := Lib.hid (fun W => RApply_any base D W (by omega) (by omega))
  rw [hap] at HA HRA
  have hle : D.size ≤ p.size + q.size + (addL target).length := by
    obtain ⟨L, rfl, _, _, h3, _⟩ := hD
    have := HPS.out; have := HQS.out
    rw [mkB_size, List.length_append, List.length_append]; omega
  clear hb2 hap hD
  go_wp2_with (first
    | (go_at_call 10; (with_reducible refine (HRA.out _).mono ?_); rintro e w3 ⟨rfl, hb3⟩; have HB3 := Lib.hid (HB2.out.trans (hb3.mono HB2.out.size)); clear hb3)
    | (go_at_call 9; (with_reducible refine (HA.out _).mono ?_); rintro e w4 ⟨rfl, hb4⟩; have HB4 := Lib.hid (HB3.out.trans (hb4.mono HB3.out.size)); clear hb4))
  refine (HP.out _).mono ?_
  rintro e w5 ⟨rfl, hb5⟩
  have HB5 := Lib.hid (HB4.out.trans (hb5.mono HB4.out.size))
  clear hb5
  go_wp2_with fail
  refine (HQ.out _).mono ?_
  rintro e w6 ⟨rfl, hb6⟩
  have HB6 := Lib.hid (HB5.out.trans (hb6.mono HB5.out.size))
  clear hb6
  rcases Nat.eq_zero_or_pos target.size with h0 | h0
  · have hemp := ba_empty target h0
    have hDl : (D.size : Int) ≤ (p.size : Int) + (q.size : Int) := by unfold addL at hle; rw [if_pos h0] at hle; simp at hle; omega
    clear hle h0 hDs
    go_wp2_with fail
    go_ret
    exact ⟨rfl, HB6.out⟩
  · have hemp := ba_some target h0
    have hal : (addL target).length = 1 + (q.size + target.size) := by
      unfold addL; rw [if_neg (by omega), List.length_cons, encL_put, List.length_append, dl_len]
      have := HQS.out; omega
    have hDl : (D.size : Int) ≤ (p.size : Int) + (q.size : Int) + (1 + (q.size : Int) + (target.size : Int)) := by omega
    clear hle hal hDs h0
    go_wp2_with fail
    refine (HQ.out _).mono ?_
    rintro e w7 ⟨rfl, hb7⟩
    have HB7 := Lib.hid (HB6.out.trans (hb7.mono HB6.out.size))
    clear hb7
    go_wp2_with fail
    go_ret
    exact ⟨rfl, HB7.out⟩
end Go.Proofs.Ytmdhendfmhhniaa
