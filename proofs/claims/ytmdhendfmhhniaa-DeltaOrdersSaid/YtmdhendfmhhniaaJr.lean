/- Deltas: DeltaOrders. -/
import Derived.Test.YtmdhendfmhhniaaJq
import Derived.Test.YtmdhendfmhhniaaJp
namespace Go.Proofs.Ytmdhendfmhhniaa
open Go.RowKit
variable {w w' : World}

set_option maxHeartbeats 2000000 in
set_option maxRecDepth 100000 in
theorem LOrders (base target : ByteArray) (a : Int) (w : World) (hbs : base.size ≤ maxLen) (hts : target.size ≤ maxLen) (_ : (Lit.int .i64 a).wf = true) (hm : MaxAt w) :
    Calls Try.prog 7 #[.string base, .string target, .int .i64 a] w fun e w' => e = .returned (.bool true) ∧ Below w.heap.size w w' := by
  have HS := Lib.hid (speaks_any w hm)
  unfold maxLen at hbs hts

  by_cases h1 : 3000 < base.size
  · have h1i : (3000 : Int) < base.size := by omega
    clear hm
    go_enter Try.func7, Try.ntmps7
    go_wp2_with (go_at_call 8; refine HS.out.mono ?_; rintro e w1 ⟨rfl, hb1⟩; have HB1 := Lib.hid hb1; clear hb1)
    go_ret
    exact ⟨rfl, HB1.out⟩
  by_cases h2 : 3000 < target.size
  · have h1i : ¬ (3000 : Int) < base.size := by omega
    have h2i : (3000 : Int) < target.size := by omega
    clear hm
    go_enter Try.func7, Try.ntmps7
    go_wp2_with (go_at_call 8; refine HS.out.mono ?_; rintro e w1 ⟨rfl, hb1⟩; have HB1 := Lib.hid hb1; clear hb1)
    go_ret
    exact ⟨rfl, HB1.out⟩
  have h1i : ¬ (3000 : Int) < base.size := by omega
  have h2i : ¬ (3000 : Int) < target.size := by omega
  have HMK := Lib.hid (fun W hW => Make_any base target W (by omega) (by omega) hW)
  have HMA := Lib.hid hm
  have hcat : ¬ 9223372036854775807 < base.size + (⟨#[120]⟩ : ByteArray).size := by show ¬ _ < base.size + 1; omega
  obtain ⟨B, hB⟩ : ∃ B, base ++ (⟨#[120]⟩ : ByteArray) = B := ⟨_, rfl⟩
  have hBs : B.size = base.size + 1 := by rw [← hB, ByteArray.size_append]; rfl
  have HBS := Lib.hid hBs
  have hb3 : base.size ≤ 3000 := by omega
  have ht3 : target.size ≤ 3000 := by omega
  clear hm hBs
  go_enter Try.func7, Try.ntmps7
  go_wp2_with (go_at_call 8; refine HS.out.mono ?_; rintro e w1 ⟨rfl, hb1⟩; have HB1 := Lib.hid hb1; clear hb1)
  refine (HMK.out _ (HMA.out.below HB1.out)).mono ?_
  rintro e w2 ⟨D, rfl, hD, hb2⟩
  have HB2 := Lib.hid (HB1.out.trans (hb2.mono HB1.out.size))
  have hDs := made_size hD
  have hD0 := made_pos hD
  obtain ⟨kk, hsz⟩ := sizD_made hD (by omega) (by omega)
  have H1 := Lib.hid (fun W => Apply_any B D W (by unfold maxLen; omega) (by have := HBS.out; omega))
  rw [appD_stale hD (by omega) (by omega) (by have := HBS.out; omega)] at H1
  have H2 := Lib.hid (fun W => Sizes_any D W (by unfold maxLen; omega))
  rw [hsz] at H2
  obtain ⟨r, hr⟩ : ∃ r, a.tmod (D.size : Int) = r := ⟨_, rfl⟩
  have hrr := tmod_rng a D.size hD0
  rw [hr] at hrr
  obtain ⟨c, hc⟩ : ∃ c : Nat, (r + (D.size : Int)).tmod (D.size : Int) = (c : Int) := ⟨((r + (D.size : Int)).tmod (D.size : Int)).toNat, by
    have := Int.tmod_nonneg (a := r + (D.size : Int)) (D.size : Int) (by omega); omega⟩
  have hcD : c < D.size := by
    have := tmod_rng (r + (D.size : Int)) D.size hD0
    rw [hc] at this; omega
  obtain ⟨er, hne, hcut⟩ := appD_cut hD (by omega) (by omega) hcD
  obtain ⟨E, hE⟩ : ∃ E, D.extract 0 c = E := ⟨_, rfl⟩
  rw [hE] at hcut
  have hEs : E.size ≤ 4000 := by rw [← hE, ByteArray.size_extract]; omega
  have H3 := Lib.hid (fun W => Apply_any base E W (by unfold maxLen; omega) (by omega))
  rw [hcut] at H3
  have hneb : (er == 0) = false := beq_eq_false_iff_ne.2 hne
  have hneb2 : (er != 0) = true := bne_iff_ne.2 hne
  have hDi : (D.size : Int) ≤ 4000 := by omega
  have hDn : ¬ (D.size : Int) = 0 := by omega
  have hDN : ¬ D.size = 0 := by omega
  have hDb : ((D.size : Int) == 0) = false := beq_eq_false_iff_ne.2 hDn
  have hr1 : -4000 ≤ r := by omega
  have hr2 : r ≤ 4000 := by omega
  have hci : (c : Int) ≤ D.size := by omega
  have hc0 : 0 ≤ (c : Int) := by omega
  clear hb2 hDs hD0 hsz hrr hcD hcut hEs hD
  go_wp2_with fail
  refine (H1.out _).mono ?_
  rintro e w3 ⟨rfl, hb3'⟩
  have HB3 := Lib.hid (HB2.out.trans (hb3'.mono HB2.out.size))
  clear hb3'
  go_wp2_with fail
  refine (H2.out _).mono ?_
  rintro e w4 ⟨rfl, hb4⟩
  have HB4 := Lib.hid (HB3.out.trans (hb4.mono HB3.out.size))
  clear hb4
  go_wp2_with fail
  refine (H3.out _).mono ?_
  rintro e w5 ⟨rfl, hb5⟩
  have HB5 := Lib.hid (HB4.out.trans (hb5.mono HB4.out.size))
  clear hb5
  go_wp2_with fail
  go_ret
  exact ⟨rfl, HB5.out⟩
end Go.Proofs.Ytmdhendfmhhniaa
