/- Wal's laws: speaks. -/
import Derived.Test.YtbpaiiljhdohfaaDoorWt
namespace Go.Proofs.YtbpaiiljhdohfaaDoor
open Go.RowKit
variable {B n g gd gc cd cc l f m t : Nat} {vw vk : Value} {S : DS} {w : World}

def spX : List (Nat × ByteArray) := [(0, ⟨#[97]⟩), (5, ⟨#[98]⟩)]
theorem spX_takes : Takes 6 1 3 (intC spX) := by
  refine ⟨by decide, by decide, fun c hc => ?_⟩
  have : c = ((0 : Int), (⟨#[97]⟩ : ByteArray)) ∨ c = ((5 : Int), (⟨#[98]⟩ : ByteArray)) := by
    simpa [intC, spX] using hc
  rcases this with rfl | rfl
  · exact ⟨by decide, by decide, .inl (by decide), by decide⟩
  · exact ⟨by decide, by decide, .inr (by decide), by decide⟩
theorem spX_fit : Fit 6 1 3 (newS 6).dur spX := ⟨newS_len 6, by decide, by decide, by decide, spX_takes⟩
theorem open_new (hf : f < n) : openS n f m (newS n) = ((0, 0), newS n) := by
  unfold openS
  rw [if_neg (show ¬ ((newS n).off = true) from Bool.false_ne_true), if_pos (found_zero (S := newS n) rfl (newS_get n f hf))]
theorem sp_commit : (commitI 6 1 3 (intC spX) (newS 6)).1 = 0 ∧ (commitI 6 1 3 (intC spX) (newS 6)).2.off = false ∧ (commitI 6 1 3 (intC spX) (newS 6)).2.cur.getD 5 ⟨#[]⟩ = padB ⟨#[98]⟩ := by
  have e : commitI 6 1 3 (intC spX) (newS 6) = commitS 1 spX (newS 6) := by
    rw [show commitI 6 1 3 (intC spX) (newS 6) = commitS 1 (natC (intC spX)) (newS 6) from if_pos spX_takes]; rfl
  rw [e]
  rcases commit_cases spX_fit (Clean.new 6) (Before.refl (newS_get 6 1 (by decide))) with ⟨h1, h2, h3, _⟩ | ⟨_, _, h3, _⟩
  · refine ⟨h1, h2.off, ?_⟩
    rw [h2.cu, List.getD_eq_getElem?_getD, h3.out 5 (.inr (by decide))]
    have : (putW (newS 6).dur (padW spX))[5]? = some (padB ⟨#[98]⟩) := by
      show (((newS 6).dur.set 0 _).set 5 _)[5]? = _
      exact List.getElem?_set_self (by rw [List.length_set, newS_len]; decide)
    rw [this]; rfl
  · exact absurd rfl h3
theorem sp_head6 : (((padB ⟨#[98]⟩).extract 0 1).toList == [98]) = true := by kernel_rfl
theorem two_row : ChRow (w.alloc (.cells #[.int .i64 0, .string ⟨#[97]⟩, .int .i64 5, .string ⟨#[98]⟩] 55)) (.slice (some ⟨w.heap.size, 0, none⟩) 2 2) (intC spX) :=
  ⟨rfl, .inr ⟨w.heap.size, 2, _, rfl, Nat.zero_le _, heap_alloc_new w _, Nat.le_refl _, by unfold maxLen; decide, rfl, rfl⟩⟩
set_option maxHeartbeats 2000000 in
set_option maxRecDepth 100000 in
theorem wspeaks_any (hV : CrcVars w) :
    Calls Tryd.prog 4 #[] w fun e w' => e = .returned (.bool true) ∧ Below w.heap.size w w' := by
  have HV := Lib.hid hV
  have hp := padB_size ⟨#[98]⟩ (by decide)
  have hpi : ((padB ⟨#[98]⟩).size : Int) = 512 := by rw [hp]; rfl
  have hgb : 0 < w.heap.size := hV.2
  have HGB := Lib.hid hgb
  clear hV hgb
  go_enter Tryd.func4, Tryd.ntmps4
  go_wp2_with (go_at_call 5; refine (NewD 6 w (by decide) (by decide)).mono ?_)
  rintro e w1 ⟨g, gd, gc, cd, cc, rfl, h1, hb1⟩
  have H1 := Lib.hid h1; have HB1 := Lib.hid hb1
  clear h1 hb1
  have hop := open_good (f := 1) (m := 3) H1.out (by decide) (by decide) (by decide) (by decide) (SzA.new 6).cur (Bd.new 6) (HV.out.below HB1.out) (by decide) 1 4 rfl rfl
  rw [open_new (n := 6) (f := 1) (m := 3) (by decide)] at hop
  have HOP := Lib.hid hop
  clear hop
  go_wp2_with (go_at_call 7; refine HOP.out.mono ?_)
  rintro e w2 ⟨⟨l, rfl, hl⟩, va, ka, h2, hv2, f2⟩
  obtain ⟨hl2, _⟩ := hl rfl
  rw [if_pos rfl]
  have H2 := Lib.hid h2; have HL2 := Lib.hid hl2; have HF2 := Lib.hid f2
  have HV2 := Lib.hid ((HV.out.below HB1.out).disk HGB.out f2)
  clear h2 hl hl2 hv2 f2 HOP
  obtain ⟨W2, hW2⟩ : ∃ W2, w2.alloc (.cells #[.int .i64 0, .string ⟨#[97]⟩, .int .i64 5, .string ⟨#[98]⟩] 55) = W2 := ⟨_, rfl⟩
  have hbW : Below w2.heap.size w2 W2 := hW2 ▸ (Below.refl _ _).alloc (Nat.le_refl _) _
  have hrow : ChRow W2 (.slice (some ⟨w2.heap.size, 0, none⟩) 2 2) (intC spX) := hW2 ▸ two_row
  have hc := commit_any (HL2.out.below hbW) (H2.out.below hbW) (by decide) (by decide) (by decide) (Bd.new 6) _ (intC spX) hrow (HV2.out.below hbW) HGB.out (by decide)
  obtain ⟨sc1, sc2, sc3⟩ := sp_commit
  have HC := Lib.hid hc
  have HF3 : Hid (FrD w.heap.size g gd gc va w2 W2) := Lib.hid (FrD.of_below H2.out.b1 (Nat.le_of_lt H2.out.d.lt) hbW)
  have HSC := Lib.hid sc2; have HSC3 := Lib.hid sc3; have HSC1 := Lib.hid sc1
  clear hbW hrow hc sc1 sc2 sc3
  go_wp2_with (go_at_call 15; refine HC.out.mono ?_)
  rintro e w3 ⟨rfl, vb, kb, h3, hv3, f3⟩
  have hrd := Read_on h3 5 (by decide) HSC.out
  rw [HSC3.out] at hrd
  have HRD := Lib.hid hrd
  have HL3 := Lib.hid ((HL2.out.disk H2.out HF3.out).disk (HF3.out |> fun fr => H2.out.below ⟨fr.below.os, fr.below.tape, fr.below.output, fr.size, fun b hb => by rw [← hW2]; exact Lib.alloc_old w2 _ b hb⟩) f3)
  have HB3 := Lib.hid ((HB1.out.trans HF2.out.below).trans (HF3.out.below.trans f3.below))
  rw [HSC1.out]
  clear h3 hv3 f3 hrd hW2
  go_wp2_with (first | (go_at_call 18; refine HRD.out.mono ?_; rintro e w' ⟨rfl, rfl⟩; clear HRD) | (go_at_call 19; refine (Most_any HL3.out).mono ?_; rintro e w' ⟨rfl, rfl⟩))
  go_ret
  rw [sp_head6]
  exact ⟨rfl, HB3.out⟩
end Go.Proofs.YtbpaiiljhdohfaaDoor
