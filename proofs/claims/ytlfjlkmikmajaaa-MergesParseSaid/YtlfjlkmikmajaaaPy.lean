/- Merges: the law's own word. -/
import Derived.Test.YtlfjlkmikmajaaaPx
namespace Go.Proofs.Ytlfjlkmikmajaaa
open Go.RowKit Go.Maps

def S8 : ByteArray := ⟨#[97, 32, 98, 10, 97, 98, 32, 99, 10]⟩
def l8 : List PairB := [(⟨#[97]⟩, ⟨#[98]⟩), (⟨#[97, 98]⟩, ⟨#[99]⟩)]
theorem s8 : parseM S8 = (l8, 0, 0) := by decide +kernel
theorem p8 : splitP l8 ⟨#[97, 98, 99, 97, 98]⟩ = [⟨#[97, 98, 99]⟩, ⟨#[97, 98]⟩] := by decide +kernel
theorem g8 : goodB ⟨#[97]⟩ = true := by decide +kernel
theorem i8 : invM l8 = -1 := by decide +kernel
theorem ok8 : ∀ p ∈ l8, OkP p ∧ p.1.size + p.2.size ≤ maxLen := fun p hp => by
  simp [l8] at hp
  rcases hp with rfl | rfl <;> exact ⟨⟨by decide, by decide⟩, by decide⟩
set_option maxHeartbeats 1000000 in
set_option maxRecDepth 100000 in
theorem speaks_any (w : World) : Calls Try.prog 10 #[] w fun e w' => e = .returned (.bool true) ∧ Below w.heap.size w w' := by
  have HP := Parse_any S8 w (by decide)
  rw [s8] at HP
  go_enter Try.func10, Try.ntmps10
  go_wp2_with (go_at_call 11; refine HP.mono ?_)
  first | rintro e w1 v rfl ho hb1 | rintro e w1 ⟨v, rfl, ho, hb1⟩
  obtain ⟨o, cap, rfl, hpa⟩ := own_pairs ho
  have HS := Split_any o l8 cap ⟨#[97, 98, 99, 97, 98]⟩ w1 (by decide) hpa (fun p hp => (ok8 p hp).1)
  rw [p8] at HS
  have HSS := Lib.hid HS
  have HPA := Lib.hid hpa; have HB1 := Lib.hid hb1
  clear hpa hb1 ho HP HS
  simp only [show l8.length = 2 from rfl] at HSS ⊢
  go_wp2_with (go_at_call 15; refine HSS.out.mono ?_)
  first | rintro e w2 o2 c2 rfl hs hb2 | rintro e w2 ⟨o2, c2, rfl, hs, hb2⟩
  obtain ⟨g, rfl, d0, hlt⟩ := hs.cell (k := 0) rfl
  obtain ⟨g', hg', d1, _⟩ := hs.cell (k := 1) rfl
  obtain rfl : g = g' := by injection hg' with hg'; injection hg'
  have HB2 := Lib.hid (HB1.out.trans (hb2.mono HB1.out.size))
  have HPB := Lib.hid (HPA.out.below hb2)
  clear hs hb2 hg' HSS
  simp only [List.length_cons, List.length_nil]
  go_wp2_with (first
    | (go_at_call 23; refine (Good_any ⟨#[97]⟩ _ (by decide)).mono ?_; rintro e w3 ⟨rfl, hw3⟩; (try subst w3); rw [g8])
    | (go_at_call 24; refine (Invalid_any _ l8 _ _ (by decide) HPB.out (fun p hp => (ok8 p hp).2)).mono ?_; rintro e w4 ⟨rfl, hb4⟩; rw [i8]; have HB4 := Lib.hid (HB2.out.trans (hb4.mono HB2.out.size)); clear hb4))
  go_ret
  exact ⟨rfl, HB4.out⟩
end Go.Proofs.Ytlfjlkmikmajaaa
