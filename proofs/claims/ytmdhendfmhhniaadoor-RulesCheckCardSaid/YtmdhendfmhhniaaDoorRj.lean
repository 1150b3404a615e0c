/- Rules: Kind; the law's own word. -/
import Derived.Test.YtmdhendfmhhniaaDoorRg
namespace Go.Proofs.YtmdhendfmhhniaaDoor
open Go.RowKit
variable {w w' : World}

def SR8 : ByteArray := ⟨#[100, 105, 103, 105, 116, 115, 32, 91, 48, 45, 57, 93, 43, 10]⟩
def lr8 : List PairB := [(⟨#[100, 105, 103, 105, 116, 115]⟩, ⟨#[91, 48, 45, 57, 93, 43]⟩)]
theorem sr8 : parseR SR8 = (lr8, 0, 0) := by decide +kernel
set_option maxRecDepth 100000 in
theorem kind8 (w : World) : Calls Tryd.prog 25 #[.string ⟨#[97, 46, 99, 104, 97, 116]⟩] w fun e w' => e = .returned (.int .i64 4) ∧ w' = w := by
  have H1 := Lib.hid (show Lib.hasSuffix (⟨#[97, 46, 99, 104, 97, 116]⟩ : ByteArray).data.toList (⟨#[46, 109, 101, 114, 103, 101, 115]⟩ : ByteArray).data.toList = false by decide +kernel)
  have H2 := Lib.hid (show Lib.hasSuffix (⟨#[97, 46, 99, 104, 97, 116]⟩ : ByteArray).data.toList (⟨#[46, 118, 111, 99, 97, 98]⟩ : ByteArray).data.toList = false by decide +kernel)
  have H3 := Lib.hid (show Lib.hasSuffix (⟨#[97, 46, 99, 104, 97, 116]⟩ : ByteArray).data.toList (⟨#[46, 114, 117, 108, 101, 115]⟩ : ByteArray).data.toList = false by decide +kernel)
  have H4 := Lib.hid (show Lib.hasSuffix (⟨#[97, 46, 99, 104, 97, 116]⟩ : ByteArray).data.toList (⟨#[46, 99, 104, 97, 116]⟩ : ByteArray).data.toList = true by decide +kernel)
  go_enter Tryd.func25, Tryd.ntmps25
  go_wp2_with (go_at_call 47; refine (Tryd.strings_HasSuffix _ _ _ (by decide)).mono ?_; rintro e w1 ⟨rfl, rfl⟩; first | rw [H1.out] | rw [H2.out] | rw [H3.out] | rw [H4.out])
  go_ret
  exact ⟨rfl, rfl⟩
set_option maxHeartbeats 1000000 in
set_option maxRecDepth 100000 in
theorem speaksR_any (w : World) : Calls Tryd.prog 22 #[] w fun e w' => e = .returned (.bool true) ∧ Below w.heap.size w w' := by
  have HP := ParseR_any SR8 w (by decide)
  rw [sr8] at HP
  go_enter Tryd.func22, Tryd.ntmps22
  go_wp2_with (go_at_call 40; refine HP.mono ?_)
  first | rintro e w1 v rfl ho hb1 | rintro e w1 ⟨v, rfl, ho, hb1⟩
  obtain ⟨o, cap, rfl, hpa⟩ := own_pairs ho
  obtain ⟨g, cur, rfl, hg, d0, d1⟩ := hpa 0 _ rfl
  have HB1 := Lib.hid hb1
  clear hpa hb1 ho HP hg
  have e0 : w1.cell? ⟨g, 0, none⟩ = some (.string ⟨#[100, 105, 103, 105, 116, 115]⟩) := d0
  have e1 : w1.cell? ⟨g, 1, none⟩ = some (.string ⟨#[91, 48, 45, 57, 93, 43]⟩) := d1
  clear d0 d1
  simp only [show lr8.length = 1 from rfl]
  go_wp2_with (go_at_call 25; refine (kind8 _).mono ?_; rintro e w3 ⟨rfl, hw3⟩; (try subst w3))
  go_ret
  exact ⟨rfl, HB1.out⟩
end Go.Proofs.YtmdhendfmhhniaaDoor
