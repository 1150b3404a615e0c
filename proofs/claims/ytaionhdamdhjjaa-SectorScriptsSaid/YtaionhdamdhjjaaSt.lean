/- Sector: a write that lasts (speaks). -/
import Derived.Test.YtaionhdamdhjjaaSs
namespace Go.Proofs.Ytaionhdamdhjjaa
open Go.RowKit
variable {B n g gd gc cd cc : Nat} {vw vk : Value} {S : DS} {w : World}

def spA : DS := (writeS 1 ⟨#[97]⟩ (newS 2)).2
def spB : DS := (syncS spA).2
def spC : DS := (writeS 1 ⟨#[98]⟩ spB).2
def spD : DS := crashS [] spC
theorem sp_sync : (syncS spA).1 = 0 := rfl
theorem sp_read : readS 2 1 spD = (padB ⟨#[97]⟩, 0) := rfl
theorem sp_head : (((padB ⟨#[97]⟩).extract 0 2).toList == [97, 0]) = true := by kernel_rfl
set_option maxRecDepth 100000 in
theorem speaks_any (w : World) :
    Calls Try.prog 5 #[] w fun e w' => e = .returned (.bool true) ∧ Below w.heap.size w w' := by
  have hk1 : (1 : Nat) < 2 := by decide
  have hp := padB_size ⟨#[97]⟩ (by decide)
  have hpi : ((padB ⟨#[97]⟩).size : Int) = 512 := by rw [hp]; rfl
  go_enter Try.func5, Try.ntmps5
  go_wp2_with (go_at_call 6; refine (NewD 2 w (by decide) (by decide)).mono ?_)
  rintro e w1 ⟨g, gd, gc, cd, cc, rfl, h1, hb1⟩
  have H1 := Lib.hid h1; have HB1 := Lib.hid hb1
  clear h1 hb1
  go_wp2_with (go_at_call 16; refine (WriteD H1.out ((Bd.new 2).ok (by decide) (by decide) (by decide)) 1 ⟨#[97]⟩ hk1 (by decide)).mono ?_)
  rintro e w2 ⟨rfl, vw2, vk2, h2, hv2, f2⟩
  have H2 := Lib.hid (show IsD w.heap.size 2 g gd gc cd cc vw2 vk2 spA w2 from h2); have HB2 := Lib.hid (HB1.out.trans f2.below)
  clear h2 hv2 f2
  go_wp2_with (go_at_call 8; refine (SyncD H2.out (((Bd.new 2).write 1 ⟨#[97]⟩).ok (by decide) (by decide) (by decide))).mono ?_)
  rintro e w3 ⟨rfl, vw3, vk3, h3, hv3, f3⟩
  have H3 := Lib.hid (show IsD w.heap.size 2 g gd gc cd cc vw3 vk3 spB w3 from h3); have HB3 := Lib.hid (HB2.out.trans f3.below)
  clear h3 hv3 f3
  rw [sp_sync]
  go_wp2_with (go_at_call 16; refine (WriteD H3.out ((((Bd.new 2).write 1 ⟨#[97]⟩).sync).ok (by decide) (by decide) (by decide)) 1 ⟨#[98]⟩ hk1 (by decide)).mono ?_)
  rintro e w4 ⟨rfl, vw4, vk4, h4, hv4, f4⟩
  have H4 := Lib.hid (show IsD w.heap.size 2 g gd gc cd cc vw4 vk4 spC w4 from h4); have HB4 := Lib.hid (HB3.out.trans f4.below)
  clear h4 hv4 f4
  go_wp2_with (go_at_call 11; refine (CrashD H4.out ((((((Bd.new 2).write 1 ⟨#[97]⟩).sync).write 1 ⟨#[98]⟩)).ok (by decide) (by decide) (by decide)) (.slice none 0 0) [] (by decide) (.inl ⟨rfl, _, _, rfl⟩)).mono ?_)
  rintro e w5 ⟨rfl, h5, f5⟩
  have H5 := Lib.hid (show IsD w.heap.size 2 g gd gc cd cc _ _ spD w5 from h5); have HB5 := Lib.hid (HB4.out.trans f5.below)
  clear h5 f5
  have hrd := ReadD H5.out 1
  rw [sp_read] at hrd
  have HRD := Lib.hid hrd
  clear hrd
  go_wp2_with (go_at_call 21; refine HRD.out.mono ?_)
  rintro e w6 ⟨rfl, rfl⟩
  go_wp2_with fail
  go_ret
  rw [sp_head]
  exact ⟨rfl, HB5.out⟩
end Go.Proofs.Ytaionhdamdhjjaa
