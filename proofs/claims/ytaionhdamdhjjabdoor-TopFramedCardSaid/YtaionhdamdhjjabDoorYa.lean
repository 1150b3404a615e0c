/- TopFramed: what its opening reads. -/
import Derived.Test.YtaionhdamdhjjabDoorMr
import Derived.Test.YtaionhdamdhjjabDoorKi
import Derived.Test.YtaionhdamdhjjabDoorMc
import Derived.Test.YtaionhdamdhjjabDoorMh
namespace Go.Proofs.YtaionhdamdhjjabDoor
open Go.RowKit

/-- The packages' variables. -/
structure TopVars (w : World) : Prop where
  sha : Sha.VarsAt w
  crc : CrcVars w
theorem TopVars.below {w w' : World} (h : TopVars w) (hb : Below w.heap.size w w') : TopVars w' := ⟨h.sha.below hb, h.crc.below hb⟩
def strA : ByteArray := ⟨#[97]⟩
def oneD : Nat → Int := fun _ => 97
theorem row_cells {w : World} {g t : Nat} (ps : List ByteArray) (h : w.heap[g]? = some (.cells (ps.map Value.string).toArray t (0, 0))) (i : Nat) (hi : i < ps.length) : w.cell? ((⟨g, 0, none⟩ : Addr).add i) = some (.string ps[i]) := by
  have e : (⟨g, 0, none⟩ : Addr).add i = ⟨g, i, none⟩ := by unfold Addr.add; split <;> simp_all
  rw [e, cell_of_row w g i _ t (0, 0) h]
  simp [hi]
theorem put_one : strOfNums (putI 1) = ⟨#[1]⟩ := by kernel_rfl
theorem encL_small (s : ByteArray) (h : s.size = 32) : (encL s).length = 33 := by
  rw [encL_length, h, show (putI ((32 : Nat) : Int)).length = 1 from by decide +kernel]

set_option maxHeartbeats 4000000 in
set_option maxRecDepth 100000 in
theorem reads_any (w : World) (hV : TopVars w) :
    Calls Tryd.prog 4 #[] w fun e w' => e = .returned (.bool true) ∧ Below w.heap.size w w' := by
  have hrow : (w.alloc (.cells #[.string strA] 9)).heap[w.heap.size]? = some (.cells #[.string strA] 9 (0, 0)) := heap_alloc_last _ _
  have hS := Sha.Sum_any ⟨w.heap.size, 0, none⟩ 1 [strA] oneD (w.alloc (.cells #[.string strA] 9)) (row_cells [strA] hrow) (by show w.heap.size < (w.heap.push _).size; simp) ⟨fun i hi => by
      have : i < 1 := hi
      obtain rfl : i = 0 := by omega
      rfl, trivial⟩ (fun _ => by unfold oneD; omega) (hV.sha.alloc _) (by decide) (by decide)
  obtain ⟨D, hD⟩ : ∃ D, Sha.shaB oneD (Sha.partsLen [strA]) = D := ⟨_, rfl⟩
  have hDz : D.size = 32 := by rw [← hD]; exact Sha.shaB_size _ _
  have hel := encL_small D hDz
  have hfl := frL_len 1 D
  have hnx := nextF_frame 1 D [] (by omega)
  rw [List.append_nil] at hnx
  rw [hD] at hS
  obtain ⟨F, hF⟩ : ∃ F, mkB (frL 1 D) = F := ⟨_, rfl⟩
  have hFz : F.size = 38 := by rw [← hF, mkB_size, hfl, hel]
  rw [hF, hfl, hel] at hnx
  have HS := Lib.hid hS; have HV := Lib.hid hV; have HF := Lib.hid hF; have HDZ := Lib.hid hDz; have HFZ := Lib.hid hFz; have HNX := Lib.hid hnx
  have hDi : (D.size : Int) = 32 := by omega
  clear hS hrow hV hD hDz hel hfl hnx hF hFz
  go_enter Tryd.func4, Tryd.ntmps4
  go_wp2_with fail
  refine HS.out.mono ?_
  rintro e w1 ⟨rfl, h1⟩
  have H1 := Lib.hid (((Below.refl w.heap.size w).alloc (Nat.le_refl _) (.cells #[.string strA] 9)).trans (h1.mono (by show _ ≤ (w.heap.push _).size; simp)))
  clear h1 HS
  go_wp2_with fail
  refine (Frame_any 1 1 rfl D w1 (by have := HDZ.out; omega) (HV.out.crc.below H1.out)).mono ?_
  rintro e w2 ⟨rfl, h2⟩
  rw [HF.out]
  have H2 := Lib.hid (H1.out.trans (h2.mono H1.out.size))
  clear h2
  go_wp2_with fail
  refine (FNext_vars F D 1 38 0 w2 (by have := HFZ.out; unfold maxLen; omega) (HV.out.crc.below H2.out) HNX.out).mono ?_
  rintro e w3 ⟨rfl, h3⟩
  have H3 := Lib.hid (H2.out.trans (h3.mono H2.out.size))
  clear h3
  go_wp2_with (go_at_call 7; refine (NewD 1 w3 (by decide) (by decide)).mono ?_)
  rintro e w4 ⟨g, gd, gc, cd, cc, rfl, hd4, h4⟩
  have H4 := Lib.hid (H3.out.trans (h4.mono H3.out.size)); have HD4 := Lib.hid hd4
  clear h4 hd4
  go_wp2_with (go_at_call 16; refine (Size_any g 1 cd _ _ _ _ _ _ _ w4 HD4.out.d).mono ?_)
  rintro e w5 ⟨rfl, rfl⟩
  go_wp2_with fail
  refine (put_nat 1 _ w5 (by decide) (by decide) put_one).mono ?_
  rintro e w6 ⟨rfl, h6⟩
  have H6 := Lib.hid (H4.out.trans (h6.mono H4.out.size))
  clear h6
  go_wp2_with fail
  go_ret
  exact ⟨rfl, H6.out⟩
end Go.Proofs.YtaionhdamdhjjabDoor
