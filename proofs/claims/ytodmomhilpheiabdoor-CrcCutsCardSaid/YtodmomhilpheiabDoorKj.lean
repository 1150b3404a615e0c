/- The laws CrcSums and CrcNexts, at whatever world that has the package's variable. -/
import Derived.Test.YtodmomhilpheiabDoorKi
namespace Go.Proofs.YtodmomhilpheiabDoor
open Go.RowKit

theorem byte_of (x : Int) (h0 : 0 ≤ x) (h1 : x < 256) : ∃ k : UInt8, (k.toNat : Int) = x := by
  refine ⟨UInt8.ofNat x.toNat, ?_⟩
  rw [UInt8.toNat_ofNat']
  omega

set_option maxHeartbeats 1000000 in
set_option maxRecDepth 100000 in
theorem CrcSums_any (s : ByteArray) (x : Int) (w : World) (hm : s.size ≤ maxLen) (h0 : 0 ≤ x) (h1 : x < 256) (hV : CrcVars w) :
    Calls Tryd.prog 3 #[.string s, .int .u8 x] w fun e w' => e = .returned (.bool true) ∧ Below w.heap.size w w' := by
  obtain ⟨k, hk⟩ := byte_of x h0 h1
  have HV := Lib.hid hV; have HK := Lib.hid hk; have HM := Lib.hid hm
  unfold maxLen at hm
  clear hV hk
  by_cases hs : 5000 < s.size
  · have hsi : (5000 : Int) < (s.size : Int) := by omega
    go_enter Tryd.func3, Tryd.ntmps3
    go_wp2_with fail
    refine (speaks_any w HV.out).mono ?_
    rintro e w1 ⟨rfl, h1⟩
    go_wp2_with fail
    go_ret
    exact ⟨rfl, h1⟩
  · have hsi : (s.size : Int) ≤ 5000 := by omega
    have HS := Lib.hid hs
    obtain ⟨v, hv⟩ : ∃ v, ((crcL s.data.toList).toNat : Int) = v := ⟨_, rfl⟩
    obtain ⟨F, hF⟩ : ∃ F, mkB (frL k s) = F := ⟨_, rfl⟩
    have HVV := Lib.hid hv; have HF := Lib.hid hF
    clear hs hv hF
    go_enter Tryd.func3, Tryd.ntmps3
    go_wp2_with fail
    refine (speaks_any w HV.out).mono ?_
    rintro e w1 ⟨rfl, h1⟩
    have H1 := Lib.hid h1
    clear h1
    go_wp2_with fail
    refine (Sum_any s w1 HM.out (HV.out.below H1.out)).mono ?_
    rintro e w2 ⟨rfl, rfl⟩
    rw [HVV.out]
    go_wp2_with fail
    refine (RSum_any s w1 HM.out).mono ?_
    rintro e w2 ⟨rfl, rfl⟩
    rw [HVV.out]
    go_wp2_with fail
    refine (Frame_any k x HK.out s w1 (by have := HS.out; omega) (HV.out.below H1.out)).mono ?_
    rintro e w2 ⟨rfl, h2⟩
    rw [HF.out]
    have H2 := Lib.hid (H1.out.trans (h2.mono H1.out.size))
    clear h2
    go_wp2_with fail
    refine (RFrame_any k x HK.out s w2 (by have := HS.out; omega)).mono ?_
    rintro e w3 ⟨rfl, h3⟩
    rw [HF.out]
    have H3 := Lib.hid (H2.out.trans (h3.mono H2.out.size))
    clear h3
    go_wp2_with fail
    go_ret
    exact ⟨rfl, H3.out⟩

set_option maxHeartbeats 1000000 in
set_option maxRecDepth 100000 in
theorem CrcNexts_any (s : ByteArray) (w : World) (hm : s.size ≤ maxLen) (hV : CrcVars w) :
    Calls Tryd.prog 4 #[.string s] w fun e w' => e = .returned (.bool true) ∧ Below w.heap.size w w' := by
  have HV := Lib.hid hV; have HM := Lib.hid hm
  unfold maxLen at hm
  clear hV
  by_cases hs : 5000 < s.size
  · have hsi : (5000 : Int) < (s.size : Int) := by omega
    go_enter Tryd.func4, Tryd.ntmps4
    go_wp2_with fail
    refine (speaks_any w HV.out).mono ?_
    rintro e w1 ⟨rfl, h1⟩
    go_wp2_with fail
    go_ret
    exact ⟨rfl, h1⟩
  · have hsi : (s.size : Int) ≤ 5000 := by omega
    have HS := Lib.hid hs
    clear hs
    obtain ⟨x, t, n, er, hn⟩ : ∃ x t n er, nextF s = (x, t, n, er) := ⟨_, _, _, _, rfl⟩
    have HN := Lib.hid hn
    clear hn
    go_enter Tryd.func4, Tryd.ntmps4
    go_wp2_with fail
    refine (speaks_any w HV.out).mono ?_
    rintro e w1 ⟨rfl, h1⟩
    have H1 := Lib.hid h1
    clear h1
    go_wp2_with fail
    refine (FNext_vars s t x n er w1 HM.out (HV.out.below H1.out) HN.out).mono ?_
    rintro e w2 ⟨rfl, h2⟩
    have H2 := Lib.hid (H1.out.trans (h2.mono H1.out.size))
    clear h2
    go_wp2_with fail
    refine (RNext_vars s t x n er w2 HM.out HN.out).mono ?_
    rintro e w3 ⟨rfl, h3⟩
    have H3 := Lib.hid (H2.out.trans (h3.mono H2.out.size))
    clear h3
    go_wp2_with fail
    go_loopw [11, 12] (fun a c wr => WhSlot s w a c wr) (fun a _ _ => s.size - (intOf a).toNat)
    case atStart => exact ⟨0, 0, rfl, rfl, whole_start s, H3.out⟩
    case round =>
      obtain ⟨a, c, rfl, rfl, hW, hB⟩ := hrel
      obtain ⟨x', t', n', er', hn⟩ : ∃ x t n er, nextF (s.extract a s.size) = (x, t, n, er) := ⟨_, _, _, _, rfl⟩
      have ha : a ≤ s.size := hW.1
      have hc : c ≤ a := hW.2.1
      have a1 : (a : Int) ≤ s.size := by omega
      have a0 : 0 ≤ (a : Int) := by omega
      have HW := Lib.hid hW; have HB := Lib.hid hB; have HN' := Lib.hid hn
      have hsz : (s.extract a s.size).size ≤ maxLen := by rw [ByteArray.size_extract]; unfold maxLen; omega
      have HSZ := Lib.hid hsz
      by_cases her : er' = 0
      · subst her
        have hx := whole_next s a c hW t' x' n' hn
        have n0 : 0 ≤ n' := by omega
        have n1 : (a : Int) + n' ≤ s.size := hx.2.2
        have n2 : (c : Int) + 1 ≤ s.size := by have := hx.1.1; have := hx.1.2.1; omega
        have HX := Lib.hid hx
        clear hW hB hn hsz hx
        go_wp2_with fail
        refine (RNext_vars _ t' x' n' 0 wr HSZ.out HN'.out).mono ?_
        rintro e w4 ⟨rfl, h4⟩
        have hend : Hid (WhSlot s w (.int .i64 ((a : Int) + n')) (.int .i64 ((c : Int) + 1)) w4) := Lib.hid ⟨a + n'.toNat, c + 1, by rw [show ((a + n'.toNat : Nat) : Int) = (a : Int) + n' by omega], by rw [Int.natCast_succ], HX.out.1, HB.out.trans (h4.mono HB.out.size)⟩
        clear h4
        have hn6 := HX.out.2.1
        go_wp2_with fail
        exact ⟨hend.out, by simp [intOf]; omega⟩
      · have hne : (er' != 0) = true := by rw [bne_iff_ne]; exact her
        have hfin := whole_end s a c hW t' x' n' er' hn her
        have HFIN := Lib.hid hfin
        clear hW hB hn hsz hfin her
        go_wp2_with fail
        refine (RNext_vars _ t' x' n' er' wr HSZ.out HN'.out).mono ?_
        rintro e w4 ⟨rfl, h4⟩
        have H4 := Lib.hid (HB.out.trans (h4.mono HB.out.size))
        clear h4
        go_wp2_with fail
        refine (Whole_any s w4 HM.out (HV.out.below H4.out)).mono ?_
        rintro e w5 ⟨rfl, h5⟩
        rw [HFIN.out]
        have H5 := Lib.hid (H4.out.trans (h5.mono H4.out.size))
        clear h5
        go_wp2_with fail
        go_ret
        exact ⟨rfl, H5.out⟩
end Go.Proofs.YtodmomhilpheiabDoor
