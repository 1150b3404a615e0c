/- Lists' edits: the law on the ends. -/
import Derived.Test.YtmapddghlabaeaaLt
set_option linter.unusedVariables false
set_option linter.unusedSimpArgs false
namespace Go.Proofs.Ytmapddghlabaeaa
open Go.RowKit
variable {w w' : World}

theorem tag_get {op k : Nat} {a : List ByteArray} (h : k < a.length) : ((tagL op a).map edZ)[k]? = some ((op : Int), itB a k) := by
  unfold tagL; rw [List.map_map, List.getElem?_map, it_get h]; rfl
theorem tag_len (op : Nat) (a : List ByteArray) : (tagL op a).length = a.length := by unfold tagL; rw [List.length_map]
theorem tx_nil (w : World) (o : Option Addr) : TxAt w o [] := fun k hk => absurd hk (Nat.not_lt_zero k)
def EnS (a : List ByteArray) (W : World) (i : Value) (wr : World) : Prop := ∃ k : Nat, k ≤ a.length ∧ i = .int .i64 k ∧ Below W.heap.size W wr
set_option maxHeartbeats 8000000 in
set_option maxRecDepth 100000 in
theorem LEnds_any (oa : Option Addr) (A : List ByteArray) (ca : Nat) (ob : Option Addr) (B : List ByteArray) (cb : Nat) (oc : Option Addr) (C : List ByteArray) (cc : Nat) (w : World) (hA : A.length ≤ maxLen) (hac : A.length ≤ ca) (ha : TxAt w oa A) (hB : B.length ≤ maxLen) (hbc : B.length ≤ cb) (hb : TxAt w ob B) (hC : C.length ≤ maxLen) (hcc : C.length ≤ cc) (hc : TxAt w oc C) :
    Calls Try.prog 7 #[.slice oa A.length ca, .slice ob B.length cb, .slice oc C.length cc] w fun e w' => e = .returned (.bool true) ∧ Below w.heap.size w w' := by
  have HS := Lib.hid (speaks_any w)
  have HA := Lib.hid (fun W (hW : TxAt W oa A) => short_at oa A ca W hA hac hW)
  have HB := Lib.hid (fun W (hW : TxAt W ob B) => short_at ob B cb W hB hbc hW)
  have HC := Lib.hid (fun W (hW : TxAt W oc C) => short_at oc C cc W hC hcc hW)
  obtain ⟨a, hae⟩ : ∃ a, A.take 40 = a := ⟨_, rfl⟩
  obtain ⟨b, hbe⟩ : ∃ b, B.take 40 = b := ⟨_, rfl⟩
  obtain ⟨c, hce⟩ : ∃ c, C.take 40 = c := ⟨_, rfl⟩
  have hla : a.length ≤ 40 := by rw [← hae, List.length_take]; exact Nat.min_le_left _ _
  have hlb : b.length ≤ 40 := by rw [← hbe, List.length_take]; exact Nat.min_le_left _ _
  have hlc : c.length ≤ 40 := by rw [← hce, List.length_take]; exact Nat.min_le_left _ _
  have hsa : ∀ s ∈ a, s.size ≤ maxLen := fun s hs => ha.small s (List.mem_of_mem_take (by rw [hae]; exact hs))
  have hsb : ∀ s ∈ b, s.size ≤ maxLen := fun s hs => hb.small s (List.mem_of_mem_take (by rw [hbe]; exact hs))
  have hsc : ∀ s ∈ c, s.size ≤ maxLen := fun s hs => hc.small s (List.mem_of_mem_take (by rw [hce]; exact hs))
  rw [hae] at HA
  rw [hbe] at HB
  rw [hce] at HC
  have HTA := Lib.hid ha; have HTB := Lib.hid hb; have HTC := Lib.hid hc; have HSA := Lib.hid hsa; have HSB := Lib.hid hsb; have HSC := Lib.hid hsc
  generalize A.length = nA at *
  generalize B.length = nB at *
  generalize C.length = nC at *
  clear ha hb hc hae hbe hce hsa hsb hsc hA hB hC hac hbc hcc
  go_enter Try.func7, Try.ntmps7
  go_wp2_with (go_at_call 8; refine HS.out.mono ?_)
  rintro e w1 ⟨rfl, hb1⟩
  have HB1 := Lib.hid hb1
  clear hb1 HS
  go_wp2_with (go_at_call 9; refine (HA.out w1 (HTA.out.below HB1.out)).mono ?_)
  rintro e w2 ⟨o2, c2, rfl, ta2, hb2⟩
  have HB2 := Lib.hid (HB1.out.trans (hb2.mono HB1.out.size)); have T2 := Lib.hid ta2
  clear hb2 ta2 HA
  go_wp2_with (go_at_call 9; refine (HB.out w2 (HTB.out.below HB2.out)).mono ?_)
  rintro e w3 ⟨o3, c3, rfl, tb3, hb3⟩
  have HB3 := Lib.hid (HB2.out.trans (hb3.mono HB2.out.size)); have TA := Lib.hid (T2.out.below hb3); have TB := Lib.hid tb3
  clear hb3 tb3 HB T2
  go_wp2_with (go_at_call 9; refine (HC.out w3 (HTC.out.below HB3.out)).mono ?_)
  rintro e w4 ⟨o4, c4, rfl, tc4, hb4⟩
  have HB4 := Lib.hid (HB3.out.trans (hb4.mono HB3.out.size)); have TA4 := Lib.hid (TA.out.below hb4); have TB4 := Lib.hid (TB.out.below hb4); have TC4 := Lib.hid tc4
  clear hb4 tc4 HC TA TB
  have H5 := Lib.hid (Diff_at o2 o2 a a c2 c2 w4 (by omega) (by omega) TA4.out TA4.out)
  rw [diff_self] at H5
  go_wp2_with (go_at_call 10; refine H5.out.mono ?_)
  rintro e w5 ⟨o5, c5, rfl, e5, hb5⟩
  have HB5 := Lib.hid (HB4.out.trans (hb5.mono HB4.out.size)); have TA5 := Lib.hid (TA4.out.below hb5); have TB5 := Lib.hid (TB4.out.below hb5); have TC5 := Lib.hid (TC4.out.below hb5); have E5 := Lib.hid e5
  clear hb5 e5 H5 TA4 TB4 TC4
  have H6 := Lib.hid (Diff_at none o2 [] a 0 c2 w5 (by simp) (by omega) (tx_nil _ _) TA5.out)
  rw [diff_none] at H6
  go_wp2_with (go_at_call 10; refine H6.out.mono ?_)
  rintro e w6 ⟨o6, c6, rfl, e6, hb6⟩
  have HB6 := Lib.hid (HB5.out.trans (hb6.mono HB5.out.size)); have TA6 := Lib.hid (TA5.out.below hb6); have TB6 := Lib.hid (TB5.out.below hb6); have TC6 := Lib.hid (TC5.out.below hb6); have E56 := Lib.hid (E5.out.below hb6); have E6 := Lib.hid e6
  clear hb6 e6 H6 TA5 TB5 TC5 E5
  have H7 := Lib.hid (Diff_at o2 none a [] c2 0 w6 (by omega) (by simp) TA6.out (tx_nil _ _))
  rw [diff_to_none] at H7
  go_wp2_with (go_at_call 10; refine H7.out.mono ?_)
  rintro e w7 ⟨o7, c7, rfl, e7, hb7⟩
  have HB7 := Lib.hid (HB6.out.trans (hb7.mono HB6.out.size)); have TA7 := Lib.hid (TA6.out.below hb7); have TB7 := Lib.hid (TB6.out.below hb7); have TC7 := Lib.hid (TC6.out.below hb7); have E57 := Lib.hid (E56.out.below hb7); have E67 := Lib.hid (E6.out.below hb7); have E7 := Lib.hid e7
  clear hb7 e7 H7 TA6 TB6 TC6 E56 E6
  rw [tag_len, tag_len, tag_len]
  obtain ⟨n, hn⟩ : ∃ n, a.length = n := ⟨_, rfl⟩
  have HN := Lib.hid hn
  rw [hn] at hla ⊢
  clear hn
  go_wp2_with fail
  go_loopw [13] (fun i wr => EnS a w7 i wr) (fun i _ => n - (intOf i).toNat)
  case atStart => exact ⟨0, Nat.zero_le _, rfl, Below.refl _ _⟩
  case round =>
    obtain ⟨k, hk, rfl, hb⟩ := hrel
    rw [HN.out] at hk
    have HBB := Lib.hid hb
    clear hb
    by_cases hlt : k < n
    · have hka : k < a.length := by rw [HN.out]; exact hlt
      obtain ⟨b1, i1, ho1, d10, d11⟩ := (E57.out.below HBB.out) k _ (tag_get hka)
      obtain ⟨b2, i2, ho2, d20, d21⟩ := (E67.out.below HBB.out) k _ (tag_get hka)
      obtain ⟨b3, i3, ho3, d30, d31⟩ := (E7.out.below HBB.out) k _ (tag_get hka)
      obtain ⟨_, b4, i4, ho4, d4⟩ := (TA7.out.below HBB.out) k hka
      subst ho1 ho2 ho3 ho4
      obtain ⟨s, hs⟩ : ∃ s, itB a k = s := ⟨_, rfl⟩
      rw [hs] at d10 d11 d20 d21 d30 d31 d4
      dsimp only at d10 d11 d20 d21 d30 d31
      have d10' : wr.cell? ⟨b1, i1 + k * 2, none⟩ = some (.int .i64 0) := d10
      have d20' : wr.cell? ⟨b2, i2 + k * 2, none⟩ = some (.int .i64 2) := d20
      have d30' : wr.cell? ⟨b3, i3 + k * 2, none⟩ = some (.int .i64 1) := d30
      have hki : (k : Int) < n := by omega
      have q0 : ∀ W : World, (binOp .neq 37 (.agg #[.int .i64 0, .string s]) (.agg #[.int .i64 0, .string s])).run Try.prog W = .ok (.bool false) W := fun W => run_ne_de 0 s W
      have q1 : ∀ W : World, (binOp .neq 37 (.agg #[.int .i64 1, .string s]) (.agg #[.int .i64 1, .string s])).run Try.prog W = .ok (.bool false) W := fun W => run_ne_de 1 s W
      have q2 : ∀ W : World, (binOp .neq 37 (.agg #[.int .i64 2, .string s]) (.agg #[.int .i64 2, .string s])).run Try.prog W = .ok (.bool false) W := fun W => run_ne_de 2 s W
      clear d10 d20 d30 hs hka
      go_wp2_with fail
      go_quiet (fail)
      (first | (have _h : Nat := nq; clear _h) | rename_i nq)
      have HB2' := Lib.hid (below_drewN HBB.out nq)
      clear q0 q1 q2
      go_wp2_with fail
      go_roundw
      case rel => exact ⟨k + 1, by rw [HN.out]; exact hlt, by go_num, HB2'.out⟩
      case measure => simp [intOf]; omega
    · obtain rfl : k = n := by omega
      have HB8 := Lib.hid (HB7.out.trans (HBB.out.mono HB7.out.size)); have TA8 := Lib.hid (TA7.out.below HBB.out); have TB8 := Lib.hid (TB7.out.below HBB.out); have TC8 := Lib.hid (TC7.out.below HBB.out)
      have H9 := Lib.hid (Diff_at o2 o3 a b c2 c3 wr (by rw [HN.out]; omega) (by omega) TA8.out TB8.out)
      rw [HN.out] at H9
      clear HBB
      go_wp2_with (go_at_call 10; refine H9.out.mono ?_)
      rintro e w9 ⟨o9, c9, rfl, e9, hb9⟩
      have HB9 := Lib.hid (HB8.out.trans (hb9.mono HB8.out.size)); have TA9 := Lib.hid (TA8.out.below hb9); have TB9 := Lib.hid (TB8.out.below hb9); have TC9 := Lib.hid (TC8.out.below hb9); have E9 := Lib.hid e9
      clear hb9 e9 H9
      have H10 := Lib.hid (Diff_at o3 o4 b c c3 c4 w9 (by omega) (by omega) TB9.out TC9.out)
      go_wp2_with (go_at_call 10; refine H10.out.mono ?_)
      rintro e w10 ⟨o10, c10, rfl, e10, hb10⟩
      have HB10 := Lib.hid (HB9.out.trans (hb10.mono HB9.out.size)); have TA10 := Lib.hid (TA9.out.below hb10); have TB10 := Lib.hid (TB9.out.below hb10); have TC10 := Lib.hid (TC9.out.below hb10); have E9' := Lib.hid (E9.out.below hb10); have E10 := Lib.hid e10
      clear hb10 e10 H10
      have H11 := Lib.hid (ApplyD_at o2 o9 a b c2 c9 w10 (by rw [HN.out]; omega) (by omega) TA10.out E9'.out HSA.out HSB.out)
      rw [HN.out] at H11
      go_wp2_with (go_at_call 16; refine H11.out.mono ?_)
      rintro e w11 ⟨o11, c11, rfl, t11, hb11⟩
      have HB11 := Lib.hid (HB10.out.trans (hb11.mono HB10.out.size)); have TA11 := Lib.hid (TA10.out.below hb11); have TC11 := Lib.hid (TC10.out.below hb11); have E11 := Lib.hid (E10.out.below hb11); have T11 := Lib.hid t11
      clear hb11 t11 H11
      have H12 := Lib.hid (ApplyD_at o11 o10 b c c11 c10 w11 (by omega) (by omega) T11.out E11.out HSB.out HSC.out)
      go_wp2_with (go_at_call 16; refine H12.out.mono ?_)
      rintro e w12 ⟨o12, c12, rfl, t12, hb12⟩
      have HB12 := Lib.hid (HB11.out.trans (hb12.mono HB11.out.size)); have TA12 := Lib.hid (TA11.out.below hb12); have TC12 := Lib.hid (TC11.out.below hb12); have T12 := Lib.hid t12
      clear hb12 t12 H12
      have H13 := Lib.hid (texts_any o12 o4 c12 c4 c w12 (by omega) T12.out TC12.out)
      go_wp2_with (go_at_call 17; refine H13.out.mono ?_)
      rintro e w13 ⟨rfl, hb13⟩
      have HB13 := Lib.hid (HB12.out.trans (hb13.mono HB12.out.size)); have TA13 := Lib.hid (TA12.out.below hb13)
      clear hb13 H13
      have H14 := Lib.hid (Shifts_at o2 o2 a a c2 c2 w13 (by rw [HN.out]; omega) (by rw [HN.out]; omega) TA13.out TA13.out)
      rw [shL_self, HN.out] at H14
      go_wp2_with (go_at_call 14; refine H14.out.mono ?_)
      rintro e w14 ⟨o14, c14, rfl, _, hb14⟩
      have HB14 := Lib.hid (HB13.out.trans (hb14.mono HB13.out.size))
      clear hb14 H14
      go_wp2_with fail
      go_ret
      exact ⟨rfl, HB14.out⟩
end Go.Proofs.Ytmapddghlabaeaa
