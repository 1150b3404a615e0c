/- The law CrcCuts, at whatever world that has the package's variable. -/
import Derived.Test.YtodmomhilpheiabDoorKp
import Derived.Test.YtodmomhilpheiabDoorKj
namespace Go.Proofs.YtodmomhilpheiabDoor
open Go.RowKit

/-- What a walk is told of a list of texts that came in. -/
def IsStrs (w : World) (a : Option Addr) (len cap : Nat) (zs : List ByteArray) : Prop :=
  (a = none ∧ len = 0 ∧ cap = 0 ∧ zs = []) ∨
  ∃ x, a = some x ∧ zs.length = len ∧ len ≤ maxLen ∧ (∀ i, i < len → w.cell? (x.add i) = some (.string (zs.getD i ByteArray.empty)))
theorem cell_lt {w : World} {a : Addr} {v : Value} (h : w.cell? a = some v) : a.block < w.heap.size := by
  rcases Nat.lt_or_ge a.block w.heap.size with h' | h'
  · exact h'
  · unfold World.cell? at h
    simp [Array.getElem?_eq_none h'] at h
theorem strs_of {w : World} {x : Addr} {l c : Nat} {ss : List ByteArray} {b : Bool} (hl : l ≤ c) (hm : c ≤ maxLen) (hz : ss.length = (if b then c else l)) (hcell : ∀ i, i < ss.length → w.cell? (x.add i) = some (.string (ss.getD i ByteArray.empty))) : IsStrs w (some x) l c (ss.take l) := by
  have hle : l ≤ ss.length := by rw [hz]; split <;> omega
  refine .inr ⟨x, rfl, by rw [List.length_take]; omega, by omega, fun i hi => ?_⟩
  rw [hcell i (by omega)]
  simp [List.getD, List.getElem?_take_of_lt hi]
theorem strs_len {w : World} {a : Option Addr} {len cap : Nat} {zs : List ByteArray} (h : IsStrs w a len cap zs) : zs.length = len ∧ len ≤ maxLen := by
  rcases h with ⟨_, rfl, _, rfl⟩ | ⟨x, _, h1, h2, _⟩
  · exact ⟨rfl, by unfold maxLen; omega⟩
  · exact ⟨h1, h2⟩
theorem strs_at {w : World} {a : Option Addr} {len cap : Nat} {zs : List ByteArray} (h : IsStrs w a len cap zs) (i : Nat) (hi : i < len) : ∃ x, a = some x ∧ w.cell? (x.add i) = some (.string (zs.getD i ByteArray.empty)) ∧ (x.add i).block < w.heap.size := by
  rcases h with ⟨_, rfl, _, _⟩ | ⟨x, rfl, _, _, h3⟩
  · omega
  · exact ⟨x, rfl, h3 i hi, cell_lt (h3 i hi)⟩
theorem intInfo : (Tryd.prog.info? 3).map (fun i => (i.zero, i.size, i.bytes)) = some (some (.int .i64 0), 1, 8) := by kernel_rfl

def endsL (zs : List ByteArray) (k : Nat) : List Value := (List.range k).map fun i => Value.int .i64 (offs zs (i + 1))
def CtSlot (zs : List ByteArray) (len : Nat) (w : World) (s ends i : Value) (wr : World) : Prop :=
  ∃ k : Nat, k ≤ len ∧ k ≤ 40 ∧ i = .int .i64 k ∧ s = .string (mkB (FL 0 (zs.take k))) ∧ offs zs k ≤ 2011 * k ∧ (∀ i (h : i < zs.length), i < k → zs[i].size ≤ 2000) ∧ wr.ownsRow w.heap.size 3 1 ends k (endsL zs k) ∧ Below w.heap.size w wr ∧ w.heap.size ≤ wr.heap.size

theorem offs_take (zs : List ByteArray) (k j : Nat) (h : j ≤ k) : offs (zs.take k) j = offs zs j := by
  unfold offs; rw [List.take_take, Nat.min_eq_left h]
theorem tmod_in (x m : Int) (h : 0 < m) : -m < x.tmod m ∧ x.tmod m < m := by
  have h1 := Int.tmod_lt_of_pos x h
  have h2 := Int.lt_tmod_of_pos x h
  omega
theorem cut_nums (cut : Int) (n : Nat) (hn : n ≤ 100000) : ∃ (m r : Int) (c : Nat), (n : Int) + 1 = m ∧ 0 < m ∧ m ≤ 100001 ∧ cut.tmod m = r ∧ -m < r ∧ r < m ∧ r + (n : Int) + 1 = r + m ∧ (r + m).tmod m = (c : Int) ∧ c ≤ n := by
  have hm : 0 < (n : Int) + 1 := by omega
  have hr := tmod_in cut ((n : Int) + 1) hm
  obtain ⟨r, hre⟩ : ∃ r, cut.tmod ((n : Int) + 1) = r := ⟨_, rfl⟩
  rw [hre] at hr
  have e4 : (r + ((n : Int) + 1)).tmod ((n : Int) + 1) = (r + ((n : Int) + 1)) % ((n : Int) + 1) := Int.tmod_eq_emod_of_nonneg (by omega)
  have h1 := Int.emod_nonneg (r + ((n : Int) + 1)) (show ((n : Int) + 1) ≠ 0 by omega)
  have h2 := Int.emod_lt_of_pos (r + ((n : Int) + 1)) hm
  exact ⟨(n : Int) + 1, r, ((r + ((n : Int) + 1)) % ((n : Int) + 1)).toNat, rfl, hm, by omega, hre, hr.1, hr.2, by omega, by rw [e4]; omega, by omega⟩
def C2Slot (zs : List ByteArray) (k c : Nat) (n : Value) : Prop := ∃ j : Nat, j ≤ k ∧ n = .int .i64 j ∧ offs zs j ≤ c
theorem own_cells {w : World} {B n : Nat} {v : Value} {xs : List Value} {e : TypeId} (h : w.ownsRow B e 1 v n xs) : ∃ a cap, v = .slice a n cap ∧ (n = 0 ∨ ∃ g, a = some ⟨g, 0, none⟩ ∧ g < w.heap.size ∧ ∀ i u, xs[i]? = some u → w.cell? ⟨g, i, none⟩ = some u) := by
  rcases h.2 with ⟨hv, h0⟩ | ⟨g, cap, cur, hv, _, hg, _⟩
  · exact ⟨none, 0, by rw [hv, h0], Or.inl h0⟩
  · refine ⟨_, cap, hv, Or.inr ⟨g, rfl, lt_of_some hg, fun i u hu => ?_⟩⟩
    have := h.cells (g := g) (by rw [hv]; rfl) i u hu
    have e : (⟨g, 0, none⟩ : Addr).add i = ⟨g, i, none⟩ := by unfold Addr.add; split <;> simp_all
    rw [e] at this
    exact this

set_option maxHeartbeats 4000000 in
set_option maxRecDepth 100000 in
theorem CrcCuts_any (a : Option Addr) (len cap : Nat) (cut : Int) (zs : List ByteArray) (w : World) (h : IsStrs w a len cap zs) (hV : CrcVars w) :
    Calls Tryd.prog 5 #[.slice a len cap, .int .i64 cut] w fun e w' => e = .returned (.bool true) ∧ Below w.heap.size w w' := by
  obtain ⟨hl, hm⟩ := strs_len h
  unfold maxLen at hm
  obtain ⟨i0, hi, hz0, hz1', hz2⟩ := info_parts intInfo
  have HS := Lib.hid h; have HL := Lib.hid hl; have HV := Lib.hid hV
  clear h hl hV
  go_enter Tryd.func5, Tryd.ntmps5
  go_wp2_with fail
  refine (speaks_any w HV.out).mono ?_
  rintro e w1 ⟨rfl, hw1⟩
  have HW1 := Lib.hid hw1
  clear hw1
  go_wp2_with fail
  go_loopw [5, 6, 7] (fun s ends i wr => CtSlot zs len w s ends i wr) (fun _ _ i _ => 40 - (intOf i).toNat)
  case atStart => exact ⟨0, Nat.zero_le _, by omega, rfl, rfl, by rw [offs_zero]; omega, fun i h h' => by omega, World.ownsRow_nil _ _ _ _, HW1.out, HW1.out.size⟩
  case round =>
    obtain ⟨k, hk, hk40, rfl, rfl, ho, hsm, hown, hB, hz⟩ := hrel
    have HO := Lib.hid hown; have HB := Lib.hid hB; have HSM := Lib.hid hsm; have HOF := Lib.hid ho
    obtain ⟨S, hSe⟩ : ∃ S, mkB (FL 0 (zs.take k)) = S := ⟨_, rfl⟩
    have hSz : S.size ≤ 80440 := by rw [← hSe, mkB_size]; have : offs zs k = (FL 0 (zs.take k)).length := rfl; omega
    have hSo : S.size = offs zs k := by rw [← hSe, mkB_size]; rfl
    have HSE := Lib.hid hSe; have HSO := Lib.hid hSo
    rw [hSe]
    clear hown hB hsm hSe hSo ho
    by_cases hgo : k < len ∧ k < 40
    · obtain ⟨h1, h2⟩ := hgo
      have h1i : (k : Int) < (len : Int) := by omega
      have h2i : (k : Int) < 40 := by omega
      have hkl : k < zs.length := by rw [HL.out]; exact h1
      obtain ⟨x, rfl, hcell0, hblk⟩ := strs_at HS.out k h1
      obtain ⟨s, hs⟩ : ∃ s, zs[k] = s := ⟨_, rfl⟩
      have hcell : wr.cell? (x.add k) = some (.string s) := (HB.out.cell (p := x.add k) hblk).trans (hcell0.trans (by rw [← hs]; simp [List.getD, List.getElem?_eq_getElem hkl]))
      have HZS := Lib.hid hs; have HBL := Lib.hid hblk
      clear hs hcell0 hblk
      by_cases hbig : 2000 < s.size
      · have hb : (2000 : Int) < (s.size : Int) := by omega
        go_wp2_with fail
        go_ret
        exact ⟨rfl, HB.out⟩
      · have hb : (s.size : Int) ≤ 2000 := by omega
        have HBG := Lib.hid hbig
        have hfr := frL_len (UInt8.ofNat k) s
        have hel := encL_le s
        obtain ⟨G, hG⟩ : ∃ G, mkB (frL (UInt8.ofNat k) s) = G := ⟨_, rfl⟩
        have hGz : G.size ≤ 2011 := by rw [← hG, mkB_size]; omega
        have n1 : ¬ 9223372036854775807 < S.size + G.size := by omega
        have hoff := offs_succ zs k hkl
        rw [HZS.out] at hoff
        have hsz2 : (S ++ G).size = offs zs (k + 1) := by rw [ByteArray.size_append, HSO.out, hoff, ← hG, mkB_size]
        have hcat : S ++ G = mkB (FL 0 (zs.take (k + 1))) := by rw [FL_snoc zs k hkl, HZS.out, mkB_app, HSE.out, hG]
        have HG := Lib.hid hG; have HCAT := Lib.hid hcat; have HZ2 := Lib.hid hsz2; have HGZ := Lib.hid hGz
        have hle : offs zs (k + 1) ≤ 82451 := by rw [← hsz2, ByteArray.size_append]; omega
        clear hfr hel hG hoff hcat hbig
        go_wp2_with fail
        refine (Frame_any (UInt8.ofNat k) k (by rw [UInt8.toNat_ofNat']; omega) s wr (by omega) (HV.out.below HB.out)).mono ?_
        rintro e w2 ⟨rfl, h2⟩
        rw [HG.out]
        have H2 := Lib.hid (HB.out.trans (h2.mono HB.out.size))
        have hz2s : w.heap.size ≤ w2.heap.size := H2.out.size
        have O2 : Hid (w2.ownsRow w.heap.size 3 1 u6 k (endsL zs k)) := Lib.hid (own_below HO.out h2)
        have hsz2i : ((S ++ G).size : Int) = (offs zs (k + 1) : Nat) := by rw [HZ2.out]
        have HSI := Lib.hid hsz2i
        clear h2 hsz2 hsz2i
        go_wp2_with (at_builtin; refine wpList_append_own _ rfl _ _ 36 rfl w.heap.size 3 i0 (.int .i64 0) 1 8 Tryd.underlying36 hi hz0 hz1' hz2 rfl (by decide) _ _ _ rfl (O2.out.alloc _) ⟨w2.heap.size, 0, none⟩ 1 1 [.int .i64 ((S.size : Int) + G.size)] rfl rfl ?c1 ?c2 ?c3 ?c4 ?c5 ?_)
        case c1 =>
          intro j u hj
          match j, hj with
          | 0, hj => simp at hj; subst hj; simp [Addr.add]
        case c2 => intro u hu; simp at hu; subst hu; rfl
        case c3 => unfold maxLen; omega
        case c4 => omega
        case c5 => simp; omega
        intro v1 w3 hown1 hgrow1 _
        have hlst : endsL zs k ++ [Value.int .i64 ((S.size : Int) + G.size)] = endsL zs (k + 1) := by
          have e : ((S.size : Int) + G.size) = (offs zs (k + 1) : Nat) := by rw [← HSI.out, ByteArray.size_append]; omega
          unfold endsL
          rw [e, List.range_succ, List.map_append]; rfl
        have hend : Hid (CtSlot zs len w (.string (S ++ G)) v1 (.int .i64 ((k : Int) + 1)) w3) := Lib.hid ⟨k + 1, by omega, by omega, by rw [Int.natCast_succ], by rw [HCAT.out], by have := HSI.out; have := HGZ.out; have := HOF.out; rw [← HSO.out] at this; rw [ByteArray.size_append] at *; omega, fun i h hi' => by
            by_cases e : i = k
            · subst e; rw [HZS.out]; have := HBG.out; omega
            · exact HSM.out i h (by omega), by rw [← hlst]; exact hown1, (H2.out.alloc hz2s _).grown hgrow1 (by simp; omega) (fun g hg => (O2.out.lt g hg).1), by have := hgrow1.size; simp at this; omega⟩
        clear hown1 hgrow1 hlst
        go_wp2_with fail
        exact ⟨hend.out, by simp [intOf]; omega⟩
    · obtain ⟨a2, cap2, rfl, hends⟩ := own_cells HO.out
      have HEN := Lib.hid hends
      obtain ⟨m, r, c, e1, m0, m1, e2, r0, r1, e3, e4, hcn⟩ := cut_nums cut S.size (by omega)
      have hmz : (m == 0) = false := by rw [beq_eq_false_iff_ne]; omega
      have hPl : (zs.take k).length = k := by rw [List.length_take, HL.out]; omega
      have HCN := Lib.hid hcn; have HPL := Lib.hid hPl
      have hcase : ¬ (k < len) ∨ (k < len ∧ ¬ k < 40) := by omega
      clear hends hgo hcn hPl
      have hk63 : (k : Int) ≤ 40 := by omega
      rcases hcase with hq | ⟨hq1, hq2⟩
      · have hqi : ¬ (k : Int) < (len : Int) := by omega
        clear hq
        go_wp2_with fail
        clear e1 e2 e3 e4 hmz
        go_loop [8] (fun n => C2Slot zs k c n) (fun n => k - (intOf n).toNat)
        case atStart => exact ⟨0, Nat.zero_le _, rfl, by rw [offs_zero]; omega⟩
        case round =>
          obtain ⟨j, hj, rfl, hjc⟩ := hrel
          by_cases hin : j < k ∧ offs zs (j + 1) ≤ c
          · obtain ⟨h1, h2⟩ := hin
            have hji : (j : Int) < (k : Int) := by omega
            obtain ⟨g2, rfl, hg2, hcl⟩ := HEN.out.resolve_left (by omega)
            have hcell := hcl j (.int .i64 (offs zs (j + 1))) (by unfold endsL; simp [h1])
            obtain ⟨o, ho⟩ : ∃ o, offs zs (j + 1) = o := ⟨_, rfl⟩
            rw [ho] at hcell
            have hoi : (o : Int) ≤ (c : Int) := by omega
            have hend : Hid (C2Slot zs k c (.int .i64 ((j : Int) + 1))) := Lib.hid ⟨j + 1, by omega, by rw [Int.natCast_succ], h2⟩
            clear hcl ho
            go_wp2_with fail
            exact ⟨hend.out, by simp [intOf]; omega⟩
          · have hwc := whole_cut (zs.take k) c j (fun i hi => by rw [List.getElem_take]; have hi' : i < k := by rw [HPL.out] at hi; exact hi
                                                                  have := HSM.out i (by rw [HL.out]; omega) hi'; omega) (by rw [← mkB_size, HSE.out]; exact HCN.out) (by rw [HPL.out]; exact hj) (by rw [offs_take _ _ _ hj]; exact hjc) (by
              rw [HPL.out]
              by_cases h : j = k
              · exact Or.inl h
              · exact Or.inr (by rw [offs_take _ _ _ (by omega)]; omega))
            rw [offs_take _ _ _ hj] at hwc
            have hSl : S.data.toList = FL 0 (zs.take k) := by rw [← HSE.out, mkB_data]
            have hM1 : mkB ((FL 0 (zs.take k)).take c) = S.extract 0 c := by
              apply ba_ext; rw [mkB_data, ext_list, hSl, List.drop_zero, Nat.sub_zero]
            have hM2 : mkB (((FL 0 (zs.take k)).take c).drop (offs zs j)) = S.extract (offs zs j) c := by
              apply ba_ext; rw [mkB_data, ext_list, hSl, List.drop_take]
            rw [hM1, hM2] at hwc
            obtain ⟨o, ho⟩ : ∃ o, offs zs j = o := ⟨_, rfl⟩
            rw [ho] at hwc hjc
            obtain ⟨X, T, n, er, hnx⟩ : ∃ X T n er, nextF (S.extract o c) = (X, T, n, er) := ⟨_, _, _, _, rfl⟩
            rw [hnx] at hwc
            dsimp only at hwc
            have hcS : (c : Int) ≤ (S.size : Int) := by have := HCN.out; omega
            have hoc : (o : Int) ≤ (c : Int) := by omega
            have hlast : 0 < j → ∃ g2, a2 = some ⟨g2, 0, none⟩ ∧ g2 < wr.heap.size ∧ wr.cell? ⟨g2, j - 1, none⟩ = some (.int .i64 (o : Int)) := by
              intro h0
              obtain ⟨g2, rfl, hg2, hcl⟩ := HEN.out.resolve_left (by omega)
              refine ⟨g2, rfl, hg2, hcl (j - 1) _ ?_⟩
              unfold endsL
              have h1 : j - 1 < k := by omega
              have h2 : j - 1 + 1 = j := by omega
              simp [h1, h2, ho]
            have hnext : j < k → ∃ g2 q, a2 = some ⟨g2, 0, none⟩ ∧ wr.cell? ⟨g2, j, none⟩ = some (.int .i64 ((q : Nat) : Int)) ∧ (c : Int) < q := by
              intro h1
              obtain ⟨g2, rfl, hg2, hcl⟩ := HEN.out.resolve_left (by omega)
              exact ⟨g2, offs zs (j + 1), rfl, hcl j _ (by unfold endsL; simp [h1]), by omega⟩
            have hz0 : j = 0 → o = 0 := by rintro rfl; rw [← ho, offs_zero]
            have HW := Lib.hid hwc; have HNX := Lib.hid hnx; have HLA := Lib.hid hlast; have HNE := Lib.hid hnext; have HZ0 := Lib.hid hz0
            have HM1 : Hid ((S.extract 0 c).size ≤ maxLen) := Lib.hid (by rw [ByteArray.size_extract]; unfold maxLen; omega)
            have HM2 : Hid ((S.extract o c).size ≤ maxLen) := Lib.hid (by rw [ByteArray.size_extract]; unfold maxLen; omega)
            clear hwc hnx hlast hnext hz0 hM1 hM2 hSl ho hin
            have hjk : (j < k) ∨ j = k := by omega
            rcases hjk with hjk | hjk
            · obtain ⟨g2, q, rfl, hc2, hcq⟩ := HNE.out hjk
              have hjki : (j : Int) < (k : Int) := by omega
              have hqn : ¬ (q : Int) ≤ (c : Int) := by omega
              clear hjk
              rcases (show j = 0 ∨ 0 < j by omega) with h0 | h0
              · have ho0 := HZ0.out h0
                subst ho0
                have hj0 : (j : Int) = 0 := by omega
                have hc20 : wr.cell? ⟨g2, 0, none⟩ = some (.int .i64 ((q : Nat) : Int)) := by rw [h0] at hc2; exact hc2
                go_wp2_with fail
                refine (Whole_any (S.extract 0 c) wr HM1.out (HV.out.below HB.out)).mono ?_
                rintro e w5 ⟨rfl, h5⟩
                rw [HW.out.1]
                have H5 := Lib.hid (HB.out.trans (h5.mono HB.out.size))
                have hj0' : ((j : Nat) : Int) = 0 := hj0
                clear h5 hc2 hc20
                go_wp2_with fail
                refine (FNext_vars (S.extract 0 c) T X n er w5 HM2.out (HV.out.below H5.out) HNX.out).mono ?_
                rintro e w6 ⟨rfl, h6⟩
                have H6 := Lib.hid (H5.out.trans (h6.mono H5.out.size))
                have her := HW.out.2
                clear h6
                by_cases hoc2 : 0 = c
                · rw [if_pos hoc2] at her
                  subst her
                  subst hoc2
                  go_wp2_with fail
                  go_ret
                  exact ⟨rfl, H6.out⟩
                · rw [if_neg hoc2] at her
                  subst her
                  have hocz : ((0 : Int) == (c : Int)) = false := by rw [beq_eq_false_iff_ne]; omega
                  go_wp2_with fail
                  go_ret
                  exact ⟨rfl, H6.out⟩
              · obtain ⟨g2', hg, hg2, hc1⟩ := HLA.out h0
                obtain rfl : g2 = g2' := by injection hg with hg; injection hg
                have hj1 : (0 : Int) < (j : Int) := by omega
                have hjz : ((j : Int) == 0) = false := by rw [beq_eq_false_iff_ne]; omega
                have htn : ((j : Int) - 1).toNat = j - 1 := by omega
                have hjb : (j : Int) - 1 < (k : Int) := by omega
                have hjb0 : 0 ≤ (j : Int) - 1 := by omega
                go_wp2_with fail
                refine (Whole_any (S.extract 0 c) wr HM1.out (HV.out.below HB.out)).mono ?_
                rintro e w5 ⟨rfl, h5⟩
                rw [HW.out.1]
                have H5 := Lib.hid (HB.out.trans (h5.mono HB.out.size))
                have hc5 : w5.cell? ⟨g2, j - 1, none⟩ = some (.int .i64 (o : Int)) := (h5.cell (p := ⟨g2, j - 1, none⟩) hg2).trans hc1
                clear h5 hc2 hc1
                go_wp2_with fail
                refine (FNext_vars (S.extract o c) T X n er w5 HM2.out (HV.out.below H5.out) HNX.out).mono ?_
                rintro e w6 ⟨rfl, h6⟩
                have H6 := Lib.hid (H5.out.trans (h6.mono H5.out.size))
                have her := HW.out.2
                clear h6
                by_cases hoc2 : o = c
                · rw [if_pos hoc2] at her
                  subst her
                  subst hoc2
                  go_wp2_with fail
                  go_ret
                  exact ⟨rfl, H6.out⟩
                · rw [if_neg hoc2] at her
                  subst her
                  have hocz : (((o : Nat) : Int) == (c : Int)) = false := by rw [beq_eq_false_iff_ne]; omega
                  go_wp2_with fail
                  go_ret
                  exact ⟨rfl, H6.out⟩
            · have hjki : ¬ (j : Int) < (k : Int) := by omega
              rcases (show j = 0 ∨ 0 < j by omega) with h0 | h0
              · have ho0 := HZ0.out h0
                subst ho0
                have hj0 : (j : Int) = 0 := by omega
                clear hjk
                go_wp2_with fail
                refine (Whole_any (S.extract 0 c) wr HM1.out (HV.out.below HB.out)).mono ?_
                rintro e w5 ⟨rfl, h5⟩
                rw [HW.out.1]
                have H5 := Lib.hid (HB.out.trans (h5.mono HB.out.size))
                clear h5
                go_wp2_with fail
                refine (FNext_vars (S.extract 0 c) T X n er w5 HM2.out (HV.out.below H5.out) HNX.out).mono ?_
                rintro e w6 ⟨rfl, h6⟩
                have H6 := Lib.hid (H5.out.trans (h6.mono H5.out.size))
                have her := HW.out.2
                clear h6
                by_cases hoc2 : 0 = c
                · rw [if_pos hoc2] at her
                  subst her
                  subst hoc2
                  go_wp2_with fail
                  go_ret
                  exact ⟨rfl, H6.out⟩
                · rw [if_neg hoc2] at her
                  subst her
                  have hocz : ((0 : Int) == (c : Int)) = false := by rw [beq_eq_false_iff_ne]; omega
                  go_wp2_with fail
                  go_ret
                  exact ⟨rfl, H6.out⟩
              · obtain ⟨g2, rfl, hg2, hc1⟩ := HLA.out h0
                have hj1 : (0 : Int) < (j : Int) := by omega
                have hjz : ((j : Int) == 0) = false := by rw [beq_eq_false_iff_ne]; omega
                have htn : ((j : Int) - 1).toNat = j - 1 := by omega
                have hjb : (j : Int) - 1 < (k : Int) := by omega
                have hjb0 : 0 ≤ (j : Int) - 1 := by omega
                clear hjk
                go_wp2_with fail
                refine (Whole_any (S.extract 0 c) wr HM1.out (HV.out.below HB.out)).mono ?_
                rintro e w5 ⟨rfl, h5⟩
                rw [HW.out.1]
                have H5 := Lib.hid (HB.out.trans (h5.mono HB.out.size))
                have hc5 : w5.cell? ⟨g2, j - 1, none⟩ = some (.int .i64 (o : Int)) := (h5.cell (p := ⟨g2, j - 1, none⟩) hg2).trans hc1
                clear h5 hc1
                go_wp2_with fail
                refine (FNext_vars (S.extract o c) T X n er w5 HM2.out (HV.out.below H5.out) HNX.out).mono ?_
                rintro e w6 ⟨rfl, h6⟩
                have H6 := Lib.hid (H5.out.trans (h6.mono H5.out.size))
                have her := HW.out.2
                clear h6
                by_cases hoc2 : o = c
                · rw [if_pos hoc2] at her
                  subst her
                  subst hoc2
                  go_wp2_with fail
                  go_ret
                  exact ⟨rfl, H6.out⟩
                · rw [if_neg hoc2] at her
                  subst her
                  have hocz : (((o : Nat) : Int) == (c : Int)) = false := by rw [beq_eq_false_iff_ne]; omega
                  go_wp2_with fail
                  go_ret
                  exact ⟨rfl, H6.out⟩
      · have hqi : (k : Int) < (len : Int) := by omega
        have hqj : ¬ (k : Int) < 40 := by omega
        clear hq1 hq2
        go_wp2_with fail
        clear e1 e2 e3 e4 hmz
        go_loop [8] (fun n => C2Slot zs k c n) (fun n => k - (intOf n).toNat)
        case atStart => exact ⟨0, Nat.zero_le _, rfl, by rw [offs_zero]; omega⟩
        case round =>
          obtain ⟨j, hj, rfl, hjc⟩ := hrel
          by_cases hin : j < k ∧ offs zs (j + 1) ≤ c
          · obtain ⟨h1, h2⟩ := hin
            have hji : (j : Int) < (k : Int) := by omega
            obtain ⟨g2, rfl, hg2, hcl⟩ := HEN.out.resolve_left (by omega)
            have hcell := hcl j (.int .i64 (offs zs (j + 1))) (by unfold endsL; simp [h1])
            obtain ⟨o, ho⟩ : ∃ o, offs zs (j + 1) = o := ⟨_, rfl⟩
            rw [ho] at hcell
            have hoi : (o : Int) ≤ (c : Int) := by omega
            have hend : Hid (C2Slot zs k c (.int .i64 ((j : Int) + 1))) := Lib.hid ⟨j + 1, by omega, by rw [Int.natCast_succ], h2⟩
            clear hcl ho
            go_wp2_with fail
            exact ⟨hend.out, by simp [intOf]; omega⟩
          · have hwc := whole_cut (zs.take k) c j (fun i hi => by rw [List.getElem_take]; have hi' : i < k := by rw [HPL.out] at hi; exact hi
                                                                  have := HSM.out i (by rw [HL.out]; omega) hi'; omega) (by rw [← mkB_size, HSE.out]; exact HCN.out) (by rw [HPL.out]; exact hj) (by rw [offs_take _ _ _ hj]; exact hjc) (by
              rw [HPL.out]
              by_cases h : j = k
              · exact Or.inl h
              · exact Or.inr (by rw [offs_take _ _ _ (by omega)]; omega))
            rw [offs_take _ _ _ hj] at hwc
            have hSl : S.data.toList = FL 0 (zs.take k) := by rw [← HSE.out, mkB_data]
            have hM1 : mkB ((FL 0 (zs.take k)).take c) = S.extract 0 c := by
              apply ba_ext; rw [mkB_data, ext_list, hSl, List.drop_zero, Nat.sub_zero]
            have hM2 : mkB (((FL 0 (zs.take k)).take c).drop (offs zs j)) = S.extract (offs zs j) c := by
              apply ba_ext; rw [mkB_data, ext_list, hSl, List.drop_take]
            rw [hM1, hM2] at hwc
            obtain ⟨o, ho⟩ : ∃ o, offs zs j = o := ⟨_, rfl⟩
            rw [ho] at hwc hjc
            obtain ⟨X, T, n, er, hnx⟩ : ∃ X T n er, nextF (S.extract o c) = (X, T, n, er) := ⟨_, _, _, _, rfl⟩
            rw [hnx] at hwc
            dsimp only at hwc
            have hcS : (c : Int) ≤ (S.size : Int) := by have := HCN.out; omega
            have hoc : (o : Int) ≤ (c : Int) := by omega
            have hlast : 0 < j → ∃ g2, a2 = some ⟨g2, 0, none⟩ ∧ g2 < wr.heap.size ∧ wr.cell? ⟨g2, j - 1, none⟩ = some (.int .i64 (o : Int)) := by
              intro h0
              obtain ⟨g2, rfl, hg2, hcl⟩ := HEN.out.resolve_left (by omega)
              refine ⟨g2, rfl, hg2, hcl (j - 1) _ ?_⟩
              unfold endsL
              have h1 : j - 1 < k := by omega
              have h2 : j - 1 + 1 = j := by omega
              simp [h1, h2, ho]
            have hnext : j < k → ∃ g2 q, a2 = some ⟨g2, 0, none⟩ ∧ wr.cell? ⟨g2, j, none⟩ = some (.int .i64 ((q : Nat) : Int)) ∧ (c : Int) < q := by
              intro h1
              obtain ⟨g2, rfl, hg2, hcl⟩ := HEN.out.resolve_left (by omega)
              exact ⟨g2, offs zs (j + 1), rfl, hcl j _ (by unfold endsL; simp [h1]), by omega⟩
            have hz0 : j = 0 → o = 0 := by rintro rfl; rw [← ho, offs_zero]
            have HW := Lib.hid hwc; have HNX := Lib.hid hnx; have HLA := Lib.hid hlast; have HNE := Lib.hid hnext; have HZ0 := Lib.hid hz0
            have HM1 : Hid ((S.extract 0 c).size ≤ maxLen) := Lib.hid (by rw [ByteArray.size_extract]; unfold maxLen; omega)
            have HM2 : Hid ((S.extract o c).size ≤ maxLen) := Lib.hid (by rw [ByteArray.size_extract]; unfold maxLen; omega)
            clear hwc hnx hlast hnext hz0 hM1 hM2 hSl ho hin
            have hjk : (j < k) ∨ j = k := by omega
            rcases hjk with hjk | hjk
            · obtain ⟨g2, q, rfl, hc2, hcq⟩ := HNE.out hjk
              have hjki : (j : Int) < (k : Int) := by omega
              have hqn : ¬ (q : Int) ≤ (c : Int) := by omega
              clear hjk
              rcases (show j = 0 ∨ 0 < j by omega) with h0 | h0
              · have ho0 := HZ0.out h0
                subst ho0
                have hj0 : (j : Int) = 0 := by omega
                have hc20 : wr.cell? ⟨g2, 0, none⟩ = some (.int .i64 ((q : Nat) : Int)) := by rw [h0] at hc2; exact hc2
                go_wp2_with fail
                refine (Whole_any (S.extract 0 c) wr HM1.out (HV.out.below HB.out)).mono ?_
                rintro e w5 ⟨rfl, h5⟩
                rw [HW.out.1]
                have H5 := Lib.hid (HB.out.trans (h5.mono HB.out.size))
                have hj0' : ((j : Nat) : Int) = 0 := hj0
                clear h5 hc2 hc20
                go_wp2_with fail
                refine (FNext_vars (S.extract 0 c) T X n er w5 HM2.out (HV.out.below H5.out) HNX.out).mono ?_
                rintro e w6 ⟨rfl, h6⟩
                have H6 := Lib.hid (H5.out.trans (h6.mono H5.out.size))
                have her := HW.out.2
                clear h6
                by_cases hoc2 : 0 = c
                · rw [if_pos hoc2] at her
                  subst her
                  subst hoc2
                  go_wp2_with fail
                  go_ret
                  exact ⟨rfl, H6.out⟩
                · rw [if_neg hoc2] at her
                  subst her
                  have hocz : ((0 : Int) == (c : Int)) = false := by rw [beq_eq_false_iff_ne]; omega
                  go_wp2_with fail
                  go_ret
                  exact ⟨rfl, H6.out⟩
              · obtain ⟨g2', hg, hg2, hc1⟩ := HLA.out h0
                obtain rfl : g2 = g2' := by injection hg with hg; injection hg
                have hj1 : (0 : Int) < (j : Int) := by omega
                have hjz : ((j : Int) == 0) = false := by rw [beq_eq_false_iff_ne]; omega
                have htn : ((j : Int) - 1).toNat = j - 1 := by omega
                have hjb : (j : Int) - 1 < (k : Int) := by omega
                have hjb0 : 0 ≤ (j : Int) - 1 := by omega
                go_wp2_with fail
                refine (Whole_any (S.extract 0 c) wr HM1.out (HV.out.below HB.out)).mono ?_
                rintro e w5 ⟨rfl, h5⟩
                rw [HW.out.1]
                have H5 := Lib.hid (HB.out.trans (h5.mono HB.out.size))
                have hc5 : w5.cell? ⟨g2, j - 1, none⟩ = some (.int .i64 (o : Int)) := (h5.cell (p := ⟨g2, j - 1, none⟩) hg2).trans hc1
                clear h5 hc2 hc1
                go_wp2_with fail
                refine (FNext_vars (S.extract o c) T X n er w5 HM2.out (HV.out.below H5.out) HNX.out).mono ?_
                rintro e w6 ⟨rfl, h6⟩
                have H6 := Lib.hid (H5.out.trans (h6.mono H5.out.size))
                have her := HW.out.2
                clear h6
                by_cases hoc2 : o = c
                · rw [if_pos hoc2] at her
                  subst her
                  subst hoc2
                  go_wp2_with fail
                  go_ret
                  exact ⟨rfl, H6.out⟩
                · rw [if_neg hoc2] at her
                  subst her
                  have hocz : (((o : Nat) : Int) == (c : Int)) = false := by rw [beq_eq_false_iff_ne]; omega
                  go_wp2_with fail
                  go_ret
                  exact ⟨rfl, H6.out⟩
            · have hjki : ¬ (j : Int) < (k : Int) := by omega
              rcases (show j = 0 ∨ 0 < j by omega) with h0 | h0
              · exfalso; omega
              · obtain ⟨g2, rfl, hg2, hc1⟩ := HLA.out h0
                have hj1 : (0 : Int) < (j : Int) := by omega
                have hjz : ((j : Int) == 0) = false := by rw [beq_eq_false_iff_ne]; omega
                have htn : ((j : Int) - 1).toNat = j - 1 := by omega
                have hjb : (j : Int) - 1 < (k : Int) := by omega
                have hjb0 : 0 ≤ (j : Int) - 1 := by omega
                clear hjk
                go_wp2_with fail
                refine (Whole_any (S.extract 0 c) wr HM1.out (HV.out.below HB.out)).mono ?_
                rintro e w5 ⟨rfl, h5⟩
                rw [HW.out.1]
                have H5 := Lib.hid (HB.out.trans (h5.mono HB.out.size))
                have hc5 : w5.cell? ⟨g2, j - 1, none⟩ = some (.int .i64 (o : Int)) := (h5.cell (p := ⟨g2, j - 1, none⟩) hg2).trans hc1
                clear h5 hc1
                go_wp2_with fail
                refine (FNext_vars (S.extract o c) T X n er w5 HM2.out (HV.out.below H5.out) HNX.out).mono ?_
                rintro e w6 ⟨rfl, h6⟩
                have H6 := Lib.hid (H5.out.trans (h6.mono H5.out.size))
                have her := HW.out.2
                clear h6
                by_cases hoc2 : o = c
                · rw [if_pos hoc2] at her
                  subst her
                  subst hoc2
                  go_wp2_with fail
                  go_ret
                  exact ⟨rfl, H6.out⟩
                · rw [if_neg hoc2] at her
                  subst her
                  have hocz : (((o : Nat) : Int) == (c : Int)) = false := by rw [beq_eq_false_iff_ne]; omega
                  go_wp2_with fail
                  go_ret
                  exact ⟨rfl, H6.out⟩
end Go.Proofs.YtodmomhilpheiabDoor
