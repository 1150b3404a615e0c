/- Lists' edits: Shifts. -/
import Derived.Test.YtmapddghlabaeaaLl
set_option linter.unusedVariables false
set_option linter.unusedSimpArgs false
namespace Go.Proofs.Ytmapddghlabaeaa
open Go.RowKit Go.Maps Go.WideShapes
variable {w w' : World}

theorem info_sh : (Try.prog.info? 42).map (fun i => (i.zero, i.size, i.bytes)) = some (some (.agg #[.string ⟨#[]⟩, .int .i64 0, .int .i64 0]), 3, 32) := by kernel_rfl
def Sh1S (a : List ByteArray) (w : World) (i : Value) (wr : World) : Prop :=
  ∃ k : Nat, k ≤ a.length ∧ i = .int .i64 k ∧ IsUs w.heap.size k (fun s => (cntB (a.take k) s, 0, lastB (a.take k) s)) wr ∧ Below w.heap.size w wr
def Sh2S (a b : List ByteArray) (w : World) (i : Value) (wr : World) : Prop :=
  ∃ k : Nat, k ≤ b.length ∧ i = .int .i64 k ∧ IsUs w.heap.size (a.length + k) (fun s => (cntB a s, cntB (b.take k) s, lastB a s)) wr ∧ Below w.heap.size w wr
def Sh3S (a b : List ByteArray) (w : World) (v i : Value) (wr : World) : Prop :=
  ∃ k : Nat, k ≤ b.length ∧ i = .int .i64 k ∧ IsUs w.heap.size (a.length + b.length) (fun s => (cntB a s, cntB b s, lastB a s)) wr ∧ wr.ownsRow (w.heap.size + 1) 42 3 v (shF a b k).length (flatS (shF a b k)) ∧ Below w.heap.size w wr
theorem mapTurned_below {B b : Nat} {w0 w w' : World} (h : w.mapTurned w' b) (hb : Below B w0 w) (hB : B ≤ b) (hs : B ≤ w.heap.size) : Below B w0 w' :=
  hb.grown h.grown hs (fun k e => by cases e; exact hB)
theorem us_one {a : List ByteArray} {k : Nat} {s : ByteArray} (hk : k < a.length) (hs : itB a k = s) (t : ByteArray) : (if s = t then (cntB (a.take k) s + 1, 0, k) else (cntB (a.take k) t, 0, lastB (a.take k) t)) = (cntB (a.take (k + 1)) t, (0 : Nat), lastB (a.take (k + 1)) t) := by
  rw [← take_it a k hk, cntB_snoc, lastB_snoc, List.length_take, Nat.min_eq_left (by omega), hs]
  by_cases e : s = t
  · subst e; rw [if_pos rfl, if_pos rfl, if_pos rfl]
  · rw [if_neg e, if_neg e, if_neg e]; rfl
theorem us_two {a b : List ByteArray} {k : Nat} {s : ByteArray} (hk : k < b.length) (hs : itB b k = s) (t : ByteArray) : (if s = t then (cntB a s, cntB (b.take k) s + 1, lastB a s) else (cntB a t, cntB (b.take k) t, lastB a t)) = (cntB a t, cntB (b.take (k + 1)) t, lastB a t) := by
  rw [← take_it b k hk, cntB_snoc, hs]
  by_cases e : s = t
  · subst e; rw [if_pos rfl, if_pos rfl]
  · rw [if_neg e, if_neg e]; rfl
set_option maxHeartbeats 8000000 in
set_option maxRecDepth 100000 in
theorem Shifts_any (oa ob : Option Addr) (a b : List ByteArray) (ca cb : Nat) (w : World) (hla : a.length ≤ 100000) (hlb : b.length ≤ 100000) (ha : TxAt w oa a) (hb : TxAt w ob b) :
    Calls Try.prog 14 #[.slice oa a.length ca, .slice ob b.length cb] w fun e w' => ∃ v, e = .returned v ∧ w'.ownsRow w.heap.size 42 3 v (shL a b).length (flatS (shL a b)) ∧ Below w.heap.size w w' := by
  obtain ⟨n, hn⟩ : ∃ n, a.length = n := ⟨_, rfl⟩
  obtain ⟨m, hm⟩ : ∃ n, b.length = n := ⟨_, rfl⟩
  obtain ⟨i1, hi1, hz0, hz1, hz2⟩ := info_parts info_sh
  have HI1 := Lib.hid hi1; have HZ0 := Lib.hid hz0; have HZ1 := Lib.hid hz1; have HZ2 := Lib.hid hz2
  have HN := Lib.hid hn; have HM := Lib.hid hm; have HA := Lib.hid ha; have HB := Lib.hid hb
  rw [hn] at hla ⊢
  rw [hm] at hlb ⊢
  clear hi1 hz0 hz1 hz2 hn hm ha hb
  have hmm := @run_makeMap Try.prog
  have H0 : Hid (Sh1S a w (.int .i64 0) (w.alloc (.map #[] 0))) := Lib.hid ⟨0, Nat.zero_le _, rfl, IsUs.new w, (Below.refl _ w).alloc (Nat.le_refl _) _⟩
  go_enter Try.func14, Try.ntmps14
  go_wp2_with fail
  clear hmm
  go_loopw [19] (fun i wr => Sh1S a w i wr) (fun i _ => n - (intOf i).toNat)
  case atStart => exact H0.out
  case round =>
    obtain ⟨k, hk, rfl, hU, hb⟩ := hrel
    rw [HN.out] at hk
    have HU := Lib.hid hU; have HBB := Lib.hid hb
    clear hU hb H0
    by_cases hlt : k < n
    · obtain ⟨hss, b0, i0, hob, hcb⟩ := (HA.out.below HBB.out) k (by rw [HN.out]; exact hlt)
      subst hob
      obtain ⟨s, hs⟩ : ∃ v, itB a k = v := ⟨_, rfl⟩
      rw [hs] at hcb hss
      have HSS := Lib.hid hs
      obtain ⟨D, hD, hD2⟩ := HU.out
      have HD := Lib.hid hD; have HD2 := Lib.hid hD2
      have hlk := IsUs.look hD hD2 hss
      have HK := Lib.hid (keyS hss)
      obtain ⟨c0, hc0⟩ : ∃ c, cntB (a.take k) s = c := ⟨_, rfl⟩
      obtain ⟨l0, hl0⟩ : ∃ c, lastB (a.take k) s = c := ⟨_, rfl⟩
      have hc0b : c0 ≤ 100000 := by rw [← hc0]; have := cntB_le (a.take k) s; rw [List.length_take] at this; omega
      simp only [hc0, hl0] at hlk
      have HC0 := Lib.hid hc0
      clear hD hD2 hs hss hc0 hl0
      have hml := HD.out.lt
      go_wp2_with (at_mapUpdate; (refine wpList_mapUpdate_in _ rfl _ _ _ 55 rfl 9 57 keyedS Try.underlying55 usElem w.heap.size k D rfl (HD.out.alloc _) (by unfold maxLen; omega) _ _ (.string s.data.toList) rfl rfl HK.out (usD (c0 + 1, 0, k)) [] rfl ?_); intro w1 hown1 hturn1; have HO := Lib.hid hown1; have HT := Lib.hid hturn1; clear hown1 hturn1)
      go_roundw
      case rel => exact ⟨k + 1, by rw [HN.out]; exact hlt, rfl, (IsUs.put HD.out HD2.out HO.out).congr (fun t => by rw [← HC0.out]; exact us_one (by rw [HN.out]; exact hlt) HSS.out t), mapTurned_below HT.out (HBB.out.alloc HBB.out.size _) (Nat.le_refl _) (by have := HBB.out.size; simp; omega)⟩
      case measure => simp [intOf]; omega
    · obtain rfl : k = n := by omega
      have H1 : Hid (Sh2S a b w (.int .i64 0) wr) := Lib.hid ⟨0, Nat.zero_le _, rfl, by have h := HU.out; rw [List.take_of_length_le (by rw [HN.out]; exact Nat.le_refl _)] at h; rw [Nat.add_zero, HN.out]; exact h, HBB.out⟩
      clear HU HBB hlt hk
      obtain ⟨n, hkn⟩ : ∃ n, n = k := ⟨_, rfl⟩
      subst hkn
      go_wp2_with fail
      obtain ⟨wo, hwo⟩ : ∃ wo, wo = wr := ⟨_, rfl⟩
      subst hwo
      go_loopw [39] (fun i wr => Sh2S a b w i wr) (fun i _ => m - (intOf i).toNat)
      case atStart => exact H1.out
      case round =>
        obtain ⟨k, hk, rfl, hU, hb⟩ := hrel
        rw [HM.out] at hk
        rw [HN.out] at hU
        have HU := Lib.hid hU; have HBB := Lib.hid hb
        clear hU hb H1
        by_cases hlt : k < m
        · obtain ⟨hss, b0, i0, hob, hcb⟩ := (HB.out.below HBB.out) k (by rw [HM.out]; exact hlt)
          subst hob
          obtain ⟨s, hs⟩ : ∃ v, itB b k = v := ⟨_, rfl⟩
          rw [hs] at hcb hss
          have HSS := Lib.hid hs
          obtain ⟨D, hD, hD2⟩ := HU.out
          have HD := Lib.hid hD; have HD2 := Lib.hid hD2
          have hlk := IsUs.look hD hD2 hss
          have HK := Lib.hid (keyS hss)
          obtain ⟨c1, hc1⟩ : ∃ c, cntB a s = c := ⟨_, rfl⟩
          obtain ⟨c0, hc0⟩ : ∃ c, cntB (b.take k) s = c := ⟨_, rfl⟩
          obtain ⟨l0, hl0⟩ : ∃ c, lastB a s = c := ⟨_, rfl⟩
          have hc0b : c0 ≤ 100000 := by rw [← hc0]; have := cntB_le (b.take k) s; rw [List.length_take] at this; omega
          simp only [hc0, hl0, hc1] at hlk
          have HC0 := Lib.hid hc0; have HC1 := Lib.hid hc1; have HL0 := Lib.hid hl0
          clear hD hD2 hs hss hc0 hl0 hc1
          have hml := HD.out.lt
          go_wp2_with (at_mapUpdate; (refine wpList_mapUpdate_in _ rfl _ _ _ 55 rfl 9 57 keyedS Try.underlying55 usElem w.heap.size (n + k) D rfl (HD.out.alloc _) (by unfold maxLen; omega) _ _ (.string s.data.toList) rfl rfl HK.out (usD (c1, c0 + 1, l0)) [] rfl ?_); intro w1 hown1 hturn1; have HO := Lib.hid hown1; have HT := Lib.hid hturn1; clear hown1 hturn1)
          go_roundw
          case rel => exact ⟨k + 1, by rw [HM.out]; exact hlt, rfl, by rw [HN.out]; exact (show IsUs w.heap.size (n + k + 1) (fun s => (cntB a s, cntB (b.take (k + 1)) s, lastB a s)) w1 from (IsUs.put HD.out HD2.out HO.out).congr (fun t => by rw [← HC0.out, ← HC1.out, ← HL0.out]; exact us_two (by rw [HM.out]; exact hlt) HSS.out t)), mapTurned_below HT.out (HBB.out.alloc HBB.out.size _) (Nat.le_refl _) (by have := HBB.out.size; simp; omega)⟩
          case measure => simp [intOf]; omega
        · obtain rfl : k = m := by omega
          have H1 : Hid (Sh3S a b w (.slice none 0 0) (.int .i64 0) wr) := Lib.hid ⟨0, Nat.zero_le _, rfl, by have h := HU.out; rw [List.take_of_length_le (by rw [HM.out]; exact Nat.le_refl _)] at h; rw [HN.out, HM.out]; exact h, World.ownsRow_nil _ _ _ _, HBB.out⟩
          have HW := Lib.hid (show w.heap.size < wr.heap.size from HU.out.lt)
          clear HU HBB hlt hk
          obtain ⟨m, hkn⟩ : ∃ n, n = k := ⟨_, rfl⟩
          subst hkn
          go_wp2_with fail
          obtain ⟨wo2, hwo2⟩ : ∃ wo, wo = wr := ⟨_, rfl⟩
          subst hwo2
          go_loopw [12, 56] (fun v i wr => Sh3S a b w v i wr) (fun _ i _ => m - (intOf i).toNat)
          case atStart => exact H1.out
          case round =>
            obtain ⟨k, hk, rfl, hU, hrow, hb⟩ := hrel
            rw [HM.out] at hk
            rw [HN.out, HM.out] at hU
            have HU := Lib.hid hU; have HBB := Lib.hid hb; have HROW := Lib.hid hrow
            clear hU hb hrow H1
            by_cases hlt : k < m
            · obtain ⟨hss, b0, i0, hob, hcb⟩ := (HB.out.below HBB.out) k (by rw [HM.out]; exact hlt)
              subst hob
              obtain ⟨s, hs⟩ : ∃ v, itB b k = v := ⟨_, rfl⟩
              rw [hs] at hcb hss
              have HSS := Lib.hid hs
              obtain ⟨D, hD, hD2⟩ := HU.out
              have HD := Lib.hid hD; have HD2 := Lib.hid hD2
              have hlk := IsUs.look hD hD2 hss
              have HK := Lib.hid (keyS hss)
              obtain ⟨c1, hc1⟩ : ∃ c, cntB a s = c := ⟨_, rfl⟩
              obtain ⟨c0, hc0⟩ : ∃ c, cntB b s = c := ⟨_, rfl⟩
              obtain ⟨l0, hl0⟩ : ∃ c, lastB a s = c := ⟨_, rfl⟩
              simp only [hc0, hl0, hc1] at hlk
              have hSF : shF a b (k + 1) = shF a b k ++ (if c1 = 1 ∧ c0 = 1 ∧ l0 ≠ k then [(s, l0, k)] else []) := by rw [shF_succ]; unfold shOne; rw [hs, hc0, hc1, hl0]
              have HSF := Lib.hid hSF
              clear hD hD2 hs hss hc0 hl0 hc1 hSF
              have hml := HD.out.lt
              have hlen : (shF a b k).length ≤ 100000 := Nat.le_trans (shF_le a b k) (by omega)
              obtain ⟨L, hL⟩ : ∃ L, shF a b k = L := ⟨_, rfl⟩
              rw [hL] at HROW HSF hlen
              clear hL
              have HR2 := Lib.hid (own_below HROW.out ((Below.refl wr.heap.size wr).alloc (Nat.le_refl _) (.cells #[.int .i64 (c1 : Nat), .int .i64 (c0 : Nat), .int .i64 (l0 : Nat)] 57)))
              have HU2 := Lib.hid (HU.out.keep (w' := wr.alloc (.cells #[.int .i64 (c1 : Nat), .int .i64 (c0 : Nat), .int .i64 (l0 : Nat)] 57)) (Lib.alloc_old _ _ _ HU.out.lt))
              have HB2 := Lib.hid (HBB.out.alloc HBB.out.size (.cells #[.int .i64 (c1 : Nat), .int .i64 (c0 : Nat), .int .i64 (l0 : Nat)] 57))
              by_cases hyes : c1 = 1 ∧ c0 = 1 ∧ l0 ≠ k
              · obtain ⟨rfl, rfl, hne⟩ := hyes
                have HS2 := Lib.hid (show shF a b (k + 1) = L ++ [(s, l0, k)] by rw [HSF.out, if_pos ⟨rfl, rfl, hne⟩])
                have hnb : (l0 == k) = false := beq_eq_false_iff_ne.2 hne
                have hnb2 : ((l0 : Int) == (k : Int)) = false := beq_eq_false_iff_ne.2 (by omega)
                clear HSF hne
                go_wp2_with (at_builtin; (refine wpList_append_own _ rfl _ _ 38 rfl (w.heap.size + 1) 42 i1 (.agg #[.string ⟨#[]⟩, .int .i64 0, .int .i64 0]) 3 32 Try.underlying38 HI1.out HZ0.out HZ1.out HZ2.out rfl (by decide) _ _ _ rfl (HR2.out.alloc _) ⟨wr.heap.size + 1, 0, none⟩ 1 1 [.string s, .int .i64 (l0 : Nat), .int .i64 (k : Nat)] rfl rfl (by simpa using cell_three_new (wr.alloc (.cells #[.int .i64 1, .int .i64 1, .int .i64 (l0 : Nat)] 57)) 42 (.string s) (.int .i64 (l0 : Nat)) (.int .i64 (k : Nat))) three_memS (by unfold maxLen; omega) (by omega) (by simp; omega) ?_); intro v' w4 hown hgrow _; have HO4 := Lib.hid hown; have HG4 := Lib.hid hgrow; clear hown hgrow)
                go_roundw
                case rel =>
                  have hh : IsUs w.heap.size (n + m) (fun s => (cntB a s, cntB b s, lastB a s)) w4 := HU2.out.keep ((HG4.out.block w.heap.size (by have := HU2.out.lt; simp at this ⊢; omega) (fun e => by have := (HR2.out.lt _ e.symm).1; omega)).trans (Lib.alloc_old _ _ _ HU2.out.lt))
                  exact ⟨k + 1, by rw [HM.out]; exact hlt, rfl, by rw [HN.out, HM.out]; exact hh, by rw [HS2.out, List.length_append, flatS_app]; exact HO4.out, (HB2.out.alloc HB2.out.size _).grown HG4.out (by have := HB2.out.size; simp at this ⊢; omega) (fun j hj => by have := (HR2.out.lt j hj).1; omega)⟩
                case measure => simp [intOf]; omega
              · have HS2 : Hid (shF a b (k + 1) = L) := Lib.hid (by rw [HSF.out, if_neg hyes, List.append_nil])
                clear HSF
                have hways : c1 ≠ 1 ∨ (c1 = 1 ∧ c0 ≠ 1) ∨ (c1 = 1 ∧ c0 = 1 ∧ l0 = k) := by omega
                clear hyes
                rcases hways with hx | ⟨rfl, hx⟩ | ⟨rfl, rfl, rfl⟩
                · have hx1 : (c1 == 1) = false := beq_eq_false_iff_ne.2 hx
                  have hx2 : ((c1 : Int) == 1) = false := beq_eq_false_iff_ne.2 (by omega)
                  go_wp2_with fail
                  go_roundw
                  case rel => exact ⟨k + 1, by rw [HM.out]; exact hlt, rfl, by rw [HN.out, HM.out]; exact HU2.out, by rw [HS2.out]; exact HR2.out, HB2.out⟩
                  case measure => simp [intOf]; omega
                · have hx1 : (c0 == 1) = false := beq_eq_false_iff_ne.2 hx
                  have hx2 : ((c0 : Int) == 1) = false := beq_eq_false_iff_ne.2 (by omega)
                  go_wp2_with fail
                  go_roundw
                  case rel => exact ⟨k + 1, by rw [HM.out]; exact hlt, rfl, by rw [HN.out, HM.out]; exact HU2.out, by rw [HS2.out]; exact HR2.out, HB2.out⟩
                  case measure => simp [intOf]; omega
                · go_wp2_with fail
                  go_roundw
                  case rel => exact ⟨l0 + 1, by rw [HM.out]; exact hlt, rfl, by rw [HN.out, HM.out]; exact HU2.out, by rw [HS2.out]; exact HR2.out, HB2.out⟩
                  case measure => simp [intOf]; omega
            · obtain rfl : k = m := by omega
              go_wp2_with fail
              exact bodyPost_ret (v := u12) (by simp [results, Try.results14, go_sem]) rfl ⟨u12, rfl, by unfold shL; rw [HM.out]; exact own_lower HROW.out (by omega), HBB.out⟩
end Go.Proofs.Ytmapddghlabaeaa
