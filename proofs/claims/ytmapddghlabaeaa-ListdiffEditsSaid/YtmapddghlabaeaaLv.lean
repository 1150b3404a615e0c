/- Lists' edits: the law on the edits, the places, the shifts. -/
import Derived.Test.YtmapddghlabaeaaLt
set_option linter.unusedVariables false
set_option linter.unusedSimpArgs false
namespace Go.Proofs.Ytmapddghlabaeaa
open Go.RowKit
variable {w w' : World}

theorem under_sh : Try.prog.underlying 42 = some (.struct (Try.prog.fieldsOf 42)) := by kernel_rfl
theorem held_sh : Try.prog.stoodInHeld 42 = false := by kernel_rfl
theorem run_ne_sh (a b : Int) (s : ByteArray) (w : World) : (binOp .neq 42 (.agg #[.string s, .int .i64 a, .int .i64 b]) (.agg #[.string s, .int .i64 a, .int .i64 b])).run Try.prog w = .ok (.bool false) w := by
  rw [run_neq_struct, run_equalIn_agg _ _ _ _ _ under_sh held_sh]
  simp [Op.eqFields, Program.fieldsOf, Try.underlying42, part, go_sem, Try.underlying9, Try.underlying3]
def EdS (n : Nat) (W : World) (i : Value) (wr : World) : Prop := ∃ k : Nat, k ≤ n ∧ i = .int .i64 k ∧ Below W.heap.size W wr
def EsS (a b : List ByteArray) (W : World) (k j : Value) (wr : World) : Prop := ∃ q : Nat, q ≤ b.length ∧ j = .int .i64 q ∧ k = .int .i64 ((shF a b q).length : Nat) ∧ Below W.heap.size W wr
theorem once_le (l : List ByteArray) (s : ByteArray) : -1 ≤ onceB l s ∧ onceB l s ≤ l.length := by
  unfold onceB
  have := lastB_le l s
  split <;> omega
theorem shF_one (a b : List ByteArray) {q : Nat} (hq : q < b.length) : shOne a b q = if 0 ≤ onceB a (itB b q) ∧ 0 ≤ onceB b (itB b q) ∧ onceB a (itB b q) ≠ onceB b (itB b q) then [(itB b q, lastB a (itB b q), q)] else [] := by
  unfold shOne onceB
  by_cases h1 : cntB a (itB b q) = 1
  · by_cases h2 : cntB b (itB b q) = 1
    · have h3 := last_of_once hq rfl h2
      rw [if_pos h1, if_pos h2, h3]
      by_cases h4 : lastB a (itB b q) = q
      · rw [if_neg (fun h => h.2.2 h4), if_neg (by omega)]
      · rw [if_pos ⟨h1, h2, h4⟩, if_pos (by omega)]
    · rw [if_neg (fun h => h2 h.2.1), if_neg h2, if_neg (by omega)]
  · rw [if_neg (fun h => h1 h.1), if_neg h1, if_neg (by omega)]
theorem sh_at {a b : List ByteArray} {q : Nat} (hq : q < b.length) (h : 0 ≤ onceB a (itB b q) ∧ 0 ≤ onceB b (itB b q) ∧ onceB a (itB b q) ≠ onceB b (itB b q)) : (shL a b)[(shF a b q).length]? = some (itB b q, lastB a (itB b q), q) ∧ (shF a b q).length < (shL a b).length ∧ onceB a (itB b q) = (lastB a (itB b q) : Nat) ∧ onceB b (itB b q) = (q : Nat) := by
  have e1 : shF a b (q + 1) = shF a b q ++ [(itB b q, lastB a (itB b q), q)] := by rw [shF_succ, shF_one a b hq, if_pos h]
  have hp : ∃ t, shL a b = shF a b (q + 1) ++ t := by
    unfold shL
    have : ∀ d, ∃ t, shF a b (q + 1 + d) = shF a b (q + 1) ++ t := fun d => by
      induction d with
      | zero => exact ⟨[], by simp⟩
      | succ d ih => obtain ⟨t, ht⟩ := ih; exact ⟨t ++ shOne a b (q + 1 + d), by rw [show q + 1 + (d + 1) = q + 1 + d + 1 by omega, shF_succ, ht, List.append_assoc]⟩
    obtain ⟨t, ht⟩ := this (b.length - (q + 1))
    exact ⟨t, by rw [show q + 1 + (b.length - (q + 1)) = b.length by omega] at ht; exact ht⟩
  obtain ⟨t, ht⟩ := hp
  have hc1 : cntB a (itB b q) = 1 := by
    by_cases hh : cntB a (itB b q) = 1
    · exact hh
    · have := h.1; unfold onceB at this; rw [if_neg hh] at this; omega
  have hc2 : cntB b (itB b q) = 1 := by
    by_cases hh : cntB b (itB b q) = 1
    · exact hh
    · have := h.2.1; unfold onceB at this; rw [if_neg hh] at this; omega
  refine ⟨?_, ?_, by unfold onceB; rw [if_pos hc1], by unfold onceB; rw [if_pos hc2, last_of_once hq rfl hc2]⟩
  · rw [ht, e1, List.append_assoc, List.getElem?_append_right (Nat.le_refl _)]; simp
  · rw [ht, e1]; simp
theorem sh_not {a b : List ByteArray} {q : Nat} (hq : q < b.length) (h : ¬ (0 ≤ onceB a (itB b q) ∧ 0 ≤ onceB b (itB b q) ∧ onceB a (itB b q) ≠ onceB b (itB b q))) : (shF a b (q + 1)).length = (shF a b q).length := by
  rw [shF_succ, shF_one a b hq, if_neg h, List.append_nil]
theorem sh_yes {a b : List ByteArray} {q : Nat} (hq : q < b.length) (h : 0 ≤ onceB a (itB b q) ∧ 0 ≤ onceB b (itB b q) ∧ onceB a (itB b q) ≠ onceB b (itB b q)) : (shF a b (q + 1)).length = (shF a b q).length + 1 := by
  rw [shF_succ, shF_one a b hq, if_pos h, List.length_append]; rfl
set_option maxHeartbeats 8000000 in
set_option maxRecDepth 100000 in
theorem LEdits_any (oa : Option Addr) (A : List ByteArray) (ca : Nat) (ob : Option Addr) (B : List ByteArray) (cb : Nat) (w : World) (hA : A.length ≤ maxLen) (hac : A.length ≤ ca) (ha : TxAt w oa A) (hB : B.length ≤ maxLen) (hbc : B.length ≤ cb) (hb : TxAt w ob B) :
    Calls Try.prog 3 #[.slice oa A.length ca, .slice ob B.length cb] w fun e w' => e = .returned (.bool true) ∧ Below w.heap.size w w' := by
  have HS := Lib.hid (speaks_any w)
  have HA := Lib.hid (fun W (hW : TxAt W oa A) => short_at oa A ca W hA hac hW)
  have HB := Lib.hid (fun W (hW : TxAt W ob B) => short_at ob B cb W hB hbc hW)
  obtain ⟨a, hae⟩ : ∃ a, A.take 40 = a := ⟨_, rfl⟩
  obtain ⟨b, hbe⟩ : ∃ b, B.take 40 = b := ⟨_, rfl⟩
  have hla : a.length ≤ 40 := by rw [← hae, List.length_take]; exact Nat.min_le_left _ _
  have hlb : b.length ≤ 40 := by rw [← hbe, List.length_take]; exact Nat.min_le_left _ _
  rw [hae] at HA
  rw [hbe] at HB
  have HTA := Lib.hid ha; have HTB := Lib.hid hb
  generalize A.length = nA at *
  generalize B.length = nB at *
  clear ha hb hae hbe hA hB hac hbc
  go_enter Try.func3, Try.ntmps3
  go_wp2_with (go_at_call 8; refine HS.out.mono ?_)
  rintro e w1 ⟨rfl, hb1⟩
  have HB1 := Lib.hid hb1
  clear hb1 HS
  go_wp2_with (go_at_call 9; refine (HA.out w1 (HTA.out.below HB1.out)).mono ?_)
  rintro e w2 ⟨o2, c2, rfl, ta2, hb2⟩
  have HB2 := Lib.hid (HB1.out.trans (hb2.mono HB1.out.size)); have T2 := Lib.hid ta2
  clear hb2 ta2 HA
  go_wp2_with (go_at_call 9; refine (HB.out w2 (HTB.out.below HB2.out)).mono ?_)
  rintro e w3 ⟨o3, c3, rfl, tb3, hb3⟩
  have HB3 := Lib.hid (HB2.out.trans (hb3.mono HB2.out.size)); have TA := Lib.hid (T2.out.below hb3); have TB := Lib.hid tb3
  clear hb3 tb3 HB T2
  have H4 := Lib.hid (Diff_at o2 o3 a b c2 c3 w3 (by omega) (by omega) TA.out TB.out)
  go_wp2_with (go_at_call 10; refine H4.out.mono ?_)
  rintro e w4 ⟨o4, c4, rfl, e4, hb4⟩
  have HB4 := Lib.hid (HB3.out.trans (hb4.mono HB3.out.size)); have TA4 := Lib.hid (TA.out.below hb4); have TB4 := Lib.hid (TB.out.below hb4); have E4 := Lib.hid e4
  clear hb4 e4 H4 TA TB
  have H5 := Lib.hid (RDiff_at o2 o3 a b c2 c3 w4 (by omega) (by omega) TA4.out TB4.out)
  go_wp2_with (go_at_call 11; refine H5.out.mono ?_)
  rintro e w5 ⟨o5, c5, rfl, e5, hb5⟩
  have HB5 := Lib.hid (HB4.out.trans (hb5.mono HB4.out.size)); have TA5 := Lib.hid (TA4.out.below hb5); have TB5 := Lib.hid (TB4.out.below hb5); have E45 := Lib.hid (E4.out.below hb5); have E5 := Lib.hid e5
  clear hb5 e5 H5 TA4 TB4 E4
  have H6 := Lib.hid (Match_at o2 o3 a b c2 c3 w5 (by omega) (by omega) TA5.out TB5.out)
  go_wp2_with (go_at_call 12; refine H6.out.mono ?_)
  rintro e w6 ⟨o6, c6, rfl, e6, hb6⟩
  have HB6 := Lib.hid (HB5.out.trans (hb6.mono HB5.out.size)); have TA6 := Lib.hid (TA5.out.below hb6); have TB6 := Lib.hid (TB5.out.below hb6); have E46 := Lib.hid (E45.out.below hb6); have E56 := Lib.hid (E5.out.below hb6); have N6 := Lib.hid e6
  clear hb6 e6 H6 TA5 TB5 E45 E5
  have H7 := Lib.hid (RMatch_at o2 o3 a b c2 c3 w6 (by omega) (by omega) TA6.out TB6.out)
  go_wp2_with (go_at_call 13; refine H7.out.mono ?_)
  rintro e w7 ⟨o7, c7, rfl, e7, hb7⟩
  have HB7 := Lib.hid (HB6.out.trans (hb7.mono HB6.out.size)); have TA7 := Lib.hid (TA6.out.below hb7); have TB7 := Lib.hid (TB6.out.below hb7); have E47 := Lib.hid (E46.out.below hb7); have E57 := Lib.hid (E56.out.below hb7); have N67 := Lib.hid (N6.out.below hb7); have N7 := Lib.hid e7
  clear hb7 e7 H7 TA6 TB6 E46 E56 N6
  have hl1 := diffL_len a b
  have hm1 : (matchL a b).length ≤ 40 := by rw [match_len]; exact hla
  obtain ⟨l, hl⟩ : ∃ l, (diffL a b).map edZ = l := ⟨_, rfl⟩
  have n1 : (diffL a b).length = l.length := by rw [← hl, List.length_map]
  rw [hl] at E47 E57
  rw [n1] at hl1 ⊢
  clear hl n1
  obtain ⟨m, hme⟩ : ∃ m, matchL a b = m := ⟨_, rfl⟩
  rw [hme] at N67 N7 hm1 ⊢
  obtain ⟨nl, hnl⟩ : ∃ n, l.length = n := ⟨_, rfl⟩
  obtain ⟨nm, hnm⟩ : ∃ n, m.length = n := ⟨_, rfl⟩
  have HNL := Lib.hid hnl; have HNM := Lib.hid hnm
  rw [hnl] at hl1 ⊢
  rw [hnm] at hm1 ⊢
  clear hme hnl hnm
  go_wp2_with fail
  go_loopw [11] (fun i wr => EdS nl w7 i wr) (fun i _ => nl - (intOf i).toNat)
  case atStart => exact ⟨0, Nat.zero_le _, rfl, Below.refl _ _⟩
  case round =>
    obtain ⟨k, hk, rfl, hb⟩ := hrel
    have HBB := Lib.hid hb
    clear hb
    by_cases hlt : k < nl
    · obtain ⟨p, hp⟩ : ∃ p, l[k]? = some p := ⟨_, List.getElem?_eq_getElem (by rw [HNL.out]; exact hlt)⟩
      obtain ⟨b1, i1, ho1, d10, d11⟩ := (E47.out.below HBB.out) k p hp
      obtain ⟨b2, i2, ho2, d20, d21⟩ := (E57.out.below HBB.out) k p hp
      subst ho1 ho2
      obtain ⟨op, s⟩ := p
      dsimp only at d10 d11 d20 d21
      have hki : (k : Int) < nl := by omega
      have q0 : ∀ W : World, (binOp .neq 36 (.agg #[.int .i64 op, .string s]) (.agg #[.int .i64 op, .string s])).run Try.prog W = .ok (.bool false) W := fun W => run_ne_rd op s W
      clear hp
      go_wp2_with fail
      go_quiet (fail)
      (first | (have _h : Nat := nq; clear _h) | rename_i nq)
      have HB2' := Lib.hid (below_drewN HBB.out nq)
      clear q0
      go_wp2_with fail
      go_roundw
      case rel => exact ⟨k + 1, hlt, by go_num, HB2'.out⟩
      case measure => simp [intOf]; omega
    · obtain rfl : k = nl := by omega
      obtain ⟨W8, hW8⟩ : ∃ W, W = wr := ⟨_, rfl⟩
      subst hW8
      have HB8 := Lib.hid (HB7.out.trans (HBB.out.mono HB7.out.size)); have TA8 := Lib.hid (TA7.out.below HBB.out); have TB8 := Lib.hid (TB7.out.below HBB.out); have N68 := Lib.hid (N67.out.below HBB.out); have N78 := Lib.hid (N7.out.below HBB.out)
      clear HBB
      go_wp2_with fail
      go_loopw [12] (fun i wr => EdS nm W8 i wr) (fun i _ => nm - (intOf i).toNat)
      case atStart => exact ⟨0, Nat.zero_le _, rfl, Below.refl _ _⟩
      case round =>
        obtain ⟨k, hk, rfl, hb⟩ := hrel
        have HBB := Lib.hid hb
        clear hb
        by_cases hlt : k < nm
        · obtain ⟨b1, i1, ho1, d1⟩ := (N68.out.below HBB.out) k (by rw [HNM.out]; exact hlt)
          obtain ⟨b2, i2, ho2, d2⟩ := (N78.out.below HBB.out) k (by rw [HNM.out]; exact hlt)
          subst ho1 ho2
          obtain ⟨x, hx⟩ : ∃ x, m.getD k 0 = x := ⟨_, rfl⟩
          rw [hx] at d1 d2
          have hki : (k : Int) < nm := by omega
          clear hx
          go_wp2_with fail
          go_quiet (fail)
          (first | (have _h : Nat := nq; clear _h) | rename_i nq)
          have HB2' := Lib.hid (below_drewN HBB.out nq)
          go_wp2_with fail
          go_roundw
          case rel => exact ⟨k + 1, hlt, by go_num, HB2'.out⟩
          case measure => simp [intOf]; omega
        · obtain rfl : k = nm := by omega
          have HB9 := Lib.hid (HB8.out.trans (HBB.out.mono HB8.out.size)); have TA9 := Lib.hid (TA8.out.below HBB.out); have TB9 := Lib.hid (TB8.out.below HBB.out)
          clear HBB
          have H9 := Lib.hid (Shifts_at o2 o3 a b c2 c3 wr (by omega) (by omega) TA9.out TB9.out)
          go_wp2_with (go_at_call 14; refine H9.out.mono ?_)
          rintro e w10 ⟨o10, c10, rfl, s10, hb10⟩
          have HB10 := Lib.hid (HB9.out.trans (hb10.mono HB9.out.size)); have TA10 := Lib.hid (TA9.out.below hb10); have TB10 := Lib.hid (TB9.out.below hb10); have S10 := Lib.hid s10
          clear hb10 s10 H9 N68 N78
          obtain ⟨ns, hns⟩ : ∃ n, (shL a b).length = n := ⟨_, rfl⟩
          have HNS := Lib.hid hns
          have hnsb : ns ≤ 40 := by rw [← hns]; exact Nat.le_trans (shF_le a b b.length) hlb
          rw [hns]
          obtain ⟨nb, hnb⟩ : ∃ n, b.length = n := ⟨_, rfl⟩
          have HNB := Lib.hid hnb
          rw [hnb] at hlb ⊢
          have H0 : Hid (EsS a b w10 (.int .i64 0) (.int .i64 0) w10) := Lib.hid ⟨0, Nat.zero_le _, rfl, rfl, Below.refl _ _⟩
          clear hns hnb
          go_wp2_with fail
          go_loopw [14, 15] (fun k j wr => EsS a b w10 k j wr) (fun _ j _ => nb - (intOf j).toNat)
          case atStart => exact H0.out
          case round =>
            obtain ⟨q, hq, rfl, rfl, hb⟩ := hrel
            rw [HNB.out] at hq
            have HBB := Lib.hid hb
            clear hb H0
            by_cases hlt : q < nb
            · have hqb : q < b.length := by rw [HNB.out]; exact hlt
              obtain ⟨hss, bY, iY, hoy, hcy⟩ := (TB10.out.below HBB.out) q hqb
              subst hoy
              have hfb := shF_le a b q
              have O1 := once_le a (itB b q)
              have O2 := once_le b (itB b q)
              have HAT := Lib.hid (fun h => sh_at (a := a) (b := b) (q := q) hqb h)
              have HNO := Lib.hid (fun h => sh_not (a := a) (b := b) (q := q) hqb h)
              have HYE := Lib.hid (fun h => sh_yes (a := a) (b := b) (q := q) hqb h)
              obtain ⟨s, hs⟩ : ∃ v, itB b q = v := ⟨_, rfl⟩
              have HSS := Lib.hid hss
              rw [hs] at hcy HSS O1 O2 HAT HNO HYE
              obtain ⟨x, hx⟩ : ∃ x, onceB a s = x := ⟨_, rfl⟩
              obtain ⟨y, hy⟩ : ∃ y, onceB b s = y := ⟨_, rfl⟩
              have HC1 : Hid (∀ n, Calls Try.prog 15 #[.slice o2 a.length c2, .string s] (wr.drewN n) fun e w'' => e = .returned (.int .i64 x) ∧ ∃ k, w'' = wr.drewN k) := Lib.hid (fun n => (Once_any o2 a c2 s (wr.drewN n) (by omega) HSS.out ((TA10.out.below HBB.out).below (below_drewN (Below.refl _ _) n))).mono fun e w'' h => by rw [← hx]; exact ⟨h.1, n, h.2⟩)
              have HC2 : Hid (∀ n, Calls Try.prog 15 #[.slice (some ⟨bY, iY, none⟩) nb c3, .string s] (wr.drewN n) fun e w'' => e = .returned (.int .i64 y) ∧ ∃ k, w'' = wr.drewN k) := Lib.hid (fun n => by
                have h := Once_any (some ⟨bY, iY, none⟩) b c3 s (wr.drewN n) (by rw [HNB.out]; omega) HSS.out ((TB10.out.below HBB.out).below (below_drewN (Below.refl _ _) n))
                rw [HNB.out] at h
                exact h.mono fun e w'' h => by rw [← hy]; exact ⟨h.1, n, h.2⟩)
              rw [hx, hy] at HAT HNO HYE
              rw [hx] at O1
              rw [hy] at O2
              have hqi : (q : Int) < nb := by omega
              clear hs hss hx hy
              go_wp2_with fail
              go_quiet ((go_at_call 15; first | with_reducible exact HC1.out _ | with_reducible exact HC2.out _))
              (first | (have _h : Nat := nq; clear _h) | rename_i nq)
              have HB2' := Lib.hid (below_drewN HBB.out nq)
              clear HC1 HC2
              by_cases hv : 0 ≤ x ∧ 0 ≤ y ∧ x ≠ y
              · obtain ⟨hat, hlt2, rfl, rfl⟩ := HAT.out hv
                have HY2 := Lib.hid (HYE.out hv)
                obtain ⟨lx, hlx⟩ : ∃ z, lastB a s = z := ⟨_, rfl⟩
                rw [hlx] at hat hv
                rw [hlx]
                obtain ⟨z, hz⟩ : ∃ z, (shF a b q).length = z := ⟨_, rfl⟩
                rw [hz] at hat hlt2 hfb HY2
                rw [hz]
                rw [HNS.out] at hlt2
                obtain ⟨g, hg, d0, d1, d2⟩ := (S10.out.below HB2'.out) z _ hat
                subst hg
                dsimp only at d0 d1 d2
                have hne : lx ≠ q := fun e => hv.2.2 (by rw [e])
                have e1 : (lx == q) = false := beq_eq_false_iff_ne.2 hne
                have e2 : ((lx : Int) == (q : Int)) = false := beq_eq_false_iff_ne.2 (by omega)
                have hzi : (z : Int) < ns := by omega
                have hzd : decide (ns ≤ z) = false := decide_eq_false (by omega)
                have hzdi : decide ((ns : Int) ≤ (z : Int)) = false := decide_eq_false (by omega)
                have q0 : ∀ W : World, (binOp .neq 42 (.agg #[.string s, .int .i64 (lx : Nat), .int .i64 (q : Nat)]) (.agg #[.string s, .int .i64 (lx : Nat), .int .i64 (q : Nat)])).run Try.prog W = .ok (.bool false) W := fun W => run_ne_sh lx q s W
                have hcy2 : (wr.drewN nq).cell? ⟨bY, iY + q, none⟩ = some (.string s) := hcy
                clear hat hv hne HAT HNO HYE hlx hcy
                generalize wr.drewN nq = wd at HB2' d0 d1 d2 hcy2 ⊢
                go_wp2_with fail
                go_quiet (fail)
                (first | (have _h : Nat := nq; clear _h) | rename_i nq)
                have HB3' := Lib.hid (below_drewN HB2'.out nq)
                clear q0 d0 d1 d2
                go_wp2_with fail
                go_roundw
                case rel => exact ⟨q + 1, by rw [HNB.out]; exact hlt, by go_num, by rw [HY2.out]; go_num, HB3'.out⟩
                case measure => simp [intOf]; omega
              · have HN2 := Lib.hid (HNO.out hv)
                have hways : x < 0 ∨ (¬ x < 0 ∧ y < 0) ∨ (¬ x < 0 ∧ ¬ y < 0 ∧ x = y) := by omega
                clear HAT HNO HYE hv
                rcases hways with h1 | ⟨h1, h2⟩ | ⟨h1, h2, rfl⟩
                · go_wp2_with fail
                  go_roundw
                  case rel => exact ⟨q + 1, by rw [HNB.out]; exact hlt, by go_num, by rw [HN2.out], HB2'.out⟩
                  case measure => simp [intOf]; omega
                · have e1 : decide (x < 0) = false := decide_eq_false h1
                  go_wp2_with fail
                  go_roundw
                  case rel => exact ⟨q + 1, by rw [HNB.out]; exact hlt, by go_num, by rw [HN2.out], HB2'.out⟩
                  case measure => simp [intOf]; omega
                · have e1 : decide (x < 0) = false := decide_eq_false h1
                  go_wp2_with fail
                  go_roundw
                  case rel => exact ⟨q + 1, by rw [HNB.out]; exact hlt, by go_num, by rw [HN2.out], HB2'.out⟩
                  case measure => simp [intOf]; omega
            · obtain rfl : q = nb := by omega
              have hF : (shF a b q).length = ns := by rw [← HNS.out, ← HNB.out]; rfl
              rw [hF]
              have HBE := Lib.hid (HB10.out.trans (HBB.out.mono HB10.out.size))
              clear hF
              go_wp2_with fail
              go_ret
              exact ⟨rfl, HBE.out⟩
end Go.Proofs.Ytmapddghlabaeaa
