/- Merges: the document's Parse. -/
import Derived.Test.YtmdhendfmhhniaaDoorMl
import Derived.Test.YtmdhendfmhhniaaDoorRo
import Derived.Test.YtmdhendfmhhniaaDoorPf
namespace Go.Proofs.YtmdhendfmhhniaaDoor
open Go.RowKit
variable {w w' : World}

theorem linG_no {x : ByteArray} (h : ¬ spAt x < x.size) : linG (pairOf x) = false := by
  have e : (pairOf x).2.size = 0 := by unfold pairOf; simp; omega
  unfold linG goodB
  rw [e]; simp
/-- What a line is read as, whatever it is. -/
theorem RLine_any (x : ByteArray) (hs : x.size ≤ 262144) : ∃ (a b : ByteArray), (linG (pairOf x) = true → pairOf x = (a, b)) ∧ ∀ w : World,
    Calls Tryd.prog 70 #[.string x] w fun e w' => e = .returned (.tuple #[.agg #[.string a, .string b], .bool (linG (pairOf x))]) ∧ Below w.heap.size w w' := by
  by_cases h : spAt x < x.size
  · exact ⟨(pairOf x).1, (pairOf x).2, fun _ => rfl, fun w => RLine_yes x w hs h⟩
  · refine ⟨⟨#[]⟩, ⟨#[]⟩, fun hg => ?_, fun w => ?_⟩
    · rw [linG_no h] at hg; cases hg
    · rw [linG_no h]; exact RLine_no x w hs h
def MpS (w : World) (S : ByteArray) (v f n : Value) (wr : World) : Prop :=
  ∃ (k m : Nat) (out : List PairB), k ≤ S.size ∧ out.length = m ∧ f = .int .i64 k ∧ n = .int .i64 ((m : Int) + 1) ∧ wr.ownsRow w.heap.size 67 2 v m (flatP out) ∧ restF rdM S 0 [] = restF rdM S k out ∧ m ≤ 4096 ∧ Below w.heap.size w wr
def MsS (S : ByteArray) (k : Nat) (wo : World) (t : Value) (wr : World) : Prop :=
  ∃ j : Nat, k ≤ j ∧ j ≤ nlAt S k ∧ t = .int .i64 j ∧ wr = wo
def MiS (out : List PairB) (p : PairB) (m : Nat) (wl : World) (i : Value) (wr : World) : Prop :=
  ∃ (j q : Nat), j ≤ m ∧ i = .int .i64 j ∧ rankN (out.take j) p = none ∧ wr = wl.drewN q
set_option maxHeartbeats 8000000 in
set_option maxRecDepth 100000 in
theorem RParseM_any (S : ByteArray) (w : World) (hS : S.size ≤ 262144) :
    Calls Tryd.prog 43 #[.string S] w fun e w' => ∃ v, e = .returned (.tuple #[v, .int .i64 (parseM S).2.1, .int .i64 (parseM S).2.2]) ∧ w'.ownsRow w.heap.size 67 2 v (parseM S).1.length (flatP (parseM S).1) ∧ Below w.heap.size w w' := by
  have hSi : (S.size : Int) ≤ 262144 := by omega
  have hpm : parseM S = restF rdM S 0 [] := parseL_eq rdM (by omega)
  have HPM := Lib.hid hpm
  obtain ⟨i1, hi1, hz0, hz1, hz2⟩ := info_parts info_rp
  have HI1 := Lib.hid hi1; have HZ0 := Lib.hid hz0; have HZ1 := Lib.hid hz1; have HZ2 := Lib.hid hz2
  clear hpm hi1 hz0 hz1 hz2
  go_enter Tryd.func43, Tryd.ntmps43
  go_wp2_with fail
  go_loopw [5, 6, 7] (fun v f n wr => MpS w S v f n wr) (fun _ f _ _ => S.size - (intOf f).toNat)
  case atStart => exact ⟨0, 0, [], Nat.zero_le _, rfl, rfl, rfl, World.ownsRow_nil _ _ _ _, rfl, Nat.zero_le _, Below.refl _ _⟩
  case round =>
    obtain ⟨k, m, out, hk, hm, rfl, rfl, hrow, hrest, hm4, hb⟩ := hrel
    have HROW := Lib.hid hrow; have HREST := Lib.hid hrest; have HB := Lib.hid hb; have HM := Lib.hid hm
    clear hrow hrest hb hm
    by_cases hlt : k < S.size
    · have hkS : (k : Int) < S.size := by omega
      have hge := nlAt_ge S k
      have hnle := nlAt_le (s := S) (k := k) hk
      obtain ⟨t, ht⟩ : ∃ t, nlAt S k = t := ⟨_, rfl⟩
      have HT := Lib.hid ht
      obtain ⟨x, hx⟩ : ∃ x, S.extract k t = x := ⟨_, rfl⟩
      have hxs : x.size ≤ 262144 := by rw [← hx]; simp; omega
      obtain ⟨a, b, hab, HLN⟩ := RLine_any x hxs
      obtain ⟨g, hg⟩ : ∃ g, linG (pairOf x) = g := ⟨_, rfl⟩
      have hst := restM_step (out := out) hlt
      rw [ht, HM.out] at hst
      have HE2 : Hid (∀ e, lineR out S k = .inr e → restF rdM S 0 [] = ([], (m : Int) + 1, e)) := Lib.hid (fun e h => by rw [HREST.out, hst, h])
      have HP2 : Hid (∀ p, lineR out S k = .inl p → restF rdM S 0 [] = restF rdM S (t + 1) (out ++ [p])) := Lib.hid (fun p h => by rw [HREST.out, hst, h])
      have HL6 : Hid (4096 ≤ m → lineR out S k = .inr 6) := Lib.hid (fun h => by unfold lineR; rw [if_pos (by rw [HM.out]; exact h)])
      have HLe : Hid (m < 4096 → t = S.size → lineR out S k = .inr 2) := Lib.hid (fun h h' => by unfold lineR; rw [if_neg (by rw [HM.out]; omega), if_pos (by rw [ht]; exact h')])
      have hlx : m < 4096 → t < S.size → lineR out S k = rdM out x := fun h h' => by unfold lineR; rw [if_neg (by rw [HM.out]; omega), if_neg (by rw [ht]; omega), ht, hx]
      have HL2 : Hid (m < 4096 → t < S.size → g = false → lineR out S k = .inr 2) := Lib.hid (fun h h' h2 => by
        rw [hlx h h']; unfold rdM
        rw [h2] at hg
        rw [if_neg (by unfold linG at hg; rw [hg]; exact Bool.false_ne_true)])
      have HL10 : Hid (m < 4096 → t < S.size → g = true → (∃ i, rankN out (a, b) = some i) → lineR out S k = .inr 10) := Lib.hid (fun h h' h2 ⟨i, h3⟩ => by
        rw [hlx h h']; unfold rdM
        rw [h2] at hg
        have hp := hab hg
        rw [hp] at hg ⊢
        rw [if_pos (by unfold linG at hg; exact hg), if_pos (by rw [h3]; rfl)])
      have HLp : Hid (m < 4096 → t < S.size → g = true → rankN out (a, b) = none → lineR out S k = .inl (a, b)) := Lib.hid (fun h h' h2 h3 => by
        rw [hlx h h']; unfold rdM
        rw [h2] at hg
        have hp := hab hg
        rw [hp] at hg ⊢
        rw [if_pos (by unfold linG at hg; exact hg), if_neg (by rw [h3]; exact Bool.false_ne_true)])
      rw [hg] at HLN
      rw [← hx] at HLN
      have HLN := Lib.hid HLN
      have HNOT : Hid (∀ j, k ≤ j → j < t → ∀ hjs : j < S.size, S[j] ≠ 10) := Lib.hid (fun j h1 h2 hjs => nl_not h1 (by rw [ht]; exact h2) hjs)
      have HAT : Hid (∀ h : t < S.size, S[t] = 10) := Lib.hid (by subst ht; exact nl_at _ k rfl hk)
      rw [ht] at hge hnle
      clear ht hst hlx hab hg hx hxs
      obtain ⟨wo, hwo⟩ : ∃ wo, wo = wr := ⟨_, rfl⟩
      subst hwo
      go_wp2_with fail
      go_loopw [8] (fun t wq => MsS S k wo t wq) (fun t _ => S.size - (intOf t).toNat)
      case atStart => exact ⟨k, Nat.le_refl _, by rw [HT.out]; exact hge, rfl, rfl⟩
      case round =>
        obtain ⟨j, hkj, hjt, rfl, rfl⟩ := hrel
        rw [HT.out] at hjt
        by_cases hj : j < t
        · have hjs : j < S.size := by omega
          have hjsi : (j : Int) < S.size := by omega
          have hc10 : ¬ (S[j].toNat : Int) = 10 := fun e => HNOT.out j hkj hj hjs (UInt8.toNat_inj.1 (by show S[j].toNat = 10; omega))
          go_wp2_with fail
          go_roundw
          case rel => exact ⟨j + 1, by omega, by rw [HT.out]; omega, by rw [Int.natCast_succ], rfl⟩
          case measure => simp [intOf]; omega
        · have hjt2 : j = t := by omega
          subst hjt2
          have HOUT : Hid (∀ W, Below w.heap.size w W → ∀ e : Int, restF rdM S 0 [] = ([], (m : Int) + 1, e) → ∃ v, Ending.returned (.tuple #[.slice none 0 0, .int .i64 ((m : Int) + 1), .int .i64 e]) = .returned (.tuple #[v, .int .i64 (parseM S).2.1, .int .i64 (parseM S).2.2]) ∧ W.ownsRow w.heap.size 67 2 v (parseM S).1.length (flatP (parseM S).1) ∧ Below w.heap.size w W) := Lib.hid (fun W hW e he => ⟨.slice none 0 0, by rw [HPM.out, he], by rw [HPM.out, he]; exact World.ownsRow_nil _ _ _ _, hW⟩)
          by_cases hmm : m < 4096
          · have hmi : (m : Int) + 1 ≤ 4096 := by omega
            by_cases hts : j = S.size
            · have HE := Lib.hid (HE2.out _ (HLe.out hmm hts))
              subst hts
              clear HNOT HAT
              go_wp2_with (go_at_call 70; (with_reducible refine (HLN.out _).mono ?_); rintro e w2 ⟨rfl, hb2⟩; have HB2 := Lib.hid (HB.out.trans (hb2.mono HB.out.size)); clear hb2)
              refine bodyPost_ret (v := .tuple #[.slice none 0 0, .int .i64 ((m : Int) + 1), .int .i64 2]) (by simp [results, Tryd.results43, go_sem]) rfl (HOUT.out _ (HB2.out.alloc HB2.out.size _) 2 HE.out)
            · have hjs : j < S.size := by omega
              have hjsi : (j : Int) < S.size := by omega
              have hjne : ¬ (j : Int) = S.size := by omega
              have hc10 : (S[j].toNat : Int) = 10 := by rw [HAT.out hjs]; rfl
              clear HNOT HAT HLe HL6
              cases g with
              | false =>
                have HE := Lib.hid (HE2.out _ (HL2.out hmm hjs rfl))
                go_wp2_with (go_at_call 70; (with_reducible refine (HLN.out _).mono ?_); rintro e w2 ⟨rfl, hb2⟩; have HB2 := Lib.hid (HB.out.trans (hb2.mono HB.out.size)); clear hb2)
                refine bodyPost_ret (v := .tuple #[.slice none 0 0, .int .i64 ((m : Int) + 1), .int .i64 2]) (by simp [results, Tryd.results43, go_sem]) rfl (HOUT.out _ (HB2.out.alloc HB2.out.size _) 2 HE.out)
              | true =>
                have HLt := Lib.hid (HL10.out hmm hjs rfl); have HLq := Lib.hid (HLp.out hmm hjs rfl)
                go_wp2_with (go_at_call 70; (with_reducible refine (HLN.out _).mono ?_); rintro e w2 ⟨rfl, hb2⟩; have HB2 := Lib.hid (HB.out.trans (hb2.mono HB.out.size)); have HR2 := Lib.hid (own_below HROW.out hb2); clear hb2)
                obtain ⟨W3, hW3⟩ : ∃ W3, w2.alloc (.cells #[.string a, .string b] 67) = W3 := ⟨_, rfl⟩
                have hrow3 : W3.heap[w2.heap.size]? = some (.cells #[.string a, .string b] 67 (0, 0)) := by rw [← hW3]; exact World.alloc_heap_new w2 _
                have HB3 : Hid (Below w.heap.size w W3) := Lib.hid (by rw [← hW3]; exact HB2.out.alloc HB2.out.size _)
                have HR3 : Hid (W3.ownsRow w.heap.size 67 2 u5 m (flatP out)) := Lib.hid (by rw [← hW3]; exact HR2.out.alloc _)
                rw [hW3]
                obtain ⟨o, cap, hv, hpr⟩ := own_pairs (t := 67) (l := out) (by rw [HM.out]; exact HR3.out)
                rw [HM.out] at hv
                subst hv
                have HPR := Lib.hid hpr; have HRW3 := Lib.hid hrow3
                clear hW3 hpr hrow3 HR2 HB2 HLN HROW HB
                go_wp2_with fail
                go_loopw [11] (fun i wq => MiS out (a, b) m W3 i wq) (fun i _ => m - (intOf i).toNat)
                case atStart => exact ⟨0, 0, Nat.zero_le _, rfl, rfl, rfl⟩
                case round =>
                  obtain ⟨y, q, hy, rfl, hno, hw⟩ := hrel
                  have HNO := Lib.hid hno; have HW := Lib.hid hw
                  have HBW : Hid (Below W3.heap.size W3 wr) := Lib.hid (by rw [hw]; exact below_drewN (Below.refl _ _) q)
                  have hrw : wr.heap[w2.heap.size]? = some (.cells #[.string a, .string b] 67 (0, 0)) := (HBW.out.block _ (lt_of_some HRW3.out)).trans HRW3.out
                  have c0 : wr.cell? ⟨w2.heap.size, 0, none⟩ = some (.string a) := cell_of_row hrw
                  have c1 : wr.cell? ⟨w2.heap.size, 1, none⟩ = some (.string b) := cell_of_row hrw
                  clear hno hw hrw
                  by_cases hlm : y < m
                  · obtain ⟨pq, hpq⟩ : ∃ p, out[y]? = some p := ⟨_, List.getElem?_eq_getElem (by rw [HM.out]; exact hlm)⟩
                    obtain ⟨g1, cur1, ho1, _, d0, d1⟩ := (HPR.out.below HBW.out) y pq hpq
                    subst ho1
                    have HQ := Lib.hid (rank_at hpq HNO.out)
                    obtain ⟨q1, q2⟩ := pq
                    simp only at d0 d1
                    have hgd : Tryd.prog.eqGuardType Tryd.prog.depth 67 = false := by kernel_rfl
                    clear hpq
                    by_cases he : (q1, q2) = (a, b)
                    · have heq : ∀ W : World, (binOp .eql 67 (.agg #[.string q1, .string q2]) (.agg #[.string a, .string b])).run Tryd.prog W = .ok (.bool true) W := fun W => by rw [run_eq_rp, decide_eq_true he]
                      have HE := Lib.hid (HE2.out _ (HLt.out ⟨_, HQ.out.1 he⟩))
                      clear he
                      go_wp2_with fail
                      go_quiet (fail)
                      first | (have _h : Below W3.heap.size W3 (wr.drewN nq) := below_drewN HBW.out nq) | rename_i nq
                      have HF := Lib.hid (below_drewN (HB3.out.trans (HBW.out.mono HB3.out.size)) nq)
                      generalize wr.drewN nq = wd at HF ⊢
                      clear heq c0 c1 d0 d1
                      go_wp2_with fail
                      refine bodyPost_ret (v := .tuple #[.slice none 0 0, .int .i64 ((m : Int) + 1), .int .i64 10]) (by simp [results, Tryd.results43, go_sem]) rfl (HOUT.out _ HF.out 10 HE.out)
                    · have heq : ∀ W : World, (binOp .eql 67 (.agg #[.string q1, .string q2]) (.agg #[.string a, .string b])).run Tryd.prog W = .ok (.bool false) W := fun W => by rw [run_eq_rp, decide_eq_false he]
                      have HE := Lib.hid (HQ.out.2 he)
                      clear he
                      go_wp2_with fail
                      go_quiet (fail)
                      first | (have _h : Below W3.heap.size W3 (wr.drewN nq) := below_drewN HBW.out nq) | rename_i nq
                      have HWN : Hid (∃ q, wr.drewN nq = W3.drewN q) := Lib.hid ⟨_, by rw [HW.out]; simp only [World.drewN_drewN]; rfl⟩
                      generalize wr.drewN nq = wd at HWN ⊢
                      clear heq c0 c1 d0 d1
                      go_wp2_with fail
                      go_roundw
                      case rel =>
                        obtain ⟨q', hq'⟩ := HWN.out
                        exact ⟨y + 1, q', by omega, by rw [Int.natCast_succ], HE.out, hq'⟩
                      case measure => simp [intOf]; omega
                  · have hym : y = m := by omega
                    subst hym
                    have hrn : rankN out (a, b) = none := by rw [← HNO.out, List.take_of_length_le (by rw [HM.out]; exact Nat.le_refl _)]
                    have HE := Lib.hid (HP2.out _ (HLq.out hrn))
                    have HRq := Lib.hid (own_below HR3.out HBW.out)
                    have HBq := Lib.hid (HB3.out.trans (HBW.out.mono HB3.out.size))
                    clear hrn
                    go_wp2_with (at_builtin; refine wpList_append_own _ rfl _ _ 26 rfl w.heap.size 67 i1 (.agg #[.string ⟨#[]⟩, .string ⟨#[]⟩]) 2 32 Tryd.underlying26 HI1.out HZ0.out HZ1.out HZ2.out rfl (by decide) _ _ _ rfl (HRq.out.alloc _) ⟨wr.heap.size, 0, none⟩ 1 1 [.string a, .string b] rfl rfl (cell_two_new _ _ _ _) two_mem (by unfold maxLen; omega) (by omega) (by have := HBq.out.size; simp; omega) ?_; intro v' w4 hown hgrow _)
                    have HEND : Hid (MpS w S v' (.int .i64 ((j : Int) + 1)) (.int .i64 ((y : Int) + 1 + 1)) w4) := Lib.hid ⟨j + 1, y + 1, out ++ [(a, b)], by omega, by rw [List.length_append, HM.out]; rfl, by rw [Int.natCast_succ], by rw [Int.natCast_succ], by rw [flatP_snoc]; exact hown, HE.out, by omega, (HBq.out.alloc HBq.out.size _).grown hgrow (by have := HBq.out.size; simp; omega) (own_base HRq.out)⟩
                    clear hown hgrow
                    go_wp2_with fail
                    go_roundw
                    case rel => first | exact HEND.out | ((repeat (apply Exists.intro)); exact ⟨HEND.out, rfl⟩)
                    case measure => first | (simp [intOf]; done) | (simp [intOf]; omega)
          · have hm6 : m = 4096 := by omega
            subst hm6
            have HE := Lib.hid (HE2.out _ (HL6.out (Nat.le_refl _)))
            by_cases hts : j = S.size
            · have htsi : (j : Int) = S.size := by omega
              go_wp2_with fail
              refine bodyPost_ret (v := .tuple #[.slice none 0 0, .int .i64 4097, .int .i64 6]) (by simp [results, Tryd.results43, go_sem]) rfl (HOUT.out _ HB.out 6 HE.out)
            · have hjs : j < S.size := by omega
              have hjsi : (j : Int) < S.size := by omega
              have hc10 : (S[j].toNat : Int) = 10 := by rw [HAT.out hjs]; rfl
              go_wp2_with fail
              refine bodyPost_ret (v := .tuple #[.slice none 0 0, .int .i64 4097, .int .i64 6]) (by simp [results, Tryd.results43, go_sem]) rfl (HOUT.out _ HB.out 6 HE.out)
    · have hkS : k = S.size := by omega
      have HE := Lib.hid (show restF rdM S 0 [] = (out, 0, 0) by rw [HREST.out, restF_end rdM out (by omega)])
      obtain ⟨o, cap, hv, _⟩ := own_pairs (by rw [← HM.out] at HROW; exact HROW.out)
      go_wp2_with fail
      refine bodyPost_ret (v := .tuple #[u5, .int .i64 0, .int .i64 0]) (by simp [results, Tryd.results43, go_sem]) rfl ⟨u5, by rw [HPM.out, HE.out], by rw [HPM.out, HE.out, HM.out]; exact HROW.out, HB.out⟩
end Go.Proofs.YtmdhendfmhhniaaDoor
