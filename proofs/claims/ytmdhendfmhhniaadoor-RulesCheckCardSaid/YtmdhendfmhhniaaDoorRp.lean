/- Rules: the document's Parse. -/
import Derived.Test.YtmdhendfmhhniaaDoorRo
import Derived.Test.YtmdhendfmhhniaaDoorRg
import Derived.Deep.AppendLies
import Derived.Deep.DrawnRows
namespace Go.Proofs.YtmdhendfmhhniaaDoor
open Go.RowKit
variable {w w' : World}

theorem info_r10 : (Tryd.prog.info? 148).map (fun i => (i.zero, i.size, i.bytes)) = some (some (.agg #[.string ⟨#[]⟩, .string ⟨#[]⟩]), 2, 32) := by kernel_rfl
def RpS (w : World) (S : ByteArray) (v f n : Value) (wr : World) : Prop :=
  ∃ (k m : Nat) (out : List PairB), k ≤ S.size ∧ out.length = m ∧ f = .int .i64 k ∧ n = .int .i64 ((m : Int) + 1) ∧ wr.ownsRow w.heap.size 148 2 v m (flatP out) ∧ restF rdR S 0 [] = restF rdR S k out ∧ m ≤ 4096 ∧ Below w.heap.size w wr
def RsS (S : ByteArray) (k : Nat) (wo : World) (t b o : Value) (wr : World) : Prop :=
  ∃ j : Nat, k ≤ j ∧ j ≤ nlAt S k ∧ t = .int .i64 j ∧ b = .int .i64 (blV k (lnL S k j)) ∧ o = .bool ((lnL S k j).all patC) ∧ wr = wo
set_option maxHeartbeats 8000000 in
set_option maxRecDepth 100000 in
theorem RParseR_any (S : ByteArray) (w : World) (hS : S.size ≤ 262144) :
    Calls Tryd.prog 46 #[.string S] w fun e w' => ∃ v, e = .returned (.tuple #[v, .int .i64 (parseR S).2.1, .int .i64 (parseR S).2.2]) ∧ w'.ownsRow w.heap.size 148 2 v (parseR S).1.length (flatP (parseR S).1) ∧ Below w.heap.size w w' := by
  have hSi : (S.size : Int) ≤ 262144 := by omega
  have hpm : parseR S = restF rdR S 0 [] := parseL_eq rdR (by omega)
  have HPM := Lib.hid hpm
  obtain ⟨i1, hi1, hz0, hz1, hz2⟩ := info_parts info_r10
  have HI1 := Lib.hid hi1; have HZ0 := Lib.hid hz0; have HZ1 := Lib.hid hz1; have HZ2 := Lib.hid hz2
  clear hpm hi1 hz0 hz1 hz2
  go_enter Tryd.func46, Tryd.ntmps46
  go_wp2_with fail
  go_loopw [5, 6, 7] (fun v f n wr => RpS w S v f n wr) (fun _ f _ _ => S.size - (intOf f).toNat)
  case atStart => exact ⟨0, 0, [], Nat.zero_le _, rfl, rfl, rfl, World.ownsRow_nil _ _ _ _, rfl, Nat.zero_le _, Below.refl _ _⟩
  case round =>
    obtain ⟨k, m, out, hk, hm, rfl, rfl, hrow, hrest, hm4, hb⟩ := hrel
    have HROW := Lib.hid hrow; have HREST := Lib.hid hrest; have HB := Lib.hid hb; have HM := Lib.hid hm
    clear hrow hrest hb hm
    by_cases hlt : k < S.size
    · have hkS : (k : Int) < S.size := by omega
      by_cases hmm : m < 4096
      · have hmi : (m : Int) + 1 ≤ 4096 := by omega
        have hge := nlAt_ge S k
        have hnle := nlAt_le (s := S) (k := k) hk
        obtain ⟨t, ht⟩ : ∃ t, nlAt S k = t := ⟨_, rfl⟩
        have HT := Lib.hid ht
        have HST : Hid (restF rdR S 0 [] = match lineQ out S k with | .inr e => ([], (m : Int) + 1, e) | .inl x => restF rdR S (t + 1) (out ++ [x])) := Lib.hid (by rw [HREST.out, restR_step hlt, ht, HM.out]; cases lineQ out S k <;> rfl)
        have HLQ : Hid (t < S.size → lineQ out S k = rdR out (S.extract k t)) := Lib.hid (fun h => by unfold lineQ; rw [if_neg (by rw [HM.out]; omega), if_neg (by rw [ht]; omega), ht])
        have HLE : Hid (t = S.size → lineQ out S k = .inr 2) := Lib.hid (fun h => by unfold lineQ; rw [if_neg (by rw [HM.out]; omega), if_pos (by rw [ht]; exact h)])
        have HNOT : Hid (∀ j, k ≤ j → j < t → ∀ hjs : j < S.size, S[j] ≠ 10) := Lib.hid (fun j h1 h2 hjs => nl_not h1 (by rw [ht]; exact h2) hjs)
        have HAT : Hid (∀ h : t < S.size, S[t] = 10) := Lib.hid (by subst ht; exact nl_at _ k rfl hk)
        rw [ht] at hge hnle
        clear ht
        obtain ⟨wo, hwo⟩ : ∃ wo, wo = wr := ⟨_, rfl⟩
        subst hwo
        go_wp2_with fail
        go_loopw [8, 9, 10] (fun t b o wq => RsS S k wo t b o wq) (fun t _ _ _ => S.size - (intOf t).toNat)
        case atStart => exact ⟨k, Nat.le_refl _, by rw [HT.out]; exact hge, rfl, by rw [lnL_self]; rfl, by rw [lnL_self]; rfl, rfl⟩
        case round =>
          obtain ⟨j, hkj, hjt, rfl, rfl, rfl, rfl⟩ := hrel
          rw [HT.out] at hjt
          by_cases hj : j < t
          · have hjs : j < S.size := by omega
            have hjsi : (j : Int) < S.size := by omega
            have hc10 : ¬ (S[j].toNat : Int) = 10 := fun e => HNOT.out j hkj hj hjs (UInt8.toNat_inj.1 (by show S[j].toNat = 10; omega))
            have hx1 : (S[j].toNat : Int) < 256 := by have := S[j].toNat_lt; omega
            have HSU := Lib.hid (lnL_succ hkj hjs)
            have hL := lnL_len (S := S) (k := k) (j := j) (by omega)
            have HREL : Hid (∀ (b : Int) (o : Bool), blV k (lnL S k (j + 1)) = b → (lnL S k (j + 1)).all patC = o → RsS S k wr (.int .i64 ((j : Int) + 1)) (.int .i64 b) (.bool o) wr) := Lib.hid (fun b o h1 h2 => ⟨j + 1, by omega, by rw [HT.out]; omega, by rw [Int.natCast_succ], by rw [h1], by rw [h2], rfl⟩)
            have HAL : Hid ((lnL S k (j + 1)).all patC = ((lnL S k j).all patC && patC S[j])) := Lib.hid (by rw [HSU.out, List.all_append]; simp)
            by_cases hc : (S[j].toNat : Int) = 32
            · have h32 : S[j] = 32 := UInt8.toNat_inj.1 (by show S[j].toNat = 32; omega)
              have HP : Hid (patC S[j] = true) := Lib.hid (by rw [h32]; decide)
              by_cases hsp : spL (lnL S k j) < (lnL S k j).length
              · have HBK := Lib.hid (show blV k (lnL S k (j + 1)) = blV k (lnL S k j) by rw [HSU.out]; exact blV_keep (.inl hsp))
                obtain ⟨z, hz⟩ : ∃ z : Int, blV k (lnL S k j) = z := ⟨_, rfl⟩
                have hz0 : ¬ z < 0 := by rw [← hz, blV_some hsp]; omega
                rw [hz] at HBK ⊢
                clear hz hsp h32 hL
                cases ho : (lnL S k j).all patC
                all_goals
                  rw [ho, HP.out] at HAL
                  clear ho
                  go_wp2_with fail
                  go_roundw
                  case rel => exact HREL.out _ _ HBK.out HAL.out
                  case measure => simp [intOf]; omega
              · have HBK := Lib.hid (show blV k (lnL S k (j + 1)) = (j : Int) by rw [HSU.out, h32, blV_hit hsp, hL]; omega)
                have hz : blV k (lnL S k j) = -1 := blV_none hsp
                rw [hz]
                clear hz hsp h32 hL
                cases ho : (lnL S k j).all patC
                all_goals
                  rw [ho, HP.out] at HAL
                  clear ho
                  go_wp2_with fail
                  go_roundw
                  case rel => exact HREL.out _ _ HBK.out HAL.out
                  case measure => simp [intOf]; omega
            · have HBK := Lib.hid (show blV k (lnL S k (j + 1)) = blV k (lnL S k j) by rw [HSU.out]; exact blV_keep (.inr (fun e => hc (by rw [e]; rfl))))
              obtain ⟨z, hz⟩ : ∃ z : Int, blV k (lnL S k j) = z := ⟨_, rfl⟩
              rw [hz] at HBK ⊢
              clear hz hL
              cases ho : (lnL S k j).all patC
              · rw [ho, Bool.false_and] at HAL
                clear ho
                go_wp2_with fail
                go_roundw
                case rel => exact HREL.out _ _ HBK.out HAL.out
                case measure => simp [intOf]; omega
              · rw [ho, Bool.true_and] at HAL
                clear ho
                by_cases hlo : (S[j].toNat : Int) < 32
                · have HP : Hid (patC S[j] = false) := Lib.hid (by unfold patC; simp; omega)
                  rw [HP.out] at HAL
                  go_wp2_with fail
                  go_roundw
                  case rel => exact HREL.out _ _ HBK.out HAL.out
                  case measure => simp [intOf]; omega
                · have hlo' : 32 ≤ (S[j].toNat : Int) := by omega
                  by_cases hhi : 126 < (S[j].toNat : Int)
                  · have HP : Hid (patC S[j] = false) := Lib.hid (by unfold patC; simp; omega)
                    rw [HP.out] at HAL
                    go_wp2_with fail
                    go_roundw
                    case rel => exact HREL.out _ _ HBK.out (by rw [HAL.out]; symm; exact decide_eq_false (by omega))
                    case measure => simp [intOf]; omega
                  · have hhi' : (S[j].toNat : Int) ≤ 126 := by omega
                    have HP : Hid (patC S[j] = true) := Lib.hid (by unfold patC; simp; omega)
                    rw [HP.out] at HAL
                    go_wp2_with fail
                    go_roundw
                    case rel => exact HREL.out _ _ HBK.out HAL.out
                    case measure => simp [intOf]; omega
          · have hjt2 : j = t := by omega
            subst hjt2
            have HOUT : Hid (∀ W, Below w.heap.size w W → ∀ e : Int, restF rdR S 0 [] = ([], (m : Int) + 1, e) → ∃ v, Ending.returned (.tuple #[.slice none 0 0, .int .i64 ((m : Int) + 1), .int .i64 e]) = .returned (.tuple #[v, .int .i64 (parseR S).2.1, .int .i64 (parseR S).2.2]) ∧ W.ownsRow w.heap.size 148 2 v (parseR S).1.length (flatP (parseR S).1) ∧ Below w.heap.size w W) := Lib.hid (fun W hW e he => ⟨.slice none 0 0, by rw [HPM.out, he], by rw [HPM.out, he]; exact World.ownsRow_nil _ _ _ _, hW⟩)
            by_cases hts : j = S.size
            · have HE := Lib.hid (show restF rdR S 0 [] = ([], (m : Int) + 1, 2) by rw [HST.out, HLE.out hts])
              have htsi : (j : Int) = S.size := by omega
              generalize blV k (lnL S k j) = z
              generalize (lnL S k j).all patC = ok
              clear HNOT HAT HST HLE HLQ
              go_wp2_with fail
              refine bodyPost_ret (v := .tuple #[.slice none 0 0, .int .i64 ((m : Int) + 1), .int .i64 2]) (by simp [results, Tryd.results46, go_sem]) rfl (HOUT.out _ HB.out 2 HE.out)
            · have hjs : j < S.size := by omega
              have hjsi : (j : Int) < S.size := by omega
              have hc10 : (S[j].toNat : Int) = 10 := by rw [HAT.out hjs]; rfl
              have HL2 := Lib.hid (show restF rdR S 0 [] = match rdR out (S.extract k j) with | .inr e => ([], (m : Int) + 1, e) | .inl x => restF rdR S (j + 1) (out ++ [x]) by rw [HST.out, HLQ.out hjs]; try (cases rdR out (S.extract k j) <;> rfl))
              have HL2E : Hid (∀ e, rdR out (S.extract k j) = .inr e → restF rdR S 0 [] = ([], (m : Int) + 1, e)) := Lib.hid (fun e h => by rw [HL2.out, h])
              have HL2P : Hid (∀ x, rdR out (S.extract k j) = .inl x → restF rdR S 0 [] = restF rdR S (j + 1) (out ++ [x])) := Lib.hid (fun x h => by rw [HL2.out, h])
              clear HST HLE HLQ HAT HNOT
              have hlen := lnL_len (S := S) (k := k) (j := j) (by omega)
              by_cases hsp : spL (lnL S k j) < (lnL S k j).length
              · have hp12 := line_parts hkj (by omega) hsp
                have hq := line_Q hkj (by omega) hsp
                have hbv := blV_some (k := k) hsp
                have hall := line_all (S := S) (k := k) (t := j)
                obtain ⟨b, hb⟩ : ∃ b, k + spL (lnL S k j) = b := ⟨_, rfl⟩
                rw [hb] at hp12 hq hbv
                have hbj : b < j := by omega
                have hkb : k ≤ b := by omega
                have hbi : ¬ ((b : Int) < 0) := by omega
                rw [hbv]
                obtain ⟨h1, h2⟩ := hp12
                have HP1 := Lib.hid h1; have HP2 := Lib.hid h2; have HQ := Lib.hid hq; have HALL := Lib.hid hall
                clear h1 h2 hq hbv hall hb hsp hlen
                cases ho : (lnL S k j).all patC with
                | false =>
                  have HE := Lib.hid (show restF rdR S 0 [] = ([], (m : Int) + 1, 2) by
                    rw [HL2.out, rdR_no (by
                      cases hg : (goodN (pairOf (S.extract k j)).1 && goodQ (pairOf (S.extract k j)).2) with
                      | false => rfl
                      | true => have := HALL.out hg; rw [ho] at this; cases this)])
                  clear ho
                  go_wp2_with fail
                  refine bodyPost_ret (v := .tuple #[.slice none 0 0, .int .i64 ((m : Int) + 1), .int .i64 2]) (by simp [results, Tryd.results46, go_sem]) rfl (HOUT.out _ HB.out 2 HE.out)
                | true =>
                  have HQ := Lib.hid (HQ.out ho)
                  clear ho HALL
                  obtain ⟨nm, hnm⟩ : ∃ nm, S.extract k b = nm := ⟨_, rfl⟩
                  have hns : nm.size ≤ 262144 := by rw [← hnm]; simp; omega
                  have HG := fun W => RGoodN_any nm W (by unfold maxLen; omega)
                  rw [← hnm] at HG
                  have HNM := Lib.hid hnm
                  clear hnm
                  cases hgn : goodN nm with
                  | false =>
                    have HG : Hid (∀ W, Calls Tryd.prog 72 #[.string (S.extract k b)] W fun e w' => e = .returned (.bool false) ∧ w' = W) := Lib.hid (fun W => by have := HG W; rw [HNM.out, hgn] at this; rw [HNM.out]; exact this)
                    have HE := Lib.hid (show restF rdR S 0 [] = ([], (m : Int) + 1, 2) by rw [HL2.out, rdR_no (by rw [HP1.out, HNM.out, hgn]; rfl)])
                    clear hgn
                    go_wp2_with (go_at_call 72; (with_reducible refine (HG.out _).mono ?_); rintro e w2 ⟨rfl, rfl⟩)
                    refine bodyPost_ret (v := .tuple #[.slice none 0 0, .int .i64 ((m : Int) + 1), .int .i64 2]) (by simp [results, Tryd.results46, go_sem]) rfl (HOUT.out _ HB.out 2 HE.out)
                  | true =>
                    have HG : Hid (∀ W, Calls Tryd.prog 72 #[.string (S.extract k b)] W fun e w' => e = .returned (.bool true) ∧ w' = W) := Lib.hid (fun W => by have := HG W; rw [HNM.out, hgn] at this; rw [HNM.out]; exact this)
                    have HGN := Lib.hid hgn
                    clear hgn
                    by_cases h2 : j - b < 2
                    · have HE := Lib.hid (show restF rdR S 0 [] = ([], (m : Int) + 1, 2) by rw [HL2.out, rdR_no (by rw [HP2.out, HQ.out, Bool.and_eq_false_iff]; right; rw [Bool.and_eq_false_iff]; left; exact decide_eq_false (by omega))])
                      have h2i : (j : Int) - b < 2 := by omega
                      go_wp2_with (go_at_call 72; (with_reducible refine (HG.out _).mono ?_); rintro e w2 ⟨rfl, rfl⟩)
                      refine bodyPost_ret (v := .tuple #[.slice none 0 0, .int .i64 ((m : Int) + 1), .int .i64 2]) (by simp [results, Tryd.results46, go_sem]) rfl (HOUT.out _ HB.out 2 HE.out)
                    · have h2i : ¬ (j : Int) - b < 2 := by omega
                      by_cases h257 : 257 < j - b
                      · have HE := Lib.hid (show restF rdR S 0 [] = ([], (m : Int) + 1, 2) by rw [HL2.out, rdR_no (by rw [HP2.out, HQ.out, Bool.and_eq_false_iff]; right; rw [Bool.and_eq_false_iff]; right; exact decide_eq_false (by omega))])
                        have h257i : 257 < (j : Int) - b := by omega
                        go_wp2_with (go_at_call 72; (with_reducible refine (HG.out _).mono ?_); rintro e w2 ⟨rfl, rfl⟩)
                        refine bodyPost_ret (v := .tuple #[.slice none 0 0, .int .i64 ((m : Int) + 1), .int .i64 2]) (by simp [results, Tryd.results46, go_sem]) rfl (HOUT.out _ HB.out 2 HE.out)
                      · obtain ⟨pt, hpt⟩ : ∃ pt, S.extract (b + 1) j = pt := ⟨_, rfl⟩
                        have hrd := rdR_in (out := out) HP1.out HP2.out (by rw [HNM.out]; exact HGN.out) (by rw [HQ.out, Bool.and_eq_true]; exact ⟨decide_eq_true (by omega), decide_eq_true (by omega)⟩)
                        rw [HNM.out, hpt] at hrd
                        have HRT : Hid (leB nm (lastN out) = true → rdR out (S.extract k j) = .inr 12) := Lib.hid (fun h => by rw [hrd, h]; exact if_pos rfl)
                        have HRF : Hid (leB nm (lastN out) = false → rdR out (S.extract k j) = .inl (nm, pt)) := Lib.hid (fun h => by rw [hrd, h]; exact if_neg Bool.false_ne_true)
                        have HPT := Lib.hid hpt
                        clear hrd hpt
                        have h257i : (j : Int) - b ≤ 257 := by omega
                        have hns0 : 0 < nm.size := (goodN_size HGN.out).1
                        have HLB := Lib.hid (leB_flip nm (lastN out))
                        have HNM2 := Lib.hid (show S.extract k b = nm from HNM.out)
                        obtain ⟨o, cap, hv, hpr⟩ := own_pairs (t := 148) (l := out) (by rw [HM.out]; exact HROW.out)
                        have HPR := Lib.hid hpr
                        rw [HM.out] at hv
                        subst hv
                        clear hpr
                        rcases Nat.eq_zero_or_pos m with hm0 | hm0
                        · subst hm0
                          have hout : out = [] := List.eq_nil_of_length_eq_zero HM.out
                          subst hout
                          have HE := Lib.hid (show restF rdR S 0 [] = restF rdR S (j + 1) ([] ++ [(nm, pt)]) from HL2P.out _ (HRF.out (leB_nil hns0)))
                          clear hns0
                          go_wp2_with (go_at_call 72; (with_reducible refine (HG.out _).mono ?_); rintro e w2 ⟨rfl, rfl⟩)
                          all_goals try (exfalso; rename_i hx; rcases hx with (hx | hx) | hx <;> first | omega | (rw [beq_iff_eq] at hx; omega))
                          go_quiet (fail)
                          have HB2 := Lib.hid (below_drewN HB.out nq)
                          have HR2 := Lib.hid (show (w2.drewN nq).ownsRow w.heap.size 148 2 (.slice o 0 cap) 0 (flatP []) from HROW.out)
                          generalize w2.drewN nq = wd at HB2 HR2 ⊢
                          obtain ⟨b1, hb1⟩ : ∃ b1 : Nat, b + 1 = b1 := ⟨_, rfl⟩
                          have hb1i : (b : Int) + 1 = (b1 : Int) := by omega
                          have hb1j : b1 ≤ j := by omega
                          rw [hb1] at HPT
                          have HBB := Lib.hid hb1
                          clear hb1
                          have HOW : Hid (((World.drew wd).alloc (.cells #[.string (S.extract k b), .string (S.extract b1 j)] 148)).ownsRow w.heap.size 148 2 (.slice o 0 cap) 0 (flatP [])) := Lib.hid (World.ownsRow.alloc (show (World.drew wd).ownsRow w.heap.size 148 2 (.slice o 0 cap) 0 (flatP []) from HR2.out) _)
                          have HNEW := Lib.hid (World.news_of_block (w := (World.drew wd).alloc (.cells #[.string (S.extract k b), .string (S.extract b1 j)] 148)) (show ((World.drew wd).alloc (.cells #[.string (S.extract k b), .string (S.extract b1 j)] 148)).heap[wd.heap.size]? = _ from World.alloc_heap_new (World.drew wd) (.cells #[.string (S.extract k b), .string (S.extract b1 j)] 148)))
                          have HWS : Hid (((World.drew wd).alloc (.cells #[.string (S.extract k b), .string (S.extract b1 j)] 148)).heap.size = wd.heap.size + 1) := Lib.hid (by show (wd.heap.push _).size = _; simp)
                          have HBS2 : Hid (w.heap.size ≤ ((World.drew wd).alloc (.cells #[.string (S.extract k b), .string (S.extract b1 j)] 148)).heap.size) := Lib.hid (by rw [HWS.out]; have := HB2.out.size; omega)
                          have HMX : Hid (0 + 1 ≤ maxLen) := Lib.hid (by unfold maxLen; omega)
                          have HBY : Hid ((0 + 1) * 32 ≤ 140737488355328) := Lib.hid (by omega)
                          go_wp2_with fail
                          have hwb : IntKind.i64.wrap (b1 : Int) = (b1 : Int) := IntWalk.i64_in _ (by omega)
                          have hbj2 : (b1 : Int) ≤ (j : Int) := by omega
                          go_region_law (refine step_append_lies ((World.drew wd).alloc (.cells #[.string (S.extract k b), .string (S.extract b1 j)] 148)) rfl (.tmp 107) (.tmp 118) 116 rfl w.heap.size 148 i1 _ 2 32 Tryd.underlying116 HI1.out HZ0.out HZ1.out HZ2.out rfl (by decide) ((.slice o 0 cap)) 0 (flatP []) (by simp [Act.eval]) HOW.out ⟨wd.heap.size, 0, none⟩ 1 1 [Value.string (S.extract k b), Value.string (S.extract b1 j)] (by simp [Act.eval]) rfl HNEW.out two_mem (by decide) HMX.out HBY.out HBS2.out (wd.heap.size + 1) HWS.out ?_; intro gx cx w3 hown hgrow hat hlt; have HOWN := Lib.hid hown; have HG3 := Lib.hid hgrow; clear hown hgrow hat hlt)
                          all_goals
                            have hend : Hid (RpS w S (.slice (some ⟨gx, 0, none⟩) (0 + 1) cx) (.int .i64 ((j : Int) + 1)) (.int .i64 (2)) w3) := Lib.hid ⟨j + 1, 0 + 1, [] ++ [(nm, pt)], by omega, rfl, by rw [Int.natCast_succ], rfl, by rw [flatP_snoc, ← HNM2.out, ← HPT.out]; exact HOWN.out, HE.out, by omega, ((below_drewN HB2.out 1).alloc HB2.out.size _).grown HG3.out (by have := HB2.out.size; simp; omega) (own_base HR2.out)⟩
                            go_wp2_with fail
                            go_roundw
                            case rel => exact hend.out
                            case measure => simp [intOf]; omega
                        · obtain ⟨m', hm'⟩ : ∃ m', m = m' + 1 := ⟨m - 1, by omega⟩
                          obtain ⟨q, hq⟩ : ∃ q, out[m']? = some q := ⟨_, List.getElem?_eq_getElem (by rw [HM.out]; omega)⟩
                          have hla := lastN_at (HM.out.trans hm') hq
                          obtain ⟨g, cur, ho, hg, d0, d1⟩ := HPR.out m' q hq
                          subst ho
                          rw [hla] at HLB HRT HRF
                          have hn1 : 1 < (m : Int) + 1 := by omega
                          have hn2 : (m : Int) + 1 - 2 = (m' : Int) := by omega
                          have hml : m' < m := by omega
                          clear hla hq hg hm0 hm' d1 hns0
                          cases hbl : Op.bytesLess q.1.toList nm.toList with
                          | false =>
                            have HE := Lib.hid (show restF rdR S 0 [] = ([], (m : Int) + 1, 12) from HL2E.out _ (HRT.out (by rw [HLB.out, hbl]; rfl)))
                            have hbl2 : Op.bytesLess q.1.toList (S.extract k b).toList = false := by rw [HNM2.out]; exact hbl
                            clear hbl
                            go_wp2_with (go_at_call 72; (with_reducible refine (HG.out _).mono ?_); rintro e w2 ⟨rfl, rfl⟩)
                            all_goals try (exfalso; rename_i hx; rcases hx with (hx | hx) | hx <;> first | omega | (rw [beq_iff_eq] at hx; omega))
                            go_quiet (fail)
                            have HB2 := Lib.hid (below_drewN HB.out nq)
                            generalize w2.drewN nq = wd at HB2 ⊢
                            go_wp2_with fail
                            refine bodyPost_ret (v := .tuple #[.slice none 0 0, .int .i64 ((m : Int) + 1), .int .i64 12]) (by simp [results, Tryd.results46, go_sem]) rfl (HOUT.out _ HB2.out 12 HE.out)
                          | true =>
                            have HE := Lib.hid (show restF rdR S 0 [] = restF rdR S (j + 1) (out ++ [(nm, pt)]) from HL2P.out _ (HRF.out (by rw [HLB.out, hbl]; rfl)))
                            have hbl2 : Op.bytesLess q.1.toList (S.extract k b).toList = true := by rw [HNM2.out]; exact hbl
                            clear hbl
                            go_wp2_with (go_at_call 72; (with_reducible refine (HG.out _).mono ?_); rintro e w2 ⟨rfl, rfl⟩)
                            all_goals try (exfalso; rename_i hx; rcases hx with (hx | hx) | hx <;> first | omega | (rw [beq_iff_eq] at hx; omega))
                            go_quiet (fail)
                            have HB2 := Lib.hid (below_drewN HB.out nq)
                            have HR2 := Lib.hid (show (w2.drewN nq).ownsRow w.heap.size 148 2 (.slice (some ⟨g, 0, none⟩) m cap) m (flatP out) from HROW.out)
                            generalize w2.drewN nq = wd at HB2 HR2 ⊢
                            obtain ⟨b1, hb1⟩ : ∃ b1 : Nat, b + 1 = b1 := ⟨_, rfl⟩
                            have hb1i : (b : Int) + 1 = (b1 : Int) := by omega
                            have hb1j : b1 ≤ j := by omega
                            rw [hb1] at HPT
                            have HBB := Lib.hid hb1
                            clear hb1
                            have HOW : Hid (((World.drew wd).alloc (.cells #[.string (S.extract k b), .string (S.extract b1 j)] 148)).ownsRow w.heap.size 148 2 (.slice (some ⟨g, 0, none⟩) m cap) m (flatP out)) := Lib.hid (World.ownsRow.alloc (show (World.drew wd).ownsRow w.heap.size 148 2 (.slice (some ⟨g, 0, none⟩) m cap) m (flatP out) from HR2.out) _)
                            have HNEW := Lib.hid (World.news_of_block (w := (World.drew wd).alloc (.cells #[.string (S.extract k b), .string (S.extract b1 j)] 148)) (show ((World.drew wd).alloc (.cells #[.string (S.extract k b), .string (S.extract b1 j)] 148)).heap[wd.heap.size]? = _ from World.alloc_heap_new (World.drew wd) (.cells #[.string (S.extract k b), .string (S.extract b1 j)] 148)))
                            have HWS : Hid (((World.drew wd).alloc (.cells #[.string (S.extract k b), .string (S.extract b1 j)] 148)).heap.size = wd.heap.size + 1) := Lib.hid (by show (wd.heap.push _).size = _; simp)
                            have HBS2 : Hid (w.heap.size ≤ ((World.drew wd).alloc (.cells #[.string (S.extract k b), .string (S.extract b1 j)] 148)).heap.size) := Lib.hid (by rw [HWS.out]; have := HB2.out.size; omega)
                            have HMX : Hid (m + 1 ≤ maxLen) := Lib.hid (by unfold maxLen; omega)
                            have HBY : Hid ((m + 1) * 32 ≤ 140737488355328) := Lib.hid (by omega)
                            go_wp2_with fail
                            have hwb : IntKind.i64.wrap (b1 : Int) = (b1 : Int) := IntWalk.i64_in _ (by omega)
                            have hbj2 : (b1 : Int) ≤ (j : Int) := by omega
                            go_region_law (refine step_append_lies ((World.drew wd).alloc (.cells #[.string (S.extract k b), .string (S.extract b1 j)] 148)) rfl (.tmp 107) (.tmp 118) 116 rfl w.heap.size 148 i1 _ 2 32 Tryd.underlying116 HI1.out HZ0.out HZ1.out HZ2.out rfl (by decide) ((.slice (some ⟨g, 0, none⟩) m cap)) m (flatP out) (by simp [Act.eval]) HOW.out ⟨wd.heap.size, 0, none⟩ 1 1 [Value.string (S.extract k b), Value.string (S.extract b1 j)] (by simp [Act.eval]) rfl HNEW.out two_mem (by decide) HMX.out HBY.out HBS2.out (wd.heap.size + 1) HWS.out ?_; intro gx cx w3 hown hgrow hat hlt; have HOWN := Lib.hid hown; have HG3 := Lib.hid hgrow; clear hown hgrow hat hlt)
                            all_goals
                              have hend : Hid (RpS w S (.slice (some ⟨gx, 0, none⟩) (m + 1) cx) (.int .i64 ((j : Int) + 1)) (.int .i64 ((m : Int) + 1 + 1)) w3) := Lib.hid ⟨j + 1, m + 1, out ++ [(nm, pt)], by omega, by rw [List.length_append, HM.out]; rfl, by rw [Int.natCast_succ], by rw [Int.natCast_succ], by rw [flatP_snoc, ← HNM2.out, ← HPT.out]; exact HOWN.out, HE.out, by omega, ((below_drewN HB2.out 1).alloc HB2.out.size _).grown HG3.out (by have := HB2.out.size; simp; omega) (own_base HR2.out)⟩
                              go_wp2_with fail
                              go_roundw
                              case rel => exact hend.out
                              case measure => simp [intOf]; omega
              · have HE := Lib.hid (show restF rdR S 0 [] = ([], (m : Int) + 1, 2) by rw [HL2.out, rdR_no (by rw [line_noQ hkj (by omega) hsp, Bool.and_false])])
                rw [blV_none hsp]
                generalize (lnL S k j).all patC = ok
                clear hsp hlen
                go_wp2_with fail
                refine bodyPost_ret (v := .tuple #[.slice none 0 0, .int .i64 ((m : Int) + 1), .int .i64 2]) (by simp [results, Tryd.results46, go_sem]) rfl (HOUT.out _ HB.out 2 HE.out)
      · have hm6 : m = 4096 := by omega
        subst hm6
        have HE := Lib.hid (show restF rdR S 0 [] = ([], ((4096 : Nat) : Int) + 1, 6) by
          rw [HREST.out, restF_step rdR out hlt, if_pos (by rw [HM.out]; exact Nat.le_refl _), HM.out])
        go_wp2_with fail
        refine bodyPost_ret (v := .tuple #[.slice none 0 0, .int .i64 4097, .int .i64 6]) (by simp [results, Tryd.results46, go_sem]) rfl ⟨.slice none 0 0, by rw [HPM.out, HE.out]; rfl, by rw [HPM.out, HE.out]; exact World.ownsRow_nil _ _ _ _, HB.out⟩
    · have hkS : k = S.size := by omega
      have HE := Lib.hid (show restF rdR S 0 [] = (out, 0, 0) by rw [HREST.out, restF_end rdR out (by omega)])
      obtain ⟨o, cap, hv, _⟩ := own_pairs (by rw [← HM.out] at HROW; exact HROW.out)
      go_wp2_with fail
      refine bodyPost_ret (v := .tuple #[u5, .int .i64 0, .int .i64 0]) (by simp [results, Tryd.results46, go_sem]) rfl ⟨u5, by rw [HPM.out, HE.out], by rw [HPM.out, HE.out, HM.out]; exact HROW.out, HB.out⟩
end Go.Proofs.YtmdhendfmhhniaaDoor
