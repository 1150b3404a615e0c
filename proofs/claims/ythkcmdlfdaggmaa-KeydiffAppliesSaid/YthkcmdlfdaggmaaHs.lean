/- Keyed lists: the law of changes one behind the other. -/
import Derived.Test.YthkcmdlfdaggmaaHr
set_option linter.unusedVariables false
set_option linter.unusedSimpArgs false
namespace Go.Proofs.Ythkcmdlfdaggmaa
open Go.RowKit
variable {w w' : World}

def swC (p : ChB) : ChB := (p.1, p.2.2, p.2.1)
theorem diff_back (a b : List KvB) : diffK b a = (diffK a b).map swC := by
  unfold diffK
  rw [show keyL (ksK b ++ ksK a) = keyL (ksK a ++ ksK b) from keyL_same fun s => by rw [List.mem_append, List.mem_append]; exact Or.comm]
  unfold chK
  rw [List.map_map]
  have e : (fun s => !decide (sayK b s = sayK a s)) = fun s => !decide (sayK a s = sayK b s) := by
    funext s
    by_cases h : sayK a s = sayK b s
    · rw [h]
    · rw [decide_eq_false h, decide_eq_false (fun e => h e.symm)]
  rw [e]; rfl
theorem diff_self (a : List KvB) : diffK a a = [] := by
  unfold diffK chK
  rw [List.map_eq_nil_iff, List.filter_eq_nil_iff]
  intro s _; simp
set_option maxHeartbeats 16000000 in
set_option maxRecDepth 100000 in
theorem LChain_any (o0 : Option Addr) (a0 : List KvB) (c0 : Nat) (o1 : Option Addr) (a1 : List KvB) (c1 : Nat) (o2 : Option Addr) (a2 : List KvB) (c2 : Nat) (w : World) (hl0 : a0.length ≤ maxLen) (h0 : KvAt w o0 a0) (hl1 : a1.length ≤ maxLen) (h1 : KvAt w o1 a1) (hl2 : a2.length ≤ maxLen) (h2 : KvAt w o2 a2) :
    Calls Try.prog 7 #[.slice o0 a0.length c0, .slice o1 a1.length c1, .slice o2 a2.length c2] w fun e w' => e = .returned (.bool true) ∧ Below w.heap.size w w' := by
  have HSP := Lib.hid (fun W => speaks_any W)
  have hI0 := fun (W : World) (hW : Below w.heap.size w W) => items_at o0 a0 c0 W hl0 (h0.below hW)
  obtain ⟨l0, hll0⟩ : ∃ n, a0.length = n := ⟨_, rfl⟩
  rw [hll0] at hI0 ⊢
  have hb400 := take40 a0
  obtain ⟨A, hA⟩ : ∃ A, a0.take 40 = A := ⟨_, rfl⟩
  rw [hA] at hI0 hb400
  obtain ⟨nA, hnA⟩ : ∃ n, A.length = n := ⟨_, rfl⟩
  rw [hnA] at hI0 hb400
  have HNA := Lib.hid hnA
  have HI0 := Lib.hid hI0
  clear hI0 hA hnA h0 hl0 hll0
  have hI1 := fun (W : World) (hW : Below w.heap.size w W) => items_at o1 a1 c1 W hl1 (h1.below hW)
  obtain ⟨l1, hll1⟩ : ∃ n, a1.length = n := ⟨_, rfl⟩
  rw [hll1] at hI1 ⊢
  have hb401 := take40 a1
  obtain ⟨B, hB⟩ : ∃ A, a1.take 40 = A := ⟨_, rfl⟩
  rw [hB] at hI1 hb401
  obtain ⟨nB, hnB⟩ : ∃ n, B.length = n := ⟨_, rfl⟩
  rw [hnB] at hI1 hb401
  have HNB := Lib.hid hnB
  have HI1 := Lib.hid hI1
  clear hI1 hB hnB h1 hl1 hll1
  have hI2 := fun (W : World) (hW : Below w.heap.size w W) => items_at o2 a2 c2 W hl2 (h2.below hW)
  obtain ⟨l2, hll2⟩ : ∃ n, a2.length = n := ⟨_, rfl⟩
  rw [hll2] at hI2 ⊢
  have hb402 := take40 a2
  obtain ⟨C, hC⟩ : ∃ A, a2.take 40 = A := ⟨_, rfl⟩
  rw [hC] at hI2 hb402
  obtain ⟨nC, hnC⟩ : ∃ n, C.length = n := ⟨_, rfl⟩
  rw [hnC] at hI2 hb402
  have HNC := Lib.hid hnC
  have HI2 := Lib.hid hI2
  clear hI2 hC hnC h2 hl2 hll2
  have HB : Hid (Below w.heap.size w w) := Lib.hid (Below.refl _ _)
  go_enter Try.func7, Try.ntmps7
  go_wp2_with (first
    | (go_at_call 8; refine (HSP.out _).mono ?_; rintro e wsp ⟨rfl, hb1⟩; replace HB := Lib.hid (HB.out.trans (hb1.mono HB.out.size)); clear hb1 HSP)
    | (go_at_call 9; (with_reducible refine (HI0.out _ HB.out).mono ?_)))
  rintro e wi0 ⟨oxA, cxA, ovA, cvA, rfl, hx, hv, hb⟩
  replace HB := Lib.hid (HB.out.trans (hb.mono HB.out.size))
  have HXA := Lib.hid hx; have HVA := Lib.hid hv
  clear hx hv hb HI0
  go_wp2_with (go_at_call 9; (with_reducible refine (HI1.out _ HB.out).mono ?_))
  rintro e wi1 ⟨oxB, cxB, ovB, cvB, rfl, hx, hv, hb⟩
  replace HB := Lib.hid (HB.out.trans (hb.mono HB.out.size))
  replace HXA := Lib.hid (HXA.out.below hb)
  replace HVA := Lib.hid (HVA.out.below hb)
  have HXB := Lib.hid hx; have HVB := Lib.hid hv
  clear hx hv hb HI1
  go_wp2_with (go_at_call 9; (with_reducible refine (HI2.out _ HB.out).mono ?_))
  rintro e wi2 ⟨oxC, cxC, ovC, cvC, rfl, hx, hv, hb⟩
  replace HB := Lib.hid (HB.out.trans (hb.mono HB.out.size))
  replace HXA := Lib.hid (HXA.out.below hb)
  replace HVA := Lib.hid (HVA.out.below hb)
  replace HXB := Lib.hid (HXB.out.below hb)
  replace HVB := Lib.hid (HVB.out.below hb)
  have HXC := Lib.hid hx; have HVC := Lib.hid hv
  clear hx hv hb HI2
  have hRA := RRight_any ovA A cvA
  rw [HNA.out] at hRA
  obtain ⟨rA, hrA⟩ : ∃ x, decide (RightK A) = x := ⟨_, rfl⟩
  rw [hrA] at hRA
  have HRA := Lib.hid (fun (W : World) (hW : Below wi2.heap.size wi2 W) => hRA W (by omega) (HVA.out.below hW)); have HRRA := Lib.hid hrA
  clear hRA hrA
  have hRB := RRight_any ovB B cvB
  rw [HNB.out] at hRB
  obtain ⟨rB, hrB⟩ : ∃ x, decide (RightK B) = x := ⟨_, rfl⟩
  rw [hrB] at hRB
  have HRB := Lib.hid (fun (W : World) (hW : Below wi2.heap.size wi2 W) => hRB W (by omega) (HVB.out.below hW)); have HRRB := Lib.hid hrB
  clear hRB hrB
  have hRC := RRight_any ovC C cvC
  rw [HNC.out] at hRC
  obtain ⟨rC, hrC⟩ : ∃ x, decide (RightK C) = x := ⟨_, rfl⟩
  rw [hrC] at hRC
  have HRC := Lib.hid (fun (W : World) (hW : Below wi2.heap.size wi2 W) => hRC W (by omega) (HVC.out.below hW)); have HRRC := Lib.hid hrC
  clear hRC hrC
  have HW0 : Hid (Below wi2.heap.size wi2 wi2) := Lib.hid (Below.refl _ _)
  cases rA with
  | false =>
    go_wp2_with (first | (go_at_call 12; (with_reducible refine (HRA.out _ HW0.out).mono ?_); rintro e wr ⟨rfl, q, hq⟩; replace HW0 := Lib.hid (show Below wi2.heap.size wi2 wr by rw [hq]; exact below_drewN HW0.out q); clear hq) | (go_at_call 12; (with_reducible refine (HRB.out _ HW0.out).mono ?_); rintro e wr ⟨rfl, q, hq⟩; replace HW0 := Lib.hid (show Below wi2.heap.size wi2 wr by rw [hq]; exact below_drewN HW0.out q); clear hq) | (go_at_call 12; (with_reducible refine (HRC.out _ HW0.out).mono ?_); rintro e wr ⟨rfl, q, hq⟩; replace HW0 := Lib.hid (show Below wi2.heap.size wi2 wr by rw [hq]; exact below_drewN HW0.out q); clear hq))
    go_ret
    exact ⟨rfl, HB.out.trans (HW0.out.mono HB.out.size)⟩
  | true =>
    cases rB with
    | false =>
      go_wp2_with (first | (go_at_call 12; (with_reducible refine (HRA.out _ HW0.out).mono ?_); rintro e wr ⟨rfl, q, hq⟩; replace HW0 := Lib.hid (show Below wi2.heap.size wi2 wr by rw [hq]; exact below_drewN HW0.out q); clear hq) | (go_at_call 12; (with_reducible refine (HRB.out _ HW0.out).mono ?_); rintro e wr ⟨rfl, q, hq⟩; replace HW0 := Lib.hid (show Below wi2.heap.size wi2 wr by rw [hq]; exact below_drewN HW0.out q); clear hq) | (go_at_call 12; (with_reducible refine (HRC.out _ HW0.out).mono ?_); rintro e wr ⟨rfl, q, hq⟩; replace HW0 := Lib.hid (show Below wi2.heap.size wi2 wr by rw [hq]; exact below_drewN HW0.out q); clear hq))
      go_ret
      exact ⟨rfl, HB.out.trans (HW0.out.mono HB.out.size)⟩
    | true =>
      cases rC with
      | false =>
        go_wp2_with (first | (go_at_call 12; (with_reducible refine (HRA.out _ HW0.out).mono ?_); rintro e wr ⟨rfl, q, hq⟩; replace HW0 := Lib.hid (show Below wi2.heap.size wi2 wr by rw [hq]; exact below_drewN HW0.out q); clear hq) | (go_at_call 12; (with_reducible refine (HRB.out _ HW0.out).mono ?_); rintro e wr ⟨rfl, q, hq⟩; replace HW0 := Lib.hid (show Below wi2.heap.size wi2 wr by rw [hq]; exact below_drewN HW0.out q); clear hq) | (go_at_call 12; (with_reducible refine (HRC.out _ HW0.out).mono ?_); rintro e wr ⟨rfl, q, hq⟩; replace HW0 := Lib.hid (show Below wi2.heap.size wi2 wr by rw [hq]; exact below_drewN HW0.out q); clear hq))
        go_ret
        exact ⟨rfl, HB.out.trans (HW0.out.mono HB.out.size)⟩
      | true =>
        have hA : RightK A := of_decide_eq_true HRRA.out
        have hB : RightK B := of_decide_eq_true HRRB.out
        have hC : RightK C := of_decide_eq_true HRRC.out
        have HRA0 := Lib.hid hA; have HRB0 := Lib.hid hB; have HRC0 := Lib.hid hC
        clear hA hB hC
        have hd := fun (W : World) (hW : Below wi2.heap.size wi2 W) => Diff_at oxA oxB A B cxA cxB W (by rw [HNA.out]; omega) (by rw [HNB.out]; omega) (HXA.out.below hW) (HXB.out.below hW) (diffK A B) 0 (if_pos ⟨HRA0.out, HRB0.out⟩) (if_pos ⟨HRA0.out, HRB0.out⟩)
        rw [HNA.out, HNB.out] at hd
        have HDZ := Lib.hid (diff_sizes HXA.out HXB.out); have HDZ2 := Lib.hid (diff_sizes HXB.out HXC.out)
        have HPL : Hid ((diffK A B).length ≤ 80) := Lib.hid (by have := diff_len A B; rw [HNA.out, HNB.out] at this; omega)
        have HQL : Hid ((diffK B C).length ≤ 80) := Lib.hid (by have := diff_len B C; rw [HNB.out, HNC.out] at this; omega)
        have HAP : Hid (applyK A (diffK A B) = (B, 0)) := Lib.hid (apply_diff HRA0.out HRB0.out)
        have HAQ : Hid (applyK B (diffK B C) = (C, 0)) := Lib.hid (apply_diff HRB0.out HRC0.out)
        have HBK : Hid (diffK B A = (diffK A B).map swC) := Lib.hid (diff_back A B)
        have HSF : Hid (diffK A A = []) := Lib.hid (diff_self A)
        obtain ⟨P, hP⟩ : ∃ P, diffK A B = P := ⟨_, rfl⟩
        obtain ⟨Q, hQ⟩ : ∃ P, diffK B C = P := ⟨_, rfl⟩
        have HP := Lib.hid hP; have HQ := Lib.hid hQ
        rw [hP] at hd HDZ HPL HAP HBK
        rw [hQ] at HDZ2 HQL HAQ
        obtain ⟨nP, hnP⟩ : ∃ n, P.length = n := ⟨_, rfl⟩
        obtain ⟨nQ, hnQ⟩ : ∃ n, Q.length = n := ⟨_, rfl⟩
        have HNP := Lib.hid hnP; have HNQ := Lib.hid hnQ
        rw [hnP] at hd HPL
        rw [hnQ] at HQL
        have HD1 := Lib.hid hd
        clear hd hP hQ hnP hnQ
        go_wp2_with (first | (go_at_call 12; (with_reducible refine (HRA.out _ HW0.out).mono ?_); rintro e wr ⟨rfl, q, hq⟩; replace HW0 := Lib.hid (show Below wi2.heap.size wi2 wr by rw [hq]; exact below_drewN HW0.out q); clear hq) | (go_at_call 12; (with_reducible refine (HRB.out _ HW0.out).mono ?_); rintro e wr ⟨rfl, q, hq⟩; replace HW0 := Lib.hid (show Below wi2.heap.size wi2 wr by rw [hq]; exact below_drewN HW0.out q); clear hq) | (go_at_call 12; (with_reducible refine (HRC.out _ HW0.out).mono ?_); rintro e wr ⟨rfl, q, hq⟩; replace HW0 := Lib.hid (show Below wi2.heap.size wi2 wr by rw [hq]; exact below_drewN HW0.out q); clear hq) | (go_at_call 10; (with_reducible refine (HD1.out _ HW0.out).mono ?_)))
        rintro e w4 ⟨oP, cP, rfl, hp, hb0⟩
        have hb := HW0.out.trans (hb0.mono HW0.out.size)
        replace HB := Lib.hid (HB.out.trans (hb.mono HB.out.size))
        replace HXA := Lib.hid (HXA.out.below hb)
        replace HXB := Lib.hid (HXB.out.below hb)
        replace HXC := Lib.hid (HXC.out.below hb)
        replace HVA := Lib.hid (HVA.out.below hb)
        replace HVB := Lib.hid (HVB.out.below hb)
        replace HVC := Lib.hid (HVC.out.below hb)
        have HCP := Lib.hid hp
        clear hp hb hb0 HW0 HD1
        have hd := Diff_at oxB oxC B C cxB cxC w4 (by rw [HNB.out]; omega) (by rw [HNC.out]; omega) HXB.out HXC.out Q 0 (by rw [if_pos ⟨HRB0.out, HRC0.out⟩]; exact HQ.out) (if_pos ⟨HRB0.out, HRC0.out⟩)
        rw [HNB.out, HNC.out, HNQ.out] at hd
        have HD := Lib.hid hd
        clear hd
        go_wp2_with (go_at_call 10; (with_reducible refine HD.out.mono ?_))
        rintro e w5 ⟨oQ, cQ, rfl, hq, hb⟩
        replace HB := Lib.hid (HB.out.trans (hb.mono HB.out.size))
        replace HXA := Lib.hid (HXA.out.below hb)
        replace HXB := Lib.hid (HXB.out.below hb)
        replace HXC := Lib.hid (HXC.out.below hb)
        replace HVA := Lib.hid (HVA.out.below hb)
        replace HVB := Lib.hid (HVB.out.below hb)
        replace HVC := Lib.hid (HVC.out.below hb)
        replace HCP := Lib.hid (HCP.out.below hb)
        have HCQ := Lib.hid hq
        clear hq
        clear hb HD
        have hd := Apply_at oxA oP A P cxA cP w5 (by rw [HNA.out]; omega) (by rw [HNP.out]; have := HPL.out; omega) HXA.out HCP.out HDZ.out.1 HDZ.out.2
        rw [HNA.out, HNP.out, HAP.out] at hd
        dsimp only at hd
        rw [HNB.out] at hd
        have HD := Lib.hid hd
        clear hd
        go_wp2_with (go_at_call 15; (with_reducible refine HD.out.mono ?_))
        rintro e w6 ⟨oL, cL, rfl, hl, hb⟩
        replace HB := Lib.hid (HB.out.trans (hb.mono HB.out.size))
        replace HXA := Lib.hid (HXA.out.below hb)
        replace HXB := Lib.hid (HXB.out.below hb)
        replace HXC := Lib.hid (HXC.out.below hb)
        replace HVA := Lib.hid (HVA.out.below hb)
        replace HVB := Lib.hid (HVB.out.below hb)
        replace HVC := Lib.hid (HVC.out.below hb)
        replace HCP := Lib.hid (HCP.out.below hb)
        replace HCQ := Lib.hid (HCQ.out.below hb)
        have HXL := Lib.hid hl
        clear hl
        clear hb HD
        have hd := Apply_at oL oQ B Q cL cQ w6 (by rw [HNB.out]; omega) (by rw [HNQ.out]; have := HQL.out; omega) HXL.out HCQ.out HDZ2.out.1 HDZ2.out.2
        rw [HNB.out, HNQ.out, HAQ.out] at hd
        dsimp only at hd
        rw [HNC.out] at hd
        have HD := Lib.hid hd
        clear hd
        go_wp2_with (go_at_call 15; (with_reducible refine HD.out.mono ?_))
        rintro e w7 ⟨oM, cM, rfl, hl, hb⟩
        replace HB := Lib.hid (HB.out.trans (hb.mono HB.out.size))
        replace HXA := Lib.hid (HXA.out.below hb)
        replace HXB := Lib.hid (HXB.out.below hb)
        replace HXC := Lib.hid (HXC.out.below hb)
        replace HVA := Lib.hid (HVA.out.below hb)
        replace HVB := Lib.hid (HVB.out.below hb)
        replace HVC := Lib.hid (HVC.out.below hb)
        replace HCP := Lib.hid (HCP.out.below hb)
        have HXM := Lib.hid hl
        clear hl
        clear hb HD
        have hd := Diff_at oxB oxA B A cxB cxA w7 (by rw [HNB.out]; omega) (by rw [HNA.out]; omega) HXB.out HXA.out (P.map swC) 0 (by rw [if_pos ⟨HRB0.out, HRA0.out⟩]; exact HBK.out) (if_pos ⟨HRB0.out, HRA0.out⟩)
        rw [List.length_map] at hd
        rw [HNB.out, HNA.out, HNP.out] at hd
        have HD := Lib.hid hd
        clear hd
        go_wp2_with (go_at_call 10; (with_reducible refine HD.out.mono ?_))
        rintro e w8 ⟨oK, cK, rfl, hq, hb⟩
        replace HB := Lib.hid (HB.out.trans (hb.mono HB.out.size))
        replace HXA := Lib.hid (HXA.out.below hb)
        replace HXB := Lib.hid (HXB.out.below hb)
        replace HXC := Lib.hid (HXC.out.below hb)
        replace HVA := Lib.hid (HVA.out.below hb)
        replace HVB := Lib.hid (HVB.out.below hb)
        replace HVC := Lib.hid (HVC.out.below hb)
        replace HCP := Lib.hid (HCP.out.below hb)
        replace HXM := Lib.hid (HXM.out.below hb)
        have HCK := Lib.hid hq
        clear hq
        clear hb HD
        have HPL2 := HPL.out
        go_wp2_with fail
        go_loopw [23] (fun i wr => ∃ k : Nat, k ≤ nP ∧ i = .int .i64 k ∧ Below w8.heap.size w8 wr) (fun i _ => nP - (intOf i).toNat)
        case atStart => exact ⟨0, Nat.zero_le _, rfl, Below.refl _ _⟩
        case round =>
          obtain ⟨k, hk, rfl, hb⟩ := hrel
          have HBB := Lib.hid hb
          clear hb
          by_cases hlt : k < nP
          · obtain ⟨p, hp⟩ : ∃ p, P[k]? = some p := ⟨_, List.getElem?_eq_getElem (by rw [HNP.out]; exact hlt)⟩
            obtain ⟨b0, i0, ho0, e0, e1, e2, e3, e4⟩ := (HCP.out.below HBB.out) k p hp
            obtain ⟨b1, i1, ho1, f0, f1, f2, f3, f4⟩ := (HCK.out.below HBB.out) k (swC p) (by rw [List.getElem?_map, hp]; rfl)
            subst ho0 ho1
            obtain ⟨s, ⟨x1, t1⟩, x2, t2⟩ := p
            simp only [swC] at f0 f1 f2 f3 f4
            dsimp only at e0 e1 e2 e3 e4
            have hne := run_ne_cg (s, (x2, t2), (x1, t1))
            (try dsimp only at hne)
            have hki : (k : Int) < nP := by omega
            clear hp
            go_wp2_with fail
            go_quiet (fail)
            (first | (have _h : Nat := nq; clear _h) | rename_i nq)
            have HB2' := Lib.hid (below_drewN HBB.out nq)
            clear hne
            go_wp2_with fail
            go_roundw
            case rel => exact ⟨k + 1, hlt, by go_num, HB2'.out⟩
            case measure => simp [intOf]; omega
          · obtain rfl : k = nP := by omega
            have hb := HBB.out
            replace HB := Lib.hid (HB.out.trans (hb.mono HB.out.size))
            replace HXA := Lib.hid (HXA.out.below hb)
            replace HXB := Lib.hid (HXB.out.below hb)
            replace HXC := Lib.hid (HXC.out.below hb)
            replace HVA := Lib.hid (HVA.out.below hb)
            replace HVB := Lib.hid (HVB.out.below hb)
            replace HVC := Lib.hid (HVC.out.below hb)
            replace HXM := Lib.hid (HXM.out.below hb)
            have hd := Diff_at oxA oxA A A cxA cxA wr (by rw [HNA.out]; omega) (by rw [HNA.out]; omega) HXA.out HXA.out [] 0 (by rw [if_pos ⟨HRA0.out, HRA0.out⟩]; exact HSF.out) (if_pos ⟨HRA0.out, HRA0.out⟩)
            rw [HNA.out] at hd
            have HD := Lib.hid hd
            clear hd hb HBB
            go_wp2_with (go_at_call 10; (with_reducible refine HD.out.mono ?_))
            rintro e w9 ⟨oS, cS, rfl, _, hb⟩
            replace HB := Lib.hid (HB.out.trans (hb.mono HB.out.size))
            replace HXA := Lib.hid (HXA.out.below hb)
            replace HXB := Lib.hid (HXB.out.below hb)
            replace HXC := Lib.hid (HXC.out.below hb)
            replace HVA := Lib.hid (HVA.out.below hb)
            replace HVB := Lib.hid (HVB.out.below hb)
            replace HVC := Lib.hid (HVC.out.below hb)
            replace HXM := Lib.hid (HXM.out.below hb)
            have hsm := same_any oM ovC C C cM cvC w9 (by rw [HNC.out]; omega) (by rw [HNC.out]; omega) HXM.out HVC.out
            rw [HNC.out, decide_eq_true rfl] at hsm
            have HSM := Lib.hid hsm
            clear hb hsm HD
            go_wp2_with (go_at_call 16; (with_reducible refine HSM.out.mono ?_); rintro e w10 ⟨rfl, q, hq⟩; have HBE := Lib.hid (show Below w.heap.size w w10 by rw [hq]; exact below_drewN HB.out q); clear hq)
            go_ret
            exact ⟨rfl, HBE.out⟩
end Go.Proofs.Ythkcmdlfdaggmaa
