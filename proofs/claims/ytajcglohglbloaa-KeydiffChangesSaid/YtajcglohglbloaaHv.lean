/- Keyed lists: the law of changes. -/
import Derived.Test.YtajcglohglbloaaHx
import Derived.Deep.Cut
import Derived.Deep.CutRange
set_option linter.unusedVariables false
set_option linter.unusedSimpArgs false
namespace Go.Proofs.Ytajcglohglbloaa
open Go.RowKit
variable {w w' : World}

def CgS (A B : List KvB) (KS : List ByteArray) (w0 : World) (n i : Value) (wr : World) : Prop :=
  ∃ k : Nat, k ≤ KS.length ∧ i = .int .i64 k ∧ n = .int .i64 (chK (KS.take k) (sayK A) (sayK B)).length ∧ Below w0.heap.size w0 wr
set_option maxHeartbeats 16000000 in
set_option maxRecDepth 100000 in
theorem LChanges_any (o0 : Option Addr) (a : List KvB) (c0 : Nat) (o1 : Option Addr) (b : List KvB) (c1 : Nat) (w : World) (hla : a.length ≤ maxLen) (ha : KvAt w o0 a) (hlb : b.length ≤ maxLen) (hb : KvAt w o1 b) :
    Calls Try.prog 3 #[.slice o0 a.length c0, .slice o1 b.length c1] w fun e w' => e = .returned (.bool true) ∧ Below w.heap.size w w' := by
  have HSP := Lib.hid (fun W => speaks_any W)
  have hI1 := fun (W : World) (hW : Below w.heap.size w W) => items_at o0 a c0 W hla (ha.below hW)
  have hI2 := fun (W : World) (hW : Below w.heap.size w W) => items_at o1 b c1 W hlb (hb.below hW)
  obtain ⟨la, hla2⟩ : ∃ n, a.length = n := ⟨_, rfl⟩
  obtain ⟨lb, hlb2⟩ : ∃ n, b.length = n := ⟨_, rfl⟩
  rw [hla2] at hI1 ⊢
  rw [hlb2] at hI2 ⊢
  have hA40 := take40 a; have hB40 := take40 b
  obtain ⟨A, hA⟩ : ∃ A, a.take 40 = A := ⟨_, rfl⟩
  obtain ⟨B, hB⟩ : ∃ B, b.take 40 = B := ⟨_, rfl⟩
  rw [hA] at hI1 hA40
  rw [hB] at hI2 hB40
  obtain ⟨na, hna⟩ : ∃ n, A.length = n := ⟨_, rfl⟩
  obtain ⟨nb, hnb⟩ : ∃ n, B.length = n := ⟨_, rfl⟩
  rw [hna] at hI1 hA40; rw [hnb] at hI2 hB40
  have HNA := Lib.hid hna; have HNB := Lib.hid hnb
  have HI1' := Lib.hid hI1; have HI2' := Lib.hid hI2
  clear hI1 hI2 hA hB hna hnb ha hb hla hlb hla2 hlb2
  go_enter Try.func3, Try.ntmps3
  go_wp2_with (first
    | (go_at_call 8; refine (HSP.out _).mono ?_; rintro e w1 ⟨rfl, hb1⟩; have HB1 := Lib.hid hb1; clear hb1 HSP)
    | (go_at_call 9; (with_reducible refine (HI1'.out _ HB1.out).mono ?_)))
  rintro e w2 ⟨oa, ca, ob, cb, rfl, x1, v1, hb2⟩
  have HB2 := Lib.hid (HB1.out.trans (hb2.mono HB1.out.size)); have HX1 := Lib.hid x1; have HV1 := Lib.hid v1
  clear x1 v1 hb2 HI1'
  go_wp2_with (go_at_call 9; (with_reducible refine (HI2'.out _ HB2.out).mono ?_))
  rintro e w3 ⟨oc, cc, od, cd, rfl, y1, v2, hb3⟩
  have HB3 := Lib.hid (HB2.out.trans (hb3.mono HB2.out.size)); have HX := Lib.hid (HX1.out.below hb3); have HV := Lib.hid (HV1.out.below hb3); have HY := Lib.hid y1; have HW := Lib.hid v2
  clear y1 v2 hb3 HX1 HV1 HI2' HB2 HB1
  obtain ⟨L, hL⟩ : ∃ L, (if RightK A ∧ RightK B then diffK A B else []) = L := ⟨_, rfl⟩
  obtain ⟨E, hE⟩ : ∃ E, (if RightK A ∧ RightK B then (0 : Int) else 12) = E := ⟨_, rfl⟩
  have hD := Diff_at oa oc A B ca cc w3 (by rw [HNA.out]; omega) (by rw [HNB.out]; omega) HX.out HY.out L E hL hE
  rw [HNA.out, HNB.out] at hD
  have HD := Lib.hid hD; have HL := Lib.hid hL; have HE := Lib.hid hE
  clear hD hL hE
  go_wp2_with (go_at_call 10; (with_reducible refine HD.out.mono ?_))
  rintro e w4 ⟨ol, cl, rfl, hch, hb4⟩
  have HB4 := Lib.hid (HB3.out.trans (hb4.mono HB3.out.size)); have HX4 := Lib.hid (HX.out.below hb4); have HV4 := Lib.hid (HV.out.below hb4); have HY4 := Lib.hid (HY.out.below hb4); have HW4 := Lib.hid (HW.out.below hb4); have HC4 := Lib.hid hch
  have HDZ := Lib.hid (diff_sizes HX4.out HY4.out)
  clear hch hb4 HX HV HY HW HD HB3
  obtain ⟨nl, hnl⟩ : ∃ n, L.length = n := ⟨_, rfl⟩
  have HNL := Lib.hid hnl
  rw [hnl]
  clear hnl
  -- whether they are right
  have hR1 := fun (W : World) (hW : Below w4.heap.size w4 W) => Right_any oa A ca W (by rw [HNA.out]; omega) (HX4.out.below hW)
  have hR2 := fun (W : World) (hW : Below w4.heap.size w4 W) => RRight_any ob A cb W (by rw [HNA.out]; omega) (HV4.out.below hW)
  have hR3 := fun (W : World) (hW : Below w4.heap.size w4 W) => Right_any oc B cc W (by rw [HNB.out]; omega) (HY4.out.below hW)
  have hR4 := fun (W : World) (hW : Below w4.heap.size w4 W) => RRight_any od B cd W (by rw [HNB.out]; omega) (HW4.out.below hW)
  simp only [HNA.out, HNB.out] at hR1 hR2 hR3 hR4
  obtain ⟨rA, hrA⟩ : ∃ x, decide (RightK A) = x := ⟨_, rfl⟩
  obtain ⟨rB, hrB⟩ : ∃ x, decide (RightK B) = x := ⟨_, rfl⟩
  rw [hrA] at hR1 hR2
  rw [hrB] at hR3 hR4
  have HR1 := Lib.hid hR1; have HR2 := Lib.hid hR2; have HR3 := Lib.hid hR3; have HR4 := Lib.hid hR4; have HRA := Lib.hid hrA; have HRB := Lib.hid hrB
  have HW0 : Hid (Below w4.heap.size w4 w4) := Lib.hid (Below.refl _ _)
  clear hR1 hR2 hR3 hR4 hrA hrB
  by_cases hboth : rA = true ∧ rB = true
  · obtain ⟨rfl, rfl⟩ := hboth
    have hall : RightK A ∧ RightK B := ⟨of_decide_eq_true HRA.out, of_decide_eq_true HRB.out⟩
    have HALL := Lib.hid hall
    have hE2 := HE.out
    rw [if_pos hall] at hE2
    subst hE2
    have HLD : Hid (L = diffK A B) := Lib.hid (by rw [← HL.out, if_pos hall])
    clear HE HL hall
    go_wp2_with (first
      | (go_at_call 11; (first | (with_reducible refine (HR1.out _ HW0.out).mono ?_) | (with_reducible refine (HR3.out _ HW0.out).mono ?_)); rintro e w5 ⟨rfl, hb5⟩; replace HW0 := Lib.hid (HW0.out.trans (hb5.mono HW0.out.size)); clear hb5)
      | (go_at_call 12; (first | (with_reducible refine (HR2.out _ HW0.out).mono ?_) | (with_reducible refine (HR4.out _ HW0.out).mono ?_)); rintro e w6 ⟨rfl, q, hq⟩; replace HW0 := Lib.hid (show Below w4.heap.size w4 w6 by rw [hq]; exact below_drewN HW0.out q); clear hq))
    have hw46 := HW0.out
    have hK := Keys_at ob od none A B [] cb cd 0 w6 (by rw [HNA.out]; omega) (by rw [HNB.out]; omega) (by simp) (HV4.out.below hw46) (HW4.out.below hw46) (kv_nil _ _) _ rfl
    rw [HNA.out, HNB.out] at hK
    have HKS : Hid (ks3 A B [] = keyL (ksK A ++ ksK B)) := Lib.hid (by unfold ks3; rw [show ksK ([] : List KvB) = [] from rfl, List.append_nil])
    have HKA : Hid (Asc (ks3 A B [])) := Lib.hid (ks3_asc _ _ _)
    have hkn : (ks3 A B []).length ≤ 80 := by
      have h := keyL_len (ksK A ++ ksK B)
      rw [HKS.out]; rw [List.length_append, List.length_map, List.length_map, HNA.out, HNB.out] at h; omega
    obtain ⟨KS, hKS⟩ : ∃ KS, ks3 A B [] = KS := ⟨_, rfl⟩
    rw [hKS] at hK HKS HKA hkn
    obtain ⟨nk, hnk⟩ : ∃ n, KS.length = n := ⟨_, rfl⟩
    rw [hnk] at hK hkn
    have HNK := Lib.hid hnk
    change Calls _ _ #[.slice ob na cb, .slice od nb cd, .slice none 0 0] _ _ at hK
    have HK := Lib.hid hK
    have HX6 := Lib.hid (HX4.out.below hw46); have HV6 := Lib.hid (HV4.out.below hw46); have HW6 := Lib.hid (HW4.out.below hw46); have HC6 := Lib.hid (HC4.out.below hw46)
    have HB6 := Lib.hid (HB4.out.trans (hw46.mono HB4.out.size))
    clear hK hKS hnk hw46 HW0 HX4 HY4 HV4 HW4 HC4 HB4 HR1 HR2 HR3 HR4
    go_wp2_with (go_at_call 13; (with_reducible refine HK.out.mono ?_))
    rintro e w7 ⟨ok, ck, rfl, htx, hb7⟩
    have HB7 := Lib.hid (HB6.out.trans (hb7.mono HB6.out.size)); have HX7 := Lib.hid (HX6.out.below hb7); have HV7 := Lib.hid (HV6.out.below hb7); have HW7 := Lib.hid (HW6.out.below hb7); have HC7 := Lib.hid (HC6.out.below hb7); have HTX := Lib.hid htx
    have H0 : Hid (CgS A B KS w7 (.int .i64 0) (.int .i64 0) w7) := Lib.hid ⟨0, Nat.zero_le _, rfl, rfl, Below.refl _ _⟩
    clear hb7 htx HK HX6 HV6 HW6 HC6 HB6
    go_wp2_with fail
    go_loopw [12, 13] (fun n i wr => CgS A B KS w7 n i wr) (fun _ i _ => nk - (intOf i).toNat)
    case atStart => exact H0.out
    case round =>
      obtain ⟨k, hk, rfl, rfl, hb⟩ := hrel
      rw [HNK.out] at hk
      have HB := Lib.hid hb
      clear hb H0
      by_cases hlt : k < nk
      · obtain ⟨s, hs⟩ : ∃ s, KS[k]? = some s := ⟨_, List.getElem?_eq_getElem (by rw [HNK.out]; exact hlt)⟩
        obtain ⟨hss, b0, i0, ho, c0'⟩ := tx_get (HTX.out.below HB.out) hs
        subst ho
        have HS := Lib.hid hs
        have hS1 := fun (W : World) (hW : Below w7.heap.size w7 W) => Says_any ob A cb s W (by rw [HNA.out]; omega) (HV7.out.below hW)
        have hS2 := fun (W : World) (hW : Below w7.heap.size w7 W) => Says_any od B cd s W (by rw [HNB.out]; omega) (HW7.out.below hW)
        rw [HNA.out] at hS1
        rw [HNB.out] at hS2
        obtain ⟨u, hu⟩ : ∃ u, sayK A s = u := ⟨_, rfl⟩
        obtain ⟨v, hv⟩ : ∃ u, sayK B s = u := ⟨_, rfl⟩
        rw [hu] at hS1; rw [hv] at hS2
        have HU := Lib.hid hu; have HV := Lib.hid hv
        obtain ⟨x1, t1⟩ := u
        obtain ⟨x2, t2⟩ := v
        have HS1 := Lib.hid hS1; have HS2 := Lib.hid hS2
        have hki : (k : Int) < nk := by omega
        have HSV : Hid (∀ W, Below wr.heap.size wr W → W.cell? ⟨b0, i0 + k, none⟩ = some (.string s)) := Lib.hid fun W hW => (hW.cell (World.block_lt_of_cell? wr _ c0')).trans c0'
        clear hs hss hS1 hS2 hu hv
        go_wp2_with fail
        go_cut [14, 15] from 66 to 106 (fun p q wx => ∃ gp gq : Nat, p = ptr gp ∧ q = ptr gq ∧ wx.heap[gp]? = some (.cells #[.string x1, .bool t1] 37 (0, 0)) ∧ wx.heap[gq]? = some (.cells #[.string x2, .bool t2] 37 (0, 0)) ∧ Below wr.heap.size wr wx)
        case first =>
          refine wp_region_held_drew (S := fun w' => Below wr.heap.size wr w' ∧ w'.cell? ⟨b0, i0 + k, none⟩ = some (.string s)) (by kernel_rfl) ⟨(Below.refl _ _).drew, c0'⟩ (fun _ => ?_)
          refine wpAnyH_take (i := 0) (v := ?_) rfl (by kernel_rfl) (by kernel_rfl) (by kernel_rfl) (fun _ _ _ h => h) (Or.inl ⟨by rfl, ?_⟩) ⟨(Below.refl _ _).drew, c0'⟩ ?_
          rotate_left
          · intro wq hSw; (try dsimp only at hSw); go_split_ands; go_simp; try with_reducible rfl
          try simp only [Act.put, List.setIfInBounds_toArray, List.set_cons_zero, List.set_cons_succ, List.getElem_toArray, List.getElem_cons_zero, List.getElem_cons_succ]
          refine wpAnyH_take (i := 1) (v := ?_) rfl (by kernel_rfl) (by kernel_rfl) (by kernel_rfl) (fun _ _ _ h => h) (Or.inl ⟨by rfl, ?_⟩) ⟨(Below.refl _ _).drew, c0'⟩ ?_
          rotate_left
          · intro wq hSw; (try dsimp only at hSw); go_split_ands; go_simp; try with_reducible rfl
          try simp only [Act.put, List.setIfInBounds_toArray, List.set_cons_zero, List.set_cons_succ, List.getElem_toArray, List.getElem_cons_zero, List.getElem_cons_succ]
          refine wpAnyH_take (i := 2) (v := ?_) rfl (by kernel_rfl) (by kernel_rfl) (by kernel_rfl) (fun _ _ _ h => h) (Or.inl ⟨by rfl, ?_⟩) ⟨(Below.refl _ _).drew, c0'⟩ ?_
          rotate_left
          · intro wq hSw; (try dsimp only at hSw); go_split_ands; go_simp; try with_reducible rfl
          try simp only [Act.put, List.setIfInBounds_toArray, List.set_cons_zero, List.set_cons_succ, List.getElem_toArray, List.getElem_cons_zero, List.getElem_cons_succ]
          refine wpAnyH_take (i := 3) (v := ?_) rfl (by kernel_rfl) (by kernel_rfl) (by kernel_rfl) (fun _ _ _ h => h) (Or.inl ⟨by rfl, ?_⟩) ⟨(Below.refl _ _).drew, c0'⟩ ?_
          rotate_left
          · intro wq hSw; (try dsimp only at hSw); go_split_ands; go_simp; try with_reducible rfl
          try simp only [Act.put, List.setIfInBounds_toArray, List.set_cons_zero, List.set_cons_succ, List.getElem_toArray, List.getElem_cons_zero, List.getElem_cons_succ]
          refine wpAnyH_take (i := 4) (v := ?_) rfl (by kernel_rfl) (by kernel_rfl) (by kernel_rfl) (fun _ _ _ h => h) (Or.inl ⟨by rfl, ?_⟩) ⟨(Below.refl _ _).drew, c0'⟩ ?_
          rotate_left
          · intro wq hSw; (try dsimp only at hSw); go_split_ands; go_simp; try with_reducible rfl
          try simp only [Act.put, List.setIfInBounds_toArray, List.set_cons_zero, List.set_cons_succ, List.getElem_toArray, List.getElem_cons_zero, List.getElem_cons_succ]
          refine wpAnyH_take (i := 6) (v := ?_) rfl (by kernel_rfl) (by kernel_rfl) (by kernel_rfl) (fun _ _ _ h => h) (Or.inl ⟨by rfl, ?_⟩) ⟨(Below.refl _ _).drew, c0'⟩ ?_
          rotate_left
          · intro wq hSw; (try dsimp only at hSw); go_split_ands; go_simp; try with_reducible rfl
          try simp only [Act.put, List.setIfInBounds_toArray, List.set_cons_zero, List.set_cons_succ, List.getElem_toArray, List.getElem_cons_zero, List.getElem_cons_succ]
          refine wpAnyH_take (i := 7) (v := ?_) rfl (by kernel_rfl) (by kernel_rfl) (by kernel_rfl) (fun _ _ _ h => h) (Or.inl ⟨by rfl, ?_⟩) ⟨(Below.refl _ _).drew, c0'⟩ ?_
          rotate_left
          · intro wq hSw; (try dsimp only at hSw); go_split_ands; go_simp; try with_reducible rfl
          try simp only [Act.put, List.setIfInBounds_toArray, List.set_cons_zero, List.set_cons_succ, List.getElem_toArray, List.getElem_cons_zero, List.getElem_cons_succ]
          refine wpAnyH_take (i := 8) (v := ?_) rfl (by kernel_rfl) (by kernel_rfl) (by kernel_rfl) (fun _ _ _ h => h) (Or.inl ⟨by rfl, ?_⟩) ⟨(Below.refl _ _).drew, c0'⟩ ?_
          rotate_left
          · intro wq hSw; (try dsimp only at hSw); go_split_ands; go_simp; try with_reducible rfl
          try simp only [Act.put, List.setIfInBounds_toArray, List.set_cons_zero, List.set_cons_succ, List.getElem_toArray, List.getElem_cons_zero, List.getElem_cons_succ]
          refine wpAnyH_take (i := 9) (v := ?_) rfl (by kernel_rfl) (by kernel_rfl) (by kernel_rfl) (fun _ _ _ h => h) (Or.inl ⟨by rfl, ?_⟩) ⟨(Below.refl _ _).drew, c0'⟩ ?_
          rotate_left
          · intro wq hSw; (try dsimp only at hSw); go_split_ands; go_simp; try with_reducible rfl
          try simp only [Act.put, List.setIfInBounds_toArray, List.set_cons_zero, List.set_cons_succ, List.getElem_toArray, List.getElem_cons_zero, List.getElem_cons_succ]
          refine wpAnyH_take (i := 10) (v := ?_) rfl (by kernel_rfl) (by kernel_rfl) (by kernel_rfl) (fun _ _ _ h => h) (Or.inl ⟨by rfl, ?_⟩) ⟨(Below.refl _ _).drew, c0'⟩ ?_
          rotate_left
          · intro wq hSw; (try dsimp only at hSw); go_split_ands; go_simp; try with_reducible rfl
          try simp only [Act.put, List.setIfInBounds_toArray, List.set_cons_zero, List.set_cons_succ, List.getElem_toArray, List.getElem_cons_zero, List.getElem_cons_succ]
          refine wpAnyH_pq 16 [0, 1, 2, 3, 4, 6, 7, 8, 9, 10] [(5, 77), (11, 83)] [(12, 14, 14), (13, 15, 15)] (fun i => if i = 14 then 5 else 11) (fun i => if i = 5 then (x1, t1) else (x2, t2)) 37 wr rfl (by kernel_rfl) (by kernel_rfl) (by kernel_rfl) (by kernel_rfl) (Below.refl _ _).drew (by kernel_rfl) (by kernel_rfl) ?hD ?hsrc (fun w hb => ⟨hb, HSV.out _ hb⟩) ?hcall ?hmake ?hstore ?hdone
          case hD => exact ⟨by decide, by decide, by decide, by decide, by decide, by decide, by decide, fun c hc => by (simp only [List.mem_cons, List.not_mem_nil, or_false] at hc); rcases hc with rfl | rfl <;> exact ⟨by decide, by simp⟩, fun c hc => by (simp only [List.mem_cons, List.not_mem_nil, or_false] at hc); rcases hc with rfl | rfl <;> exact ⟨by decide, by simp, by decide⟩⟩
          case hsrc => decide
          case hcall =>
            intro a wq hb hot c hc K hK
            simp only [List.mem_cons, List.not_mem_nil, or_false] at hc
            rcases hc with rfl | rfl
            · have e1 : a.tmps.getD 72 undef = .slice ob na cb := (hot 72 (by decide) (by decide)).trans (by kernel_rfl)
              have e2 : a.tmps.getD 76 undef = .string s := (hot 76 (by decide) (by decide)).trans (by kernel_rfl)
              refine wpOp_step rfl (fun K' hK2 => ?_)
              rw [if_pos (by rfl)]
              exact pq_call (enters_of Try.func14 (by kernel_rfl) rfl) rfl e1 e2 ((HS1.out wq (HB.out.trans (hb.mono HB.out.size))).mono fun e w' ⟨he, hb'⟩ => ⟨he, hK2 _ _ (hK w' hb')⟩)
            · have e1 : a.tmps.getD 78 undef = .slice od nb cd := (hot 78 (by decide) (by decide)).trans (by kernel_rfl)
              have e2 : a.tmps.getD 82 undef = .string s := (hot 82 (by decide) (by decide)).trans (by kernel_rfl)
              refine wpOp_step rfl (fun K' hK2 => ?_)
              rw [if_pos (by rfl)]
              exact pq_call (enters_of Try.func14 (by kernel_rfl) rfl) rfl e1 e2 ((HS2.out wq (HB.out.trans (hb.mono HB.out.size))).mono fun e w' ⟨he, hb'⟩ => ⟨he, hK2 _ _ (hK w' hb')⟩)
          case hmake =>
            intro a wq x hx K hK
            simp only [List.mem_cons, List.not_mem_nil, or_false] at hx
            rcases hx with rfl | rfl
            all_goals
              refine wpOp_step rfl (fun K' hK2 => ?_)
              rw [if_pos (by rfl)]
              go_simp
              exact hK2 _ _ hK
          case hstore =>
            intro a wq x hx c hc hcs g u h1 h2 h3 K hK
            simp only [List.mem_cons, List.not_mem_nil, or_false] at hx hc
            rcases hx with rfl | rfl
            · rcases hc with rfl | rfl
              · refine wpOp_step rfl (fun K' hK2 => ?_)
                rw [if_pos (by rfl)]
                have z0 : wq.cell? ⟨g, 0, none⟩ = some (.string u.1) := by rw [cell_of_row h3]; rfl
                have z1 : wq.cell? ⟨g, 1, none⟩ = some (.bool u.2) := by rw [cell_of_row h3]; rfl
                have f0 : wq.frozen? ⟨g, 0, none⟩ = false := by simp [World.frozen?, h3]
                have f1 : wq.frozen? ⟨g, 1, none⟩ = false := by simp [World.frozen?, h3]
                dsimp only at h1 h2
                go_simp
                exact hK2 _ _ (hK _ (two_set wq g _ _) (two_cells h3 _ _))
              · exact absurd hcs (by decide)
            · rcases hc with rfl | rfl
              · exact absurd hcs (by decide)
              · refine wpOp_step rfl (fun K' hK2 => ?_)
                rw [if_pos (by rfl)]
                have z0 : wq.cell? ⟨g, 0, none⟩ = some (.string u.1) := by rw [cell_of_row h3]; rfl
                have z1 : wq.cell? ⟨g, 1, none⟩ = some (.bool u.2) := by rw [cell_of_row h3]; rfl
                have f0 : wq.frozen? ⟨g, 0, none⟩ = false := by simp [World.frozen?, h3]
                have f1 : wq.frozen? ⟨g, 1, none⟩ = false := by simp [World.frozen?, h3]
                dsimp only at h1 h2
                go_simp
                exact hK2 _ _ (hK _ (two_set wq g _ _) (two_cells h3 _ _))
          case hdone =>
            intro g a wq hdf hts hot hcl hxl hb
            obtain ⟨q1, q2⟩ := hxl (12, 14, 14) (by simp)
            obtain ⟨q3, q4⟩ := hxl (13, 15, 15) (by simp)
            have q5 := hcl (5, 77) (by simp)
            have q6 := hcl (11, 83) (by simp)
            have ha := act_of [(77, sdV (x1, t1)), (83, sdV (x2, t2)), (14, ptr (g 12)), (15, ptr (g 13))] hdf hts (fun p hp => by (simp only [List.mem_cons, List.not_mem_nil, or_false] at hp); rcases hp with rfl | rfl | rfl | rfl <;> assumption) (fun i hi => hot i (fun h => hi (by simp at h ⊢; rcases h with h | h <;> simp [h])) (fun h => hi (by simp at h ⊢; rcases h with h | h <;> simp [h]))) (by simp) (fun p hp => by (simp only [List.mem_cons, List.not_mem_nil, or_false] at hp); rcases hp with rfl | rfl | rfl | rfl <;> simp)
            subst ha
            simp only [List.foldl, List.setIfInBounds_toArray, List.set_cons_zero, List.set_cons_succ]
            have q2' : wq.heap[g 12]? = some (.cells #[.string x1, .bool t1] 37 (0, 0)) := q2
            have q4' : wq.heap[g 13]? = some (.cells #[.string x2, .bool t2] 37 (0, 0)) := q4
            clear q1 q2 q3 q4 q5 q6 hcl hxl hot hts hdf
            go_step
            go_step
            go_meet
            exact ⟨_, _, rfl, rfl, q2', q4', hb⟩
        case rest =>

          obtain ⟨gp, gq, rfl, rfl, h1, h2, hbc⟩ := hcut
          have p0 : wc.cell? ⟨gp, 0, none⟩ = some (.string x1) := by rw [cell_of_row h1]; rfl
          have p1 : wc.cell? ⟨gp, 1, none⟩ = some (.bool t1) := by rw [cell_of_row h1]; rfl
          have z0 : wc.cell? ⟨gq, 0, none⟩ = some (.string x2) := by rw [cell_of_row h2]; rfl
          have z1 : wc.cell? ⟨gq, 1, none⟩ = some (.bool t2) := by rw [cell_of_row h2]; rfl
          have c0 := HSV.out _ hbc
          have hbk := HB.out.trans (hbc.mono HB.out.size)
          have HBC := Lib.hid hbk
          have HIT := Lib.hid (ch_snoc (U := sayK A) (V := sayK B) HS.out)
          have hlen : (chK (KS.take k) (sayK A) (sayK B)).length ≤ 80 := Nat.le_trans (ch_len _ _ _) (by rw [List.length_take]; omega)
          obtain ⟨M, hM⟩ : ∃ M, chK (KS.take k) (sayK A) (sayK B) = M := ⟨_, rfl⟩
          obtain ⟨nn, hnn⟩ : ∃ n, M.length = n := ⟨_, rfl⟩
          have HM := Lib.hid hM; have HNN := Lib.hid hnn
          have heqn := run_eq_rs (x1, t1) (x2, t2)
          (try dsimp only at heqn)
          rw [hM, hnn] at hlen ⊢
          rw [hM] at HIT
          clear hM hnn h1 h2 hbc hbk HSV
          by_cases heq : ((x1, t1) : SdB) = (x2, t2)
          · rw [decide_eq_true heq] at heqn
            have HIT2 : Hid (chK (KS.take (k + 1)) (sayK A) (sayK B) = M) := Lib.hid (HIT.out.trans (by rw [HU.out, HV.out, if_neg (by rw [decide_eq_true heq]; decide), List.append_nil]))
            clear heq HIT
            go_wp2_with fail
            go_roundw
            case rel => exact ⟨k + 1, by rw [HNK.out]; exact hlt, by go_num, by rw [HIT2.out, HNN.out], HBC.out⟩
            case measure => simp [intOf]; omega
          · rw [decide_eq_false heq] at heqn
            have HIT2 : Hid (chK (KS.take (k + 1)) (sayK A) (sayK B) = M ++ [(s, (x1, t1), (x2, t2))]) := Lib.hid (HIT.out.trans (by rw [HU.out, HV.out, if_pos (by rw [decide_eq_false heq]; rfl)]))
            have hpre := ch_prefix (U := sayK A) (V := sayK B) HS.out (by rw [HU.out, HV.out]; exact heq)
            rw [HU.out, HV.out, HM.out, HNN.out] at hpre
            have hLe : L = chK KS (sayK A) (sayK B) := by rw [HLD.out, HKS.out]; rfl
            rw [← hLe] at hpre
            have hnl : nn < nl := by rw [← HNL.out]; exact (List.getElem?_eq_some_iff.1 hpre).1
            obtain ⟨bl, il, hol, d0, d1, d2, d3, d4⟩ := (HC7.out.below HBC.out) nn _ hpre
            subst hol
            (try dsimp only at d0 d1 d2 d3 d4)
            have hne := run_ne_cg (s, (x1, t1), (x2, t2))
            (try dsimp only at hne)
            clear heq HIT hpre hLe
            go_wp2_with fail
            go_quiet (fail)
            (first | (have _h : Nat := nq; clear _h) | rename_i nq)
            have HBQ := Lib.hid (below_drewN HBC.out nq)
            clear hne heqn
            go_wp2_with fail
            go_roundw
            case rel => exact ⟨k + 1, by rw [HNK.out]; exact hlt, by go_num, by rw [HIT2.out, List.length_append, HNN.out]; go_num, HBQ.out⟩
            case measure => simp [intOf]; omega
      · obtain rfl : k = nk := by omega
        have HF : Hid (KS.take k = KS) := Lib.hid (List.take_of_length_le (by rw [HNK.out]; exact Nat.le_refl _))
        have hcn : (chK (KS.take k) (sayK A) (sayK B)).length = nl := by rw [HF.out, ← HNL.out, HLD.out, HKS.out]; rfl
        have HX8 := HX7.out.below HB.out; have HW8 := Lib.hid (HW7.out.below HB.out); have HC8 := HC7.out.below HB.out
        have HB8 := Lib.hid (HB7.out.trans (HB.out.mono HB7.out.size))
        have hAPe : applyK A L = (B, 0) := by rw [HLD.out]; exact apply_diff HALL.out.1 HALL.out.2
        have hLB : nl ≤ 80 := by have := diff_len A B; rw [← HLD.out, HNL.out, HNA.out, HNB.out] at this; omega
        have hap := Apply_at oa ol A L ca cl wr (by rw [HNA.out]; omega) (by rw [HNL.out]; omega) HX8 HC8 (by rw [HLD.out]; exact HDZ.out.1) (by rw [HLD.out]; exact HDZ.out.2)
        rw [HNA.out, HNL.out, hAPe] at hap
        dsimp only at hap
        rw [HNB.out] at hap
        have HAP := Lib.hid hap
        rw [hcn]
        clear hap hcn hAPe HX8 HC8
        go_wp2_with (go_at_call 15; (with_reducible refine HAP.out.mono ?_))
        rintro e w9 ⟨oM, cM, rfl, hl, hb⟩
        have hsm := same_any oM od B B cM cd w9 (by rw [HNB.out]; omega) (by rw [HNB.out]; omega) hl (HW8.out.below hb)
        rw [HNB.out, decide_eq_true rfl] at hsm
        have HB9 := Lib.hid (HB8.out.trans (hb.mono HB8.out.size))
        have HSM := Lib.hid hsm
        clear hb hl hsm HAP
        go_wp2_with (go_at_call 16; (with_reducible refine HSM.out.mono ?_); rintro e w10 ⟨rfl, q, hq⟩; have HBE := Lib.hid (show Below w.heap.size w w10 by rw [hq]; exact below_drewN HB9.out q); clear hq)
        go_ret
        exact ⟨rfl, HBE.out⟩
  · have hno : ¬ (RightK A ∧ RightK B) := fun h => hboth ⟨by rw [← HRA.out]; exact decide_eq_true h.1, by rw [← HRB.out]; exact decide_eq_true h.2⟩
    have hE2 := HE.out
    rw [if_neg hno] at hE2
    subst hE2
    have hL2 := HL.out
    rw [if_neg hno] at hL2
    have hnl : nl = 0 := by rw [← HNL.out, ← hL2]; rfl
    subst hnl
    clear hno hL2 HE HL
    have hc : rA = false ∨ (rA = true ∧ rB = false) := by
      cases rA
      · exact Or.inl rfl
      · cases rB
        · exact Or.inr ⟨rfl, rfl⟩
        · exact absurd ⟨rfl, rfl⟩ hboth
    clear hboth
    rcases hc with rfl | ⟨rfl, rfl⟩
    · cases rB
      all_goals
        go_wp2_with (first
          | (go_at_call 11; (first | (with_reducible refine (HR1.out _ HW0.out).mono ?_) | (with_reducible refine (HR3.out _ HW0.out).mono ?_)); rintro e w5 ⟨rfl, hb5⟩; replace HW0 := Lib.hid (HW0.out.trans (hb5.mono HW0.out.size)); clear hb5)
          | (go_at_call 12; (first | (with_reducible refine (HR2.out _ HW0.out).mono ?_) | (with_reducible refine (HR4.out _ HW0.out).mono ?_)); rintro e w6 ⟨rfl, q, hq⟩; replace HW0 := Lib.hid (show Below w4.heap.size w4 w6 by rw [hq]; exact below_drewN HW0.out q); clear hq))
        go_ret
        exact ⟨rfl, HB4.out.trans (HW0.out.mono HB4.out.size)⟩
    · go_wp2_with (first
        | (go_at_call 11; (first | (with_reducible refine (HR1.out _ HW0.out).mono ?_) | (with_reducible refine (HR3.out _ HW0.out).mono ?_)); rintro e w5 ⟨rfl, hb5⟩; replace HW0 := Lib.hid (HW0.out.trans (hb5.mono HW0.out.size)); clear hb5)
        | (go_at_call 12; (first | (with_reducible refine (HR2.out _ HW0.out).mono ?_) | (with_reducible refine (HR4.out _ HW0.out).mono ?_)); rintro e w6 ⟨rfl, q, hq⟩; replace HW0 := Lib.hid (show Below w4.heap.size w4 w6 by rw [hq]; exact below_drewN HW0.out q); clear hq))
      go_ret
      exact ⟨rfl, HB4.out.trans (HW0.out.mono HB4.out.size)⟩
end Go.Proofs.Ytajcglohglbloaa
