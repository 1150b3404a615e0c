/- Keyed lists: the law of merges. -/
import Derived.Test.YthkcmdlfdaggmaaHt
import Derived.Test.YthkcmdlfdaggmaaHx
import Derived.Deep.Cut
import Derived.Deep.CutRange
set_option linter.unusedVariables false
set_option linter.unusedSimpArgs false
namespace Go.Proofs.Ythkcmdlfdaggmaa
open Go.RowKit
variable {w w' : World}

/-- What is wanted so far. -/
def wantK (P O T : ByteArray → SdB) (ks : List ByteArray) : List KvB := ks.flatMap fun s => if okK P O T s = true ∧ (setU P O T s).2 = true then [(s, (setU P O T s).1)] else []
theorem want_snoc {P O T : ByteArray → SdB} {ks : List ByteArray} {k : Nat} {s : ByteArray} (h : ks[k]? = some s) : wantK P O T (ks.take (k + 1)) = wantK P O T (ks.take k) ++ (if okK P O T s = true ∧ (setU P O T s).2 = true then [(s, (setU P O T s).1)] else []) := by
  rw [take_get h]; unfold wantK; rw [List.flatMap_append]; simp
theorem want_len (P O T : ByteArray → SdB) (ks : List ByteArray) : (wantK P O T ks).length ≤ ks.length := by
  unfold wantK
  induction ks with
  | nil => simp
  | cons s r ih => rw [List.flatMap_cons, List.length_append, List.length_cons]; split <;> simp only [List.length_cons, List.length_nil] <;> omega
theorem want_item {P O T : ByteArray → SdB} {ks : List ByteArray} (h : confK P O T ks = []) : wantK P O T ks = itemK ks (setU P O T) := by
  have hk := conf_nil h
  have hall : ∀ s ∈ ks, okK P O T s = true := fun s hs => by rw [← hk] at hs; exact (List.mem_filter.1 hs).2
  unfold wantK itemK
  clear h hk
  induction ks with
  | nil => rfl
  | cons s r ih =>
    have ih := ih (fun x hx => hall x (List.mem_cons_of_mem _ hx))
    rw [List.flatMap_cons, ih]
    have h0 := hall s (List.mem_cons_self ..)
    by_cases h2 : (setU P O T s).2 = true
    · simp [h0, h2]
    · simp [h0, h2]
theorem run_ne_rs (u v : SdB) (w : World) : (binOp .neq 37 (sdV u) (sdV v)).run Try.prog w = .ok (.bool (!decide (u = v))) w := by
  rw [run_neq_struct, run_equalIn_agg _ _ _ _ _ under_rs held_rs, ← sd_eq_bool]
  cases h : (u.1.toList == v.1.toList) <;> simp [Op.eqFields, Program.fieldsOf, Try.underlying37, part, go_sem, Try.underlying9, Try.underlying4, h] <;> (try (by_cases h2 : u.2 = v.2 <;> simp [h2]))
theorem under_cf : Try.prog.underlying 57 = some (.struct (Try.prog.fieldsOf 57)) := by kernel_rfl
theorem held_cf : Try.prog.stoodInHeld 57 = false := by kernel_rfl
theorem run_ne_cf (p : CfB) (w : World) : (binOp .neq 57 (cfV p) (cfV p)).run Try.prog w = .ok (.bool false) w := by
  rw [run_neq_struct, run_equalIn_agg _ _ _ _ _ under_cf held_cf]
  simp [Op.eqFields, Program.fieldsOf, Try.underlying57, Try.underlying39, part, go_sem, Try.underlying9, Try.underlying4]
theorem conf_prefix {P O T : ByteArray → SdB} {ks : List ByteArray} {i : Nat} {s : ByteArray} (h : ks[i]? = some s) (hd : okK P O T s = false) : (confK P O T ks)[(confK P O T (ks.take i)).length]? = some (s, P s, O s, T s) := by
  have e : ks = ks.take (i + 1) ++ ks.drop (i + 1) := (List.take_append_drop _ _).symm
  have h1 : confK P O T ks = confK P O T (ks.take (i + 1)) ++ confK P O T (ks.drop (i + 1)) := by
    conv => lhs; rw [e]
    unfold confK; rw [List.filter_append, List.map_append]
  rw [h1, conf_no h hd, List.append_assoc, List.getElem?_append_right (Nat.le_refl _), Nat.sub_self]
  rfl
def MlS (A B C : List KvB) (KS : List ByteArray) (w0 : World) (v n i : Value) (wr : World) : Prop :=
  ∃ k : Nat, k ≤ KS.length ∧ i = .int .i64 k ∧ n = .int .i64 (confK (sayK A) (sayK B) (sayK C) (KS.take k)).length ∧ wr.ownsRow w0.heap.size 50 2 v (wantK (sayK A) (sayK B) (sayK C) (KS.take k)).length (flatK (wantK (sayK A) (sayK B) (sayK C) (KS.take k))) ∧ Below w0.heap.size w0 wr
set_option maxHeartbeats 16000000 in
set_option maxRecDepth 100000 in
theorem LMerges_any (o0 : Option Addr) (a0 : List KvB) (c0 : Nat) (o1 : Option Addr) (a1 : List KvB) (c1 : Nat) (o2 : Option Addr) (a2 : List KvB) (c2 : Nat) (w : World) (hl0 : a0.length ≤ maxLen) (h0 : KvAt w o0 a0) (hl1 : a1.length ≤ maxLen) (h1 : KvAt w o1 a1) (hl2 : a2.length ≤ maxLen) (h2 : KvAt w o2 a2) :
    Calls Try.prog 5 #[.slice o0 a0.length c0, .slice o1 a1.length c1, .slice o2 a2.length c2] w fun e w' => e = .returned (.bool true) ∧ Below w.heap.size w w' := by
  have HSP := Lib.hid (fun W => speaks_any W)
  have hI0 := fun (W : World) (hW : Below w.heap.size w W) => items_at o0 a0 c0 W hl0 (h0.below hW)
  obtain ⟨l0, hll0⟩ : ∃ n, a0.length = n := ⟨_, rfl⟩
  rw [hll0] at hI0 ⊢
  have hb400 := take40 a0
  obtain ⟨A, hA⟩ : ∃ A, a0.take 40 = A := ⟨_, rfl⟩
  rw [hA] at hI0 hb400
  obtain ⟨nA, hnA⟩ : ∃ n, A.length = n := ⟨_, rfl⟩
  rw [hnA] at hI0 hb400
  have HNA := Lib.hid hnA
  have HI0 := Lib.hid hI0
  clear hI0 hA hnA h0 hl0 hll0
  have hI1 := fun (W : World) (hW : Below w.heap.size w W) => items_at o1 a1 c1 W hl1 (h1.below hW)
  obtain ⟨l1, hll1⟩ : ∃ n, a1.length = n := ⟨_, rfl⟩
  rw [hll1] at hI1 ⊢
  have hb401 := take40 a1
  obtain ⟨B, hB⟩ : ∃ A, a1.take 40 = A := ⟨_, rfl⟩
  rw [hB] at hI1 hb401
  obtain ⟨nB, hnB⟩ : ∃ n, B.length = n := ⟨_, rfl⟩
  rw [hnB] at hI1 hb401
  have HNB := Lib.hid hnB
  have HI1 := Lib.hid hI1
  clear hI1 hB hnB h1 hl1 hll1
  have hI2 := fun (W : World) (hW : Below w.heap.size w W) => items_at o2 a2 c2 W hl2 (h2.below hW)
  obtain ⟨l2, hll2⟩ : ∃ n, a2.length = n := ⟨_, rfl⟩
  rw [hll2] at hI2 ⊢
  have hb402 := take40 a2
  obtain ⟨C, hC⟩ : ∃ A, a2.take 40 = A := ⟨_, rfl⟩
  rw [hC] at hI2 hb402
  obtain ⟨nC, hnC⟩ : ∃ n, C.length = n := ⟨_, rfl⟩
  rw [hnC] at hI2 hb402
  have HNC := Lib.hid hnC
  have HI2 := Lib.hid hI2
  clear hI2 hC hnC h2 hl2 hll2
  have HB : Hid (Below w.heap.size w w) := Lib.hid (Below.refl _ _)
  go_enter Try.func5, Try.ntmps5
  go_wp2_with (first
    | (go_at_call 8; refine (HSP.out _).mono ?_; rintro e wsp ⟨rfl, hb1⟩; replace HB := Lib.hid (HB.out.trans (hb1.mono HB.out.size)); clear hb1 HSP)
    | (go_at_call 9; (with_reducible refine (HI0.out _ HB.out).mono ?_)))
  rintro e wi0 ⟨oxA, cxA, ovA, cvA, rfl, hx, hv, hb⟩
  replace HB := Lib.hid (HB.out.trans (hb.mono HB.out.size))
  have HXA := Lib.hid hx; have HVA := Lib.hid hv
  clear hx hv hb HI0
  go_wp2_with (go_at_call 9; (with_reducible refine (HI1.out _ HB.out).mono ?_))
  rintro e wi1 ⟨oxB, cxB, ovB, cvB, rfl, hx, hv, hb⟩
  replace HB := Lib.hid (HB.out.trans (hb.mono HB.out.size))
  replace HXA := Lib.hid (HXA.out.below hb)
  replace HVA := Lib.hid (HVA.out.below hb)
  have HXB := Lib.hid hx; have HVB := Lib.hid hv
  clear hx hv hb HI1
  go_wp2_with (go_at_call 9; (with_reducible refine (HI2.out _ HB.out).mono ?_))
  rintro e wi2 ⟨oxC, cxC, ovC, cvC, rfl, hx, hv, hb⟩
  replace HB := Lib.hid (HB.out.trans (hb.mono HB.out.size))
  replace HXA := Lib.hid (HXA.out.below hb)
  replace HVA := Lib.hid (HVA.out.below hb)
  replace HXB := Lib.hid (HXB.out.below hb)
  replace HVB := Lib.hid (HVB.out.below hb)
  have HXC := Lib.hid hx; have HVC := Lib.hid hv
  clear hx hv hb HI2
  obtain ⟨L, hL⟩ : ∃ L, (mergeK A B C).1 = L := ⟨_, rfl⟩
  obtain ⟨F, hF⟩ : ∃ L, (mergeK A B C).2.1 = L := ⟨_, rfl⟩
  obtain ⟨E, hE⟩ : ∃ L, (mergeK A B C).2.2 = L := ⟨_, rfl⟩
  have hlen := merge_len A B C
  have hd := Merge_at oxA oxB oxC A B C cxA cxB cxC wi2 (by rw [HNA.out]; omega) (by rw [HNB.out]; omega) (by rw [HNC.out]; omega) HXA.out HXB.out HXC.out
  rw [hL, hF, HNA.out, HNB.out, HNC.out] at hlen
  rw [hL, hF, hE, HNA.out, HNB.out, HNC.out] at hd
  obtain ⟨nL, hnL⟩ : ∃ n, L.length = n := ⟨_, rfl⟩
  obtain ⟨nF, hnF⟩ : ∃ n, F.length = n := ⟨_, rfl⟩
  rw [hnL, hnF] at hd hlen
  have HNL := Lib.hid hnL; have HNF := Lib.hid hnF; have HL := Lib.hid hL; have HF := Lib.hid hF; have HE := Lib.hid hE
  have HD := Lib.hid hd
  clear hd hL hF hE hnL hnF
  go_wp2_with (go_at_call 17; (with_reducible refine HD.out.mono ?_))
  rintro e w4 ⟨oL, cL, oF, cF, rfl, hl, hf, hb⟩
  replace HB := Lib.hid (HB.out.trans (hb.mono HB.out.size))
  replace HXA := Lib.hid (HXA.out.below hb)
  replace HVA := Lib.hid (HVA.out.below hb)
  replace HXB := Lib.hid (HXB.out.below hb)
  replace HVB := Lib.hid (HVB.out.below hb)
  replace HXC := Lib.hid (HXC.out.below hb)
  replace HVC := Lib.hid (HVC.out.below hb)
  have HKL := Lib.hid hl; have HKF := Lib.hid hf
  clear hl hf hb HD
  have hRA := RRight_any ovA A cvA
  rw [HNA.out] at hRA
  obtain ⟨rA, hrA⟩ : ∃ x, decide (RightK A) = x := ⟨_, rfl⟩
  rw [hrA] at hRA
  have HRA := Lib.hid (fun (W : World) (hW : Below w4.heap.size w4 W) => hRA W (by omega) (HVA.out.below hW)); have HRRA := Lib.hid hrA
  clear hRA hrA
  have hRB := RRight_any ovB B cvB
  rw [HNB.out] at hRB
  obtain ⟨rB, hrB⟩ : ∃ x, decide (RightK B) = x := ⟨_, rfl⟩
  rw [hrB] at hRB
  have HRB := Lib.hid (fun (W : World) (hW : Below w4.heap.size w4 W) => hRB W (by omega) (HVB.out.below hW)); have HRRB := Lib.hid hrB
  clear hRB hrB
  have hRC := RRight_any ovC C cvC
  rw [HNC.out] at hRC
  obtain ⟨rC, hrC⟩ : ∃ x, decide (RightK C) = x := ⟨_, rfl⟩
  rw [hrC] at hRC
  have HRC := Lib.hid (fun (W : World) (hW : Below w4.heap.size w4 W) => hRC W (by omega) (HVC.out.below hW)); have HRRC := Lib.hid hrC
  clear hRC hrC
  have HW0 : Hid (Below w4.heap.size w4 w4) := Lib.hid (Below.refl _ _)
  by_cases hall : rA = true ∧ rB = true ∧ rC = true
  · obtain ⟨rfl, rfl, rfl⟩ := hall
    have hc3 : RightK A ∧ RightK B ∧ RightK C := ⟨of_decide_eq_true HRRA.out, of_decide_eq_true HRRB.out, of_decide_eq_true HRRC.out⟩
    have HALL := Lib.hid hc3
    clear hc3
    have hK := fun (W : World) (hW : Below w4.heap.size w4 W) => Keys_at ovA ovB ovC A B C cvA cvB cvC W (by rw [HNA.out]; omega) (by rw [HNB.out]; omega) (by rw [HNC.out]; omega) (HVA.out.below hW) (HVB.out.below hW) (HVC.out.below hW) _ rfl
    simp only [HNA.out, HNB.out, HNC.out] at hK
    have HKA : Hid (Asc (ks3 A B C)) := Lib.hid (ks3_asc _ _ _)
    have hkn : (ks3 A B C).length ≤ 120 := by
      have h := keyL_len (ksK A ++ (ksK B ++ ksK C))
      unfold ks3; rw [List.length_append, List.length_append, List.length_map, List.length_map, List.length_map, HNA.out, HNB.out, HNC.out] at h; omega
    obtain ⟨KS, hKS⟩ : ∃ KS, ks3 A B C = KS := ⟨_, rfl⟩
    rw [hKS] at HKA hkn
    simp only [hKS] at hK
    obtain ⟨nk, hnk⟩ : ∃ n, KS.length = n := ⟨_, rfl⟩
    rw [hnk] at hkn
    simp only [hnk] at hK
    have HNK := Lib.hid hnk; have HKS := Lib.hid hKS; have HK := Lib.hid hK
    clear hK hKS hnk
    go_wp2_with (first | (go_at_call 13; (with_reducible refine (HK.out _ HW0.out).mono ?_)) | (go_at_call 12; (with_reducible refine (HRA.out _ HW0.out).mono ?_); rintro e wr ⟨rfl, q, hq⟩; replace HW0 := Lib.hid (show Below w4.heap.size w4 wr by rw [hq]; exact below_drewN HW0.out q); clear hq) | (go_at_call 12; (with_reducible refine (HRB.out _ HW0.out).mono ?_); rintro e wr ⟨rfl, q, hq⟩; replace HW0 := Lib.hid (show Below w4.heap.size w4 wr by rw [hq]; exact below_drewN HW0.out q); clear hq) | (go_at_call 12; (with_reducible refine (HRC.out _ HW0.out).mono ?_); rintro e wr ⟨rfl, q, hq⟩; replace HW0 := Lib.hid (show Below w4.heap.size w4 wr by rw [hq]; exact below_drewN HW0.out q); clear hq))
    rintro e w7 ⟨ok, ck, rfl, htx, hb0⟩
    have hb := HW0.out.trans (hb0.mono HW0.out.size)
    replace HB := Lib.hid (HB.out.trans (hb.mono HB.out.size))
    replace HXA := Lib.hid (HXA.out.below hb)
    replace HVA := Lib.hid (HVA.out.below hb)
    replace HXB := Lib.hid (HXB.out.below hb)
    replace HVB := Lib.hid (HVB.out.below hb)
    replace HXC := Lib.hid (HXC.out.below hb)
    replace HVC := Lib.hid (HVC.out.below hb)
    replace HKL := Lib.hid (HKL.out.below hb)
    replace HKF := Lib.hid (HKF.out.below hb)
    have HTX := Lib.hid htx
    clear hb hb0 htx HK HW0 HRA HRB HRC
    go_wp2_with fail
    go_loopw [16, 18, 19] (fun v n i wr => MlS A B C KS w7 v n i wr) (fun _ _ i _ => nk - (intOf i).toNat)
    case atStart => exact ⟨0, Nat.zero_le _, rfl, by rw [List.take_zero]; rfl, by rw [List.take_zero]; exact World.ownsRow_nil _ _ _ _, Below.refl _ _⟩
    case round =>
      obtain ⟨k, hk, rfl, rfl, hrow, hb⟩ := hrel
      rw [HNK.out] at hk
      have HBB := Lib.hid hb; have HROW := Lib.hid hrow
      clear hb hrow
      obtain ⟨M, hM⟩ : ∃ M, confK (sayK A) (sayK B) (sayK C) (KS.take k) = M := ⟨_, rfl⟩
      obtain ⟨W, hW⟩ : ∃ M, wantK (sayK A) (sayK B) (sayK C) (KS.take k) = M := ⟨_, rfl⟩
      have hml : M.length ≤ 120 := by rw [← hM]; exact Nat.le_trans (conf_len _) (by rw [List.length_take]; omega)
      have hwl : W.length ≤ 120 := by rw [← hW]; exact Nat.le_trans (want_len _ _ _ _) (by rw [List.length_take]; omega)
      rw [hM]
      rw [hW] at HROW
      obtain ⟨nn, hnn⟩ : ∃ n, M.length = n := ⟨_, rfl⟩
      rw [hnn] at hml ⊢
      have HM := Lib.hid hM; have HWL := Lib.hid hW; have HNN := Lib.hid hnn
      clear hM hW hnn
      by_cases hlt : k < nk
      · obtain ⟨s, hs⟩ : ∃ s, KS[k]? = some s := ⟨_, List.getElem?_eq_getElem (by rw [HNK.out]; exact hlt)⟩
        obtain ⟨hss, b0, i0, ho, c0'⟩ := tx_get (HTX.out.below HBB.out) hs
        subst ho
        have HS := Lib.hid hs
        have hS1 := fun (W : World) (hW : Below w7.heap.size w7 W) => Says_any ovA A cvA s W (by rw [HNA.out]; omega) (HVA.out.below hW)
        rw [HNA.out] at hS1
        obtain ⟨u1, hu1⟩ : ∃ u, sayK A s = u := ⟨_, rfl⟩
        rw [hu1] at hS1
        have HU1 := Lib.hid hu1
        obtain ⟨x1, t1⟩ := u1
        have hS1' := fun (W : World) (hW : Below wr.heap.size wr W) => hS1 W (HBB.out.trans (hW.mono HBB.out.size))
        have HS1 := Lib.hid hS1'
        clear hS1 hS1' hu1
        have hS2 := fun (W : World) (hW : Below w7.heap.size w7 W) => Says_any ovB B cvB s W (by rw [HNB.out]; omega) (HVB.out.below hW)
        rw [HNB.out] at hS2
        obtain ⟨u2, hu2⟩ : ∃ u, sayK B s = u := ⟨_, rfl⟩
        rw [hu2] at hS2
        have HU2 := Lib.hid hu2
        obtain ⟨x2, t2⟩ := u2
        have hS2' := fun (W : World) (hW : Below wr.heap.size wr W) => hS2 W (HBB.out.trans (hW.mono HBB.out.size))
        have HS2 := Lib.hid hS2'
        clear hS2 hS2' hu2
        have hS3 := fun (W : World) (hW : Below w7.heap.size w7 W) => Says_any ovC C cvC s W (by rw [HNC.out]; omega) (HVC.out.below hW)
        rw [HNC.out] at hS3
        obtain ⟨u3, hu3⟩ : ∃ u, sayK C s = u := ⟨_, rfl⟩
        rw [hu3] at hS3
        have HU3 := Lib.hid hu3
        obtain ⟨x3, t3⟩ := u3
        have hS3' := fun (W : World) (hW : Below wr.heap.size wr W) => hS3 W (HBB.out.trans (hW.mono HBB.out.size))
        have HS3 := Lib.hid hS3'
        clear hS3 hS3' hu3
        have hki : (k : Int) < nk := by omega
        have HSV : Hid (∀ W, Below wr.heap.size wr W → W.cell? ⟨b0, i0 + k, none⟩ = some (.string s)) := Lib.hid fun W hW => (hW.cell (World.block_lt_of_cell? wr _ c0')).trans c0'
        clear hs hss
        go_wp2_with fail
        go_cut [20, 21, 22] from 84 to 102 (fun p q r wx => ∃ gp gq gr : Nat, p = ptr gp ∧ q = ptr gq ∧ r = ptr gr ∧ wx.heap[gp]? = some (.cells #[.string x1, .bool t1] 37 (0, 0)) ∧ wx.heap[gq]? = some (.cells #[.string x2, .bool t2] 37 (0, 0)) ∧ wx.heap[gr]? = some (.cells #[.string x3, .bool t3] 37 (0, 0)) ∧ Below wr.heap.size wr wx)
        case first =>
          refine wp_region_held_drew (S := fun w' => Below wr.heap.size wr w' ∧ w'.cell? ⟨b0, i0 + k, none⟩ = some (.string s)) (by kernel_rfl) ⟨(Below.refl _ _).drew, c0'⟩ (fun _ => ?_)
          refine wpAnyH_take (i := 0) (v := ?_) rfl (by kernel_rfl) (by kernel_rfl) (by kernel_rfl) (fun _ _ _ h => h) (Or.inl ⟨by rfl, ?_⟩) ⟨(Below.refl _ _).drew, c0'⟩ ?_
          rotate_left
          · intro wq hSw; (try dsimp only at hSw); go_split_ands; go_simp; try with_reducible rfl
          try simp only [Act.put, List.setIfInBounds_toArray, List.set_cons_zero, List.set_cons_succ, List.getElem_toArray, List.getElem_cons_zero, List.getElem_cons_succ]
          refine wpAnyH_take (i := 1) (v := ?_) rfl (by kernel_rfl) (by kernel_rfl) (by kernel_rfl) (fun _ _ _ h => h) (Or.inl ⟨by rfl, ?_⟩) ⟨(Below.refl _ _).drew, c0'⟩ ?_
          rotate_left
          · intro wq hSw; (try dsimp only at hSw); go_split_ands; go_simp; try with_reducible rfl
          try simp only [Act.put, List.setIfInBounds_toArray, List.set_cons_zero, List.set_cons_succ, List.getElem_toArray, List.getElem_cons_zero, List.getElem_cons_succ]
          refine wpAnyH_take (i := 2) (v := ?_) rfl (by kernel_rfl) (by kernel_rfl) (by kernel_rfl) (fun _ _ _ h => h) (Or.inl ⟨by rfl, ?_⟩) ⟨(Below.refl _ _).drew, c0'⟩ ?_
          rotate_left
          · intro wq hSw; (try dsimp only at hSw); go_split_ands; go_simp; try with_reducible rfl
          try simp only [Act.put, List.setIfInBounds_toArray, List.set_cons_zero, List.set_cons_succ, List.getElem_toArray, List.getElem_cons_zero, List.getElem_cons_succ]
          refine wpAnyH_take (i := 3) (v := ?_) rfl (by kernel_rfl) (by kernel_rfl) (by kernel_rfl) (fun _ _ _ h => h) (Or.inl ⟨by rfl, ?_⟩) ⟨(Below.refl _ _).drew, c0'⟩ ?_
          rotate_left
          · intro wq hSw; (try dsimp only at hSw); go_split_ands; go_simp; try with_reducible rfl
          try simp only [Act.put, List.setIfInBounds_toArray, List.set_cons_zero, List.set_cons_succ, List.getElem_toArray, List.getElem_cons_zero, List.getElem_cons_succ]
          refine wpAnyH_take (i := 4) (v := ?_) rfl (by kernel_rfl) (by kernel_rfl) (by kernel_rfl) (fun _ _ _ h => h) (Or.inl ⟨by rfl, ?_⟩) ⟨(Below.refl _ _).drew, c0'⟩ ?_
          rotate_left
          · intro wq hSw; (try dsimp only at hSw); go_split_ands; go_simp; try with_reducible rfl
          try simp only [Act.put, List.setIfInBounds_toArray, List.set_cons_zero, List.set_cons_succ, List.getElem_toArray, List.getElem_cons_zero, List.getElem_cons_succ]
          refine wpAnyH_take (i := 6) (v := ?_) rfl (by kernel_rfl) (by kernel_rfl) (by kernel_rfl) (fun _ _ _ h => h) (Or.inl ⟨by rfl, ?_⟩) ⟨(Below.refl _ _).drew, c0'⟩ ?_
          rotate_left
          · intro wq hSw; (try dsimp only at hSw); go_split_ands; go_simp; try with_reducible rfl
          try simp only [Act.put, List.setIfInBounds_toArray, List.set_cons_zero, List.set_cons_succ, List.getElem_toArray, List.getElem_cons_zero, List.getElem_cons_succ]
          refine wpAnyH_take (i := 7) (v := ?_) rfl (by kernel_rfl) (by kernel_rfl) (by kernel_rfl) (fun _ _ _ h => h) (Or.inl ⟨by rfl, ?_⟩) ⟨(Below.refl _ _).drew, c0'⟩ ?_
          rotate_left
          · intro wq hSw; (try dsimp only at hSw); go_split_ands; go_simp; try with_reducible rfl
          try simp only [Act.put, List.setIfInBounds_toArray, List.set_cons_zero, List.set_cons_succ, List.getElem_toArray, List.getElem_cons_zero, List.getElem_cons_succ]
          refine wpAnyH_take (i := 8) (v := ?_) rfl (by kernel_rfl) (by kernel_rfl) (by kernel_rfl) (fun _ _ _ h => h) (Or.inl ⟨by rfl, ?_⟩) ⟨(Below.refl _ _).drew, c0'⟩ ?_
          rotate_left
          · intro wq hSw; (try dsimp only at hSw); go_split_ands; go_simp; try with_reducible rfl
          try simp only [Act.put, List.setIfInBounds_toArray, List.set_cons_zero, List.set_cons_succ, List.getElem_toArray, List.getElem_cons_zero, List.getElem_cons_succ]
          refine wpAnyH_take (i := 9) (v := ?_) rfl (by kernel_rfl) (by kernel_rfl) (by kernel_rfl) (fun _ _ _ h => h) (Or.inl ⟨by rfl, ?_⟩) ⟨(Below.refl _ _).drew, c0'⟩ ?_
          rotate_left
          · intro wq hSw; (try dsimp only at hSw); go_split_ands; go_simp; try with_reducible rfl
          try simp only [Act.put, List.setIfInBounds_toArray, List.set_cons_zero, List.set_cons_succ, List.getElem_toArray, List.getElem_cons_zero, List.getElem_cons_succ]
          refine wpAnyH_take (i := 10) (v := ?_) rfl (by kernel_rfl) (by kernel_rfl) (by kernel_rfl) (fun _ _ _ h => h) (Or.inl ⟨by rfl, ?_⟩) ⟨(Below.refl _ _).drew, c0'⟩ ?_
          rotate_left
          · intro wq hSw; (try dsimp only at hSw); go_split_ands; go_simp; try with_reducible rfl
          try simp only [Act.put, List.setIfInBounds_toArray, List.set_cons_zero, List.set_cons_succ, List.getElem_toArray, List.getElem_cons_zero, List.getElem_cons_succ]
          refine wpAnyH_take (i := 12) (v := ?_) rfl (by kernel_rfl) (by kernel_rfl) (by kernel_rfl) (fun _ _ _ h => h) (Or.inl ⟨by rfl, ?_⟩) ⟨(Below.refl _ _).drew, c0'⟩ ?_
          rotate_left
          · intro wq hSw; (try dsimp only at hSw); go_split_ands; go_simp; try with_reducible rfl
          try simp only [Act.put, List.setIfInBounds_toArray, List.set_cons_zero, List.set_cons_succ, List.getElem_toArray, List.getElem_cons_zero, List.getElem_cons_succ]
          refine wpAnyH_take (i := 13) (v := ?_) rfl (by kernel_rfl) (by kernel_rfl) (by kernel_rfl) (fun _ _ _ h => h) (Or.inl ⟨by rfl, ?_⟩) ⟨(Below.refl _ _).drew, c0'⟩ ?_
          rotate_left
          · intro wq hSw; (try dsimp only at hSw); go_split_ands; go_simp; try with_reducible rfl
          try simp only [Act.put, List.setIfInBounds_toArray, List.set_cons_zero, List.set_cons_succ, List.getElem_toArray, List.getElem_cons_zero, List.getElem_cons_succ]
          refine wpAnyH_take (i := 14) (v := ?_) rfl (by kernel_rfl) (by kernel_rfl) (by kernel_rfl) (fun _ _ _ h => h) (Or.inl ⟨by rfl, ?_⟩) ⟨(Below.refl _ _).drew, c0'⟩ ?_
          rotate_left
          · intro wq hSw; (try dsimp only at hSw); go_split_ands; go_simp; try with_reducible rfl
          try simp only [Act.put, List.setIfInBounds_toArray, List.set_cons_zero, List.set_cons_succ, List.getElem_toArray, List.getElem_cons_zero, List.getElem_cons_succ]
          refine wpAnyH_take (i := 15) (v := ?_) rfl (by kernel_rfl) (by kernel_rfl) (by kernel_rfl) (fun _ _ _ h => h) (Or.inl ⟨by rfl, ?_⟩) ⟨(Below.refl _ _).drew, c0'⟩ ?_
          rotate_left
          · intro wq hSw; (try dsimp only at hSw); go_split_ands; go_simp; try with_reducible rfl
          try simp only [Act.put, List.setIfInBounds_toArray, List.set_cons_zero, List.set_cons_succ, List.getElem_toArray, List.getElem_cons_zero, List.getElem_cons_succ]
          refine wpAnyH_take (i := 16) (v := ?_) rfl (by kernel_rfl) (by kernel_rfl) (by kernel_rfl) (fun _ _ _ h => h) (Or.inl ⟨by rfl, ?_⟩) ⟨(Below.refl _ _).drew, c0'⟩ ?_
          rotate_left
          · intro wq hSw; (try dsimp only at hSw); go_split_ands; go_simp; try with_reducible rfl
          try simp only [Act.put, List.setIfInBounds_toArray, List.set_cons_zero, List.set_cons_succ, List.getElem_toArray, List.getElem_cons_zero, List.getElem_cons_succ]
          refine wpAnyH_pq 24 [0, 1, 2, 3, 4, 6, 7, 8, 9, 10, 12, 13, 14, 15, 16] [(5, 89), (11, 95), (17, 101)] [(18, 20, 21), (19, 21, 22), (20, 22, 23)] (fun i => if i = 21 then 5 else if i = 22 then 11 else 17) (fun i => if i = 5 then (x1, t1) else if i = 11 then (x2, t2) else (x3, t3)) 37 wr rfl (by kernel_rfl) (by kernel_rfl) (by kernel_rfl) (by kernel_rfl) (Below.refl _ _).drew (by kernel_rfl) (by kernel_rfl) ?hD ?hsrc (fun w hb => ⟨hb, HSV.out _ hb⟩) ?hcall ?hmake ?hstore ?hdone
          case hD => exact ⟨by decide, by decide, by decide, by decide, by decide, by decide, by decide, fun c hc => by (simp only [List.mem_cons, List.not_mem_nil, or_false] at hc); rcases hc with rfl | rfl | rfl <;> exact ⟨by decide, by simp⟩, fun c hc => by (simp only [List.mem_cons, List.not_mem_nil, or_false] at hc); rcases hc with rfl | rfl | rfl <;> exact ⟨by decide, by simp, by decide⟩⟩
          case hsrc => decide
          case hcall =>
            intro a wq hb hot c hc K hK
            simp only [List.mem_cons, List.not_mem_nil, or_false] at hc
            rcases hc with rfl | rfl | rfl
            · have e1 : a.tmps.getD 84 undef = .slice ovA nA cvA := (hot 84 (by decide) (by decide)).trans (by kernel_rfl)
              have e2 : a.tmps.getD 88 undef = .string s := (hot 88 (by decide) (by decide)).trans (by kernel_rfl)
              refine wpOp_step rfl (fun K' hK2 => ?_)
              rw [if_pos (by rfl)]
              exact pq_call (enters_of Try.func14 (by kernel_rfl) rfl) rfl e1 e2 ((HS1.out wq hb).mono fun e w' ⟨he, hb'⟩ => ⟨he, hK2 _ _ (hK w' hb')⟩)
            · have e1 : a.tmps.getD 90 undef = .slice ovB nB cvB := (hot 90 (by decide) (by decide)).trans (by kernel_rfl)
              have e2 : a.tmps.getD 94 undef = .string s := (hot 94 (by decide) (by decide)).trans (by kernel_rfl)
              refine wpOp_step rfl (fun K' hK2 => ?_)
              rw [if_pos (by rfl)]
              exact pq_call (enters_of Try.func14 (by kernel_rfl) rfl) rfl e1 e2 ((HS2.out wq hb).mono fun e w' ⟨he, hb'⟩ => ⟨he, hK2 _ _ (hK w' hb')⟩)
            · have e1 : a.tmps.getD 96 undef = .slice ovC nC cvC := (hot 96 (by decide) (by decide)).trans (by kernel_rfl)
              have e2 : a.tmps.getD 100 undef = .string s := (hot 100 (by decide) (by decide)).trans (by kernel_rfl)
              refine wpOp_step rfl (fun K' hK2 => ?_)
              rw [if_pos (by rfl)]
              exact pq_call (enters_of Try.func14 (by kernel_rfl) rfl) rfl e1 e2 ((HS3.out wq hb).mono fun e w' ⟨he, hb'⟩ => ⟨he, hK2 _ _ (hK w' hb')⟩)
          case hmake =>
            intro a wq x hx K hK
            simp only [List.mem_cons, List.not_mem_nil, or_false] at hx
            rcases hx with rfl | rfl | rfl
            all_goals
              refine wpOp_step rfl (fun K' hK2 => ?_)
              rw [if_pos (by rfl)]
              go_simp
              exact hK2 _ _ hK
          case hstore =>
            intro a wq x hx c hc hcs g u h1 h2 h3 K hK
            simp only [List.mem_cons, List.not_mem_nil, or_false] at hx hc
            rcases hx with rfl | rfl | rfl <;> rcases hc with rfl | rfl | rfl
            all_goals first
              | exact absurd hcs (by decide)
              | (refine wpOp_step rfl (fun K' hK2 => ?_)
                 rw [if_pos (by rfl)]
                 have z0 : wq.cell? ⟨g, 0, none⟩ = some (.string u.1) := by rw [cell_of_row h3]; rfl
                 have z1 : wq.cell? ⟨g, 1, none⟩ = some (.bool u.2) := by rw [cell_of_row h3]; rfl
                 have f0 : wq.frozen? ⟨g, 0, none⟩ = false := by simp [World.frozen?, h3]
                 have f1 : wq.frozen? ⟨g, 1, none⟩ = false := by simp [World.frozen?, h3]
                 dsimp only at h1 h2
                 go_simp
                 exact hK2 _ _ (hK _ (two_set wq g _ _) (two_cells h3 _ _)))
          case hdone =>
            intro g a wq hdf hts hot hcl hxl hb
            obtain ⟨q1, q2⟩ := hxl (18, 20, 21) (by simp)
            obtain ⟨q3, q4⟩ := hxl (19, 21, 22) (by simp)
            obtain ⟨q7, q8⟩ := hxl (20, 22, 23) (by simp)
            have q5 := hcl (5, 89) (by simp)
            have q6 := hcl (11, 95) (by simp)
            have q9 := hcl (17, 101) (by simp)
            have ha := act_of [(89, sdV (x1, t1)), (95, sdV (x2, t2)), (101, sdV (x3, t3)), (20, ptr (g 18)), (21, ptr (g 19)), (22, ptr (g 20))] hdf hts (fun p hp => by (simp only [List.mem_cons, List.not_mem_nil, or_false] at hp); rcases hp with rfl | rfl | rfl | rfl | rfl | rfl <;> assumption) (fun i hi => hot i (fun h => hi (by simp at h ⊢; rcases h with h | h | h <;> simp [h])) (fun h => hi (by simp at h ⊢; rcases h with h | h | h <;> simp [h]))) (by simp) (fun p hp => by (simp only [List.mem_cons, List.not_mem_nil, or_false] at hp); rcases hp with rfl | rfl | rfl | rfl | rfl | rfl <;> simp)
            subst ha
            simp only [List.foldl, List.setIfInBounds_toArray, List.set_cons_zero, List.set_cons_succ]
            have q2' : wq.heap[g 18]? = some (.cells #[.string x1, .bool t1] 37 (0, 0)) := q2
            have q4' : wq.heap[g 19]? = some (.cells #[.string x2, .bool t2] 37 (0, 0)) := q4
            have q8' : wq.heap[g 20]? = some (.cells #[.string x3, .bool t3] 37 (0, 0)) := q8
            clear q1 q2 q3 q4 q5 q6 q7 q8 q9 hcl hxl hot hts hdf
            go_step
            go_step
            go_meet
            exact ⟨_, _, _, rfl, rfl, rfl, q2', q4', q8', hb⟩
        case rest =>
          obtain ⟨gp, gq, gr, rfl, rfl, rfl, h1, h2, h3, hbc⟩ := hcut
          have p0 : wc.cell? ⟨gp, 0, none⟩ = some (.string x1) := by rw [cell_of_row h1]; rfl
          have p1 : wc.cell? ⟨gp, 1, none⟩ = some (.bool t1) := by rw [cell_of_row h1]; rfl
          have q0 : wc.cell? ⟨gq, 0, none⟩ = some (.string x2) := by rw [cell_of_row h2]; rfl
          have q1 : wc.cell? ⟨gq, 1, none⟩ = some (.bool t2) := by rw [cell_of_row h2]; rfl
          have r0 : wc.cell? ⟨gr, 0, none⟩ = some (.string x3) := by rw [cell_of_row h3]; rfl
          have r1 : wc.cell? ⟨gr, 1, none⟩ = some (.bool t3) := by rw [cell_of_row h3]; rfl
          have c0 := HSV.out _ hbc
          go_upto_region 17 with fail
          have hB1 : Below wc.heap.size wc (wc.alloc (.cells #[.string x2, .bool t2] 37)) := (Below.refl _ _).alloc (Nat.le_refl _) _
          have hn1 := World.alloc_heap_new wc (.cells #[.string x2, .bool t2] 37)
          generalize wc.alloc (.cells #[.string x2, .bool t2] 37) = wd at hB1 hn1 ⊢
          obtain ⟨gs, hgs⟩ : ∃ g, wc.heap.size = g := ⟨_, rfl⟩
          have hgr : wr.heap.size ≤ gs := by rw [← hgs]; exact hbc.size
          replace p0 := (hB1.cell (World.block_lt_of_cell? wc _ p0)).trans p0
          replace p1 := (hB1.cell (World.block_lt_of_cell? wc _ p1)).trans p1
          replace q0 := (hB1.cell (World.block_lt_of_cell? wc _ q0)).trans q0
          replace q1 := (hB1.cell (World.block_lt_of_cell? wc _ q1)).trans q1
          replace r0 := (hB1.cell (World.block_lt_of_cell? wc _ r0)).trans r0
          replace r1 := (hB1.cell (World.block_lt_of_cell? wc _ r1)).trans r1
          have hbd := hbc.trans (hB1.mono hbc.size)
          replace c0 := HSV.out _ hbd
          rw [hgs] at hn1 ⊢
          have s0 : wd.cell? ⟨gs, 0, none⟩ = some (.string x2) := by rw [cell_of_row hn1]; rfl
          have s1 : wd.cell? ⟨gs, 1, none⟩ = some (.bool t2) := by rw [cell_of_row hn1]; rfl
          have f0 : wd.frozen? ⟨gs, 0, none⟩ = false := by simp [World.frozen?, hn1]
          have f1 : wd.frozen? ⟨gs, 1, none⟩ = false := by simp [World.frozen?, hn1]
          have HN1 := Lib.hid hn1; have HBD := Lib.hid hbd; have HGR := Lib.hid hgr
          have HRD := Lib.hid (own_below HROW.out hbd)
          have HBW := Lib.hid (HBB.out.trans (hbd.mono HBB.out.size))
          clear hB1 hn1 hgs hgr h1 h2 h3 hbc hbd
          have heqp := run_eq_rs (x2, t2) (x1, t1)
          have hnrp := run_ne_rs (x3, t3) (x1, t1)
          have hnqr := run_ne_rs (x2, t2) (x3, t3)
          (try dsimp only at heqp); (try dsimp only at hnrp); (try dsimp only at hnqr)
          have HHQ := Lib.hid heqp; have HHR := Lib.hid hnrp; have HHS := Lib.hid hnqr
          have HC1 := Lib.hid (want_snoc (P := sayK A) (O := sayK B) (T := sayK C) HS.out)
          have hap : u16.ownBlock = none ∨ u16.ownBlock ≠ some gs := by
            cases h : u16.ownBlock with
            | none => exact Or.inl rfl
            | some j =>
              right
              intro e
              have h2 := own_lt_blk HROW.out j h
              have h3 := HGR.out
              injection e with e
              omega
          have HAP := Lib.hid hap
          clear hap hnrp hnqr
          obtain ⟨dq, hdq⟩ : ∃ b, decide (((x2, t2) : SdB) = (x1, t1)) = b := ⟨_, rfl⟩
          rw [hdq] at heqp
          have HDQ := Lib.hid hdq
          clear hdq
          go_upto_if 105 with fail
          clear heqp
          go_cut [18, 23] from 106 to 137 (fun n sv wx => n = .int .i64 nn ∧ sv = ptr gs ∧ ∃ x t, settleK (x1, t1) (x2, t2) (x3, t3) = ((x, t), true) ∧ wx.heap[gs]? = some (.cells #[.string x, .bool t] 37 (0, 0)) ∧ wx.ownsRow w7.heap.size 50 2 u16 W.length (flatK W) ∧ Below wr.heap.size wr wx)
          case first =>
            by_cases e1 : ((x2, t2) : SdB) = (x1, t1)
            · have hset : settleK (x1, t1) (x2, t2) (x3, t3) = ((x3, t3), true) := by
                unfold settleK
                by_cases e2 : ((x2, t2) : SdB) = (x3, t3) ∨ ((x3, t3) : SdB) = (x1, t1)
                · rw [if_pos e2]; rcases e2 with e2 | e2
                  · rw [e2]
                  · rw [e1, e2]
                · rw [if_neg e2, if_pos e1]
              obtain rfl : true = dq := by rw [← HDQ.out, decide_eq_true e1]
              clear e1
              have HSET := Lib.hid hset
              clear hset
              go_wp2_with fail
              go_meet
              exact ⟨rfl, rfl, x3, t3, HSET.out, two_cells HN1.out _ _, HRD.out.kept (two_set wd gs _ _) HAP.out, HBD.out.grown (two_set wd gs _ _) HBD.out.size (fun j hj => by injection hj with hj; subst hj; exact HGR.out)⟩
            · obtain rfl : false = dq := by rw [← HDQ.out, decide_eq_false e1]
              by_cases e2 : ((x2, t2) : SdB) = (x3, t3) ∨ ((x3, t3) : SdB) = (x1, t1)
              · have HSET := Lib.hid (show settleK (x1, t1) (x2, t2) (x3, t3) = ((x2, t2), true) by unfold settleK; rw [if_pos e2])
                have hnrp := HHR.out
                by_cases e3 : ((x3, t3) : SdB) = (x1, t1)
                · rw [decide_eq_true e3] at hnrp
                  clear e1 e2 e3
                  go_wp2_with fail
                  go_meet
                  exact ⟨rfl, rfl, x2, t2, HSET.out, HN1.out, HRD.out, HBD.out⟩
                · rw [decide_eq_false e3] at hnrp
                  have e4 : ((x2, t2) : SdB) = (x3, t3) := e2.resolve_right e3
                  have hnqr := HHS.out
                  rw [decide_eq_true e4] at hnqr
                  clear e1 e2 e3 e4
                  go_wp2_with fail
                  go_meet
                  exact ⟨rfl, rfl, x2, t2, HSET.out, HN1.out, HRD.out, HBD.out⟩
              · have HSET := Lib.hid (show settleK (x1, t1) (x2, t2) (x3, t3) = (sd0, false) by unfold settleK; rw [if_neg e2, if_neg e1])
                have hok : okK (sayK A) (sayK B) (sayK C) s = false := by unfold okK; rw [HU1.out, HU2.out, HU3.out, HSET.out]
                have hnrp := HHR.out; have hnqr := HHS.out
                rw [decide_eq_false (fun e => e2 (Or.inr e))] at hnrp
                rw [decide_eq_false (fun e => e2 (Or.inl e))] at hnqr
                have hpre := conf_prefix (P := sayK A) (O := sayK B) (T := sayK C) HS.out hok
                have HCN := Lib.hid (conf_no (P := sayK A) (O := sayK B) (T := sayK C) HS.out hok)
                have HWN : Hid (wantK (sayK A) (sayK B) (sayK C) (KS.take (k + 1)) = W) := Lib.hid (by rw [HC1.out, hok, if_neg (by simp), List.append_nil]; exact HWL.out)
                rw [HU1.out, HU2.out, HU3.out, HM.out, HNN.out] at hpre
                have hFe : F = confK (sayK A) (sayK B) (sayK C) KS := by
                  rw [← HF.out]
                  unfold mergeK
                  rw [if_neg (fun h => h HALL.out), show cfs3 A B C = confK (sayK A) (sayK B) (sayK C) KS by unfold cfs3; rw [HKS.out], if_neg (fun e => by rw [e] at hpre; simp at hpre)]
                rw [← hFe] at hpre
                have hnf : nn < nF := by rw [← HNF.out]; exact (List.getElem?_eq_some_iff.1 hpre).1
                obtain ⟨bl, il, hol, dc⟩ := (HKF.out.below HBW.out) nn _ hpre
                subst hol
                have d0 : wd.cell? ⟨bl, il + nn * 7, none⟩ = some (.string s) := dc 0 _ rfl
                have d1 : wd.cell? ⟨bl, il + nn * 7 + 1, none⟩ = some (.string x1) := dc 1 _ rfl
                have d2 : wd.cell? ⟨bl, il + nn * 7 + 2, none⟩ = some (.bool t1) := dc 2 _ rfl
                have d3 : wd.cell? ⟨bl, il + nn * 7 + 3, none⟩ = some (.string x2) := dc 3 _ rfl
                have d4 : wd.cell? ⟨bl, il + nn * 7 + 4, none⟩ = some (.bool t2) := dc 4 _ rfl
                have d5 : wd.cell? ⟨bl, il + nn * 7 + 5, none⟩ = some (.string x3) := dc 5 _ rfl
                have d6 : wd.cell? ⟨bl, il + nn * 7 + 6, none⟩ = some (.bool t3) := dc 6 _ rfl
                clear dc
                have hne := run_ne_cf (s, (x1, t1), (x2, t2), (x3, t3))
                (try dsimp only at hne)
                clear e1 e2 hok hpre hFe s0 s1 f0 f1
                go_wp2_with fail
                go_quiet (fail)
                (first | (have _h : Nat := nq; clear _h) | rename_i nq)
                have HBQ := Lib.hid (below_drewN HBW.out nq)
                have HRQ := Lib.hid (own_below HRD.out (below_drewN (Below.refl wd.heap.size wd) nq))
                clear hne hnrp hnqr
                go_wp2_with fail
                go_roundw
                case rel => exact ⟨k + 1, by rw [HNK.out]; exact hlt, by go_num, by rw [HCN.out, List.length_append, HM.out, HNN.out]; go_num, by rw [HWN.out]; exact HRQ.out, HBQ.out⟩
                case measure => simp [intOf]; omega
          case rest =>
            obtain ⟨rfl, rfl, x, t, hset, hw, hown, hbel⟩ := hcut
            have hok : okK (sayK A) (sayK B) (sayK C) s = true := by unfold okK; rw [HU1.out, HU2.out, HU3.out, hset]
            have hsu : setU (sayK A) (sayK B) (sayK C) s = (x, t) := by unfold setU; rw [HU1.out, HU2.out, HU3.out, hset]
            have HCN := Lib.hid (conf_yes (P := sayK A) (O := sayK B) (T := sayK C) HS.out hok)
            have HSV2 : Hid (∀ V, Below wr.heap.size wr V → V.heap[gs]? = some (.cells #[.string x, .bool t] 37 (0, 0)) → V.cell? ⟨b0, i0 + k, none⟩ = some (.string s) ∧ V.cell? ⟨gs, 0, none⟩ = some (.string x)) := Lib.hid fun V hV h => ⟨HSV.out V hV, by rw [cell_of_row h]; rfl⟩
            have c0 := HSV.out _ hbel
            have s0 : wc.cell? ⟨gs, 0, none⟩ = some (.string x) := by rw [cell_of_row hw]; rfl
            have s1 : wc.cell? ⟨gs, 1, none⟩ = some (.bool t) := by rw [cell_of_row hw]; rfl
            have HOWN := Lib.hid hown; have HBL := Lib.hid hbel; have HW2 := Lib.hid hw
            have HBZ := Lib.hid (HBB.out.trans (hbel.mono HBB.out.size))
            clear hown hbel hw hset p0 p1 q0 q1 r0 r1 f0 f1
            cases t with
            | false =>
              have HWN : Hid (wantK (sayK A) (sayK B) (sayK C) (KS.take (k + 1)) = W) := Lib.hid (by rw [HC1.out, hsu, if_neg (by simp), List.append_nil]; exact HWL.out)
              clear hok hsu
              go_wp2_with fail
              go_roundw
              case rel => exact ⟨k + 1, by rw [HNK.out]; exact hlt, by go_num, by rw [HCN.out, HM.out, HNN.out], by rw [HWN.out]; exact HOWN.out, HBZ.out⟩
              case measure => simp [intOf]; omega
            | true =>
              have HWN : Hid (wantK (sayK A) (sayK B) (sayK C) (KS.take (k + 1)) = W ++ [(s, x)]) := Lib.hid (by rw [HC1.out, hsu, hok, if_pos ⟨rfl, rfl⟩, HWL.out])
              clear hok hsu
              obtain ⟨bo, bm, bc, hbv⟩ : ∃ bo bm bc, u16 = .slice bo bm bc := by
                rcases HOWN.out.2 with ⟨h, _⟩ | ⟨_, _, _, h, _⟩
                · exact ⟨_, _, _, h⟩
                · exact ⟨_, _, _, h⟩
              subst hbv
              have HMX : Hid (W.length + 1 ≤ maxLen) := Lib.hid (by unfold maxLen; omega)
              have HBY : Hid ((W.length + 1) * 32 ≤ 140737488355328) := Lib.hid (by omega)
              obtain ⟨i2, hi2, hy0, hy1, hy2⟩ := info_parts info_ri
              have HI2 := Lib.hid hi2; have HY0 := Lib.hid hy0; have HY1 := Lib.hid hy1; have HY2 := Lib.hid hy2
              clear hi2 hy0 hy1 hy2
              go_upto_region 24 with fail
              refine wp_region_held_drew (S := fun w' => w'.cell? ⟨b0, i0 + k, none⟩ = some (.string s) ∧ w'.cell? ⟨gs, 0, none⟩ = some (.string x)) (by kernel_rfl) ⟨c0, s0⟩ (fun _ => ?_)
              refine wpAnyH_take (i := 0) (v := ?_) rfl (by kernel_rfl) (by kernel_rfl) (by kernel_rfl) (fun _ _ _ h => h) (Or.inl ⟨by rfl, ?_⟩) ⟨c0, s0⟩ ?_
              rotate_left
              · intro wq hSw; (try dsimp only at hSw); go_split_ands; go_simp; try with_reducible rfl
              try simp only [Act.put, List.setIfInBounds_toArray, List.set_cons_zero, List.set_cons_succ, List.getElem_toArray, List.getElem_cons_zero, List.getElem_cons_succ]
              refine wpAnyH_take (i := 1) (v := ?_) rfl (by kernel_rfl) (by kernel_rfl) (by kernel_rfl) (fun _ _ _ h => h) (Or.inl ⟨by rfl, ?_⟩) ⟨c0, s0⟩ ?_
              rotate_left
              · intro wq hSw; (try dsimp only at hSw); go_split_ands; go_simp; try with_reducible rfl
              try simp only [Act.put, List.setIfInBounds_toArray, List.set_cons_zero, List.set_cons_succ, List.getElem_toArray, List.getElem_cons_zero, List.getElem_cons_succ]
              refine wpAnyH_take (i := 2) (v := ?_) rfl (by kernel_rfl) (by kernel_rfl) (by kernel_rfl) (fun _ _ _ h => h) (Or.inl ⟨by rfl, ?_⟩) ⟨c0, s0⟩ ?_
              rotate_left
              · intro wq hSw; (try dsimp only at hSw); go_split_ands; go_simp; try with_reducible rfl
              try simp only [Act.put, List.setIfInBounds_toArray, List.set_cons_zero, List.set_cons_succ, List.getElem_toArray, List.getElem_cons_zero, List.getElem_cons_succ]
              refine wpAnyH_take (i := 3) (v := ?_) rfl (by kernel_rfl) (by kernel_rfl) (by kernel_rfl) (fun _ _ _ h => h) (Or.inl ⟨by rfl, ?_⟩) ⟨c0, s0⟩ ?_
              rotate_left
              · intro wq hSw; (try dsimp only at hSw); go_split_ands; go_simp; try with_reducible rfl
              try simp only [Act.put, List.setIfInBounds_toArray, List.set_cons_zero, List.set_cons_succ, List.getElem_toArray, List.getElem_cons_zero, List.getElem_cons_succ]
              refine wpAnyH_take (i := 4) (v := ?_) rfl (by kernel_rfl) (by kernel_rfl) (by kernel_rfl) (fun _ _ _ h => h) (Or.inl ⟨by rfl, ?_⟩) ⟨c0, s0⟩ ?_
              rotate_left
              · intro wq hSw; (try dsimp only at hSw); go_split_ands; go_simp; try with_reducible rfl
              try simp only [Act.put, List.setIfInBounds_toArray, List.set_cons_zero, List.set_cons_succ, List.getElem_toArray, List.getElem_cons_zero, List.getElem_cons_succ]
              refine wpAnyH_take (i := 5) (v := ?_) rfl (by kernel_rfl) (by kernel_rfl) (by kernel_rfl) (fun _ _ _ h => h) (Or.inl ⟨by rfl, ?_⟩) ⟨c0, s0⟩ ?_
              rotate_left
              · intro wq hSw; (try dsimp only at hSw); go_split_ands; go_simp; try with_reducible rfl
              try simp only [Act.put, List.setIfInBounds_toArray, List.set_cons_zero, List.set_cons_succ, List.getElem_toArray, List.getElem_cons_zero, List.getElem_cons_succ]
              refine wpAnyH_take (i := 6) (v := ?_) rfl (by kernel_rfl) (by kernel_rfl) (by kernel_rfl) (fun _ _ _ h => h) (Or.inl ⟨by rfl, ?_⟩) ⟨c0, s0⟩ ?_
              rotate_left
              · intro wq hSw; (try dsimp only at hSw); go_split_ands; go_simp; try with_reducible rfl
              try simp only [Act.put, List.setIfInBounds_toArray, List.set_cons_zero, List.set_cons_succ, List.getElem_toArray, List.getElem_cons_zero, List.getElem_cons_succ]
              refine wpAnyH_take (i := 7) (v := ?_) rfl (by kernel_rfl) (by kernel_rfl) (by kernel_rfl) (fun _ _ _ h => h) (Or.inl ⟨by rfl, ?_⟩) ⟨c0, s0⟩ ?_
              rotate_left
              · intro wq hSw; (try dsimp only at hSw); go_split_ands; go_simp; try with_reducible rfl
              try simp only [Act.put, List.setIfInBounds_toArray, List.set_cons_zero, List.set_cons_succ, List.getElem_toArray, List.getElem_cons_zero, List.getElem_cons_succ]
              refine wpAnyH_ready (rs := [8]) (by kernel_rfl) (by simp) ?_
              refine AllReadyH.cons (o := _) rfl (fun K hK => ?_) AllReadyH.nil
              go_simp
              have hBz := HBL.out
              have hOz : wc.ownsRow w7.heap.size 50 2 (.slice bo bm bc) W.length (flatK W) := HOWN.out
              have hWz : wc.heap[gs]? = some (.cells #[.string x, .bool true] 37 (0, 0)) := HW2.out
              have hV4 : Below wr.heap.size wr ((wc.alloc (.cells #[.string s, .string x] 50)).drew) := (hBz.alloc hBz.size _).drew
              have hn4 : ((wc.alloc (.cells #[.string s, .string x] 50)).drew).heap[wc.heap.size]? = some (.cells #[.string s, .string x] 50) := World.alloc_heap_new wc (.cells #[.string s, .string x] 50)
              have hB3b : ((wc.alloc (.cells #[.string s, .string x] 50)).drew).ownsRow w7.heap.size 50 2 (.slice bo bm bc) W.length (flatK W) := hOz.alloc (.cells #[.string s, .string x] 50)
              have hW4 : ((wc.alloc (.cells #[.string s, .string x] 50)).drew).heap[gs]? = some (.cells #[.string x, .bool true] 37 (0, 0)) := (Lib.alloc_old wc (.cells #[.string s, .string x] 50) _ (Array.getElem?_eq_some_iff.1 hWz).1).trans hWz
              have HSV4 : Hid (∀ V, Below w7.heap.size w7 V → V.cell? ⟨b0, i0 + k, none⟩ = some (.string s)) := Lib.hid fun V hV => by
                obtain ⟨_, b', i', h', c⟩ := tx_get (HTX.out.below hV) HS.out
                cases h'
                exact c
              refine hK.out _ _ ?_ (fun hHeld => ?_)
              · exact HSV2.out _ hV4 hW4
              generalize ((wc.alloc (.cells #[.string s, .string x] 50)).drew) = V4 at hV4 hn4 hB3b hW4 ⊢
              refine wpAnyH_ready (rs := [9]) (by kernel_rfl) (by simp) ?_
              refine AllReadyH.cons (o := _) rfl (fun K hK => ?_) AllReadyH.nil
              refine step_append_lies _ rfl (.tmp 138) (.tmp 146) 25 rfl w7.heap.size 50 i2 _ 2 32 Try.underlying25 HI2.out HY0.out HY1.out HY2.out rfl (by decide) (.slice bo bm bc) W.length (flatK W) (by simp [Act.eval, Act.put]) hB3b ⟨wc.heap.size, 0, none⟩ 1 1 [Value.string s, Value.string x] (by simp [Act.eval, Act.put]) rfl (World.news_of_block hn4) two_memK (by decide) HMX.out HBY.out (Nat.le_trans HBB.out.size hV4.size) V4.heap.size rfl ?_; intro gB cB w4 hown hgrow hat hltB
              have hb4 : Below w7.heap.size w7 w4 := (HBB.out.trans (hV4.mono HBB.out.size)).grown hgrow (Nat.le_trans HBB.out.size hV4.size) (own_base hB3b)
              have hw4 : w4.heap[gs]? = some (.cells #[.string x, .bool true] 37 (0, 0)) := (hgrow.block gs (Array.getElem?_eq_some_iff.1 hW4).1 (fun e => by rcases HAP.out with h | h <;> simp_all)).trans hW4
              have hc4 := HSV4.out _ hb4
              have hd4 : w4.cell? ⟨gs, 0, none⟩ = some (.string x) := by rw [cell_of_row hw4]; rfl
              have HB4 := Lib.hid hb4; have HO4 := Lib.hid hown
              clear hown hgrow hat hltB hw4 hb4 hV4 hn4 hB3b hW4
              refine hK.out _ _ ?_ (fun hHeld => ?_)
              · exact ⟨hc4, hd4⟩
              refine wpAnyH_ready (rs := [10]) (by kernel_rfl) (by simp) ?_
              refine AllReadyH.cons (o := _) rfl (fun K hK => ?_) AllReadyH.nil
              go_simp
              refine hK.out _ _ ?_ (fun hHeld => ?_)
              · exact ⟨hc4, hd4⟩
              refine wpAnyH_done (by kernel_rfl) ?_ _
              clear hHeld hc4 hd4
              go_wp2_with fail
              go_roundw
              case rel => exact ⟨k + 1, by rw [HNK.out]; exact hlt, by go_num, by rw [HCN.out, HM.out, HNN.out], by rw [HWN.out, List.length_append, flatK_snoc]; exact HO4.out, HB4.out⟩
              case measure => simp [intOf]; omega
      · obtain rfl : k = nk := by omega
        have HFK : Hid (KS.take k = KS) := Lib.hid (List.take_of_length_le (by rw [HNK.out]; exact Nat.le_refl _))
        have HB8 := Lib.hid (HB.out.trans (HBB.out.mono HB.out.size))
        have HKL8 := Lib.hid (HKL.out.below HBB.out)
        have hc3 : cfs3 A B C = M := by unfold cfs3; rw [HKS.out, ← HM.out, HFK.out]
        have hmg : mergeK A B C = if M = [] then (itemK KS (setU (sayK A) (sayK B) (sayK C)), [], 0) else ([], M, 0) := by
          unfold mergeK; rw [if_neg (fun h => h HALL.out), hc3, HKS.out]
        by_cases hz : nn = 0
        · have hMn : M = [] := List.eq_nil_of_length_eq_zero (by rw [HNN.out]; exact hz)
          rw [if_pos hMn] at hmg
          have hE2 := HE.out; rw [hmg] at hE2
          have hF2 := HNF.out; rw [← HF.out, hmg] at hF2
          have hL2 := HL.out; rw [hmg] at hL2
          have hWL : W = L := by rw [← HWL.out, HFK.out, ← hL2]; exact want_item (by have := HM.out; rw [HFK.out, hMn] at this; exact this)
          have hsz : ∀ p ∈ W, p.1.size ≤ maxLen ∧ p.2.size ≤ maxLen := fun p hp => by
            rw [hWL] at hp
            obtain ⟨j, hj⟩ := List.mem_iff_getElem?.1 hp
            obtain ⟨h1, h2, _⟩ := HKL8.out j p hj
            exact ⟨h1, h2⟩
          obtain ⟨oW, cW, hu, hkw, _⟩ := own_kvs HROW.out hsz
          have hwn : W.length = nL := by rw [hWL]; exact HNL.out
          rw [hwn] at hu
          subst hu
          have hsm := same_any oL oW L W cL cW wr (by rw [HNL.out]; omega) (by rw [hwn]; omega) HKL8.out hkw
          rw [HNL.out, hwn, decide_eq_true hWL.symm] at hsm
          have HSM := Lib.hid hsm
          dsimp only at hE2
          subst hE2
          obtain rfl : nF = 0 := hF2.symm
          subst hz
          clear hmg hsm hkw hsz hMn hc3 hF2 hL2 hWL hwn
          go_wp2_with (go_at_call 16; (with_reducible refine HSM.out.mono ?_); rintro e w10 ⟨rfl, q, hq⟩; have HBE := Lib.hid (show Below w.heap.size w w10 by rw [hq]; exact below_drewN HB8.out q); clear hq)
          go_ret
          exact ⟨rfl, HBE.out⟩
        · have hMn : ¬ M = [] := fun e => hz (by rw [← HNN.out, e]; rfl)
          rw [if_neg hMn] at hmg
          have hE2 := HE.out; rw [hmg] at hE2
          have hF2 := HNF.out; rw [← HF.out, hmg] at hF2
          have hL2 := HNL.out; rw [← HL.out, hmg] at hL2
          dsimp only at hE2
          subst hE2
          obtain rfl : nn = nF := by rw [← hF2]; exact HNN.out.symm
          obtain rfl : nL = 0 := hL2.symm
          have hsm := same_any oL none [] [] cL 0 wr (by simp) (by simp) (kv_nil _ _) (kv_nil _ _)
          have HSM := Lib.hid (show Calls Try.prog 16 #[.slice oL 0 cL, .slice none 0 0] wr fun e w' => e = .returned (.bool true) ∧ ∃ q, w' = wr.drewN q from hsm)
          have hnp : 0 < nn := by omega
          clear hmg hsm hMn hc3 hF2 hL2
          go_wp2_with (go_at_call 16; (with_reducible refine HSM.out.mono ?_); rintro e w10 ⟨rfl, q, hq⟩; have HBE := Lib.hid (show Below w.heap.size w w10 by rw [hq]; exact below_drewN HB8.out q); clear hq)
          go_ret
          exact ⟨rfl, HBE.out⟩
  · have hno : ¬ (RightK A ∧ RightK B ∧ RightK C) := fun h => hall ⟨by rw [← HRRA.out]; exact decide_eq_true h.1, by rw [← HRRB.out]; exact decide_eq_true h.2.1, by rw [← HRRC.out]; exact decide_eq_true h.2.2⟩
    have hm : mergeK A B C = ([], [], 12) := by unfold mergeK; rw [if_pos hno]
    have hE2 := HE.out
    have hL2 := HNL.out
    have hF2 := HNF.out
    rw [← HL.out, hm] at hL2
    rw [← HF.out, hm] at hF2
    rw [hm] at hE2
    subst hE2
    obtain rfl : nL = 0 := hL2.symm
    obtain rfl : nF = 0 := hF2.symm
    clear hno hm hL2 hF2 HE HL HF
    cases rA <;> cases rB <;> cases rC
    all_goals first | exact absurd ⟨rfl, rfl, rfl⟩ hall | skip
    all_goals
      clear hall
      go_wp2_with (first | (go_at_call 12; (with_reducible refine (HRA.out _ HW0.out).mono ?_); rintro e wr ⟨rfl, q, hq⟩; replace HW0 := Lib.hid (show Below w4.heap.size w4 wr by rw [hq]; exact below_drewN HW0.out q); clear hq) | (go_at_call 12; (with_reducible refine (HRB.out _ HW0.out).mono ?_); rintro e wr ⟨rfl, q, hq⟩; replace HW0 := Lib.hid (show Below w4.heap.size w4 wr by rw [hq]; exact below_drewN HW0.out q); clear hq) | (go_at_call 12; (with_reducible refine (HRC.out _ HW0.out).mono ?_); rintro e wr ⟨rfl, q, hq⟩; replace HW0 := Lib.hid (show Below w4.heap.size w4 wr by rw [hq]; exact below_drewN HW0.out q); clear hq))
      go_ret
      exact ⟨rfl, HB.out.trans (HW0.out.mono HB.out.size)⟩
end Go.Proofs.Ythkcmdlfdaggmaa
