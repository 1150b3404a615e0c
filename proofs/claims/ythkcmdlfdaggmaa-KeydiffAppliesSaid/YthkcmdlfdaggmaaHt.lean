/- Keyed lists: the law of sides. -/
import Derived.Test.YthkcmdlfdaggmaaHs
import Derived.Deep.Cut
import Derived.Deep.CutRange
set_option linter.unusedVariables false
set_option linter.unusedSimpArgs false
namespace Go.Proofs.Ythkcmdlfdaggmaa
open Go.RowKit
variable {w w' : World}

theorem settle_turn (p o t : SdB) : settleK p t o = settleK p o t := by
  unfold settleK
  by_cases h1 : o = t
  · rw [if_pos (.inl h1.symm), if_pos (.inl h1), h1]
  · have h1' : ¬ t = o := fun e => h1 e.symm
    by_cases h2 : t = p
    · have h3 : ¬ o = p := fun e => h1 (e.trans h2.symm)
      rw [if_neg (fun h => h.elim h1' h3), if_pos h2, if_pos (.inr h2)]
    · by_cases h3 : o = p
      · rw [if_pos (.inr h3), if_neg (fun h => h.elim h1 h2), if_pos h3]
      · rw [if_neg (fun h => h.elim h1' h3), if_neg h2, if_neg (fun h => h.elim h1 h2), if_neg h3]
theorem settle_no {p o t : SdB} (h : (settleK p o t).2 = false) : o ≠ t ∧ t ≠ p ∧ o ≠ p := by
  unfold settleK at h
  split at h
  · cases h
  · rename_i h1
    split at h
    · cases h
    · rename_i h2
      exact ⟨fun e => h1 (.inl e), fun e => h1 (.inr e), h2⟩
def swF (c : CfB) : CfB := (c.1, c.2.1, c.2.2.2, c.2.2.1)
theorem ks3_turn (b o t : List KvB) : ks3 b t o = ks3 b o t := by
  unfold ks3
  exact keyL_same fun s => by simp only [List.mem_append]; constructor <;> (rintro (h | h | h) <;> simp [h])
theorem cfs3_turn (b o t : List KvB) : cfs3 b t o = (cfs3 b o t).map swF := by
  unfold cfs3 confK okK
  rw [ks3_turn, List.map_map]
  rw [show (fun s => !(settleK (sayK b s) (sayK t s) (sayK o s)).2) = fun s => !(settleK (sayK b s) (sayK o s) (sayK t s)).2 from funext fun s => by rw [settle_turn]]
  rfl
theorem merge_turn (b o t : List KvB) : mergeK b t o = ((mergeK b o t).1, (mergeK b o t).2.1.map swF, (mergeK b o t).2.2) := by
  by_cases h : RightK b ∧ RightK o ∧ RightK t
  · have h' : RightK b ∧ RightK t ∧ RightK o := ⟨h.1, h.2.2, h.2.1⟩
    by_cases h2 : cfs3 b o t = []
    · have e1 : mergeK b o t = (itemK (ks3 b o t) (setU (sayK b) (sayK o) (sayK t)), [], 0) := by unfold mergeK; rw [if_neg (fun hh => hh h), if_pos h2]
      have e2 : mergeK b t o = (itemK (ks3 b t o) (setU (sayK b) (sayK t) (sayK o)), [], 0) := by unfold mergeK; rw [if_neg (fun hh => hh h'), if_pos (by rw [cfs3_turn, h2]; rfl)]
      rw [e1, e2, ks3_turn, show setU (sayK b) (sayK t) (sayK o) = setU (sayK b) (sayK o) (sayK t) from funext fun s => by unfold setU; rw [settle_turn]]
      rfl
    · have e1 : mergeK b o t = ([], cfs3 b o t, 0) := by unfold mergeK; rw [if_neg (fun hh => hh h), if_neg h2]
      have e2 : mergeK b t o = ([], cfs3 b t o, 0) := by unfold mergeK; rw [if_neg (fun hh => hh h'), if_neg (by rw [cfs3_turn]; exact fun e => h2 (List.map_eq_nil_iff.1 e))]
      rw [e1, e2, cfs3_turn]
  · have h' : ¬ (RightK b ∧ RightK t ∧ RightK o) := fun hh => h ⟨hh.1, hh.2.2, hh.2.1⟩
    have e1 : mergeK b o t = ([], [], 12) := by unfold mergeK; rw [if_pos h]
    have e2 : mergeK b t o = ([], [], 12) := by unfold mergeK; rw [if_pos h']
    rw [e1, e2]; rfl
theorem merge_cf {b o t : List KvB} {c : CfB} (h : c ∈ (mergeK b o t).2.1) : c.2.2.1 ≠ c.2.2.2 ∧ c.2.2.2 ≠ c.2.1 ∧ c.2.2.1 ≠ c.2.1 := by
  have hc : c ∈ cfs3 b o t := by
    unfold mergeK at h
    split at h
    · cases h
    · split at h
      · cases h
      · exact h
  unfold cfs3 confK at hc
  obtain ⟨s, hs, rfl⟩ := List.mem_map.1 hc
  have := (List.mem_filter.1 hs).2
  exact settle_no (by simpa [okK] using this)
theorem merge_one (b o t : List KvB) : (mergeK b o t).1.length = 0 ∨ (mergeK b o t).2.1.length = 0 := by
  unfold mergeK
  split
  · exact .inl rfl
  · split
    · exact .inr rfl
    · exact .inl rfl
theorem merge_len (b o t : List KvB) : (mergeK b o t).1.length ≤ b.length + o.length + t.length ∧ (mergeK b o t).2.1.length ≤ b.length + o.length + t.length := by
  have hk : (ks3 b o t).length ≤ b.length + o.length + t.length := by
    have h := keyL_len (ksK b ++ (ksK o ++ ksK t))
    unfold ks3
    rw [List.length_append, List.length_append, List.length_map, List.length_map, List.length_map] at h; omega
  unfold mergeK
  split
  · exact ⟨Nat.zero_le _, Nat.zero_le _⟩
  · split
    · exact ⟨Nat.le_trans (item_len _ _) hk, Nat.zero_le _⟩
    · exact ⟨Nat.zero_le _, Nat.le_trans (conf_len _) hk⟩
theorem merge_base {b t : List KvB} (hb : RightK b) (ht : RightK t) : mergeK b b t = (t, [], 0) := by
  have hs : ∀ s, settleK (sayK b s) (sayK b s) (sayK t s) = (sayK t s, true) := fun s => by
    unfold settleK
    by_cases h : sayK b s = sayK t s
    · rw [if_pos (.inl h), h]
    · rw [if_neg (fun hh => hh.elim h (fun e => h e.symm)), if_pos rfl]
  have hc : cfs3 b b t = [] := by
    unfold cfs3 confK okK
    rw [List.map_eq_nil_iff, List.filter_eq_nil_iff]
    intro s _; rw [hs]; simp
  unfold mergeK
  rw [if_neg (fun h => h ⟨hb, hb, ht⟩), if_pos hc]
  refine congrArg (·, ([] : List CfB), (0 : Int)) (item_of ht (ks3_asc _ _ _) (fun s _ => by unfold setU; rw [hs]) fun s h => (mem_ks3 _ _ _ _).2 (.inr (.inr h)))
theorem merge_alike {b t : List KvB} (hb : RightK b) (ht : RightK t) : mergeK b t t = (t, [], 0) := by
  have hs : ∀ s, settleK (sayK b s) (sayK t s) (sayK t s) = (sayK t s, true) := fun s => by unfold settleK; rw [if_pos (.inl rfl)]
  have hc : cfs3 b t t = [] := by
    unfold cfs3 confK okK
    rw [List.map_eq_nil_iff, List.filter_eq_nil_iff]
    intro s _; rw [hs]; simp
  unfold mergeK
  rw [if_neg (fun h => h ⟨hb, ht, ht⟩), if_pos hc]
  refine congrArg (·, ([] : List CfB), (0 : Int)) (item_of ht (ks3_asc _ _ _) (fun s _ => by unfold setU; rw [hs]) fun s h => (mem_ks3 _ _ _ _).2 (.inr (.inr h)))
theorem under_ki : Try.prog.underlying 51 = some (.struct (Try.prog.fieldsOf 51)) := by kernel_rfl
theorem held_ki : Try.prog.stoodInHeld 51 = false := by kernel_rfl
theorem run_ne_ki (a b : ByteArray) (w : World) : (binOp .neq 51 (.agg #[.string a, .string b]) (.agg #[.string a, .string b])).run Try.prog w = .ok (.bool false) w := by
  rw [run_neq_struct, run_equalIn_agg _ _ _ _ _ under_ki held_ki]
  simp [Op.eqFields, Program.fieldsOf, Try.underlying51, part, go_sem, Try.underlying9]
theorem cf_cells {o : Option Addr} {l : List CfB} (h : CfAt w o l) {k : Nat} {p : CfB} (hp : l[k]? = some p) : ∃ b i, o = some ⟨b, i, none⟩ ∧ w.cell? ⟨b, i + k * 7, none⟩ = some (.string p.1) ∧ w.cell? ⟨b, i + k * 7 + 1, none⟩ = some (.string p.2.1.1) ∧ w.cell? ⟨b, i + k * 7 + 2, none⟩ = some (.bool p.2.1.2) ∧ w.cell? ⟨b, i + k * 7 + 3, none⟩ = some (.string p.2.2.1.1) ∧ w.cell? ⟨b, i + k * 7 + 4, none⟩ = some (.bool p.2.2.1.2) ∧ w.cell? ⟨b, i + k * 7 + 5, none⟩ = some (.string p.2.2.2.1) ∧ w.cell? ⟨b, i + k * 7 + 6, none⟩ = some (.bool p.2.2.2.2) := by
  obtain ⟨b, i, ho, hc⟩ := h k p hp
  exact ⟨b, i, ho, hc 0 _ rfl, hc 1 _ rfl, hc 2 _ rfl, hc 3 _ rfl, hc 4 _ rfl, hc 5 _ rfl, hc 6 _ rfl⟩
set_option maxHeartbeats 16000000 in
set_option maxRecDepth 100000 in
theorem LSides_any (o0 : Option Addr) (a0 : List KvB) (c0 : Nat) (o1 : Option Addr) (a1 : List KvB) (c1 : Nat) (o2 : Option Addr) (a2 : List KvB) (c2 : Nat) (w : World) (hl0 : a0.length ≤ maxLen) (h0 : KvAt w o0 a0) (hl1 : a1.length ≤ maxLen) (h1 : KvAt w o1 a1) (hl2 : a2.length ≤ maxLen) (h2 : KvAt w o2 a2) :
    Calls Try.prog 6 #[.slice o0 a0.length c0, .slice o1 a1.length c1, .slice o2 a2.length c2] w fun e w' => e = .returned (.bool true) ∧ Below w.heap.size w w' := by
  have HSP := Lib.hid (fun W => speaks_any W)
  have hI0 := fun (W : World) (hW : Below w.heap.size w W) => items_at o0 a0 c0 W hl0 (h0.below hW)
  obtain ⟨l0, hll0⟩ : ∃ n, a0.length = n := ⟨_, rfl⟩
  rw [hll0] at hI0 ⊢
  have hb400 := take40 a0
  obtain ⟨A, hA⟩ : ∃ A, a0.take 40 = A := ⟨_, rfl⟩
  rw [hA] at hI0 hb400
  obtain ⟨nA, hnA⟩ : ∃ n, A.length = n := ⟨_, rfl⟩
  rw [hnA] at hI0 hb400
  have HNA := Lib.hid hnA
  have HI0 := Lib.hid hI0
  clear hI0 hA hnA h0 hl0 hll0
  have hI1 := fun (W : World) (hW : Below w.heap.size w W) => items_at o1 a1 c1 W hl1 (h1.below hW)
  obtain ⟨l1, hll1⟩ : ∃ n, a1.length = n := ⟨_, rfl⟩
  rw [hll1] at hI1 ⊢
  have hb401 := take40 a1
  obtain ⟨B, hB⟩ : ∃ A, a1.take 40 = A := ⟨_, rfl⟩
  rw [hB] at hI1 hb401
  obtain ⟨nB, hnB⟩ : ∃ n, B.length = n := ⟨_, rfl⟩
  rw [hnB] at hI1 hb401
  have HNB := Lib.hid hnB
  have HI1 := Lib.hid hI1
  clear hI1 hB hnB h1 hl1 hll1
  have hI2 := fun (W : World) (hW : Below w.heap.size w W) => items_at o2 a2 c2 W hl2 (h2.below hW)
  obtain ⟨l2, hll2⟩ : ∃ n, a2.length = n := ⟨_, rfl⟩
  rw [hll2] at hI2 ⊢
  have hb402 := take40 a2
  obtain ⟨C, hC⟩ : ∃ A, a2.take 40 = A := ⟨_, rfl⟩
  rw [hC] at hI2 hb402
  obtain ⟨nC, hnC⟩ : ∃ n, C.length = n := ⟨_, rfl⟩
  rw [hnC] at hI2 hb402
  have HNC := Lib.hid hnC
  have HI2 := Lib.hid hI2
  clear hI2 hC hnC h2 hl2 hll2
  have HB : Hid (Below w.heap.size w w) := Lib.hid (Below.refl _ _)
  go_enter Try.func6, Try.ntmps6
  go_wp2_with (first
    | (go_at_call 8; refine (HSP.out _).mono ?_; rintro e wsp ⟨rfl, hb1⟩; replace HB := Lib.hid (HB.out.trans (hb1.mono HB.out.size)); clear hb1 HSP)
    | (go_at_call 9; (with_reducible refine (HI0.out _ HB.out).mono ?_)))
  rintro e wi0 ⟨oxA, cxA, ovA, cvA, rfl, hx, hv, hb⟩
  replace HB := Lib.hid (HB.out.trans (hb.mono HB.out.size))
  have HXA := Lib.hid hx; have HVA := Lib.hid hv
  clear hx hv hb HI0
  go_wp2_with (go_at_call 9; (with_reducible refine (HI1.out _ HB.out).mono ?_))
  rintro e wi1 ⟨oxB, cxB, ovB, cvB, rfl, hx, hv, hb⟩
  replace HB := Lib.hid (HB.out.trans (hb.mono HB.out.size))
  replace HXA := Lib.hid (HXA.out.below hb)
  replace HVA := Lib.hid (HVA.out.below hb)
  have HXB := Lib.hid hx; have HVB := Lib.hid hv
  clear hx hv hb HI1
  go_wp2_with (go_at_call 9; (with_reducible refine (HI2.out _ HB.out).mono ?_))
  rintro e wi2 ⟨oxC, cxC, ovC, cvC, rfl, hx, hv, hb⟩
  replace HB := Lib.hid (HB.out.trans (hb.mono HB.out.size))
  replace HXA := Lib.hid (HXA.out.below hb)
  replace HVA := Lib.hid (HVA.out.below hb)
  replace HXB := Lib.hid (HXB.out.below hb)
  replace HVB := Lib.hid (HVB.out.below hb)
  have HXC := Lib.hid hx; have HVC := Lib.hid hv
  clear hx hv hb HI2
  have HT := Lib.hid (merge_turn A B C); have HCF := Lib.hid (fun c h => merge_cf (b := A) (o := B) (t := C) (c := c) h)
  have hone := merge_one A B C
  have hlen := merge_len A B C
  rw [HNA.out, HNB.out, HNC.out] at hlen
  obtain ⟨⟨L, F, E⟩, hM⟩ : ∃ M, mergeK A B C = M := ⟨_, rfl⟩
  have HM := Lib.hid hM
  rw [hM] at HT HCF hone hlen
  dsimp only at HT HCF hone hlen
  obtain ⟨nL, hnL⟩ : ∃ n, L.length = n := ⟨_, rfl⟩
  obtain ⟨nF, hnF⟩ : ∃ n, F.length = n := ⟨_, rfl⟩
  have HNL := Lib.hid hnL; have HNF := Lib.hid hnF
  rw [hnL, hnF] at hone hlen
  obtain ⟨hlen1, hlen2⟩ := hlen
  clear hM hnL hnF
  have hd := Merge_at oxA oxB oxC A B C cxA cxB cxC wi2 (by rw [HNA.out]; omega) (by rw [HNB.out]; omega) (by rw [HNC.out]; omega) HXA.out HXB.out HXC.out
  rw [HNA.out, HNB.out, HNC.out, HM.out] at hd
  dsimp only at hd
  rw [HNL.out, HNF.out] at hd
  have HD := Lib.hid hd
  clear hd
  go_wp2_with (go_at_call 17; (with_reducible refine HD.out.mono ?_))
  rintro e w4 ⟨oL, cL, oF, cF, rfl, hl, hf, hb⟩
  replace HB := Lib.hid (HB.out.trans (hb.mono HB.out.size))
  replace HXA := Lib.hid (HXA.out.below hb)
  replace HXB := Lib.hid (HXB.out.below hb)
  replace HXC := Lib.hid (HXC.out.below hb)
  replace HVA := Lib.hid (HVA.out.below hb)
  replace HVB := Lib.hid (HVB.out.below hb)
  replace HVC := Lib.hid (HVC.out.below hb)
  have HKL := Lib.hid hl; have HKF := Lib.hid hf
  clear hl hf
  clear hb HD
  have hd := Merge_at oxA oxC oxB A C B cxA cxC cxB w4 (by rw [HNA.out]; omega) (by rw [HNC.out]; omega) (by rw [HNB.out]; omega) HXA.out HXC.out HXB.out
  rw [HNA.out, HNC.out, HNB.out, HT.out] at hd
  dsimp only at hd
  rw [List.length_map, HNL.out, HNF.out] at hd
  have HD := Lib.hid hd
  clear hd
  go_wp2_with (go_at_call 17; (with_reducible refine HD.out.mono ?_))
  rintro e w5 ⟨oM, cM, oG, cG, rfl, hl, hf, hb⟩
  replace HB := Lib.hid (HB.out.trans (hb.mono HB.out.size))
  replace HXA := Lib.hid (HXA.out.below hb)
  replace HXB := Lib.hid (HXB.out.below hb)
  replace HXC := Lib.hid (HXC.out.below hb)
  replace HVA := Lib.hid (HVA.out.below hb)
  replace HVB := Lib.hid (HVB.out.below hb)
  replace HVC := Lib.hid (HVC.out.below hb)
  replace HKL := Lib.hid (HKL.out.below hb)
  replace HKF := Lib.hid (HKF.out.below hb)
  have HKM := Lib.hid hl; have HKG := Lib.hid hf
  clear hl hf
  clear hb HD
  have hcase : ((0 : Int) < nL ∧ ¬ (0 : Int) < nF) ∨ ¬ (0 : Int) < nL := by omega
  clear hone
  have HNAb := Lib.hid hb400; have HNBb := Lib.hid hb401; have HNCb := Lib.hid hb402
  go_upto_region 8 with fail
  go_cut [86] from 60 to 86 (fun c wx => c = .bool false ∧ wx = w5)
  case first =>
    rcases hcase with ⟨hpl, hpf⟩ | hpl
    · have hpl2 : 0 < nL := by omega
      have hpf2 : ¬ 0 < nF := by omega
      have hpd : decide (0 < nF) = false := decide_eq_false hpf2
      go_wp2_with fail
      go_meet
      exact ⟨by first | rfl | rw [hpd], rfl⟩
    · have hpl2 : ¬ 0 < nL := by omega
      have hpd : decide (0 < nL) = false := decide_eq_false hpl2
      go_wp2_with fail
      go_meet
      exact ⟨by first | rfl | rw [hpd], rfl⟩
  case rest =>
    obtain ⟨rfl, hwc⟩ := hcut
    obtain rfl : w5 = wc := hwc.symm
    clear hcase
    go_wp2_with fail
    go_loopw [19] (fun i wr => ∃ k : Nat, k ≤ nL ∧ i = .int .i64 k ∧ Below w5.heap.size w5 wr) (fun i _ => nL - (intOf i).toNat)
    case atStart => exact ⟨0, Nat.zero_le _, rfl, Below.refl _ _⟩
    case round =>
      obtain ⟨k, hk, rfl, hb⟩ := hrel
      have HBB := Lib.hid hb
      clear hb
      by_cases hlt : k < nL
      · obtain ⟨p, hp⟩ : ∃ p, L[k]? = some p := ⟨_, List.getElem?_eq_getElem (by rw [HNL.out]; exact hlt)⟩
        obtain ⟨b0, i0, ho0, e0, e1⟩ := kv_get (HKL.out.below HBB.out) hp
        obtain ⟨b1, i1, ho1, f0, f1⟩ := kv_get (HKM.out.below HBB.out) hp
        subst ho0 ho1
        obtain ⟨s, x⟩ := p
        dsimp only at e0 e1 f0 f1
        have hne := run_ne_ki s x
        have hki : (k : Int) < nL := by omega
        clear hp
        go_wp2_with fail
        go_quiet (fail)
        (first | (have _h : Nat := nq; clear _h) | rename_i nq)
        have HB2' := Lib.hid (below_drewN HBB.out nq)
        clear hne
        go_wp2_with fail
        go_roundw
        case rel => exact ⟨k + 1, hlt, by go_num, HB2'.out⟩
        case measure => simp [intOf]; omega
      · obtain rfl : k = nL := by omega
        have hb := HBB.out
        replace HB := Lib.hid (HB.out.trans (hb.mono HB.out.size))
        replace HXA := Lib.hid (HXA.out.below hb)
        replace HXB := Lib.hid (HXB.out.below hb)
        replace HXC := Lib.hid (HXC.out.below hb)
        replace HVA := Lib.hid (HVA.out.below hb)
        replace HVB := Lib.hid (HVB.out.below hb)
        replace HVC := Lib.hid (HVC.out.below hb)
        replace HKF := Lib.hid (HKF.out.below hb)
        replace HKG := Lib.hid (HKG.out.below hb)
        clear hb HBB HKL HKM
        obtain ⟨w6, hw6⟩ : ∃ W, W = wr := ⟨_, rfl⟩
        subst hw6
        go_wp2_with fail
        go_loopw [20] (fun i wr => ∃ k : Nat, k ≤ nF ∧ i = .int .i64 k ∧ Below w6.heap.size w6 wr) (fun i _ => nF - (intOf i).toNat)
        case atStart => exact ⟨0, Nat.zero_le _, rfl, Below.refl _ _⟩
        case round =>
          obtain ⟨q, hq, rfl, hb⟩ := hrel
          have HBB := Lib.hid hb
          clear hb
          by_cases hlt : q < nF
          · obtain ⟨p, hp⟩ : ∃ p, F[q]? = some p := ⟨_, List.getElem?_eq_getElem (by rw [HNF.out]; exact hlt)⟩
            obtain ⟨b0, i0, ho0, e0, e1, e2, e3, e4, e5, e6⟩ := cf_cells (HKF.out.below HBB.out) hp
            obtain ⟨b1, i1, ho1, f0, f1, f2, f3, f4, f5, f6⟩ := cf_cells (HKG.out.below HBB.out) (p := swF p) (by rw [List.getElem?_map, hp]; rfl)
            subst ho0 ho1
            have hcf := HCF.out p (List.mem_of_getElem? hp)
            obtain ⟨s, ⟨x1, t1⟩, ⟨x2, t2⟩, x3, t3⟩ := p
            simp only [swF] at f0 f1 f2 f3 f4 f5 f6
            dsimp only at e0 e1 e2 e3 e4 e5 e6 hcf
            obtain ⟨hc1, hc2, hc3⟩ := hcf
            have q1 := run_ne_sd (x2, t2) (x2, t2)
            have q2 := run_ne_sd (x3, t3) (x3, t3)
            have q3 := run_eq_sd (x2, t2) (x3, t3)
            have q4 := run_eq_sd (x2, t2) (x1, t1)
            have q5 := run_eq_sd (x3, t3) (x1, t1)
            rw [decide_eq_true rfl] at q1 q2
            rw [decide_eq_false hc1] at q3
            rw [decide_eq_false hc3] at q4
            rw [decide_eq_false hc2] at q5
            (try dsimp only at q1); (try dsimp only at q2); (try dsimp only at q3); (try dsimp only at q4); (try dsimp only at q5)
            have hqi : (q : Int) < nF := by omega
            clear hp hc1 hc2 hc3
            go_wp2_with fail
            go_quiet (fail)
            (first | (have _h : Nat := nq; clear _h) | rename_i nq)
            have HB2' := Lib.hid (below_drewN HBB.out nq)
            clear q1 q2 q3 q4 q5 e0 e1 e2 e3 e4 e5 e6 f0 f1 f2 f3 f4 f5 f6
            go_wp2_with fail
            go_roundw
            case rel => exact ⟨q + 1, hlt, by go_num, HB2'.out⟩
            case measure => simp [intOf]; omega
          · obtain rfl : q = nF := by omega
            have hb := HBB.out
            replace HB := Lib.hid (HB.out.trans (hb.mono HB.out.size))
            replace HXA := Lib.hid (HXA.out.below hb)
            replace HXB := Lib.hid (HXB.out.below hb)
            replace HXC := Lib.hid (HXC.out.below hb)
            replace HVA := Lib.hid (HVA.out.below hb)
            replace HVB := Lib.hid (HVB.out.below hb)
            replace HVC := Lib.hid (HVC.out.below hb)
            clear hb HBB HKF HKG
            obtain ⟨w7, hw7⟩ : ∃ W, W = wr := ⟨_, rfl⟩
            subst hw7
            have hRA := RRight_any ovA A cvA
            rw [HNA.out] at hRA
            obtain ⟨rA, hrA⟩ : ∃ x, decide (RightK A) = x := ⟨_, rfl⟩
            rw [hrA] at hRA
            have HRA := Lib.hid (fun (W : World) (hW : Below w7.heap.size w7 W) => hRA W (by have := HNAb.out; omega) (HVA.out.below hW)); have HRRA := Lib.hid hrA
            clear hRA hrA
            have hRB := RRight_any ovB B cvB
            rw [HNB.out] at hRB
            obtain ⟨rB, hrB⟩ : ∃ x, decide (RightK B) = x := ⟨_, rfl⟩
            rw [hrB] at hRB
            have HRB := Lib.hid (fun (W : World) (hW : Below w7.heap.size w7 W) => hRB W (by have := HNBb.out; omega) (HVB.out.below hW)); have HRRB := Lib.hid hrB
            clear hRB hrB
            have hRC := RRight_any ovC C cvC
            rw [HNC.out] at hRC
            obtain ⟨rC, hrC⟩ : ∃ x, decide (RightK C) = x := ⟨_, rfl⟩
            rw [hrC] at hRC
            have HRC := Lib.hid (fun (W : World) (hW : Below w7.heap.size w7 W) => hRC W (by have := HNCb.out; omega) (HVC.out.below hW)); have HRRC := Lib.hid hrC
            clear hRC hrC
            have HW0 : Hid (Below w7.heap.size w7 w7) := Lib.hid (Below.refl _ _)
            cases rA with
            | false =>
              go_wp2_with (first | (go_at_call 12; (with_reducible refine (HRA.out _ HW0.out).mono ?_); rintro e wr ⟨rfl, q, hq⟩; replace HW0 := Lib.hid (show Below w7.heap.size w7 wr by rw [hq]; exact below_drewN HW0.out q); clear hq) | (go_at_call 12; (with_reducible refine (HRB.out _ HW0.out).mono ?_); rintro e wr ⟨rfl, q, hq⟩; replace HW0 := Lib.hid (show Below w7.heap.size w7 wr by rw [hq]; exact below_drewN HW0.out q); clear hq) | (go_at_call 12; (with_reducible refine (HRC.out _ HW0.out).mono ?_); rintro e wr ⟨rfl, q, hq⟩; replace HW0 := Lib.hid (show Below w7.heap.size w7 wr by rw [hq]; exact below_drewN HW0.out q); clear hq))
              go_ret
              exact ⟨rfl, HB.out.trans (HW0.out.mono HB.out.size)⟩
            | true =>
              cases rB with
              | false =>
                go_wp2_with (first | (go_at_call 12; (with_reducible refine (HRA.out _ HW0.out).mono ?_); rintro e wr ⟨rfl, q, hq⟩; replace HW0 := Lib.hid (show Below w7.heap.size w7 wr by rw [hq]; exact below_drewN HW0.out q); clear hq) | (go_at_call 12; (with_reducible refine (HRB.out _ HW0.out).mono ?_); rintro e wr ⟨rfl, q, hq⟩; replace HW0 := Lib.hid (show Below w7.heap.size w7 wr by rw [hq]; exact below_drewN HW0.out q); clear hq) | (go_at_call 12; (with_reducible refine (HRC.out _ HW0.out).mono ?_); rintro e wr ⟨rfl, q, hq⟩; replace HW0 := Lib.hid (show Below w7.heap.size w7 wr by rw [hq]; exact below_drewN HW0.out q); clear hq))
                go_ret
                exact ⟨rfl, HB.out.trans (HW0.out.mono HB.out.size)⟩
              | true =>
                cases rC with
                | false =>
                  go_wp2_with (first | (go_at_call 12; (with_reducible refine (HRA.out _ HW0.out).mono ?_); rintro e wr ⟨rfl, q, hq⟩; replace HW0 := Lib.hid (show Below w7.heap.size w7 wr by rw [hq]; exact below_drewN HW0.out q); clear hq) | (go_at_call 12; (with_reducible refine (HRB.out _ HW0.out).mono ?_); rintro e wr ⟨rfl, q, hq⟩; replace HW0 := Lib.hid (show Below w7.heap.size w7 wr by rw [hq]; exact below_drewN HW0.out q); clear hq) | (go_at_call 12; (with_reducible refine (HRC.out _ HW0.out).mono ?_); rintro e wr ⟨rfl, q, hq⟩; replace HW0 := Lib.hid (show Below w7.heap.size w7 wr by rw [hq]; exact below_drewN HW0.out q); clear hq))
                  go_ret
                  exact ⟨rfl, HB.out.trans (HW0.out.mono HB.out.size)⟩
                | true =>
                  have hA : RightK A := of_decide_eq_true HRRA.out
                  have hB : RightK B := of_decide_eq_true HRRB.out
                  have hC : RightK C := of_decide_eq_true HRRC.out
                  have HG1 := Lib.hid (merge_base hA hC); have HG2 := Lib.hid (merge_alike hA hB)
                  clear hA hB hC
                  have hd := fun (W : World) (hW : Below w7.heap.size w7 W) => Merge_at oxA oxA oxC A A C cxA cxA cxC W (by rw [HNA.out]; have := HNAb.out; omega) (by rw [HNA.out]; have := HNAb.out; omega) (by rw [HNC.out]; have := HNCb.out; omega) (HXA.out.below hW) (HXA.out.below hW) (HXC.out.below hW)
                  rw [HNA.out, HNC.out, HG1.out] at hd
                  dsimp only at hd
                  rw [HNC.out] at hd
                  have HD1 := Lib.hid hd
                  clear hd
                  go_wp2_with (first | (go_at_call 12; (with_reducible refine (HRA.out _ HW0.out).mono ?_); rintro e wr ⟨rfl, q, hq⟩; replace HW0 := Lib.hid (show Below w7.heap.size w7 wr by rw [hq]; exact below_drewN HW0.out q); clear hq) | (go_at_call 12; (with_reducible refine (HRB.out _ HW0.out).mono ?_); rintro e wr ⟨rfl, q, hq⟩; replace HW0 := Lib.hid (show Below w7.heap.size w7 wr by rw [hq]; exact below_drewN HW0.out q); clear hq) | (go_at_call 12; (with_reducible refine (HRC.out _ HW0.out).mono ?_); rintro e wr ⟨rfl, q, hq⟩; replace HW0 := Lib.hid (show Below w7.heap.size w7 wr by rw [hq]; exact below_drewN HW0.out q); clear hq) | (go_at_call 17; (with_reducible refine (HD1.out _ HW0.out).mono ?_)))
                  rintro e w8 ⟨oP, cP, oQ, cQ, rfl, hp, _, hb0⟩
                  have hb := HW0.out.trans (hb0.mono HW0.out.size)
                  replace HB := Lib.hid (HB.out.trans (hb.mono HB.out.size))
                  replace HXA := Lib.hid (HXA.out.below hb)
                  replace HXB := Lib.hid (HXB.out.below hb)
                  replace HXC := Lib.hid (HXC.out.below hb)
                  replace HVA := Lib.hid (HVA.out.below hb)
                  replace HVB := Lib.hid (HVB.out.below hb)
                  replace HVC := Lib.hid (HVC.out.below hb)
                  have HKP := Lib.hid hp
                  clear hp hb hb0 HW0 HD1
                  have hd := Merge_at oxA oxB oxB A B B cxA cxB cxB w8 (by rw [HNA.out]; have := HNAb.out; omega) (by rw [HNB.out]; have := HNBb.out; omega) (by rw [HNB.out]; have := HNBb.out; omega) HXA.out HXB.out HXB.out
                  rw [HNA.out, HNB.out, HG2.out] at hd
                  dsimp only at hd
                  rw [HNB.out] at hd
                  have HD2 := Lib.hid hd
                  clear hd
                  go_wp2_with (go_at_call 17; (with_reducible refine HD2.out.mono ?_))
                  rintro e w9 ⟨oR, cR, oS, cS, rfl, hp, _, hb⟩
                  replace HB := Lib.hid (HB.out.trans (hb.mono HB.out.size))
                  replace HXA := Lib.hid (HXA.out.below hb)
                  replace HXB := Lib.hid (HXB.out.below hb)
                  replace HXC := Lib.hid (HXC.out.below hb)
                  replace HVA := Lib.hid (HVA.out.below hb)
                  replace HVB := Lib.hid (HVB.out.below hb)
                  replace HVC := Lib.hid (HVC.out.below hb)
                  replace HKP := Lib.hid (HKP.out.below hb)
                  have HKR := Lib.hid hp
                  have hs1 := same_any oP ovC C C cP cvC w9 (by rw [HNC.out]; have := HNCb.out; omega) (by rw [HNC.out]; have := HNCb.out; omega) HKP.out HVC.out
                  have hs2 := fun q => same_any oR ovB B B cR cvB (w9.drewN q) (by rw [HNB.out]; have := HNBb.out; omega) (by rw [HNB.out]; have := HNBb.out; omega) (HKR.out.below (below_drewN (Below.refl _ _) q)) (HVB.out.below (below_drewN (Below.refl _ _) q))
                  rw [HNC.out, decide_eq_true rfl] at hs1
                  rw [HNB.out, decide_eq_true rfl] at hs2
                  have HS1 := Lib.hid hs1; have HS2 := Lib.hid hs2
                  clear hp hb hs1 hs2 HD2
                  go_wp2_with (first | (go_at_call 16; (with_reducible refine HS1.out.mono ?_); rintro e wx ⟨rfl, q, hq⟩; clear HS1; (obtain rfl : wx = w9.drewN q := hq)) | (go_at_call 16; (with_reducible refine (HS2.out _).mono ?_); rintro e wx ⟨rfl, q2, hq⟩; have HBE := Lib.hid (show Below w.heap.size w wx by rw [hq]; exact below_drewN (below_drewN HB.out _) _); clear hq))
                  go_ret
                  exact ⟨rfl, HBE.out⟩
end Go.Proofs.Ythkcmdlfdaggmaa
