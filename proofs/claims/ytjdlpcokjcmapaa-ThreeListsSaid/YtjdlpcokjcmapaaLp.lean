/- Lists' edits: the document's Diff. -/
import Derived.Test.YtjdlpcokjcmapaaLo
set_option linter.unusedVariables false
set_option linter.unusedSimpArgs false
namespace Go.Proofs.Ytjdlpcokjcmapaa
open Go.RowKit
variable {w w' : World}

def RdS (a b : List ByteArray) (W : World) (v i j : Value) (wr : World) : Prop :=
  ∃ (ki kj : Nat) (D : List EdJ), ki ≤ a.length ∧ kj ≤ b.length ∧ i = .int .i64 ki ∧ j = .int .i64 kj ∧ wr.ownsRow W.heap.size 72 2 v D.length (flatZ (D.map zJ)) ∧ D ++ edI a b ki kj = edI a b 0 0 ∧ Below W.heap.size W wr
theorem RdS.more {a b : List ByteArray} {W w3 w4 : World} {D : List EdJ} {ki kj i2 j2 : Nat} {t : EdJ} {v v' : Value} {o : Obj} (hi : i2 ≤ a.length) (hj : j2 ≤ b.length) (h0 : D ++ edI a b ki kj = edI a b 0 0) (he : edI a b ki kj = t :: edI a b i2 j2)
    (hb : Below W.heap.size W w3) (hrow : w3.ownsRow W.heap.size 72 2 v D.length (flatZ (D.map zJ))) (hown : w4.ownsRow W.heap.size 72 2 v' (D.length + 1) (flatZ (D.map zJ) ++ [.int .i64 (t.1 : Nat), .string t.2.1])) (hg : (w3.alloc o).grownBy w4 v.ownBlock) : RdS a b W v' (.int .i64 i2) (.int .i64 j2) w4 :=
  ⟨i2, j2, D ++ [t], hi, hj, rfl, rfl, by rw [List.length_append, List.map_append]; show World.ownsRow _ _ _ _ _ _ (flatZ (D.map zJ ++ [((t.1 : Int), t.2.1)])); rw [flatZ_snoc]; exact hown, by rw [List.append_assoc, List.singleton_append, ← he, h0], (hb.alloc hb.size _).grown hg (by have := hb.size; simp; omega) (fun k hk => (hrow.lt k hk).1)⟩
theorem edI_prefix_len {a b : List ByteArray} {D : List EdJ} {i j : Nat} (h : D ++ edI a b i j = edI a b 0 0) (ha : a.length ≤ 4096) (hb : b.length ≤ 4096) : D.length ≤ 10000 := by
  have h1 := edI_len a b _ 0 0 (Nat.zero_le _) (Nat.zero_le _) (Nat.le_refl _)
  have h2 := congrArg List.length h
  rw [List.length_append] at h2
  omega
set_option maxHeartbeats 8000000 in
set_option maxRecDepth 100000 in
theorem RDiff_any (oa ob : Option Addr) (a b : List ByteArray) (ca cb : Nat) (w : World) (hla : a.length ≤ 4096) (hlb : b.length ≤ 4096) (ha : TxAt w oa a) (hb : TxAt w ob b) :
    Calls Try.prog 40 #[.slice oa a.length ca, .slice ob b.length cb] w fun e w' => ∃ v, e = .returned v ∧ w'.ownsRow w.heap.size 72 2 v (diffL a b).length (flatZ ((diffL a b).map edZ)) ∧ Below w.heap.size w w' := by
  obtain ⟨n, hn⟩ : ∃ n, a.length = n := ⟨_, rfl⟩
  obtain ⟨m, hm⟩ : ∃ n, b.length = n := ⟨_, rfl⟩
  obtain ⟨i1, hi1, hz0, hz1, hz2⟩ := info_parts info_re
  have HI1 := Lib.hid hi1; have HZ0 := Lib.hid hz0; have HZ1 := Lib.hid hz1; have HZ2 := Lib.hid hz2
  have HN := Lib.hid hn; have HM := Lib.hid hm; have HA := Lib.hid ha; have HB := Lib.hid hb
  have H1 := Lib.hid (Common_any oa ob a b ca cb w hla hlb ha hb)
  rw [hn, hm] at H1
  rw [hn] at hla ⊢
  rw [hm] at hlb ⊢
  clear hi1 hz0 hz1 hz2 hn hm ha hb
  go_enter Try.func40, Try.ntmps40
  go_wp2_with (go_at_call 46; refine H1.out.mono ?_)
  rintro e W ⟨g, R, cap, rfl, hM, hg, hR, hb1⟩
  have HMT := Lib.hid hM; have HB1 := Lib.hid hb1
  have H0 : Hid (RdS a b W (.slice none 0 0) (.int .i64 0) (.int .i64 0) W) := Lib.hid ⟨0, 0, [], Nat.zero_le _, Nat.zero_le _, rfl, rfl, World.ownsRow_nil _ _ _ _, rfl, Below.refl _ _⟩
  clear hM hb1 H1 hg hR
  have hcapn : n + 1 ≤ n + 1 := Nat.le_refl _
  go_wp2_with fail
  go_loopw [6, 7, 8] (fun v i j wr => RdS a b W v i j wr) (fun _ i j _ => (n - (intOf i).toNat) + (m - (intOf j).toNat))
  case atStart => exact H0.out
  case round =>
    obtain ⟨ki, kj, D, hki, hkj, rfl, rfl, hrow, hDe, hb⟩ := hrel
    rw [HN.out] at hki
    rw [HM.out] at hkj
    have hDL := edI_prefix_len hDe (by rw [HN.out]; exact hla) (by rw [HM.out]; exact hlb)
    have HROW := Lib.hid hrow; have HDE := Lib.hid hDe; have HBB := Lib.hid hb; have HDL := Lib.hid hDL
    have HTA := Lib.hid ((HA.out.below HB1.out).below hb)
    have HTB := Lib.hid ((HB.out.below HB1.out).below hb)
    have HMR : Hid (Mat .i64 g R (n + 1) (m + 1) (cmI (eqB a b) n m) wr) := Lib.hid (HMT.out.keep fun k hk => hb.block k (by
      rcases hk with rfl | ⟨i, hi, rfl⟩
      · exact World.block_lt_of_cell? W _ (HMT.out.row 0 (by omega))
      · exact World.block_lt_of_cell? W _ (HMT.out.cell i 0 hi (by omega))))
    clear hrow hDe hb hDL H0
    by_cases hend : ki = n ∧ kj = m
    · obtain ⟨rfl, rfl⟩ := hend
      have hDD := HDE.out
      rw [edI_end (by rw [HN.out]; exact Nat.le_refl _) (by rw [HM.out]; exact Nat.le_refl _), List.append_nil] at hDD
      have HDD := Lib.hid hDD
      clear hDD
      go_wp2_with fail
      refine bodyPost_ret (v := u6) (by simp [results, Try.results40, go_sem]) rfl ⟨u6, rfl, ?_, HB1.out.trans (HBB.out.mono HB1.out.size)⟩
      unfold diffL
      rw [← HDD.out, List.map_map, List.length_map]
      exact own_lower HROW.out HB1.out.size
    · by_cases hkeep : ki < n ∧ kj < m ∧ eqB a b ki kj = true
      · obtain ⟨h1, h2, h3⟩ := hkeep
        obtain ⟨_, bx, ix, hax, hcx⟩ := HTA.out ki (by rw [HN.out]; exact h1)
        obtain ⟨_, bY, iY, hay, hcy⟩ := HTB.out kj (by rw [HM.out]; exact h2)
        subst hax hay
        obtain ⟨x, hx⟩ : ∃ v, itB a ki = v := ⟨_, rfl⟩
        obtain ⟨y, hy⟩ : ∃ v, itB b kj = v := ⟨_, rfl⟩
        rw [hx] at hcx
        rw [hy] at hcy
        have hev : decide (x = y) = eqB a b ki kj := by unfold eqB; rw [hx, hy]
        have HXX := Lib.hid hx; have HYY := Lib.hid hy
        rw [h3] at hev
        clear hx hy
        have hxy : x = y := of_decide_eq_true hev
        subst hxy
        have h1i : (ki : Int) < n := by omega
        have h2i : (kj : Int) < m := by omega
        have HNEW := Lib.hid (edI_keep (a := a) (b := b) (by rw [HN.out]; exact h1) (by rw [HM.out]; exact h2) h3)
        clear h3 hend hev
        go_wp2_with fail
        go_quiet (fail)
        (first | (have _h : Nat := nq; clear _h) | rename_i nq)
        have HR2 := Lib.hid (own_below HROW.out (below_drewN (Below.refl _ _) nq))
        have HB2 := Lib.hid (below_drewN HBB.out nq)
        go_wp2_with (at_builtin; (refine wpList_append_own _ rfl _ _ 70 rfl W.heap.size 72 i1 (.agg #[.int .i64 0, .string ⟨#[]⟩]) 2 24 Try.underlying70 HI1.out HZ0.out HZ1.out HZ2.out rfl (by decide) _ _ _ rfl (HR2.out.alloc _) ⟨wr.heap.size, 0, none⟩ 1 1 [.int .i64 0, .string x] rfl rfl (by simpa using cell_two_new (wr.drewN nq) 72 (.int .i64 0) (.string x)) two_memZ (by have := HDL.out; unfold maxLen; omega) (by have := HDL.out; omega) (by have := HBB.out.size; simp; omega) ?_); intro v' w4 hown hgrow _; have HO4 := Lib.hid hown; have HG4 := Lib.hid hgrow; clear hown hgrow)
        go_roundw
        case rel => exact RdS.more (t := (0, x, kj)) (i2 := ki + 1) (j2 := kj + 1) (by rw [HN.out]; omega) (by rw [HM.out]; omega) HDE.out (by rw [← HXX.out]; exact HNEW.out) HB2.out HR2.out HO4.out HG4.out
        case measure => simp [intOf]; omega
      · by_cases hdrop : ki < n ∧ (kj = m ∨ cmI (eqB a b) n m ki (kj + 1) ≤ cmI (eqB a b) n m (ki + 1) kj)
        · obtain ⟨h1, h4⟩ := hdrop
          by_cases h2 : kj = m
          · have HNEW := Lib.hid (edI_ofDrop (a := a) (b := b) (i := ki) (j := kj) (by rw [HN.out]; exact h1) (.inl (by rw [HM.out]; exact h2)))
            have h1i : (ki : Int) < n := by omega
            obtain rfl : kj = m := h2
            clear hend hkeep
            obtain ⟨hss, b0, i0, hob, hcb⟩ := HTA.out ki (by rw [HN.out]; exact h1)
            subst hob
            obtain ⟨s, hs⟩ : ∃ v, itB a ki = v := ⟨_, rfl⟩
            have HSS := Lib.hid hs
            rw [hs] at hcb
            clear hs hss
            go_wp2_with fail
            go_quiet (fail)
            (first | (have _h : Nat := nq; clear _h) | rename_i nq)
            generalize nq = nq1
            go_wp2_with fail
            go_quiet (fail)
            (first | (have _h : Nat := nq; clear _h) | rename_i nq)
            have HR2 := Lib.hid (own_below HROW.out (below_drewN (Below.refl _ _) (nq1 + nq)))
            have HB2 := Lib.hid (below_drewN HBB.out (nq1 + nq))
            go_wp2_with (at_builtin; (refine wpList_append_own _ rfl _ _ 70 rfl W.heap.size 72 i1 (.agg #[.int .i64 0, .string ⟨#[]⟩]) 2 24 Try.underlying70 HI1.out HZ0.out HZ1.out HZ2.out rfl (by decide) _ _ _ rfl (HR2.out.alloc _) ⟨wr.heap.size, 0, none⟩ 1 1 [.int .i64 1, .string s] rfl rfl (by simpa using cell_two_new (wr.drewN (nq1 + nq)) 72 (.int .i64 1) (.string s)) two_memZ (by have := HDL.out; unfold maxLen; omega) (by have := HDL.out; omega) (by have := HBB.out.size; simp; omega) ?_); intro v' w4 hown hgrow _; have HO4 := Lib.hid hown; have HG4 := Lib.hid hgrow; clear hown hgrow)
            go_roundw
            case rel => exact RdS.more (t := (1, s, kj)) (i2 := ki + 1) (j2 := kj) (by rw [HN.out]; omega) (by rw [HM.out]; omega) HDE.out (by rw [← HSS.out]; exact HNEW.out) HB2.out HR2.out HO4.out HG4.out
            case measure => simp [intOf]; omega
          · replace h4 : cmI (eqB a b) n m ki (kj + 1) ≤ cmI (eqB a b) n m (ki + 1) kj := h4.resolve_left h2
            have h2 : kj < m := by omega
            have h3 : eqB a b ki kj = false := by cases e : eqB a b ki kj with | true => exact absurd ⟨h1, h2, e⟩ hkeep | false => rfl
            have HNEW := Lib.hid (edI_ofDrop (a := a) (b := b) (i := ki) (j := kj) (by rw [HN.out]; exact h1) (.inr ⟨by rw [HM.out]; exact h2, h3, by rw [HN.out, HM.out]; exact h4⟩))
            have HCC := Lib.hid h4
            have h1i : (ki : Int) < n := by omega
            have h2i : (kj : Int) < m := by omega
            have h2n : (kj == m) = false := beq_eq_false_iff_ne.2 (by omega)
            have h2m : ((kj : Int) == (m : Int)) = false := beq_eq_false_iff_ne.2 (by omega)
            clear hend hkeep h4
            obtain ⟨_, bx, ix, hax, hcx⟩ := HTA.out ki (by rw [HN.out]; exact h1)
            obtain ⟨_, bY, iY, hay, hcy⟩ := HTB.out kj (by rw [HM.out]; exact h2)
            subst hax hay
            obtain ⟨x, hx⟩ : ∃ v, itB a ki = v := ⟨_, rfl⟩
            obtain ⟨y, hy⟩ : ∃ v, itB b kj = v := ⟨_, rfl⟩
            rw [hx] at hcx
            rw [hy] at hcy
            have hev : decide (x = y) = eqB a b ki kj := by unfold eqB; rw [hx, hy]
            have HXX := Lib.hid hx; have HYY := Lib.hid hy
            rw [h3] at hev
            clear hx hy
            have hxy : ¬ x = y := of_decide_eq_false hev
            have hn1 := ba_ne hxy
            have hn2 : (x.toList == y.toList) = false := beq_eq_false_iff_ne.2 hn1
            clear hxy hev h3
            have hr0 : wr.cell? ⟨g, ki, none⟩ = some (.slice (some ⟨R ki, 0, none⟩) (m + 1) (m + 1)) := HMR.out.row ki (by omega)
            have hr1 : wr.cell? ⟨g, ki + 1, none⟩ = some (.slice (some ⟨R (ki + 1), 0, none⟩) (m + 1) (m + 1)) := HMR.out.row (ki + 1) (by omega)
            have g10 : wr.cell? ⟨R (ki + 1), kj, none⟩ = some (.int .i64 (cmI (eqB a b) n m (ki + 1) kj : Nat)) := HMR.out.cell (ki + 1) kj (by omega) (by omega)
            have g01 : wr.cell? ⟨R ki, kj + 1, none⟩ = some (.int .i64 (cmI (eqB a b) n m ki (kj + 1) : Nat)) := HMR.out.cell ki (kj + 1) (by omega) (by omega)
            obtain ⟨c10, e10⟩ : ∃ c, cmI (eqB a b) n m (ki + 1) kj = c := ⟨_, rfl⟩
            obtain ⟨c01, e01⟩ : ∃ c, cmI (eqB a b) n m ki (kj + 1) = c := ⟨_, rfl⟩
            rw [e10] at g10 HCC
            rw [e01] at g01 HCC
            have hcc := HCC.out
            have hx0 : (ki : Int) < (n : Int) + 1 := by omega
            have hx1 : (ki : Int) + 1 < (n : Int) + 1 := by omega
            have hy0 : (kj : Int) < (m : Int) + 1 := by omega
            have hy1 : (kj : Int) + 1 < (m : Int) + 1 := by omega
            have hnn : (n : Int) ≤ 4096 := by omega
            have hmm : (m : Int) ≤ 4096 := by omega
            clear e10 e01 HCC
            go_wp2_with fail
            go_quiet (fail)
            (first | (have _h : Nat := nq; clear _h) | rename_i nq)
            generalize nq = nq1
            go_wp2_with fail
            go_quiet (fail)
            (first | (have _h : Nat := nq; clear _h) | rename_i nq)
            have HR2 := Lib.hid (own_below HROW.out (below_drewN (Below.refl _ _) (nq1 + nq)))
            have HB2 := Lib.hid (below_drewN HBB.out (nq1 + nq))
            go_wp2_with (at_builtin; (refine wpList_append_own _ rfl _ _ 70 rfl W.heap.size 72 i1 (.agg #[.int .i64 0, .string ⟨#[]⟩]) 2 24 Try.underlying70 HI1.out HZ0.out HZ1.out HZ2.out rfl (by decide) _ _ _ rfl (HR2.out.alloc _) ⟨wr.heap.size, 0, none⟩ 1 1 [.int .i64 1, .string x] rfl rfl (by simpa using cell_two_new (wr.drewN (nq1 + nq)) 72 (.int .i64 1) (.string x)) two_memZ (by have := HDL.out; unfold maxLen; omega) (by have := HDL.out; omega) (by have := HBB.out.size; simp; omega) ?_); intro v' w4 hown hgrow _; have HO4 := Lib.hid hown; have HG4 := Lib.hid hgrow; clear hown hgrow)
            go_roundw
            case rel => exact RdS.more (t := (1, x, kj)) (i2 := ki + 1) (j2 := kj) (by rw [HN.out]; omega) (by rw [HM.out]; omega) HDE.out (by rw [← HXX.out]; exact HNEW.out) HB2.out HR2.out HO4.out HG4.out
            case measure => simp [intOf]; omega
        · have h2 : kj < m := Nat.lt_of_le_of_ne hkj fun h => by
            by_cases h1 : ki < n
            · exact hdrop ⟨h1, .inl h⟩
            · exact hend ⟨by omega, h⟩
          by_cases h1 : ki < n
          · have h3 : eqB a b ki kj = false := by cases e : eqB a b ki kj with | true => exact absurd ⟨h1, h2, e⟩ hkeep | false => rfl
            have h4 : cmI (eqB a b) n m (ki + 1) kj < cmI (eqB a b) n m ki (kj + 1) := Nat.lt_of_not_le fun h => hdrop ⟨h1, .inr h⟩
            have HNEW := Lib.hid (edI_ofAdd (a := a) (b := b) (i := ki) (j := kj) (by rw [HM.out]; exact h2) (.inr ⟨by rw [HN.out]; exact h1, h3, by rw [HN.out, HM.out]; exact h4⟩))
            have HCC := Lib.hid h4
            have h1i : (ki : Int) < n := by omega
            have h2i : (kj : Int) < m := by omega
            have h2n : (kj == m) = false := beq_eq_false_iff_ne.2 (by omega)
            have h2m : ((kj : Int) == (m : Int)) = false := beq_eq_false_iff_ne.2 (by omega)
            clear hend hkeep hdrop h4
            obtain ⟨_, bx, ix, hax, hcx⟩ := HTA.out ki (by rw [HN.out]; exact h1)
            obtain ⟨_, bY, iY, hay, hcy⟩ := HTB.out kj (by rw [HM.out]; exact h2)
            subst hax hay
            obtain ⟨x, hx⟩ : ∃ v, itB a ki = v := ⟨_, rfl⟩
            obtain ⟨y, hy⟩ : ∃ v, itB b kj = v := ⟨_, rfl⟩
            rw [hx] at hcx
            rw [hy] at hcy
            have hev : decide (x = y) = eqB a b ki kj := by unfold eqB; rw [hx, hy]
            have HXX := Lib.hid hx; have HYY := Lib.hid hy
            rw [h3] at hev
            clear hx hy
            have hxy : ¬ x = y := of_decide_eq_false hev
            have hn1 := ba_ne hxy
            have hn2 : (x.toList == y.toList) = false := beq_eq_false_iff_ne.2 hn1
            clear hxy hev h3
            have hr0 : wr.cell? ⟨g, ki, none⟩ = some (.slice (some ⟨R ki, 0, none⟩) (m + 1) (m + 1)) := HMR.out.row ki (by omega)
            have hr1 : wr.cell? ⟨g, ki + 1, none⟩ = some (.slice (some ⟨R (ki + 1), 0, none⟩) (m + 1) (m + 1)) := HMR.out.row (ki + 1) (by omega)
            have g10 : wr.cell? ⟨R (ki + 1), kj, none⟩ = some (.int .i64 (cmI (eqB a b) n m (ki + 1) kj : Nat)) := HMR.out.cell (ki + 1) kj (by omega) (by omega)
            have g01 : wr.cell? ⟨R ki, kj + 1, none⟩ = some (.int .i64 (cmI (eqB a b) n m ki (kj + 1) : Nat)) := HMR.out.cell ki (kj + 1) (by omega) (by omega)
            obtain ⟨c10, e10⟩ : ∃ c, cmI (eqB a b) n m (ki + 1) kj = c := ⟨_, rfl⟩
            obtain ⟨c01, e01⟩ : ∃ c, cmI (eqB a b) n m ki (kj + 1) = c := ⟨_, rfl⟩
            rw [e10] at g10 HCC
            rw [e01] at g01 HCC
            have hcc := HCC.out
            have hx0 : (ki : Int) < (n : Int) + 1 := by omega
            have hx1 : (ki : Int) + 1 < (n : Int) + 1 := by omega
            have hy0 : (kj : Int) < (m : Int) + 1 := by omega
            have hy1 : (kj : Int) + 1 < (m : Int) + 1 := by omega
            have hnn : (n : Int) ≤ 4096 := by omega
            have hmm : (m : Int) ≤ 4096 := by omega
            clear e10 e01 HCC
            go_wp2_with fail
            go_quiet (fail)
            (first | (have _h : Nat := nq; clear _h) | rename_i nq)
            generalize nq = nq1
            go_wp2_with fail
            go_quiet (fail)
            (first | (have _h : Nat := nq; clear _h) | rename_i nq)
            have HR2 := Lib.hid (own_below HROW.out (below_drewN (Below.refl _ _) (nq1 + nq)))
            have HB2 := Lib.hid (below_drewN HBB.out (nq1 + nq))
            go_wp2_with (at_builtin; (refine wpList_append_own _ rfl _ _ 70 rfl W.heap.size 72 i1 (.agg #[.int .i64 0, .string ⟨#[]⟩]) 2 24 Try.underlying70 HI1.out HZ0.out HZ1.out HZ2.out rfl (by decide) _ _ _ rfl (HR2.out.alloc _) ⟨wr.heap.size, 0, none⟩ 1 1 [.int .i64 2, .string y] rfl rfl (by simpa using cell_two_new (wr.drewN (nq1 + nq)) 72 (.int .i64 2) (.string y)) two_memZ (by have := HDL.out; unfold maxLen; omega) (by have := HDL.out; omega) (by have := HBB.out.size; simp; omega) ?_); intro v' w4 hown hgrow _; have HO4 := Lib.hid hown; have HG4 := Lib.hid hgrow; clear hown hgrow)
            go_roundw
            case rel => exact RdS.more (t := (2, y, kj)) (i2 := ki) (j2 := kj + 1) (by rw [HN.out]; omega) (by rw [HM.out]; omega) HDE.out (by rw [← HYY.out]; exact HNEW.out) HB2.out HR2.out HO4.out HG4.out
            case measure => simp [intOf]; omega
          · obtain rfl : ki = n := by omega
            have HNEW := Lib.hid (edI_ofAdd (a := a) (b := b) (i := ki) (j := kj) (by rw [HM.out]; exact h2) (.inl HN.out.symm))
            have h2i : (kj : Int) < m := by omega
            have h2n : (kj == m) = false := beq_eq_false_iff_ne.2 (by omega)
            have h2m : ((kj : Int) == (m : Int)) = false := beq_eq_false_iff_ne.2 (by omega)
            clear hend hkeep hdrop h1
            obtain ⟨hss, b0, i0, hob, hcb⟩ := HTB.out kj (by rw [HM.out]; exact h2)
            subst hob
            obtain ⟨s, hs⟩ : ∃ v, itB b kj = v := ⟨_, rfl⟩
            have HSS := Lib.hid hs
            rw [hs] at hcb
            clear hs hss
            go_wp2_with fail
            go_quiet (fail)
            (first | (have _h : Nat := nq; clear _h) | rename_i nq)
            generalize nq = nq1
            go_wp2_with fail
            go_quiet (fail)
            (first | (have _h : Nat := nq; clear _h) | rename_i nq)
            have HR2 := Lib.hid (own_below HROW.out (below_drewN (Below.refl _ _) (nq1 + nq)))
            have HB2 := Lib.hid (below_drewN HBB.out (nq1 + nq))
            go_wp2_with (at_builtin; (refine wpList_append_own _ rfl _ _ 70 rfl W.heap.size 72 i1 (.agg #[.int .i64 0, .string ⟨#[]⟩]) 2 24 Try.underlying70 HI1.out HZ0.out HZ1.out HZ2.out rfl (by decide) _ _ _ rfl (HR2.out.alloc _) ⟨wr.heap.size, 0, none⟩ 1 1 [.int .i64 2, .string s] rfl rfl (by simpa using cell_two_new (wr.drewN (nq1 + nq)) 72 (.int .i64 2) (.string s)) two_memZ (by have := HDL.out; unfold maxLen; omega) (by have := HDL.out; omega) (by have := HBB.out.size; simp; omega) ?_); intro v' w4 hown hgrow _; have HO4 := Lib.hid hown; have HG4 := Lib.hid hgrow; clear hown hgrow)
            go_roundw
            case rel => exact RdS.more (t := (2, s, kj)) (i2 := ki) (j2 := kj + 1) (by rw [HN.out]; omega) (by rw [HM.out]; omega) HDE.out (by rw [← HSS.out]; exact HNEW.out) HB2.out HR2.out HO4.out HG4.out
            case measure => simp [intOf]; omega
end Go.Proofs.Ytjdlpcokjcmapaa
