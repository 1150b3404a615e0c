/- Lists' edits: compare, with the closure of Match. -/
import Derived.Test.YtjdlpcokjcmapaaLh
set_option linter.unusedVariables false
set_option linter.unusedSimpArgs false
namespace Go.Proofs.Ytjdlpcokjcmapaa
open Go.RowKit
variable {w w' : World}

/-- Where the walk over two lists is. -/
def cmpMS (a b : List ByteArray) (p : Nat) (W : World) (i j : Value) (wr : World) : Prop :=
  ∃ (ki kj : Nat) (D : List EdJ), ki ≤ a.length ∧ kj ≤ b.length ∧ i = .int .i64 ki ∧ j = .int .i64 kj ∧ MtAt p (fun k => k < W.heap.size ∧ k ≠ p) D wr ∧ D ++ edI a b ki kj = edI a b 0 0 ∧ Keeps (fun k => k < W.heap.size ∧ k ≠ p) W wr
theorem cmpMS.more {a b : List ByteArray} {p : Nat} {W wr w3 : World} {D : List EdJ} {ki kj i2 j2 : Nat} {t : EdJ} (hi : i2 ≤ a.length) (hj : j2 ≤ b.length) (h0 : D ++ edI a b ki kj = edI a b 0 0) (he : edI a b ki kj = t :: edI a b i2 j2)
    (hD : MtAt p (fun k => k < W.heap.size ∧ k ≠ p) (D ++ [t]) w3) (hk : Keeps (fun k => k < W.heap.size ∧ k ≠ p) W wr) (hk2 : Keeps (fun k => k < W.heap.size ∧ k ≠ p) wr w3) : cmpMS a b p W (.int .i64 i2) (.int .i64 j2) w3 :=
  ⟨i2, j2, D ++ [t], hi, hj, rfl, rfl, hD, by rw [List.append_assoc, List.singleton_append, ← he, h0], hk.trans hk2⟩
theorem cmpMS.len {a b : List ByteArray} {D : List EdJ} {i j : Nat} (h : D ++ edI a b i j = edI a b 0 0) (ha : a.length ≤ 4096) (hb : b.length ≤ 4096) : D.length ≤ 10000 := by
  have h1 := edI_len a b _ 0 0 (Nat.zero_le _) (Nat.zero_le _) (Nat.le_refl _)
  have h2 := congrArg List.length h
  rw [List.length_append] at h2
  omega
set_option maxHeartbeats 8000000 in
set_option maxRecDepth 100000 in
theorem cmpM_any (oa ob : Option Addr) (a b : List ByteArray) (ca cb p : Nat) (w : World) (hla : a.length ≤ 4096) (hlb : b.length ≤ 4096) (ha : TxAt w oa a) (hb : TxAt w ob b) (hpa : ∀ b i, oa = some ⟨b, i, none⟩ → 0 < a.length → b ≠ p) (hpb : ∀ x i, ob = some ⟨x, i, none⟩ → 0 < b.length → x ≠ p) (hbx : Boxed w p 52 (.slice none 0 0)) :
    Calls Try.prog 38 #[.slice oa a.length ca, .slice ob b.length cb, .func (.func 39) #[] #[.pointer (some ⟨p, 0, none⟩)]] w fun e w' => e = .returned (.int .i64 0) ∧ MtAt p (fun k => k < w.heap.size ∧ k ≠ p) (edI a b 0 0) w' ∧ Keeps (fun k => k < w.heap.size ∧ k ≠ p) w w' := by
  obtain ⟨n, hn⟩ : ∃ n, a.length = n := ⟨_, rfl⟩
  obtain ⟨m, hm⟩ : ∃ n, b.length = n := ⟨_, rfl⟩
  have hpl := hbx.lt
  have HN := Lib.hid hn; have HM := Lib.hid hm; have HA := Lib.hid ha; have HB := Lib.hid hb; have HPA := Lib.hid hpa; have HPB := Lib.hid hpb; have HBX := Lib.hid hbx
  have H1 := Lib.hid (numbered_any oa ob a b ca cb w hla hlb ha hb)
  rw [hn, hm] at H1
  rw [hn] at hla ⊢
  rw [hm] at hlb ⊢
  clear hn hm ha hb hpa hpb hbx
  have d0 : decide (4096 < n) = false := decide_eq_false (by omega)
  have d1 : decide (4096 < m) = false := decide_eq_false (by omega)
  have d2 : decide ((4096 : Int) < (n : Int)) = false := decide_eq_false (by omega)
  have d3 : decide ((4096 : Int) < (m : Int)) = false := decide_eq_false (by omega)
  go_enter Try.func38, Try.ntmps38
  go_wp2_with (go_at_call 44; refine H1.out.mono ?_)
  rintro e w1 ⟨x, y, K, rfl, hx, hy, hka, hkb, hb1⟩
  have hx' : w1.ownsRow w.heap.size 3 1 x (posL K a).length (intV (posL K a)) := by rw [posL_length, HN.out]; exact hx
  have hy' : w1.ownsRow w.heap.size 3 1 y (posL K b).length (intV (posL K b)) := by rw [posL_length, HM.out]; exact hy
  obtain ⟨ax, cx, rfl, hxn, hxb⟩ := own_nums hx'
  obtain ⟨ay, cy, rfl, hyn, hyb⟩ := own_nums hy'
  have HXN := Lib.hid hxn; have HYN := Lib.hid hyn; have HXB := Lib.hid hxb; have HYB := Lib.hid hyb; have HB1 := Lib.hid hb1
  have hlen1 : (posL K a).length = n := by rw [posL_length, HN.out]
  have hlen2 : (posL K b).length = m := by rw [posL_length, HM.out]
  have HE := Lib.hid (fun i j (hi : i < n) (hj : j < m) => posL_eq hka hkb (i := i) (j := j) (by rw [HN.out]; exact hi) (by rw [HM.out]; exact hj))
  have H2 := Lib.hid (lengths_any ax ay (posL K a) (posL K b) cx cy (eqB a b) w1 (by rw [hlen1]; exact hla) (by rw [hlen2]; exact hlb) hxn hyn (fun i j hi hj => HE.out i j (by rw [← hlen1]; exact hi) (by rw [← hlen2]; exact hj)))
  have HL1 := Lib.hid hlen1; have HL2 := Lib.hid hlen2
  rw [hlen1, hlen2] at H2
  rw [hlen1, hlen2]
  clear hx hy hx' hy' hxn hyn hxb hyb hka hkb hb1 hlen1 hlen2 H1
  go_wp2_with (go_at_call 45; (with_reducible refine H2.out.mono ?_); rintro e W ⟨rfl, hM, hb2⟩; have HMT := Lib.hid hM; have HB2 := Lib.hid hb2; clear hM hb2 H2)
  have HW : Hid (Below w.heap.size w W) := Lib.hid (HB1.out.trans (HB2.out.mono HB1.out.size))
  have HS1 := Lib.hid HB1.out.size; have HS2 := Lib.hid HB2.out.size
  have H0 : Hid (cmpMS a b p W (.int .i64 0) (.int .i64 0) W) := Lib.hid ⟨0, 0, [], Nat.zero_le _, Nat.zero_le _, rfl, rfl, ⟨_, (HW.out.block p hpl).trans HBX.out, World.ownsRow_nil _ _ _ _, fun k hk => by cases hk⟩, rfl, Keeps.refl _ _⟩
  clear HBX d0 d1 d2 d3
  go_loopw [10, 11] (fun i j wr => cmpMS a b p W i j wr) (fun i j _ => (n - (intOf i).toNat) + (m - (intOf j).toNat))
  case atStart => exact H0.out
  case round =>
    obtain ⟨ki, kj, D, hki, hkj, rfl, rfl, hD, hDe, hK⟩ := hrel
    rw [HN.out] at hki
    rw [HM.out] at hkj
    have HD := Lib.hid hD; have HDE := Lib.hid hDe; have HK := Lib.hid hK
    have HDL := Lib.hid (cmpMS.len hDe (by rw [HN.out]; exact hla) (by rw [HM.out]; exact hlb))
    have hTA : TxAt wr oa a := (HA.out.below HW.out).keep fun b i h hl h0 => hK.block b ⟨hl, HPA.out b i h h0⟩
    have hTB : TxAt wr ob b := (HB.out.below HW.out).keep fun b i h hl h0 => hK.block b ⟨hl, HPB.out b i h h0⟩
    have hNX : NmAt wr ax (posL K a) := (HXN.out.below HB2.out).keep fun b i h hl => hK.block b ⟨hl, by have := HXB.out b i h; omega⟩
    have hNY : NmAt wr ay (posL K b) := (HYN.out.below HB2.out).keep fun b i h hl => hK.block b ⟨hl, by have := HYB.out b i h; omega⟩
    have hMT : Mat .u16 w1.heap.size (fun i => w1.heap.size + 1 + i) (n + 1) (m + 1) (cmI (eqB a b) n m) wr := HMT.out.keep fun k hk => by
      have hkW : k < W.heap.size ∧ w1.heap.size ≤ k := by
        rcases hk with rfl | ⟨i, hi, rfl⟩
        · exact ⟨World.block_lt_of_cell? W _ (HMT.out.row 0 (by omega)), Nat.le_refl _⟩
        · exact ⟨World.block_lt_of_cell? W _ (HMT.out.cell i 0 hi (by omega)), by omega⟩
      exact hK.block k ⟨hkW.1, by have := HS1.out; omega⟩
    have HTA := Lib.hid hTA; have HTB := Lib.hid hTB; have HNX := Lib.hid hNX; have HNY := Lib.hid hNY; have HMR := Lib.hid hMT
    clear hD hDe hK hTA hTB hNX hNY hMT H0
    by_cases hend : ki = n ∧ kj = m
    · obtain ⟨rfl, rfl⟩ := hend
      go_wp2_with fail
      go_ret
      have hDD := HDE.out
      rw [edI_end (by rw [HN.out]; exact Nat.le_refl _) (by rw [HM.out]; exact Nat.le_refl _), List.append_nil] at hDD
      have hsub : ∀ k, (k < w.heap.size ∧ k ≠ p) → (k < W.heap.size ∧ k ≠ p) := fun k hk => ⟨by have := HW.out.size; omega, hk.2⟩
      exact ⟨rfl, by rw [← hDD]; exact HD.out.weak hsub, (Keeps.of_below HW.out (fun k hk => hk.1)).trans (HK.out.weak hsub)⟩
    · by_cases hkeep : ki < n ∧ kj < m ∧ eqB a b ki kj = true
      · obtain ⟨h1, h2, h3⟩ := hkeep
        obtain ⟨hss, bA, iA, hoa, hca⟩ := HTA.out ki (by rw [HN.out]; exact h1)
        obtain ⟨bx, ix, hax, hcx⟩ := HNX.out ki (by rw [HL1.out]; exact h1)
        obtain ⟨bY, iY, hay, hcy⟩ := HNY.out kj (by rw [HL2.out]; exact h2)
        subst hoa hax hay
        have hev := HE.out ki kj h1 h2
        rw [h3] at hev
        obtain ⟨xv, hxv⟩ : ∃ v, (posL K a).getD ki 0 = v := ⟨_, rfl⟩
        obtain ⟨yv, hyv⟩ : ∃ v, (posL K b).getD kj 0 = v := ⟨_, rfl⟩
        obtain ⟨s, hs⟩ : ∃ v, itB a ki = v := ⟨_, rfl⟩
        have HSS := Lib.hid hs
        rw [hxv] at hcx hev
        rw [hyv] at hcy hev
        rw [hs] at hca
        have h1i : (ki : Int) < n := by omega
        have h2i : (kj : Int) < m := by omega
        have HNEW := Lib.hid (edI_keep (a := a) (b := b) (by rw [HN.out]; exact h1) (by rw [HM.out]; exact h2) h3)
        clear hxv hyv hs h3 hend hss
        go_wp2_with fail
        go_quiet (fail)
        rename_i nq
        have HC := Lib.hid (show Calls Try.prog 39 #[.agg #[.int .i64 0, .string s], .int .i64 (kj : Nat), .pointer (some ⟨p, 0, none⟩)] (wr.drewN nq) _ from match1_any p _ D 0 s kj (wr.drewN nq) HDL.out (by omega) (fun k hk => Nat.lt_of_lt_of_le hk.1 HK.out.size) (fun h => h.2 rfl) (HD.out.below (below_drewN (Below.refl _ _) nq)))
        go_wp2_with (go_at_call 39; (with_reducible refine HC.out.mono ?_); rintro e w3 ⟨rfl, hD3, hK3⟩; have HD3 := Lib.hid hD3; have HK3 := Lib.hid hK3; clear hD3 hK3)
        go_roundw
        case rel => exact cmpMS.more (i2 := ki + 1) (j2 := kj + 1) (by rw [HN.out]; exact h1) (by rw [HM.out]; exact h2) HDE.out HNEW.out (by rw [HSS.out]; exact HD3.out) (HK.out.drewN nq) HK3.out
        case measure => simp [intOf]; omega
      · by_cases hdrop : ki < n ∧ (kj = m ∨ cmI (eqB a b) n m ki (kj + 1) ≤ cmI (eqB a b) n m (ki + 1) kj)
        · obtain ⟨h1, h4⟩ := hdrop
          by_cases h2 : kj = m
          · have HNEW := Lib.hid (edI_ofDrop (a := a) (b := b) (i := ki) (j := kj) (by rw [HN.out]; exact h1) (.inl (by rw [HM.out]; exact h2)))
            have h1i : (ki : Int) < n := by omega
            obtain rfl : kj = m := h2
            clear hend hkeep
            obtain ⟨hss, b0, i0, hob, hcb⟩ := HTA.out ki (by rw [HN.out]; exact h1)
            subst hob
            obtain ⟨s, hs⟩ : ∃ v, itB a ki = v := ⟨_, rfl⟩
            have HSS := Lib.hid hs
            rw [hs] at hcb
            clear hs hss
            go_wp2_with fail
            go_quiet (fail)
            (first | (have _h : Nat := nq; clear _h) | rename_i nq); generalize nq = nq1
            go_wp2_with fail
            go_quiet (fail)
            (first | (have _h : Nat := nq; clear _h) | rename_i nq)
            have HC := Lib.hid (show Calls Try.prog 39 #[.agg #[.int .i64 1, .string s], .int .i64 (kj : Nat), .pointer (some ⟨p, 0, none⟩)] (wr.drewN (nq1 + nq)) _ from match1_any p _ D 1 s kj (wr.drewN (nq1 + nq)) HDL.out (by omega) (fun k hk => Nat.lt_of_lt_of_le hk.1 HK.out.size) (fun h => h.2 rfl) (HD.out.below (below_drewN (Below.refl _ _) (nq1 + nq))))
            go_wp2_with (go_at_call 39; (with_reducible refine HC.out.mono ?_); rintro e w3 ⟨rfl, hD3, hK3⟩; have HD3 := Lib.hid hD3; have HK3 := Lib.hid hK3; clear hD3 hK3)
            go_roundw
            case rel => exact cmpMS.more (i2 := ki + 1) (j2 := kj) (by rw [HN.out]; omega) (by rw [HM.out]; omega) HDE.out HNEW.out (by rw [HSS.out]; exact HD3.out) (HK.out.drewN (nq1 + nq)) HK3.out
            case measure => simp [intOf]; omega
          · replace h4 : cmI (eqB a b) n m ki (kj + 1) ≤ cmI (eqB a b) n m (ki + 1) kj := h4.resolve_left h2
            have h2 : kj < m := by omega
            have h3 : eqB a b ki kj = false := by cases e : eqB a b ki kj with | true => exact absurd ⟨h1, h2, e⟩ hkeep | false => rfl
            have HNEW := Lib.hid (edI_ofDrop (a := a) (b := b) (i := ki) (j := kj) (by rw [HN.out]; exact h1) (.inr ⟨by rw [HM.out]; exact h2, h3, by rw [HN.out, HM.out]; exact h4⟩))
            have HCC := Lib.hid h4
            have h1i : (ki : Int) < n := by omega
            have h2i : (kj : Int) < m := by omega
            have h2n : (kj == m) = false := beq_eq_false_iff_ne.2 (by omega)
            have h2m : ((kj : Int) == (m : Int)) = false := beq_eq_false_iff_ne.2 (by omega)
            clear hend hkeep h4
            obtain ⟨bx, ix, hax, hcx⟩ := HNX.out ki (by rw [HL1.out]; exact h1)
            obtain ⟨bY, iY, hay, hcy⟩ := HNY.out kj (by rw [HL2.out]; exact h2)
            subst hax hay
            have hev := HE.out ki kj h1 h2
            rw [h3] at hev
            obtain ⟨xv, hxv⟩ : ∃ v, (posL K a).getD ki 0 = v := ⟨_, rfl⟩
            obtain ⟨yv, hyv⟩ : ∃ v, (posL K b).getD kj 0 = v := ⟨_, rfl⟩
            rw [hxv] at hcx hev
            rw [hyv] at hcy hev
            clear hxv hyv
            have hr0 : wr.cell? ⟨w1.heap.size, ki, none⟩ = some (.slice (some ⟨w1.heap.size + 1 + ki, 0, none⟩) (m + 1) (m + 1)) := HMR.out.row ki (by omega)
            have hr1 : wr.cell? ⟨w1.heap.size, ki + 1, none⟩ = some (.slice (some ⟨w1.heap.size + 1 + (ki + 1), 0, none⟩) (m + 1) (m + 1)) := HMR.out.row (ki + 1) (by omega)
            have g10 : wr.cell? ⟨w1.heap.size + 1 + (ki + 1), kj, none⟩ = some (.int .u16 (cmI (eqB a b) n m (ki + 1) kj : Nat)) := HMR.out.cell (ki + 1) kj (by omega) (by omega)
            have g01 : wr.cell? ⟨w1.heap.size + 1 + ki, kj + 1, none⟩ = some (.int .u16 (cmI (eqB a b) n m ki (kj + 1) : Nat)) := HMR.out.cell ki (kj + 1) (by omega) (by omega)
            obtain ⟨c10, e10⟩ : ∃ c, cmI (eqB a b) n m (ki + 1) kj = c := ⟨_, rfl⟩
            obtain ⟨c01, e01⟩ : ∃ c, cmI (eqB a b) n m ki (kj + 1) = c := ⟨_, rfl⟩
            rw [e10] at g10 HCC
            rw [e01] at g01 HCC
            have hcc := HCC.out
            have hx0 : (ki : Int) < (n : Int) + 1 := by omega
            have hx1 : (ki : Int) + 1 < (n : Int) + 1 := by omega
            have hy0 : (kj : Int) < (m : Int) + 1 := by omega
            have hy1 : (kj : Int) + 1 < (m : Int) + 1 := by omega
            have hnn : (n : Int) ≤ 4096 := by omega
            have hmm : (m : Int) ≤ 4096 := by omega
            clear e10 e01 HCC
            obtain ⟨hss, b0, i0, hob, hcb⟩ := HTA.out ki (by rw [HN.out]; exact h1)
            subst hob
            obtain ⟨s, hs⟩ : ∃ v, itB a ki = v := ⟨_, rfl⟩
            have HSS := Lib.hid hs
            rw [hs] at hcb
            clear hs hss
            go_wp2_with fail
            go_quiet (fail)
            (first | (have _h : Nat := nq; clear _h) | rename_i nq); generalize nq = nq1
            go_wp2_with fail
            go_quiet (fail)
            (first | (have _h : Nat := nq; clear _h) | rename_i nq)
            have HC := Lib.hid (show Calls Try.prog 39 #[.agg #[.int .i64 1, .string s], .int .i64 (kj : Nat), .pointer (some ⟨p, 0, none⟩)] (wr.drewN (nq1 + nq)) _ from match1_any p _ D 1 s kj (wr.drewN (nq1 + nq)) HDL.out (by omega) (fun k hk => Nat.lt_of_lt_of_le hk.1 HK.out.size) (fun h => h.2 rfl) (HD.out.below (below_drewN (Below.refl _ _) (nq1 + nq))))
            go_wp2_with (go_at_call 39; (with_reducible refine HC.out.mono ?_); rintro e w3 ⟨rfl, hD3, hK3⟩; have HD3 := Lib.hid hD3; have HK3 := Lib.hid hK3; clear hD3 hK3)
            go_roundw
            case rel => exact cmpMS.more (i2 := ki + 1) (j2 := kj) (by rw [HN.out]; omega) (by rw [HM.out]; omega) HDE.out HNEW.out (by rw [HSS.out]; exact HD3.out) (HK.out.drewN (nq1 + nq)) HK3.out
            case measure => simp [intOf]; omega
        · have h2 : kj < m := Nat.lt_of_le_of_ne hkj fun h => by
            by_cases h1 : ki < n
            · exact hdrop ⟨h1, .inl h⟩
            · exact hend ⟨by omega, h⟩
          by_cases h1 : ki < n
          · have h3 : eqB a b ki kj = false := by cases e : eqB a b ki kj with | true => exact absurd ⟨h1, h2, e⟩ hkeep | false => rfl
            have h4 : cmI (eqB a b) n m (ki + 1) kj < cmI (eqB a b) n m ki (kj + 1) := Nat.lt_of_not_le fun h => hdrop ⟨h1, .inr h⟩
            have HNEW := Lib.hid (edI_ofAdd (a := a) (b := b) (i := ki) (j := kj) (by rw [HM.out]; exact h2) (.inr ⟨by rw [HN.out]; exact h1, h3, by rw [HN.out, HM.out]; exact h4⟩))
            have HCC := Lib.hid h4
            have h1i : (ki : Int) < n := by omega
            have h2i : (kj : Int) < m := by omega
            have h2n : (kj == m) = false := beq_eq_false_iff_ne.2 (by omega)
            have h2m : ((kj : Int) == (m : Int)) = false := beq_eq_false_iff_ne.2 (by omega)
            clear hend hkeep hdrop h4
            obtain ⟨bx, ix, hax, hcx⟩ := HNX.out ki (by rw [HL1.out]; exact h1)
            obtain ⟨bY, iY, hay, hcy⟩ := HNY.out kj (by rw [HL2.out]; exact h2)
            subst hax hay
            have hev := HE.out ki kj h1 h2
            rw [h3] at hev
            obtain ⟨xv, hxv⟩ : ∃ v, (posL K a).getD ki 0 = v := ⟨_, rfl⟩
            obtain ⟨yv, hyv⟩ : ∃ v, (posL K b).getD kj 0 = v := ⟨_, rfl⟩
            rw [hxv] at hcx hev
            rw [hyv] at hcy hev
            clear hxv hyv
            have hr0 : wr.cell? ⟨w1.heap.size, ki, none⟩ = some (.slice (some ⟨w1.heap.size + 1 + ki, 0, none⟩) (m + 1) (m + 1)) := HMR.out.row ki (by omega)
            have hr1 : wr.cell? ⟨w1.heap.size, ki + 1, none⟩ = some (.slice (some ⟨w1.heap.size + 1 + (ki + 1), 0, none⟩) (m + 1) (m + 1)) := HMR.out.row (ki + 1) (by omega)
            have g10 : wr.cell? ⟨w1.heap.size + 1 + (ki + 1), kj, none⟩ = some (.int .u16 (cmI (eqB a b) n m (ki + 1) kj : Nat)) := HMR.out.cell (ki + 1) kj (by omega) (by omega)
            have g01 : wr.cell? ⟨w1.heap.size + 1 + ki, kj + 1, none⟩ = some (.int .u16 (cmI (eqB a b) n m ki (kj + 1) : Nat)) := HMR.out.cell ki (kj + 1) (by omega) (by omega)
            obtain ⟨c10, e10⟩ : ∃ c, cmI (eqB a b) n m (ki + 1) kj = c := ⟨_, rfl⟩
            obtain ⟨c01, e01⟩ : ∃ c, cmI (eqB a b) n m ki (kj + 1) = c := ⟨_, rfl⟩
            rw [e10] at g10 HCC
            rw [e01] at g01 HCC
            have hcc := HCC.out
            have hx0 : (ki : Int) < (n : Int) + 1 := by omega
            have hx1 : (ki : Int) + 1 < (n : Int) + 1 := by omega
            have hy0 : (kj : Int) < (m : Int) + 1 := by omega
            have hy1 : (kj : Int) + 1 < (m : Int) + 1 := by omega
            have hnn : (n : Int) ≤ 4096 := by omega
            have hmm : (m : Int) ≤ 4096 := by omega
            clear e10 e01 HCC
            obtain ⟨hss, b0, i0, hob, hcb⟩ := HTB.out kj (by rw [HM.out]; exact h2)
            subst hob
            obtain ⟨s, hs⟩ : ∃ v, itB b kj = v := ⟨_, rfl⟩
            have HSS := Lib.hid hs
            rw [hs] at hcb
            clear hs hss
            go_wp2_with fail
            go_quiet (fail)
            (first | (have _h : Nat := nq; clear _h) | rename_i nq); generalize nq = nq1
            go_wp2_with fail
            go_quiet (fail)
            (first | (have _h : Nat := nq; clear _h) | rename_i nq)
            have HC := Lib.hid (show Calls Try.prog 39 #[.agg #[.int .i64 2, .string s], .int .i64 (kj : Nat), .pointer (some ⟨p, 0, none⟩)] (wr.drewN (nq1 + nq)) _ from match1_any p _ D 2 s kj (wr.drewN (nq1 + nq)) HDL.out (by omega) (fun k hk => Nat.lt_of_lt_of_le hk.1 HK.out.size) (fun h => h.2 rfl) (HD.out.below (below_drewN (Below.refl _ _) (nq1 + nq))))
            go_wp2_with (go_at_call 39; (with_reducible refine HC.out.mono ?_); rintro e w3 ⟨rfl, hD3, hK3⟩; have HD3 := Lib.hid hD3; have HK3 := Lib.hid hK3; clear hD3 hK3)
            go_roundw
            case rel => exact cmpMS.more (i2 := ki) (j2 := kj + 1) (by rw [HN.out]; omega) (by rw [HM.out]; omega) HDE.out HNEW.out (by rw [HSS.out]; exact HD3.out) (HK.out.drewN (nq1 + nq)) HK3.out
            case measure => simp [intOf]; omega
          · obtain rfl : ki = n := by omega
            have HNEW := Lib.hid (edI_ofAdd (a := a) (b := b) (i := ki) (j := kj) (by rw [HM.out]; exact h2) (.inl HN.out.symm))
            have h2i : (kj : Int) < m := by omega
            have h2n : (kj == m) = false := beq_eq_false_iff_ne.2 (by omega)
            have h2m : ((kj : Int) == (m : Int)) = false := beq_eq_false_iff_ne.2 (by omega)
            clear hend hkeep hdrop h1
            obtain ⟨hss, b0, i0, hob, hcb⟩ := HTB.out kj (by rw [HM.out]; exact h2)
            subst hob
            obtain ⟨s, hs⟩ : ∃ v, itB b kj = v := ⟨_, rfl⟩
            have HSS := Lib.hid hs
            rw [hs] at hcb
            clear hs hss
            go_wp2_with fail
            go_quiet (fail)
            (first | (have _h : Nat := nq; clear _h) | rename_i nq); generalize nq = nq1
            go_wp2_with fail
            go_quiet (fail)
            (first | (have _h : Nat := nq; clear _h) | rename_i nq)
            have HC := Lib.hid (show Calls Try.prog 39 #[.agg #[.int .i64 2, .string s], .int .i64 (kj : Nat), .pointer (some ⟨p, 0, none⟩)] (wr.drewN (nq1 + nq)) _ from match1_any p _ D 2 s kj (wr.drewN (nq1 + nq)) HDL.out (by omega) (fun k hk => Nat.lt_of_lt_of_le hk.1 HK.out.size) (fun h => h.2 rfl) (HD.out.below (below_drewN (Below.refl _ _) (nq1 + nq))))
            go_wp2_with (go_at_call 39; (with_reducible refine HC.out.mono ?_); rintro e w3 ⟨rfl, hD3, hK3⟩; have HD3 := Lib.hid hD3; have HK3 := Lib.hid hK3; clear hD3 hK3)
            go_roundw
            case rel => exact cmpMS.more (i2 := ki) (j2 := kj + 1) (by rw [HN.out]; omega) (by rw [HM.out]; omega) HDE.out HNEW.out (by rw [HSS.out]; exact HD3.out) (HK.out.drewN (nq1 + nq)) HK3.out
            case measure => simp [intOf]; omega
end Go.Proofs.Ytjdlpcokjcmapaa
