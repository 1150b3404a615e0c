/- Three texts: the law on sides. -/
import Derived.Test.YtjdlpcokjcmapaaBo
set_option linter.unusedVariables false
set_option linter.unusedSimpArgs false
namespace Go.Proofs.Ytjdlpcokjcmapaa
open Go.RowKit Go.Maps Go.WideShapes
variable {w w' : World}

set_option maxHeartbeats 2000000 in
set_option maxRecDepth 100000 in
theorem short_any (o : Option Addr) (l : List ByteArray) (c : Nat) (w : World) (hl : l.length ≤ maxLen) (hc : l.length ≤ c) (h : TxAt w o l) :
    Calls Try.prog 9 #[.slice o l.length c] w fun e w' => ∃ v, e = .returned v ∧ w'.ownsRow w.heap.size 9 1 v (l.take 30).length (strV (l.take 30)) ∧ Below w.heap.size w w' := by
  obtain ⟨n, hn⟩ : ∃ n, l.length = n := ⟨_, rfl⟩
  have HT := Lib.hid (h.take 30)
  have hlen : (l.take 30).length ≤ 30 ∧ (30 < n → (l.take 30).length = 30) ∧ (¬ 30 < n → (l.take 30).length = n) := by
    rw [List.length_take, hn]
    exact ⟨Nat.min_le_left _ _, fun h => Nat.min_eq_left (by omega), fun h => Nat.min_eq_right (by omega)⟩
  obtain ⟨L, hL⟩ : ∃ L, l.take 30 = L := ⟨_, rfl⟩
  rw [hL] at HT hlen
  rw [hL, hn]
  rw [hn] at hl hc
  unfold maxLen at hl
  obtain ⟨v', w2, hrun, hb2, hown⟩ := app_texts (c := c) HT.out (by have := hlen.1; omega)
  have HO := Lib.hid hown; have HB2 := Lib.hid hb2
  clear hn hL h hown hb2
  obtain ⟨o', cap', hv, _⟩ := own_at HO.out
  subst hv
  by_cases h30 : 30 < n
  · have e : L.length = 30 := hlen.2.1 h30
    rw [e] at hrun HO ⊢
    have hn30 : (30 : Int) < n := by omega
    have hmin : min (n : Int) 30 = 30 := Int.min_eq_right (by omega)
    have hn31 : (30 : Int) ≤ n := by omega
    have hn32 : ¬ (n : Int) ≤ 30 := by omega
    have hc30 : (30 : Int) ≤ c := by omega
    obtain ⟨_, b0, i0, ho, _⟩ := HT.out 0 (by rw [e]; omega)
    subst ho
    have HRUN := Lib.hid hrun
    clear hlen e hrun
    go_enter Try.func9, Try.ntmps9
    go_wp2_with (at_builtin; refine wpList_append_eq rfl _ _ 22 rfl _ _ rfl rfl _ _ HRUN.out ?_)
    go_ret
    exact ⟨_, rfl, HO.out, HB2.out⟩
  · have e : L.length = n := hlen.2.2 h30
    rw [e] at hrun HO ⊢
    have hn30 : ¬ (30 : Int) < n := by omega
    have hmin : min (n : Int) 30 = n := Int.min_eq_left (by omega)
    have hn31 : (n : Int) ≤ 30 := by omega
    have hci : (n : Int) ≤ c := by omega
    have HRUN := Lib.hid hrun
    clear hrun
    cases o with
    | none =>
      have hn0 : n = 0 := by
        rcases Nat.eq_zero_or_pos n with h | h
        · exact h
        · obtain ⟨_, b0, i0, ho, _⟩ := HT.out 0 (by rw [e]; omega)
          cases ho
      subst hn0
      clear hlen e
      go_enter Try.func9, Try.ntmps9
      go_wp2_with (at_builtin; refine wpList_append_eq rfl _ _ 22 rfl _ _ rfl rfl _ _ HRUN.out ?_)
      go_ret
      exact ⟨_, rfl, HO.out, HB2.out⟩
    | some ad =>
      clear hlen e
      go_enter Try.func9, Try.ntmps9
      go_wp2_with (at_builtin; refine wpList_append_eq rfl _ _ 22 rfl _ _ rfl rfl _ _ HRUN.out ?_)
      go_ret
      exact ⟨_, rfl, HO.out, HB2.out⟩

theorem short_at (o : Option Addr) (l : List ByteArray) (c : Nat) (w : World) (hl : l.length ≤ maxLen) (hc : l.length ≤ c) (h : TxAt w o l) :
    Calls Try.prog 9 #[.slice o l.length c] w fun e w' => ∃ a d, e = .returned (.slice a (l.take 30).length d) ∧ TxAt w' a (l.take 30) ∧ (l.take 30).length ≤ d ∧ Below w.heap.size w w' := by
  refine (short_any o l c w hl hc h).mono ?_
  rintro e w' ⟨v, rfl, hr, hb⟩
  obtain ⟨a, d, rfl, ht, hd, _⟩ := own_texts2 hr (fun s hs => tx_small h s (List.mem_of_mem_take hs))
  exact ⟨a, d, rfl, ht, hd, hb⟩
theorem cut_mem {l : List ByteArray} {i n : Nat} {s : ByteArray} (h : s ∈ cutL l i n) : s ∈ l := List.mem_of_mem_take (List.mem_of_mem_drop h)
theorem pcO_mem {out S X Y : List ByteArray} {s : ByteArray} (h : s ∈ pcO out S X Y) : s ∈ out ∨ s ∈ X ∨ s ∈ Y := by
  unfold pcO at h
  split at h
  · exact (List.mem_append.1 h).imp id Or.inl
  · split at h
    · exact (List.mem_append.1 h).imp id Or.inr
    · exact Or.inl h
theorem lnF_mem {B O T : List ByteArray} : ∀ n, n ≤ B.length → ∀ s ∈ (lnF B O T n).2.1, s ∈ B ∨ s ∈ O ∨ s ∈ T
  | 0, _, s, h => by simp [lnF] at h
  | n + 1, hn, s, h => by
    have e : lnF B O T (n + 1) = lnStp B O T n ((matchL B O).getD n 0) ((matchL B T).getD n 0) (lnF B O T n) := rfl
    rw [e] at h
    unfold lnStp at h
    split at h
    · exact lnF_mem n (by omega) s h
    · rcases List.mem_append.1 h with h | h
      · rcases pcO_mem h with h | h | h
        · exact lnF_mem n (by omega) s h
        · exact Or.inr (Or.inl (cut_mem h))
        · exact Or.inr (Or.inr (cut_mem h))
      · simp at h; subst h; exact Or.inl (it_mem (by omega))
theorem linesO_mem {B O T : List ByteArray} {s : ByteArray} (h : s ∈ linesO B O T) : s ∈ B ∨ s ∈ O ∨ s ∈ T := by
  unfold linesO at h
  split at h
  · unfold lnE at h
    rcases pcO_mem h with h | h | h
    · exact lnF_mem _ (Nat.le_refl _) s h
    · exact Or.inr (Or.inl (cut_mem h))
    · exact Or.inr (Or.inr (cut_mem h))
  · cases h
theorem Lines_at (oB oO oT : Option Addr) (B O T : List ByteArray) (cB cO cT : Nat) (w : World) (hlB : B.length ≤ 4096) (hlO : O.length ≤ 4096) (hlT : T.length ≤ 4096) (hcB : B.length ≤ cB) (hcO : O.length ≤ cO) (hcT : T.length ≤ cT) (hB : TxAt w oB B) (hO : TxAt w oO O) (hT : TxAt w oT T) :
    Calls Try.prog 13 #[.slice oB B.length cB, .slice oO O.length cO, .slice oT T.length cT] w fun e w' => ∃ a c d f, e = .returned (.tuple #[.slice a (linesO B O T).length c, .slice d (lnE B O T).2 f, .int .i64 0]) ∧ TxAt w' a (linesO B O T) ∧ Below w.heap.size w w' := by
  refine (Lines_any oB oO oT B O T cB cO cT w hlB hlO hlT hcB hcO hcT hB hO hT).mono ?_
  rintro e w' ⟨v1, d, f, rfl, hr, hb⟩
  obtain ⟨a, c, rfl, ht, _⟩ := own_texts hr (fun s hs => (linesO_mem hs).elim (tx_small hB s) (fun h => h.elim (tx_small hO s) (tx_small hT s)))
  exact ⟨a, c, d, f, rfl, ht, hb⟩
set_option maxHeartbeats 8000000 in
set_option maxRecDepth 100000 in
theorem LSides_any (o1 : Option Addr) (l1 : List ByteArray) (c1 : Nat) (o2 : Option Addr) (l2 : List ByteArray) (c2 : Nat) (o3 : Option Addr) (l3 : List ByteArray) (c3 : Nat) (w : World) (hl1 : l1.length ≤ maxLen) (hc1 : l1.length ≤ c1) (h1 : TxAt w o1 l1) (hl2 : l2.length ≤ maxLen) (hc2 : l2.length ≤ c2) (h2 : TxAt w o2 l2) (hl3 : l3.length ≤ maxLen) (hc3 : l3.length ≤ c3) (h3 : TxAt w o3 l3) :
    Calls Try.prog 5 #[.slice o1 l1.length c1, .slice o2 l2.length c2, .slice o3 l3.length c3] w fun e w' => e = .returned (.bool true) ∧ Below w.heap.size w w' := by
  have HSP := Lib.hid (fun W => speaks_any W)
  have hI1 := fun (W : World) (hW : Below w.heap.size w W) => short_at o1 l1 c1 W hl1 hc1 (h1.below hW)
  have hI2 := fun (W : World) (hW : Below w.heap.size w W) => short_at o2 l2 c2 W hl2 hc2 (h2.below hW)
  have hI3 := fun (W : World) (hW : Below w.heap.size w W) => short_at o3 l3 c3 W hl3 hc3 (h3.below hW)
  have ht : ∀ l : List ByteArray, (l.take 30).length ≤ 30 := fun l => by rw [List.length_take]; exact Nat.min_le_left _ _
  have hB := ht l1; have hO := ht l2; have hT := ht l3
  obtain ⟨B, hBe⟩ : ∃ L, l1.take 30 = L := ⟨_, rfl⟩
  obtain ⟨O, hOe⟩ : ∃ L, l2.take 30 = L := ⟨_, rfl⟩
  obtain ⟨T, hTe⟩ : ∃ L, l3.take 30 = L := ⟨_, rfl⟩
  rw [hBe] at hI1 hB; rw [hOe] at hI2 hO; rw [hTe] at hI3 hT
  obtain ⟨nB, hnB⟩ : ∃ n, B.length = n := ⟨_, rfl⟩
  obtain ⟨nO, hnO⟩ : ∃ n, O.length = n := ⟨_, rfl⟩
  obtain ⟨nT, hnT⟩ : ∃ n, T.length = n := ⟨_, rfl⟩
  obtain ⟨m1, hm1⟩ : ∃ n, l1.length = n := ⟨_, rfl⟩
  obtain ⟨m2, hm2⟩ : ∃ n, l2.length = n := ⟨_, rfl⟩
  obtain ⟨m3, hm3⟩ : ∃ n, l3.length = n := ⟨_, rfl⟩
  rw [hnB] at hI1 hB; rw [hnO] at hI2 hO; rw [hnT] at hI3 hT
  rw [hm1] at hI1; rw [hm2] at hI2; rw [hm3] at hI3
  rw [hm1, hm2, hm3]
  have HNB := Lib.hid hnB; have HNO := Lib.hid hnO; have HNT := Lib.hid hnT
  have HI1 := Lib.hid hI1; have HI2 := Lib.hid hI2; have HI3 := Lib.hid hI3
  clear hI1 hI2 hI3 hnB hnO hnT hm1 hm2 hm3 hBe hOe hTe ht hl1 hc1 h1 hl2 hc2 h2 hl3 hc3 h3
  have F1 : Hid (1 = 1) := Lib.hid rfl
  have F2 : Hid (1 = 1) := Lib.hid rfl
  go_enter Try.func5, Try.ntmps5
  go_upto_region 4 with (first
    | (go_at_call 8; refine (HSP.out _).mono ?_; rintro e w1 ⟨rfl, hb1⟩; have HB1 := Lib.hid hb1; clear hb1 HSP)
    | (clear F1; go_at_call 9; (with_reducible refine (HI1.out _ HB1.out).mono ?_); rintro e w2 ⟨aB, dB, rfl, tB, qB, hb2⟩; have HB2 := Lib.hid (HB1.out.trans (hb2.mono HB1.out.size)); have HTB := Lib.hid tB; clear tB hb2 HI1)
    | (clear F2; go_at_call 9; (with_reducible refine (HI2.out _ HB2.out).mono ?_); rintro e w3 ⟨aO, dO, rfl, tO, qO, hb3⟩; have HB3 := Lib.hid (HB2.out.trans (hb3.mono HB2.out.size)); have HTO := Lib.hid tO; have HTB3 := Lib.hid (HTB.out.below hb3); clear tO hb3 HI2)
    | (go_at_call 9; (with_reducible refine (HI3.out _ HB3.out).mono ?_); rintro e w4 ⟨aT, dT, rfl, tT, qT, hb4⟩; have HB4 := Lib.hid (HB3.out.trans (hb4.mono HB3.out.size)); have HTT := Lib.hid tT; have HTB4 := Lib.hid (HTB3.out.below hb4); have HTO4 := Lib.hid (HTO.out.below hb4); clear tT hb4 HI3))
  clear HTB HTB3 HTO HB1 HB2 HB3
  have HLN : Hid (∀ (W : World) (X Y : List ByteArray) (oX oY : Option Addr) (nX nY cX cY : Nat), Below w4.heap.size w4 W → X.length = nX → Y.length = nY → nX ≤ 30 → nY ≤ 30 → nX ≤ cX → nY ≤ cY → TxAt w4 oX X → TxAt w4 oY Y → Calls Try.prog 13 #[.slice aB nB dB, .slice oX nX cX, .slice oY nY cY] W fun e w' => ∃ a c d f, e = .returned (.tuple #[.slice a (linesO B X Y).length c, .slice d (lnE B X Y).2 f, .int .i64 0]) ∧ TxAt w' a (linesO B X Y) ∧ Below W.heap.size W w') := Lib.hid (fun W X Y oX oY nX nY cX cY hW e1 e2 l1 l2 k1 k2 t1 t2 => by
    subst e1 e2
    have h := Lines_at aB oX oY B X Y dB cX cY W (by rw [HNB.out]; omega) (by omega) (by omega) (by rw [HNB.out]; exact qB) k1 k2 (HTB4.out.below hW) (t1.below hW) (t2.below hW)
    rw [HNB.out] at h
    exact h)
  have hlb := lines_base B O
  have hlt := lines_base B T
  have hE1 : linesO B O B = O := by unfold linesO; rw [hlb.1]; rfl
  have hE2 : linesO B B T = T := by unfold linesO; rw [hlt.2.1]; rfl
  have hE3 : linesO B O O = O := by unfold linesO; rw [hlb.2.2]; rfl
  have hQ1 := fun W hW => HLN.out W O B aO aB nO nB dO dB hW HNO.out HNB.out hO hB qO qB HTO4.out HTB4.out
  have hQ2 := fun W hW => HLN.out W B T aB aT nB nT dB dT hW HNB.out HNT.out hB hT qB qT HTB4.out HTT.out
  have hQ3 := fun W hW => HLN.out W O O aO aO nO nO dO dO hW HNO.out HNO.out hO hO qO qO HTO4.out HTO4.out
  have hQ4 := fun W hW => HLN.out W O T aO aT nO nT dO dT hW HNO.out HNT.out hO hT qO qT HTO4.out HTT.out
  have hQ5 := fun W hW => HLN.out W T O aT aO nT nO dT dO hW HNT.out HNO.out hT hO qT qO HTT.out HTO4.out
  rw [hE1, hlb.1] at hQ1
  rw [hE2, hlt.2.1] at hQ2
  rw [hE3, hlb.2.2] at hQ3
  rw [linesO_sw B O T, lnE_sw B O T] at hQ5
  have hz : (lnE B O T).2 = 0 ∨ linesO B O T = [] := by
    unfold linesO
    by_cases h : (lnE B O T).2 = 0
    · exact Or.inl h
    · right; rw [if_neg h]
  have hlo : (linesO B O T).length ≤ maxLen ∧ (lnE B O T).2 ≤ 10000 := by
    have hok := lnF_ok B O T B.length (Nat.le_refl _)
    have a1 := hok.len; have a2 := hok.num; have a3 := hok.j; have a4 := hok.k
    have a5 := HNB.out; have a6 := HNO.out; have a7 := HNT.out
    constructor
    · have h1 : (linesO B O T).length ≤ (lnE B O T).1.length := by unfold linesO; split <;> simp
      have h2 : (lnE B O T).1.length ≤ _ := pcO_len _ _ _ _
      rw [cut_len (l := O) (Nat.le_refl _), cut_len (l := T) (Nat.le_refl _)] at h2
      unfold maxLen; omega
    · have h3 : (lnE B O T).2 ≤ _ := pcN_le _ _ _ _
      omega
  obtain ⟨R, hR⟩ : ∃ R, linesO B O T = R := ⟨_, rfl⟩
  obtain ⟨h, hh⟩ : ∃ R, (lnE B O T).2 = R := ⟨_, rfl⟩
  rw [hR, hh] at hQ4 hQ5 hz hlo
  obtain ⟨nR, hnR⟩ : ∃ n, R.length = n := ⟨_, rfl⟩
  have HNR := Lib.hid hnR
  rw [HNO.out] at hQ1 hQ3
  rw [HNT.out] at hQ2
  rw [hnR] at hQ4 hQ5 hlo
  dsimp only at hQ1 hQ2 hQ3
  have K1 := Lib.hid hQ1; have K2 := Lib.hid hQ2; have K3 := Lib.hid hQ3; have K4 := Lib.hid hQ4; have K5 := Lib.hid hQ5
  have HZ : Hid (h = 0 ∨ nR = 0) := Lib.hid (hz.imp id (fun e => by rw [← hnR, e]; rfl))
  have HLO := Lib.hid hlo
  clear hQ1 hQ2 hQ3 hQ4 hQ5 hz hlo hE1 hE2 hE3 hlb hlt hR hh hnR HLN
  go_upto_region 5 with (go_at_call 13; (with_reducible refine (K1.out _ (Below.refl _ _)).mono ?_); rintro e w5 ⟨p1, r1, s1, v1, rfl, t1, hb5⟩; have G5 := Lib.hid hb5; have T1 := Lib.hid t1; clear t1 hb5 K1)
  go_upto_region 6 with (go_at_call 13; (with_reducible refine (K2.out _ G5.out).mono ?_); rintro e w6 ⟨p2, r2, s2, v2, rfl, t2, hb6⟩; have G6 := Lib.hid (G5.out.trans (hb6.mono G5.out.size)); have T2 := Lib.hid t2; have T16 := Lib.hid (T1.out.below hb6); clear t2 hb6 K2)
  go_upto_region 7 with (go_at_call 13; (with_reducible refine (K3.out _ G6.out).mono ?_); rintro e w7 ⟨p3, r3, s3, v3, rfl, t3, hb7⟩; have G7 := Lib.hid (G6.out.trans (hb7.mono G6.out.size)); have T3 := Lib.hid t3; have T17 := Lib.hid (T16.out.below hb7); have T27 := Lib.hid (T2.out.below hb7); clear t3 hb7 K3)
  go_upto_region 8 with (go_at_call 13; (with_reducible refine (K4.out _ G7.out).mono ?_); rintro e w8 ⟨p4, r4, s4, v4, rfl, t4, hb8⟩; have G8 := Lib.hid (G7.out.trans (hb8.mono G7.out.size)); have T4 := Lib.hid t4; have T18 := Lib.hid (T17.out.below hb8); have T28 := Lib.hid (T27.out.below hb8); have T38 := Lib.hid (T3.out.below hb8); clear t4 hb8 K4)
  go_upto_region 9 with (go_at_call 13; (with_reducible refine (K5.out _ G8.out).mono ?_); rintro e w9 ⟨p5, r5, s5, v5, rfl, t5, hb9⟩; have G9 := Lib.hid (G8.out.trans (hb9.mono G8.out.size)); have T5 := Lib.hid t5; have T19 := Lib.hid (T18.out.below hb9); have T29 := Lib.hid (T28.out.below hb9); have T39 := Lib.hid (T38.out.below hb9); have T49 := Lib.hid (T4.out.below hb9); clear t5 hb9 K5)
  have hA1 := fun q => Alike_any p1 aO O O r1 dO (w9.drewN q) (by rw [HNO.out]; unfold maxLen; omega) (by rw [HNO.out]; unfold maxLen; omega) (T19.out.below (below_drewN (Below.refl _ _) q)) ((HTO4.out.below G9.out).below (below_drewN (Below.refl _ _) q))
  have hA2 := fun q => Alike_any p2 aT T T r2 dT (w9.drewN q) (by rw [HNT.out]; unfold maxLen; omega) (by rw [HNT.out]; unfold maxLen; omega) (T29.out.below (below_drewN (Below.refl _ _) q)) ((HTT.out.below G9.out).below (below_drewN (Below.refl _ _) q))
  have hA3 := fun q => Alike_any p3 aO O O r3 dO (w9.drewN q) (by rw [HNO.out]; unfold maxLen; omega) (by rw [HNO.out]; unfold maxLen; omega) (T39.out.below (below_drewN (Below.refl _ _) q)) ((HTO4.out.below G9.out).below (below_drewN (Below.refl _ _) q))
  have hA4 := fun q => Alike_any p4 p5 R R r4 r5 (w9.drewN q) (by rw [HNR.out]; exact HLO.out.1) (by rw [HNR.out]; exact HLO.out.1) (T49.out.below (below_drewN (Below.refl _ _) q)) (T5.out.below (below_drewN (Below.refl _ _) q))
  rw [HNO.out, decide_eq_true (rfl : O = O)] at hA1 hA3
  rw [HNT.out, decide_eq_true (rfl : T = T)] at hA2
  rw [HNR.out, decide_eq_true (rfl : R = R)] at hA4
  have A1 := Lib.hid hA1; have A2 := Lib.hid hA2; have A3 := Lib.hid hA3; have A4 := Lib.hid hA4
  have HB9 := Lib.hid (HB4.out.trans (G9.out.mono HB4.out.size))
  have F3 : Hid (1 = 1) := Lib.hid rfl
  have hl2 := HLO.out.2
  clear hA1 hA2 hA3 hA4 HLO
  rcases HZ.out with rfl | hz
  · go_wp2_with (first
      | (clear F3; go_at_call 12; refine (show Calls Try.prog 12 #[.slice p1 nO r1, .slice aO nO dO] w9 _ from A1.out 0).mono ?_; rintro e w10 ⟨rfl, q1, hq⟩; (obtain rfl : w10 = w9.drewN q1 := hq))
      | (go_at_call 12; (first | with_reducible refine (A2.out _).mono ?_ | with_reducible refine (A3.out _).mono ?_ | with_reducible refine (A4.out _).mono ?_); rintro e w11 ⟨rfl, q2, rfl⟩; rw [World.drewN_drewN]))
    go_ret
    exact ⟨by simp, below_drewN HB9.out _⟩
  · subst hz
    by_cases h0 : h = 0
    · subst h0
      go_wp2_with (first
        | (clear F3; go_at_call 12; refine (show Calls Try.prog 12 #[.slice p1 nO r1, .slice aO nO dO] w9 _ from A1.out 0).mono ?_; rintro e w10 ⟨rfl, q1, hq⟩; (obtain rfl : w10 = w9.drewN q1 := hq))
        | (go_at_call 12; (first | with_reducible refine (A2.out _).mono ?_ | with_reducible refine (A3.out _).mono ?_ | with_reducible refine (A4.out _).mono ?_); rintro e w11 ⟨rfl, q2, rfl⟩; rw [World.drewN_drewN]))
      go_ret
      exact ⟨by simp, below_drewN HB9.out _⟩
    · go_wp2_with (first
        | (clear F3; go_at_call 12; refine (show Calls Try.prog 12 #[.slice p1 nO r1, .slice aO nO dO] w9 _ from A1.out 0).mono ?_; rintro e w10 ⟨rfl, q1, hq⟩; (obtain rfl : w10 = w9.drewN q1 := hq))
        | (go_at_call 12; (first | with_reducible refine (A2.out _).mono ?_ | with_reducible refine (A3.out _).mono ?_ | with_reducible refine (A4.out _).mono ?_); rintro e w11 ⟨rfl, q2, rfl⟩; rw [World.drewN_drewN]))
      go_ret
      exact ⟨by simp, below_drewN HB9.out _⟩
end Go.Proofs.Ytjdlpcokjcmapaa
