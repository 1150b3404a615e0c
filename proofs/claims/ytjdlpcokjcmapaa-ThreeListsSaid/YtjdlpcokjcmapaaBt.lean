/- Three lists: the law on what comes of any three lists. -/
import Derived.Test.YtjdlpcokjcmapaaBs
import Derived.Test.YtjdlpcokjcmapaaBp
set_option linter.unusedVariables false
set_option linter.unusedSimpArgs false
namespace Go.Proofs.Ytjdlpcokjcmapaa
open Go.RowKit Go.Maps Go.WideShapes
variable {w w' : World}

theorem consW_snd_mem {a s : ByteArray} {r : List ByteArray × List ByteArray} (h : s ∈ (consW a r).2) : s ∈ r.2 := by
  unfold consW at h
  split at h
  · cases h
  · exact h
theorem wv_two_mem : ∀ (n : Nat) (x y : List ByteArray), x.length + y.length ≤ n → ∀ s ∈ (wv x y).2, s ∈ x ∨ s ∈ y := by
  intro n
  induction n with
  | zero =>
    intro x y hl s h
    have hx : x = [] := List.length_eq_zero_iff.1 (by omega)
    subst hx
    rw [wv_nil] at h; cases h
  | succ n ih =>
    intro x y hl s h
    cases x with
    | nil => rw [wv_nil] at h; cases h
    | cons a x =>
      cases y with
      | nil => rw [wv_nil2] at h; cases h
      | cons b y =>
        simp only [List.length_cons] at hl
        by_cases hab : a = b
        · subst hab
          rw [wv_both] at h
          exact (ih x y (by omega) s (consW_snd_mem h)).imp (List.mem_cons_of_mem _) (List.mem_cons_of_mem _)
        · cases h1 : inB (b :: y) a with
          | false =>
            rw [wv_left hab h1] at h
            exact (ih x (b :: y) (by simp only [List.length_cons]; omega) s (consW_snd_mem h)).imp (List.mem_cons_of_mem _) id
          | true =>
            cases h2 : inB (a :: x) b with
            | false =>
              rw [wv_right hab h1 h2] at h
              exact (ih (a :: x) y (by simp only [List.length_cons]; omega) s (consW_snd_mem h)).imp id (List.mem_cons_of_mem _)
            | true =>
              rw [wv_cross hab h1 h2] at h
              dsimp only at h
              rcases List.mem_cons.1 h with rfl | h
              · exact Or.inl List.mem_cons_self
              · rcases List.mem_cons.1 h with rfl | h
                · exact Or.inr List.mem_cons_self
                · cases h
theorem lists_twice {B O T : List ByteArray} (h : ¬ (B.Nodup ∧ O.Nodup ∧ T.Nodup)) : listsL B O T = ([], [], 10) := by unfold listsL; rw [if_pos h]
theorem lists_mem1 {B O T : List ByteArray} {s : ByteArray} (h : s ∈ (listsL B O T).1) : s ∈ O ∨ s ∈ T := by
  by_cases hd : B.Nodup ∧ O.Nodup ∧ T.Nodup
  · exact lists_mem hd.1 hd.2.1 hd.2.2 h
  · rw [lists_twice hd] at h; cases h
theorem lists_mem2 {B O T : List ByteArray} {s : ByteArray} (h : s ∈ (listsL B O T).2.1) : s ∈ O ∨ s ∈ T := by
  by_cases hd : B.Nodup ∧ O.Nodup ∧ T.Nodup
  · rw [lists_ok hd.1 hd.2.1 hd.2.2] at h
    split at h
    · cases h
    · split at h
      · cases h
      · exact (wv_two_mem _ _ _ (Nat.le_refl _) s h).imp stay_mem stay_mem
  · rw [lists_twice hd] at h; cases h
theorem lists_len2 (B O T : List ByteArray) : (listsL B O T).1.length ≤ O.length + T.length ∧ (listsL B O T).2.1.length ≤ 2 ∧ ((listsL B O T).2.2 = 0 ∨ (listsL B O T).2.2 = 10) := by
  by_cases hd : B.Nodup ∧ O.Nodup ∧ T.Nodup
  · have h := lists_len hd.1 hd.2.1 hd.2.2
    refine ⟨h.1, h.2, Or.inl ?_⟩
    rw [lists_ok hd.1 hd.2.1 hd.2.2]
    split
    · rfl
    · split <;> rfl
  · rw [lists_twice hd]; simp
theorem Lists_at2 (oB oO oT : Option Addr) (B O T : List ByteArray) (cB cO cT : Nat) (w : World) (hlB : B.length ≤ 4096) (hlO : O.length ≤ 4096) (hlT : T.length ≤ 4096) (hB : TxAt w oB B) (hO : TxAt w oO O) (hT : TxAt w oT T) :
    Calls Try.prog 10 #[.slice oB B.length cB, .slice oO O.length cO, .slice oT T.length cT] w fun e w' => ∃ a c d f, e = .returned (.tuple #[.slice a (listsL B O T).1.length c, .slice d (listsL B O T).2.1.length f, .int .i64 (listsL B O T).2.2]) ∧ TxAt w' a (listsL B O T).1 ∧ TxAt w' d (listsL B O T).2.1 ∧ Below w.heap.size w w' := by
  refine (Lists_any oB oO oT B O T cB cO cT w hlB hlO hlT hB hO hT).mono ?_
  rintro e w' ⟨v1, v2, rfl, r1, r2, hb⟩
  obtain ⟨a, c, rfl, ht, _⟩ := own_texts r1 (fun s hs => (lists_mem1 hs).elim (tx_small hO s) (tx_small hT s))
  obtain ⟨d, f, rfl, ht2, _⟩ := own_texts r2 (fun s hs => (lists_mem2 hs).elim (tx_small hO s) (tx_small hT s))
  exact ⟨a, c, d, f, rfl, ht, ht2, hb⟩
set_option maxHeartbeats 8000000 in
set_option maxRecDepth 100000 in
theorem LLists_any (o1 : Option Addr) (l1 : List ByteArray) (c1 : Nat) (o2 : Option Addr) (l2 : List ByteArray) (c2 : Nat) (o3 : Option Addr) (l3 : List ByteArray) (c3 : Nat) (w : World) (hl1 : l1.length ≤ maxLen) (hc1 : l1.length ≤ c1) (h1 : TxAt w o1 l1) (hl2 : l2.length ≤ maxLen) (hc2 : l2.length ≤ c2) (h2 : TxAt w o2 l2) (hl3 : l3.length ≤ maxLen) (hc3 : l3.length ≤ c3) (h3 : TxAt w o3 l3) :
    Calls Try.prog 3 #[.slice o1 l1.length c1, .slice o2 l2.length c2, .slice o3 l3.length c3] w fun e w' => e = .returned (.bool true) ∧ Below w.heap.size w w' := by
  have HSP := Lib.hid (fun W => speaks_any W)
  have hI1 := fun (W : World) (hW : Below w.heap.size w W) => short_at o1 l1 c1 W hl1 hc1 (h1.below hW)
  have hI2 := fun (W : World) (hW : Below w.heap.size w W) => short_at o2 l2 c2 W hl2 hc2 (h2.below hW)
  have hI3 := fun (W : World) (hW : Below w.heap.size w W) => short_at o3 l3 c3 W hl3 hc3 (h3.below hW)
  have ht : ∀ l : List ByteArray, (l.take 30).length ≤ 30 := fun l => by rw [List.length_take]; exact Nat.min_le_left _ _
  have hB := ht l1; have hO := ht l2; have hT := ht l3
  obtain ⟨B, hBe⟩ : ∃ L, l1.take 30 = L := ⟨_, rfl⟩
  obtain ⟨O, hOe⟩ : ∃ L, l2.take 30 = L := ⟨_, rfl⟩
  obtain ⟨T, hTe⟩ : ∃ L, l3.take 30 = L := ⟨_, rfl⟩
  rw [hBe] at hI1 hB; rw [hOe] at hI2 hO; rw [hTe] at hI3 hT
  obtain ⟨nB, hnB⟩ : ∃ n, B.length = n := ⟨_, rfl⟩
  obtain ⟨nO, hnO⟩ : ∃ n, O.length = n := ⟨_, rfl⟩
  obtain ⟨nT, hnT⟩ : ∃ n, T.length = n := ⟨_, rfl⟩
  obtain ⟨m1, hm1⟩ : ∃ n, l1.length = n := ⟨_, rfl⟩
  obtain ⟨m2, hm2⟩ : ∃ n, l2.length = n := ⟨_, rfl⟩
  obtain ⟨m3, hm3⟩ : ∃ n, l3.length = n := ⟨_, rfl⟩
  rw [hnB] at hI1 hB; rw [hnO] at hI2 hO; rw [hnT] at hI3 hT
  rw [hm1] at hI1; rw [hm2] at hI2; rw [hm3] at hI3
  rw [hm1, hm2, hm3]
  have HNB := Lib.hid hnB; have HNO := Lib.hid hnO; have HNT := Lib.hid hnT
  have HI1 := Lib.hid hI1; have HI2 := Lib.hid hI2; have HI3 := Lib.hid hI3
  clear hI1 hI2 hI3 hnB hnO hnT hm1 hm2 hm3 hBe hOe hTe ht hl1 hc1 h1 hl2 hc2 h2 hl3 hc3 h3
  have F1 : Hid (1 = 1) := Lib.hid rfl
  have F2 : Hid (1 = 1) := Lib.hid rfl
  go_enter Try.func3, Try.ntmps3
  go_upto_region 4 with (first
    | (go_at_call 8; refine (HSP.out _).mono ?_; rintro e w1 ⟨rfl, hb1⟩; have HB1 := Lib.hid hb1; clear hb1 HSP)
    | (clear F1; go_at_call 9; (with_reducible refine (HI1.out _ HB1.out).mono ?_); rintro e w2 ⟨aB, dB, rfl, tB, qB, hb2⟩; have HB2 := Lib.hid (HB1.out.trans (hb2.mono HB1.out.size)); have HTB := Lib.hid tB; clear tB hb2 HI1)
    | (clear F2; go_at_call 9; (with_reducible refine (HI2.out _ HB2.out).mono ?_); rintro e w3 ⟨aO, dO, rfl, tO, qO, hb3⟩; have HB3 := Lib.hid (HB2.out.trans (hb3.mono HB2.out.size)); have HTO := Lib.hid tO; have HTB3 := Lib.hid (HTB.out.below hb3); clear tO hb3 HI2)
    | (go_at_call 9; (with_reducible refine (HI3.out _ HB3.out).mono ?_); rintro e w4 ⟨aT, dT, rfl, tT, qT, hb4⟩; have HB4 := Lib.hid (HB3.out.trans (hb4.mono HB3.out.size)); have HTT := Lib.hid tT; have HTB4 := Lib.hid (HTB3.out.below hb4); have HTO4 := Lib.hid (HTO.out.below hb4); clear tT hb4 HI3))
  clear HTB HTB3 HTO HB1 HB2 HB3
  have hQ1 := Lists_at2 aB aO aT B O T dB dO dT w4 (by rw [HNB.out]; omega) (by rw [HNO.out]; omega) (by rw [HNT.out]; omega) HTB4.out HTO4.out HTT.out
  have hQ2 := fun W (hW : Below w4.heap.size w4 W) => RLists_any aB aO aT B O T dB dO dT W (by rw [HNB.out]; omega) (by rw [HNO.out]; omega) (by rw [HNT.out]; omega) (by rw [HNB.out]; exact qB) (by rw [HNO.out]; exact qO) (by rw [HNT.out]; exact qT) (HTB4.out.below hW) (HTO4.out.below hW) (HTT.out.below hW)
  obtain ⟨z1, z2, z3⟩ := lists_len2 B O T
  obtain ⟨⟨m, c, x⟩, hmc⟩ : ∃ r, listsL B O T = r := ⟨_, rfl⟩
  rw [hmc] at hQ1 hQ2 z1 z2 z3
  dsimp only at hQ1 hQ2 z1 z2 z3
  obtain ⟨nm, hnm⟩ : ∃ n, m.length = n := ⟨_, rfl⟩
  obtain ⟨nc, hnc⟩ : ∃ n, c.length = n := ⟨_, rfl⟩
  rw [hnm, hnc] at hQ1
  rw [hnm] at hQ2 z1
  rw [hnc] at hQ2 z2
  rw [HNB.out, HNO.out, HNT.out] at hQ1
  rw [HNB.out, HNO.out, HNT.out] at hQ2
  rw [HNO.out, HNT.out] at z1
  have K1 := Lib.hid hQ1; have K2 := Lib.hid hQ2; have HNM := Lib.hid hnm; have HNC := Lib.hid hnc
  clear hQ1 hQ2 hnm hnc hmc
  go_upto_region 5 with (go_at_call 10; (with_reducible refine K1.out.mono ?_); rintro e w5 ⟨p1, r1, s1, v1, rfl, t1, u1, hb5⟩; have G5 := Lib.hid hb5; have T1 := Lib.hid t1; have U1 := Lib.hid u1; clear t1 u1 hb5 K1)
  go_upto_region 6 with (go_at_call 11; (with_reducible refine (K2.out _ G5.out).mono ?_); rintro e w6 ⟨p2, r2, s2, v2, rfl, t2, u2, hb6⟩; have G6 := Lib.hid (G5.out.trans (hb6.mono G5.out.size)); have T2 := Lib.hid t2; have U2 := Lib.hid u2; have T16 := Lib.hid (T1.out.below hb6); have U16 := Lib.hid (U1.out.below hb6); clear t2 u2 hb6 K2)
  have HB6 := Lib.hid (HB4.out.trans (G6.out.mono HB4.out.size))
  have hA1 := fun q => Alike_any p1 p2 m m r1 r2 (w6.drewN q) (by rw [HNM.out]; unfold maxLen; omega) (by rw [HNM.out]; unfold maxLen; omega) (T16.out.below (below_drewN (Below.refl _ _) q)) (T2.out.below (below_drewN (Below.refl _ _) q))
  have hA2 := fun q => Alike_any s1 s2 c c v1 v2 (w6.drewN q) (by rw [HNC.out]; unfold maxLen; omega) (by rw [HNC.out]; unfold maxLen; omega) (U16.out.below (below_drewN (Below.refl _ _) q)) (U2.out.below (below_drewN (Below.refl _ _) q))
  rw [HNM.out, decide_eq_true (rfl : m = m)] at hA1
  rw [HNC.out, decide_eq_true (rfl : c = c)] at hA2
  have A1 := Lib.hid hA1; have A2 := Lib.hid hA2
  have F3 : Hid (1 = 1) := Lib.hid rfl
  clear hA1 hA2
  rcases z3 with rfl | rfl
  all_goals
    go_wp2_with (first
      | (clear F3; go_at_call 12; refine (show Calls Try.prog 12 #[.slice p1 nm r1, .slice p2 nm r2] w6 _ from A1.out 0).mono ?_; rintro e w10 ⟨rfl, q1, hq⟩; (obtain rfl : w10 = w6.drewN q1 := hq))
      | (go_at_call 12; (with_reducible refine (A2.out _).mono ?_); rintro e w11 ⟨rfl, q2, rfl⟩; rw [World.drewN_drewN]))
    go_ret
    exact ⟨by first | rfl | simp, below_drewN HB6.out _⟩
end Go.Proofs.Ytjdlpcokjcmapaa
