/- Three lists: the document's Lists. -/
import Derived.Test.YtjdlpcokjcmapaaBr
set_option linter.unusedVariables false
set_option linter.unusedSimpArgs false
namespace Go.Proofs.Ytjdlpcokjcmapaa
open Go.RowKit Go.Maps Go.WideShapes
variable {w w' : World}

theorem stay_snoc_y {B O L : List ByteArray} {k : Nat} {s : ByteArray} (h : L[k]? = some s) (hp : goP (inB B) (inB O) s = false) : stayL B O (L.take (k + 1)) = stayL B O (L.take k) ++ [s] := by
  unfold stayL; rw [take_get h, keep_snoc_f hp]
theorem stay_snoc_n {B O L : List ByteArray} {k : Nat} {s : ByteArray} (h : L[k]? = some s) (hp : goP (inB B) (inB O) s = true) : stayL B O (L.take (k + 1)) = stayL B O (L.take k) := by
  unfold stayL; rw [take_get h, keep_snoc_t hp]
theorem app_nil_wv (x y : List ByteArray) : appW [] (wv x y) = wv x y := appW_nil _ fun h => (wv_two _ x y (Nat.le_refl _) h).1
theorem tx_pair {a b : ByteArray} (ha : a.size ≤ maxLen) (hb : b.size ≤ maxLen) (w : World) : TxAt (w.alloc (.cells #[.string a, .string b] 9)) (some ⟨w.heap.size, 0, none⟩) [a, b] := fun k hk => by
  have hce := fun j => cell_of_row (j := j) (World.alloc_heap_new w (.cells #[.string a, .string b] 9))
  have hk2 : k = 0 ∨ k = 1 := by simp at hk; omega
  rcases hk2 with rfl | rfl
  · exact ⟨ha, _, 0, rfl, by rw [hce]; rfl⟩
  · exact ⟨hb, _, 0, rfl, by rw [hce]; rfl⟩
/-- Between two rounds of a loop that takes what stays. -/
def StS (B O L : List ByteArray) (w0 : World) (v i : Value) (wr : World) : Prop :=
  ∃ k : Nat, k ≤ L.length ∧ i = .int .i64 k ∧ wr.ownsRow w0.heap.size 9 1 v (stayL B O (L.take k)).length (strV (stayL B O (L.take k))) ∧ Below w0.heap.size w0 wr
def WrS (R : List ByteArray × List ByteArray) (w0 : World) (u v z : Value) (wr : World) : Prop :=
  ∃ out x y, RsAt w0.heap.size wr u x ∧ RsAt w0.heap.size wr v y ∧ wr.ownsRow w0.heap.size 9 1 z out.length (strV out) ∧ out.length + x.length + y.length ≤ 20000 ∧ (∀ s ∈ out, s.size ≤ maxLen) ∧ appW out (wv x y) = R ∧ Below w0.heap.size w0 wr
set_option maxHeartbeats 16000000 in
set_option maxRecDepth 100000 in
theorem RLists_any (oB oO oT : Option Addr) (B O T : List ByteArray) (cB cO cT : Nat) (w : World) (hlB : B.length ≤ 4096) (hlO : O.length ≤ 4096) (hlT : T.length ≤ 4096) (hcB : B.length ≤ cB) (hcO : O.length ≤ cO) (hcT : T.length ≤ cT) (hB : TxAt w oB B) (hO : TxAt w oO O) (hT : TxAt w oT T) :
    Calls Try.prog 11 #[.slice oB B.length cB, .slice oO O.length cO, .slice oT T.length cT] w fun e w' => ∃ a c d f, e = .returned (.tuple #[.slice a (listsL B O T).1.length c, .slice d (listsL B O T).2.1.length f, .int .i64 (listsL B O T).2.2]) ∧ TxAt w' a (listsL B O T).1 ∧ TxAt w' d (listsL B O T).2.1 ∧ Below w.heap.size w w' := by
  have hTw := fun q => Twice_any oB B cB (w.drewN q) (by unfold maxLen; omega) hcB (hB.below (below_drewN (Below.refl _ _) q))
  have hTw2 := fun q => Twice_any oO O cO (w.drewN q) (by unfold maxLen; omega) hcO (hO.below (below_drewN (Below.refl _ _) q))
  have hTw3 := fun q => Twice_any oT T cT (w.drewN q) (by unfold maxLen; omega) hcT (hT.below (below_drewN (Below.refl _ _) q))
  have hAl1 := fun q => Alike_any oO oT O T cO cT (w.drewN q) (by unfold maxLen; omega) (by unfold maxLen; omega) (hO.below (below_drewN (Below.refl _ _) q)) (hT.below (below_drewN (Below.refl _ _) q))
  have hAl2 := fun q => Alike_any oT oB T B cT cB (w.drewN q) (by unfold maxLen; omega) (by unfold maxLen; omega) (hT.below (below_drewN (Below.refl _ _) q)) (hB.below (below_drewN (Below.refl _ _) q))
  have hAl3 := fun q => Alike_any oO oB O B cO cB (w.drewN q) (by unfold maxLen; omega) (by unfold maxLen; omega) (hO.below (below_drewN (Below.refl _ _) q)) (hB.below (below_drewN (Below.refl _ _) q))
  have HTB := Lib.hid hB; have HTO := Lib.hid hO; have HTT := Lib.hid hT
  obtain ⟨L, hL⟩ : ∃ L, listsL B O T = L := ⟨_, rfl⟩
  have HL := Lib.hid hL
  rw [hL]
  obtain ⟨dB, hdB⟩ : ∃ d, (!decide B.Nodup) = d := ⟨_, rfl⟩
  obtain ⟨dO, hdO⟩ : ∃ d, (!decide O.Nodup) = d := ⟨_, rfl⟩
  obtain ⟨dT, hdT⟩ : ∃ d, (!decide T.Nodup) = d := ⟨_, rfl⟩
  obtain ⟨s1, hs1⟩ : ∃ d, decide (O = T) = d := ⟨_, rfl⟩
  obtain ⟨s2, hs2⟩ : ∃ d, decide (T = B) = d := ⟨_, rfl⟩
  obtain ⟨s3, hs3⟩ : ∃ d, decide (O = B) = d := ⟨_, rfl⟩
  rw [hdB] at hTw; rw [hdO] at hTw2; rw [hdT] at hTw3; rw [hs1] at hAl1; rw [hs2] at hAl2; rw [hs3] at hAl3
  obtain ⟨nB, hnB⟩ : ∃ n, B.length = n := ⟨_, rfl⟩
  obtain ⟨nO, hnO⟩ : ∃ n, O.length = n := ⟨_, rfl⟩
  obtain ⟨nT, hnT⟩ : ∃ n, T.length = n := ⟨_, rfl⟩
  simp only [hnB, hnO, hnT] at hTw hTw2 hTw3 hAl1 hAl2 hAl3 hlB hlO hlT hcB hcO hcT ⊢
  have HNB := Lib.hid hnB; have HNO := Lib.hid hnO; have HNT := Lib.hid hnT
  have C1 := Lib.hid hTw; have C2 := Lib.hid hTw2; have C3 := Lib.hid hTw3; have C4 := Lib.hid hAl1; have C5 := Lib.hid hAl2; have C6 := Lib.hid hAl3
  have HD : Hid (decide (¬ (B.Nodup ∧ O.Nodup ∧ T.Nodup)) = (dB || dO || dT)) := Lib.hid (by
    rw [← hdB, ← hdO, ← hdT]
    by_cases h1 : B.Nodup <;> by_cases h2 : O.Nodup <;> by_cases h3 : T.Nodup <;> simp [h1, h2, h3])
  have HS1 := Lib.hid hs1; have HS2 := Lib.hid hs2; have HS3 := Lib.hid hs3
  have F1 : Hid (1 = 1) := Lib.hid rfl
  clear hTw hTw2 hTw3 hAl1 hAl2 hAl3 hdB hdO hdT hs1 hs2 hs3 hnB hnO hnT hL hB hO hT
  by_cases hdd : (dB || dO || dT) = true
  · have HE : Hid (L = ([], [], 10)) := Lib.hid (by rw [← HL.out]; unfold listsL; rw [if_pos (of_decide_eq_true (HD.out.trans hdd))])
    have HDD := Lib.hid hdd
    clear hdd
    cases dB <;> cases dO <;> cases dT
    case false.false.false => exact absurd HDD.out (by simp)
    all_goals
      go_enter Try.func11, Try.ntmps11
      go_wp2_with (first
        | (clear F1; go_at_call 24; refine (show Calls Try.prog 24 #[.slice oB nB cB] w _ from C1.out 0).mono ?_; rintro e w2 ⟨rfl, q1, hq⟩; (obtain rfl : w2 = w.drewN q1 := hq))
        | (go_at_call 24; (first | with_reducible refine (C2.out _).mono ?_ | with_reducible refine (C3.out _).mono ?_); rintro e w3 ⟨rfl, q2, rfl⟩; rw [World.drewN_drewN]))
      refine bodyPost_ret (v := .tuple #[.slice none 0 0, .slice none 0 0, .int .i64 10]) (by simp [results, Try.results11, go_sem]) rfl ?_
      rw [HE.out]
      exact ⟨none, 0, none, 0, rfl, tx_none _, tx_none _, below_drewN (Below.refl _ _) _⟩
  · have hd0 : dB = false ∧ dO = false ∧ dT = false := by cases dB <;> cases dO <;> cases dT <;> simp_all
    obtain ⟨rfl, rfl, rfl⟩ := hd0
    have hnd : B.Nodup ∧ O.Nodup ∧ T.Nodup := Classical.not_not.1 (of_decide_eq_false (HD.out.trans (by rfl)))
    have HE : Hid (L = if O = T ∨ T = B then (O, [], 0) else if O = B then (T, [], 0) else ((wv (stayL B T O) (stayL B O T)).1, (wv (stayL B T O) (stayL B O T)).2, 0)) := Lib.hid (by rw [← HL.out]; exact lists_ok hnd.1 hnd.2.1 hnd.2.2)
    clear hdd HD HL hnd
    go_enter Try.func11, Try.ntmps11
    go_upto_region 3 with (first
      | (clear F1; go_at_call 24; refine (show Calls Try.prog 24 #[.slice oB nB cB] w _ from C1.out 0).mono ?_; rintro e w2 ⟨rfl, q1, hq⟩; (obtain rfl : w2 = w.drewN q1 := hq))
      | (go_at_call 24; (first | with_reducible refine (C2.out _).mono ?_ | with_reducible refine (C3.out _).mono ?_); rintro e w3 ⟨rfl, q2, rfl⟩; rw [World.drewN_drewN]))
    have hcase : (s1 = true) ∨ (s1 = false ∧ s2 = true) ∨ (s1 = false ∧ s2 = false ∧ s3 = true) ∨ (s1 = false ∧ s2 = false ∧ s3 = false) := by cases s1 <;> cases s2 <;> cases s3 <;> simp
    rcases hcase with rfl | ⟨rfl, rfl⟩ | ⟨rfl, rfl, rfl⟩ | ⟨rfl, rfl, rfl⟩
    · have HEE : Hid (L = (O, [], 0)) := Lib.hid (by rw [HE.out, if_pos (Or.inl (of_decide_eq_true HS1.out))])
      go_wp2_with (go_at_call 12; (first | with_reducible refine (C4.out _).mono ?_ | with_reducible refine (C5.out _).mono ?_ | with_reducible refine (C6.out _).mono ?_); rintro e w3 ⟨rfl, q2, rfl⟩; rw [World.drewN_drewN])
      refine bodyPost_ret (v := .tuple #[.slice oO nO cO, .slice none 0 0, .int .i64 0]) (by simp [results, Try.results11, go_sem]) rfl ?_
      rw [HEE.out]
      exact ⟨oO, cO, none, 0, by rw [HNO.out]; rfl, HTO.out.below (below_drewN (Below.refl _ _) _), tx_none _, below_drewN (Below.refl _ _) _⟩
    · have HEE : Hid (L = (O, [], 0)) := Lib.hid (by rw [HE.out, if_pos (Or.inr (of_decide_eq_true HS2.out))])
      go_wp2_with (go_at_call 12; (first | with_reducible refine (C4.out _).mono ?_ | with_reducible refine (C5.out _).mono ?_ | with_reducible refine (C6.out _).mono ?_); rintro e w3 ⟨rfl, q2, rfl⟩; rw [World.drewN_drewN])
      refine bodyPost_ret (v := .tuple #[.slice oO nO cO, .slice none 0 0, .int .i64 0]) (by simp [results, Try.results11, go_sem]) rfl ?_
      rw [HEE.out]
      exact ⟨oO, cO, none, 0, by rw [HNO.out]; rfl, HTO.out.below (below_drewN (Below.refl _ _) _), tx_none _, below_drewN (Below.refl _ _) _⟩
    · have HEE : Hid (L = (T, [], 0)) := Lib.hid (by rw [HE.out, if_neg (fun h => h.elim (of_decide_eq_false HS1.out) (of_decide_eq_false HS2.out)), if_pos (of_decide_eq_true HS3.out)])
      go_wp2_with (go_at_call 12; (first | with_reducible refine (C4.out _).mono ?_ | with_reducible refine (C5.out _).mono ?_ | with_reducible refine (C6.out _).mono ?_); rintro e w3 ⟨rfl, q2, rfl⟩; rw [World.drewN_drewN])
      refine bodyPost_ret (v := .tuple #[.slice oT nT cT, .slice none 0 0, .int .i64 0]) (by simp [results, Try.results11, go_sem]) rfl ?_
      rw [HEE.out]
      exact ⟨oT, cT, none, 0, by rw [HNT.out]; rfl, HTT.out.below (below_drewN (Below.refl _ _) _), tx_none _, below_drewN (Below.refl _ _) _⟩
    · have HEE : Hid (L = ((wv (stayL B T O) (stayL B O T)).1, (wv (stayL B T O) (stayL B O T)).2, 0)) := Lib.hid (by rw [HE.out, if_neg (fun h => h.elim (of_decide_eq_false HS1.out) (of_decide_eq_false HS2.out)), if_neg (of_decide_eq_false HS3.out)])
      go_upto_region 8 with (go_at_call 12; (first | with_reducible refine (C4.out _).mono ?_ | with_reducible refine (C5.out _).mono ?_ | with_reducible refine (C6.out _).mono ?_); rintro e w3 ⟨rfl, q2, rfl⟩; rw [World.drewN_drewN])
      have hbw0 : ∀ q, Below w.heap.size w (w.drewN q) := fun q => below_drewN (Below.refl _ _) q
      generalize hgW : w.drewN _ = W1
      have hbw1 : Below w.heap.size w W1 := by rw [← hgW]; exact hbw0 _
      have KTB := Lib.hid (HTB.out.below hbw1); have KTO := Lib.hid (HTO.out.below hbw1); have KTT := Lib.hid (HTT.out.below hbw1)
      have HBW := Lib.hid hbw1
      obtain ⟨i1, hi1, hz0, hz1, hz2⟩ := info_parts info_s
      have HI1 := Lib.hid hi1; have HZ0 := Lib.hid hz0; have HZ1 := Lib.hid hz1; have HZ2 := Lib.hid hz2
      have H0 : Hid (StS B T O W1 (.slice none 0 0) (.int .i64 0) W1) := Lib.hid ⟨0, Nat.zero_le _, rfl, by rw [List.take_zero]; exact World.ownsRow_nil _ _ _ _, Below.refl _ _⟩
      clear hbw0 hgW hbw1 hi1 hz0 hz1 hz2 C1 C2 C3 C4 C5 C6 HE HS1 HS2 HS3 HTB HTO HTT
      go_wp2_with fail
      go_loopw [9, 12] (fun v i wr => StS B T O W1 v i wr) (fun _ i _ => nO - (intOf i).toNat)
      case atStart => exact H0.out
      case round =>
        obtain ⟨k, hk, rfl, hrow, hb⟩ := hrel
        rw [HNO.out] at hk
        have hol : (stayL B T (O.take k)).length ≤ 4096 := Nat.le_trans (stay_len _ _ _) (by rw [List.length_take]; omega)
        obtain ⟨m, hm⟩ : ∃ m, (stayL B T (O.take k)).length = m := ⟨_, rfl⟩
        rw [hm] at hrow hol
        have HROW := Lib.hid hrow; have HBB := Lib.hid hb; have HM := Lib.hid hm
        clear hrow hb H0 hm
        by_cases hlt : k < nO
        · obtain ⟨s, hs⟩ : ∃ s, O[k]? = some s := ⟨_, List.getElem?_eq_getElem (by rw [HNO.out]; exact hlt)⟩
          obtain ⟨hss, b0, i0, ho, c0⟩ := tx_at (KTO.out.below HBB.out) hs
          have hI1 := In_any oT T cT s wr (by rw [HNT.out]; unfold maxLen; omega) (KTT.out.below HBB.out)
          have hI2 := In_any oB B cB s wr (by rw [HNB.out]; unfold maxLen; omega) (KTB.out.below HBB.out)
          obtain ⟨y1, hy1⟩ : ∃ y, inB T s = y := ⟨_, rfl⟩
          obtain ⟨y2, hy2⟩ : ∃ y, inB B s = y := ⟨_, rfl⟩
          rw [hy1, HNT.out] at hI1
          rw [hy2, HNB.out] at hI2
          subst ho
          have IN1 := Lib.hid hI1; have IN2 := Lib.hid hI2; have HY1 := Lib.hid hy1; have HY2 := Lib.hid hy2; have HSK := Lib.hid hs; have HLT := Lib.hid hlt
          have hki : (k : Int) < nO := by omega
          have FR : Hid (1 = 1) := Lib.hid rfl
          clear hI1 hI2 hy1 hy2 hs hlt hss
          cases y1 with
          | true =>
            cases y2 with
            | true =>
              have HKN : Hid (stayL B T (O.take (k + 1)) = stayL B T (O.take k) ++ [s]) := Lib.hid (stay_snoc_y HSK.out (by unfold goP; rw [HY1.out, HY2.out]; rfl))
              go_wp2_with (first
                | (clear FR; go_at_call 25; (with_reducible refine IN1.out.mono ?_); rintro e w4 ⟨rfl, hw4⟩; (obtain rfl : w4 = wr := hw4))
                | (go_at_call 25; (with_reducible refine IN2.out.mono ?_); rintro e w5 ⟨rfl, hw5⟩; (obtain rfl : w5 = w4 := hw5))
                | (at_builtin; (refine wpList_append_own _ rfl _ _ 22 rfl W1.heap.size 9 i1 (.string ⟨#[]⟩) 1 16 Try.underlying22 HI1.out HZ0.out HZ1.out HZ2.out rfl (by decide) _ _ _ rfl (HROW.out.alloc _) ⟨w4.heap.size, 0, none⟩ 1 1 [.string s] rfl rfl (by simpa using cell_one_new w4 9 (.string s)) one_memS (by unfold maxLen; omega) (by omega) (by have := HBB.out.size; simp; omega) ?_); intro v' w6 hown hgrow _; have HOO := Lib.hid hown; have HGG := Lib.hid hgrow; clear hown hgrow))
              go_roundw
              case rel => exact ⟨k + 1, by rw [HNO.out]; exact HLT.out, by go_num, by
                rw [HKN.out, List.length_append, HM.out]
                have e : strV (stayL B T (O.take k) ++ [s]) = strV (stayL B T (O.take k)) ++ [.string s] := by unfold strV; rw [List.map_append]; rfl
                rw [e]; exact HOO.out, (HBB.out.alloc HBB.out.size _).grown HGG.out (by have := HBB.out.size; simp; omega) (own_base HROW.out)⟩
              case measure => simp [intOf]; have := HLT.out; omega
            | false =>
              have HKN : Hid (stayL B T (O.take (k + 1)) = stayL B T (O.take k) ++ [s]) := Lib.hid (stay_snoc_y HSK.out (by unfold goP; rw [HY1.out, HY2.out]; rfl))
              go_wp2_with (first
                | (clear FR; go_at_call 25; (with_reducible refine IN1.out.mono ?_); rintro e w4 ⟨rfl, hw4⟩; (obtain rfl : w4 = wr := hw4))
                | (go_at_call 25; (with_reducible refine IN2.out.mono ?_); rintro e w5 ⟨rfl, hw5⟩; (obtain rfl : w5 = w4 := hw5))
                | (at_builtin; (refine wpList_append_own _ rfl _ _ 22 rfl W1.heap.size 9 i1 (.string ⟨#[]⟩) 1 16 Try.underlying22 HI1.out HZ0.out HZ1.out HZ2.out rfl (by decide) _ _ _ rfl (HROW.out.alloc _) ⟨w4.heap.size, 0, none⟩ 1 1 [.string s] rfl rfl (by simpa using cell_one_new w4 9 (.string s)) one_memS (by unfold maxLen; omega) (by omega) (by have := HBB.out.size; simp; omega) ?_); intro v' w6 hown hgrow _; have HOO := Lib.hid hown; have HGG := Lib.hid hgrow; clear hown hgrow))
              go_roundw
              case rel => exact ⟨k + 1, by rw [HNO.out]; exact HLT.out, by go_num, by
                rw [HKN.out, List.length_append, HM.out]
                have e : strV (stayL B T (O.take k) ++ [s]) = strV (stayL B T (O.take k)) ++ [.string s] := by unfold strV; rw [List.map_append]; rfl
                rw [e]; exact HOO.out, (HBB.out.alloc HBB.out.size _).grown HGG.out (by have := HBB.out.size; simp; omega) (own_base HROW.out)⟩
              case measure => simp [intOf]; have := HLT.out; omega
          | false =>
            cases y2 with
            | true =>
              have HKN : Hid (stayL B T (O.take (k + 1)) = stayL B T (O.take k)) := Lib.hid (stay_snoc_n HSK.out (by unfold goP; rw [HY1.out, HY2.out]; rfl))
              go_wp2_with (first
                | (clear FR; go_at_call 25; (with_reducible refine IN1.out.mono ?_); rintro e w4 ⟨rfl, hw4⟩; (obtain rfl : w4 = wr := hw4))
                | (go_at_call 25; (with_reducible refine IN2.out.mono ?_); rintro e w5 ⟨rfl, hw5⟩; (obtain rfl : w5 = w4 := hw5))
                | (at_builtin; (refine wpList_append_own _ rfl _ _ 22 rfl W1.heap.size 9 i1 (.string ⟨#[]⟩) 1 16 Try.underlying22 HI1.out HZ0.out HZ1.out HZ2.out rfl (by decide) _ _ _ rfl (HROW.out.alloc _) ⟨w4.heap.size, 0, none⟩ 1 1 [.string s] rfl rfl (by simpa using cell_one_new w4 9 (.string s)) one_memS (by unfold maxLen; omega) (by omega) (by have := HBB.out.size; simp; omega) ?_); intro v' w6 hown hgrow _; have HOO := Lib.hid hown; have HGG := Lib.hid hgrow; clear hown hgrow))
              go_roundw
              case rel => exact ⟨k + 1, by rw [HNO.out]; exact HLT.out, by go_num, by rw [HKN.out, HM.out]; exact HROW.out, HBB.out⟩
              case measure => simp [intOf]; have := HLT.out; omega
            | false =>
              have HKN : Hid (stayL B T (O.take (k + 1)) = stayL B T (O.take k) ++ [s]) := Lib.hid (stay_snoc_y HSK.out (by unfold goP; rw [HY1.out, HY2.out]; rfl))
              go_wp2_with (first
                | (clear FR; go_at_call 25; (with_reducible refine IN1.out.mono ?_); rintro e w4 ⟨rfl, hw4⟩; (obtain rfl : w4 = wr := hw4))
                | (go_at_call 25; (with_reducible refine IN2.out.mono ?_); rintro e w5 ⟨rfl, hw5⟩; (obtain rfl : w5 = w4 := hw5))
                | (at_builtin; (refine wpList_append_own _ rfl _ _ 22 rfl W1.heap.size 9 i1 (.string ⟨#[]⟩) 1 16 Try.underlying22 HI1.out HZ0.out HZ1.out HZ2.out rfl (by decide) _ _ _ rfl (HROW.out.alloc _) ⟨w5.heap.size, 0, none⟩ 1 1 [.string s] rfl rfl (by simpa using cell_one_new w5 9 (.string s)) one_memS (by unfold maxLen; omega) (by omega) (by have := HBB.out.size; simp; omega) ?_); intro v' w6 hown hgrow _; have HOO := Lib.hid hown; have HGG := Lib.hid hgrow; clear hown hgrow))
              go_roundw
              case rel => exact ⟨k + 1, by rw [HNO.out]; exact HLT.out, by go_num, by
                rw [HKN.out, List.length_append, HM.out]
                have e : strV (stayL B T (O.take k) ++ [s]) = strV (stayL B T (O.take k)) ++ [.string s] := by unfold strV; rw [List.map_append]; rfl
                rw [e]; exact HOO.out, (HBB.out.alloc HBB.out.size _).grown HGG.out (by have := HBB.out.size; simp; omega) (own_base HROW.out)⟩
              case measure => simp [intOf]; have := HLT.out; omega
        · obtain rfl : k = nO := by omega
          have hfull : O.take k = O := List.take_of_length_le (by rw [HNO.out]; exact Nat.le_refl _)
          have hrow2 : wr.ownsRow W1.heap.size 9 1 u9 (stayL B T O).length (strV (stayL B T O)) := by
            have h := HROW.out; have h2 := HM.out; rw [hfull] at h h2; rw [h2]; exact h
          obtain ⟨a9, d9, rfl, t9, l9, b9⟩ := own_texts2 hrow2 (fun s hs => tx_small KTO.out s (stay_mem hs))
          obtain ⟨W2, hW2⟩ : ∃ W, W = wr := ⟨_, rfl⟩
          subst hW2
          have HT9 := Lib.hid t9
          have HL9 := Lib.hid l9
          have KTB2 := Lib.hid (KTB.out.below HBB.out); have KTO2 := Lib.hid (KTO.out.below HBB.out); have KTT2 := Lib.hid (KTT.out.below HBB.out)
          have HBW2 := Lib.hid (HBW.out.trans (HBB.out.mono HBW.out.size))
          have H0 : Hid (StS B O T W2 (.slice none 0 0) (.int .i64 0) W2) := Lib.hid ⟨0, Nat.zero_le _, rfl, by rw [List.take_zero]; exact World.ownsRow_nil _ _ _ _, Below.refl _ _⟩
          have hn9 : (stayL B T O).length ≤ 4096 := Nat.le_trans (stay_len _ _ _) (by rw [HNO.out]; exact hlO)
          obtain ⟨n9, hn9e⟩ : ∃ n, (stayL B T O).length = n := ⟨_, rfl⟩
          have HN9 := Lib.hid hn9e
          have e9 : n9 = m := by have h2 := HM.out; rw [hfull] at h2; rw [← h2, hn9e]
          rw [hn9e] at hn9 HL9
          subst e9
          clear hrow2 t9 l9 b9 hn9e hfull hlt HROW HBB HM KTB KTO KTT HBW
          (try rw [HN9.out])
          go_wp2_with fail
          go_loopw [10, 13] (fun v i wr => StS B O T W2 v i wr) (fun _ i _ => nT - (intOf i).toNat)
          case atStart => exact H0.out
          case round =>
            obtain ⟨k, hk, rfl, hrow, hb⟩ := hrel
            rw [HNT.out] at hk
            have hol : (stayL B O (T.take k)).length ≤ 4096 := Nat.le_trans (stay_len _ _ _) (by rw [List.length_take]; omega)
            obtain ⟨m, hm⟩ : ∃ m, (stayL B O (T.take k)).length = m := ⟨_, rfl⟩
            rw [hm] at hrow hol
            have HROW := Lib.hid hrow; have HBB := Lib.hid hb; have HM := Lib.hid hm
            clear hrow hb H0 hm
            by_cases hlt : k < nT
            · obtain ⟨s, hs⟩ : ∃ s, T[k]? = some s := ⟨_, List.getElem?_eq_getElem (by rw [HNT.out]; exact hlt)⟩
              obtain ⟨hss, b0, i0, ho, c0⟩ := tx_at (KTT2.out.below HBB.out) hs
              have hI1 := In_any oO O cO s wr (by rw [HNO.out]; unfold maxLen; omega) (KTO2.out.below HBB.out)
              have hI2 := In_any oB B cB s wr (by rw [HNB.out]; unfold maxLen; omega) (KTB2.out.below HBB.out)
              obtain ⟨y1, hy1⟩ : ∃ y, inB O s = y := ⟨_, rfl⟩
              obtain ⟨y2, hy2⟩ : ∃ y, inB B s = y := ⟨_, rfl⟩
              rw [hy1, HNO.out] at hI1
              rw [hy2, HNB.out] at hI2
              subst ho
              have IN1 := Lib.hid hI1; have IN2 := Lib.hid hI2; have HY1 := Lib.hid hy1; have HY2 := Lib.hid hy2; have HSK := Lib.hid hs; have HLT := Lib.hid hlt
              have hki : (k : Int) < nT := by omega
              have FR : Hid (1 = 1) := Lib.hid rfl
              clear hI1 hI2 hy1 hy2 hs hlt hss
              cases y1 with
              | true =>
                cases y2 with
                | true =>
                  have HKN : Hid (stayL B O (T.take (k + 1)) = stayL B O (T.take k) ++ [s]) := Lib.hid (stay_snoc_y HSK.out (by unfold goP; rw [HY1.out, HY2.out]; rfl))
                  go_wp2_with (first
                    | (clear FR; go_at_call 25; (with_reducible refine IN1.out.mono ?_); rintro e w4 ⟨rfl, hw4⟩; (obtain rfl : w4 = wr := hw4))
                    | (go_at_call 25; (with_reducible refine IN2.out.mono ?_); rintro e w5 ⟨rfl, hw5⟩; (obtain rfl : w5 = w4 := hw5))
                    | (at_builtin; (refine wpList_append_own _ rfl _ _ 22 rfl W2.heap.size 9 i1 (.string ⟨#[]⟩) 1 16 Try.underlying22 HI1.out HZ0.out HZ1.out HZ2.out rfl (by decide) _ _ _ rfl (HROW.out.alloc _) ⟨w4.heap.size, 0, none⟩ 1 1 [.string s] rfl rfl (by simpa using cell_one_new w4 9 (.string s)) one_memS (by unfold maxLen; omega) (by omega) (by have := HBB.out.size; simp; omega) ?_); intro v' w6 hown hgrow _; have HOO := Lib.hid hown; have HGG := Lib.hid hgrow; clear hown hgrow))
                  go_roundw
                  case rel => exact ⟨k + 1, by rw [HNT.out]; exact HLT.out, by go_num, by
                    rw [HKN.out, List.length_append, HM.out]
                    have e : strV (stayL B O (T.take k) ++ [s]) = strV (stayL B O (T.take k)) ++ [.string s] := by unfold strV; rw [List.map_append]; rfl
                    rw [e]; exact HOO.out, (HBB.out.alloc HBB.out.size _).grown HGG.out (by have := HBB.out.size; simp; omega) (own_base HROW.out)⟩
                  case measure => simp [intOf]; have := HLT.out; omega
                | false =>
                  have HKN : Hid (stayL B O (T.take (k + 1)) = stayL B O (T.take k) ++ [s]) := Lib.hid (stay_snoc_y HSK.out (by unfold goP; rw [HY1.out, HY2.out]; rfl))
                  go_wp2_with (first
                    | (clear FR; go_at_call 25; (with_reducible refine IN1.out.mono ?_); rintro e w4 ⟨rfl, hw4⟩; (obtain rfl : w4 = wr := hw4))
                    | (go_at_call 25; (with_reducible refine IN2.out.mono ?_); rintro e w5 ⟨rfl, hw5⟩; (obtain rfl : w5 = w4 := hw5))
                    | (at_builtin; (refine wpList_append_own _ rfl _ _ 22 rfl W2.heap.size 9 i1 (.string ⟨#[]⟩) 1 16 Try.underlying22 HI1.out HZ0.out HZ1.out HZ2.out rfl (by decide) _ _ _ rfl (HROW.out.alloc _) ⟨w4.heap.size, 0, none⟩ 1 1 [.string s] rfl rfl (by simpa using cell_one_new w4 9 (.string s)) one_memS (by unfold maxLen; omega) (by omega) (by have := HBB.out.size; simp; omega) ?_); intro v' w6 hown hgrow _; have HOO := Lib.hid hown; have HGG := Lib.hid hgrow; clear hown hgrow))
                  go_roundw
                  case rel => exact ⟨k + 1, by rw [HNT.out]; exact HLT.out, by go_num, by
                    rw [HKN.out, List.length_append, HM.out]
                    have e : strV (stayL B O (T.take k) ++ [s]) = strV (stayL B O (T.take k)) ++ [.string s] := by unfold strV; rw [List.map_append]; rfl
                    rw [e]; exact HOO.out, (HBB.out.alloc HBB.out.size _).grown HGG.out (by have := HBB.out.size; simp; omega) (own_base HROW.out)⟩
                  case measure => simp [intOf]; have := HLT.out; omega
              | false =>
                cases y2 with
                | true =>
                  have HKN : Hid (stayL B O (T.take (k + 1)) = stayL B O (T.take k)) := Lib.hid (stay_snoc_n HSK.out (by unfold goP; rw [HY1.out, HY2.out]; rfl))
                  go_wp2_with (first
                    | (clear FR; go_at_call 25; (with_reducible refine IN1.out.mono ?_); rintro e w4 ⟨rfl, hw4⟩; (obtain rfl : w4 = wr := hw4))
                    | (go_at_call 25; (with_reducible refine IN2.out.mono ?_); rintro e w5 ⟨rfl, hw5⟩; (obtain rfl : w5 = w4 := hw5))
                    | (at_builtin; (refine wpList_append_own _ rfl _ _ 22 rfl W2.heap.size 9 i1 (.string ⟨#[]⟩) 1 16 Try.underlying22 HI1.out HZ0.out HZ1.out HZ2.out rfl (by decide) _ _ _ rfl (HROW.out.alloc _) ⟨w4.heap.size, 0, none⟩ 1 1 [.string s] rfl rfl (by simpa using cell_one_new w4 9 (.string s)) one_memS (by unfold maxLen; omega) (by omega) (by have := HBB.out.size; simp; omega) ?_); intro v' w6 hown hgrow _; have HOO := Lib.hid hown; have HGG := Lib.hid hgrow; clear hown hgrow))
                  go_roundw
                  case rel => exact ⟨k + 1, by rw [HNT.out]; exact HLT.out, by go_num, by rw [HKN.out, HM.out]; exact HROW.out, HBB.out⟩
                  case measure => simp [intOf]; have := HLT.out; omega
                | false =>
                  have HKN : Hid (stayL B O (T.take (k + 1)) = stayL B O (T.take k) ++ [s]) := Lib.hid (stay_snoc_y HSK.out (by unfold goP; rw [HY1.out, HY2.out]; rfl))
                  go_wp2_with (first
                    | (clear FR; go_at_call 25; (with_reducible refine IN1.out.mono ?_); rintro e w4 ⟨rfl, hw4⟩; (obtain rfl : w4 = wr := hw4))
                    | (go_at_call 25; (with_reducible refine IN2.out.mono ?_); rintro e w5 ⟨rfl, hw5⟩; (obtain rfl : w5 = w4 := hw5))
                    | (at_builtin; (refine wpList_append_own _ rfl _ _ 22 rfl W2.heap.size 9 i1 (.string ⟨#[]⟩) 1 16 Try.underlying22 HI1.out HZ0.out HZ1.out HZ2.out rfl (by decide) _ _ _ rfl (HROW.out.alloc _) ⟨w5.heap.size, 0, none⟩ 1 1 [.string s] rfl rfl (by simpa using cell_one_new w5 9 (.string s)) one_memS (by unfold maxLen; omega) (by omega) (by have := HBB.out.size; simp; omega) ?_); intro v' w6 hown hgrow _; have HOO := Lib.hid hown; have HGG := Lib.hid hgrow; clear hown hgrow))
                  go_roundw
                  case rel => exact ⟨k + 1, by rw [HNT.out]; exact HLT.out, by go_num, by
                    rw [HKN.out, List.length_append, HM.out]
                    have e : strV (stayL B O (T.take k) ++ [s]) = strV (stayL B O (T.take k)) ++ [.string s] := by unfold strV; rw [List.map_append]; rfl
                    rw [e]; exact HOO.out, (HBB.out.alloc HBB.out.size _).grown HGG.out (by have := HBB.out.size; simp; omega) (own_base HROW.out)⟩
                  case measure => simp [intOf]; have := HLT.out; omega
            · obtain rfl : k = nT := by omega
              have hfull : T.take k = T := List.take_of_length_le (by rw [HNT.out]; exact Nat.le_refl _)
              have hrow2 : wr.ownsRow W2.heap.size 9 1 u10 (stayL B O T).length (strV (stayL B O T)) := by
                have h := HROW.out; have h2 := HM.out; rw [hfull] at h h2; rw [h2]; exact h
              obtain ⟨a10, d10, rfl, t10, l10, _⟩ := own_texts2 hrow2 (fun s hs => tx_small KTT2.out s (stay_mem hs))
              obtain ⟨W3, hW3⟩ : ∃ W, W = wr := ⟨_, rfl⟩
              subst hW3
              have t9' := HT9.out.below HBB.out
              have HBW3 := Lib.hid (HBW2.out.trans (HBB.out.mono HBW2.out.size))
              have hn10 : (stayL B O T).length ≤ 4096 := Nat.le_trans (stay_len _ _ _) (by rw [HNT.out]; exact hlT)
              obtain ⟨n10, hn10e⟩ : ∃ n, (stayL B O T).length = n := ⟨_, rfl⟩
              have e10 : n10 = m := by have h2 := HM.out; rw [hfull] at h2; rw [← h2, hn10e]
              obtain ⟨R, hR⟩ : ∃ R, wv (stayL B T O) (stayL B O T) = R := ⟨_, rfl⟩
              have hra : RsAt W3.heap.size W3 (.slice a9 (stayL B T O).length d9) (stayL B T O) := ⟨a9, d9, rfl, by rw [HN9.out]; exact HL9.out, t9', fun b i h h0 => t9'.low b i h h0⟩
              have hrb : RsAt W3.heap.size W3 (.slice a10 (stayL B O T).length d10) (stayL B O T) := ⟨a10, d10, rfl, l10, t10, fun b i h h0 => t10.low b i h h0⟩
              have hli : (stayL B T O).length + (stayL B O T).length ≤ 10000 := by rw [HN9.out, hn10e]; rw [hn10e] at hn10; omega
              have h0 : WrS R W3 (.slice a9 (stayL B T O).length d9) (.slice a10 (stayL B O T).length d10) (.slice none 0 0) W3 := ⟨[], stayL B T O, stayL B O T, hra, hrb, World.ownsRow_nil _ _ _ _, by simp only [List.length_nil]; omega, fun s hs => by simp at hs, by rw [app_nil_wv]; exact hR, Below.refl _ _⟩
              rw [HN9.out, hn10e] at h0
              have H3 := Lib.hid h0
              have HRE := Lib.hid hR
              have HN10 := Lib.hid hn10e
              subst e10
              rw [hR] at HEE
              clear hrow2 t10 l10 t9' hn10 hn10e hra hrb hli h0 hR hfull hlt HROW HBB HM KTB2 KTO2 KTT2 HT9 HBW2
              (try rw [HN10.out])
              go_wp2_with fail
              go_loopw [9, 10, 11] (fun u v z wr => WrS R W3 u v z wr) (fun u v _ _ => slLen u + slLen v)
              case atStart => first | exact H3.out | (have h := H3.out; simpa using h)
              case round =>
                obtain ⟨out, x, y, ⟨oa, ca, rfl, hca, hx, hbx⟩, ⟨ob, cb, rfl, hcb, hy, hby⟩, hrz, hlen, hso, hRe, hb⟩ := hrel
                clear H3
                by_cases hxy : x = [] ∨ y = []
                · have hRX : R = (out ++ x ++ y, []) := by
                    rw [← hRe]
                    rcases hxy with rfl | rfl
                    · rw [wv_nil]; simp [appW]
                    · rw [wv_nil2]; simp [appW]
                  obtain ⟨v1, w1, hr1, ho1, hg1, _⟩ := app_row ca hrz hx (by omega) (by omega) hb.size
                  have hb1 := hb.grown hg1 hb.size (own_base hrz)
                  obtain ⟨v2, w2, hr2, ho2, hg2, _⟩ := app_row cb ho1 (hy.keep fun b i h hl h0 => (Below.refl _ wr).grown hg1 hb.size (own_base hrz) |>.block b (hby b i h h0)) (by omega) (by omega) hb1.size
                  have hb2 := hb1.grown hg2 hb1.size (own_base ho1)
                  have hall : ∀ s ∈ out ++ x ++ y, s.size ≤ maxLen := fun s hs => by
                    rcases List.mem_append.1 hs with h | h
                    · rcases List.mem_append.1 h with h | h
                      · exact hso s h
                      · exact tx_small hx s h
                    · exact tx_small hy s h
                  obtain ⟨av1, cv1, hv1, _⟩ := own_at ho1
                  subst hv1
                  have ho3 : w2.ownsRow W3.heap.size 9 1 v2 (out ++ x ++ y).length (strV (out ++ x ++ y)) := by
                    have e : strV (out ++ x ++ y) = strV out ++ strV x ++ strV y := by unfold strV; rw [List.map_append, List.map_append]
                    have e2 : (out ++ x ++ y).length = out.length + x.length + y.length := by rw [List.length_append, List.length_append]
                    rw [e, e2]; exact ho2
                  obtain ⟨om, cm, rfl, hto, hmc, _⟩ := own_texts2 ho3 hall
                  obtain ⟨nx, hnx⟩ : ∃ n, x.length = n := ⟨_, rfl⟩
                  obtain ⟨ny, hny⟩ : ∃ n, y.length = n := ⟨_, rfl⟩
                  obtain ⟨nO, hnO⟩ : ∃ n, (out ++ x ++ y).length = n := ⟨_, rfl⟩
                  have hcond : nx = 0 ∨ (0 < nx ∧ ny = 0) := by
                    rcases hxy with rfl | rfl
                    · left; rw [← hnx]; rfl
                    · by_cases h : nx = 0
                      · exact Or.inl h
                      · exact Or.inr ⟨by omega, by rw [← hny]; rfl⟩
                  simp only [hnx] at hr1 hr2 ⊢
                  rw [hny] at hr2 ⊢
                  rw [hnO] at hr2
                  have HR1 := Lib.hid hr1; have HR2 := Lib.hid hr2; have HTO2 := Lib.hid hto; have HB2 := Lib.hid hb2; have HRX := Lib.hid hRX; have HNO2 := Lib.hid hnO
                  clear hr1 hr2 ho1 ho2 ho3 hto hb hb1 hb2 hRX hnO hx hy hbx hby hso hRe hrz hall hg1 hg2 hnx hny hxy hlen hca hcb hmc
                  rcases hcond with rfl | ⟨hp, rfl⟩
                  · go_wp2_with (first | (at_builtin; refine Lib.wpList_append_run _ rfl _ _ _ _ rfl _ _ rfl rfl _ _ (HR1.out _) ?_) | (at_builtin; refine Lib.wpList_append_run _ rfl _ _ _ _ rfl _ _ rfl rfl _ _ (HR2.out _) ?_))
                    refine bodyPost_ret (v := .tuple #[.slice om nO cm, .slice none 0 0, .int .i64 0]) (by simp [results, Try.results11, go_sem]) rfl ?_
                    rw [HEE.out, HRX.out]
                    exact ⟨om, cm, none, 0, by dsimp only; rw [HNO2.out]; rfl, HTO2.out, tx_none _, HBW3.out.trans (HB2.out.mono HBW3.out.size)⟩
                  · have hpi : (0 : Int) < nx := by omega
                    go_wp2_with (first | (at_builtin; refine Lib.wpList_append_run _ rfl _ _ _ _ rfl _ _ rfl rfl _ _ (HR1.out _) ?_) | (at_builtin; refine Lib.wpList_append_run _ rfl _ _ _ _ rfl _ _ rfl rfl _ _ (HR2.out _) ?_))
                    refine bodyPost_ret (v := .tuple #[.slice om nO cm, .slice none 0 0, .int .i64 0]) (by simp [results, Try.results11, go_sem]) rfl ?_
                    rw [HEE.out, HRX.out]
                    exact ⟨om, cm, none, 0, by dsimp only; rw [HNO2.out]; rfl, HTO2.out, tx_none _, HBW3.out.trans (HB2.out.mono HBW3.out.size)⟩
                cases x with
                | nil => exact absurd (Or.inl rfl) hxy
                | cons a x =>
                  cases y with
                  | nil => exact absurd (Or.inr rfl) hxy
                  | cons b y =>
                    clear hxy
                    obtain ⟨hsa, b0, i0, ho, ca0⟩ := tx_head hx
                    obtain ⟨hsb, b1, i1, ho1, cb0⟩ := tx_head hy
                    subst ho ho1
                    have HXT : Hid (∀ W, Below W3.heap.size wr W → TxAt W (some ⟨b0, i0, none⟩) (a :: x)) := Lib.hid (fun W hW => hx.keep fun b i h hl h0 => hW.block b (hbx b i h h0))
                    have HYT : Hid (∀ W, Below W3.heap.size wr W → TxAt W (some ⟨b1, i1, none⟩) (b :: y)) := Lib.hid (fun W hW => hy.keep fun b i h hl h0 => hW.block b (hby b i h h0))
                    have hb0 : b0 < W3.heap.size := hbx b0 i0 rfl (by simp)
                    have hb1 : b1 < W3.heap.size := hby b1 i1 rfl (by simp)
                    rw [List.length_cons] at hca hcb hlen ⊢
                    rw [List.length_cons] at hlen ⊢
                    obtain ⟨nx, hnx⟩ : ∃ n, x.length = n := ⟨_, rfl⟩
                    obtain ⟨ny, hny⟩ : ∃ n, y.length = n := ⟨_, rfl⟩
                    rw [hnx] at hca hlen ⊢
                    rw [hny] at hcb hlen ⊢
                    have HSO := Lib.hid hso; have HRE2 := Lib.hid hRe; have HBB := Lib.hid hb; have HRZ := Lib.hid hrz
                    have HNX := Lib.hid hnx; have HNY := Lib.hid hny
                    have hnx0 : (0 : Int) < ((nx + 1 : Nat) : Int) := by omega
                    have hny0 : (0 : Int) < ((ny + 1 : Nat) : Int) := by omega
                    have HSA := Lib.hid hsa; have HSB := Lib.hid hsb
                    have hx1 : (1 : Int) ≤ ((nx + 1 : Nat) : Int) := by omega
                    have hy1 : (1 : Int) ≤ ((ny + 1 : Nat) : Int) := by omega
                    clear hx hy hbx hby hso hRe hrz hb hnx hny hsa hsb
                    by_cases hab : a = b
                    · subst hab
                      have hae : (a.toList == a.toList) = true := by simp
                      have HRN : Hid (appW (out ++ [a]) (wv x y) = R) := Lib.hid (by rw [← HRE2.out, wv_both, appW_cons])
                      go_wp2_with fail
                      go_quiet (fail)
                      (first | (have _h : Nat := nq; clear _h) | rename_i nq)
                      have hbd : Below W3.heap.size wr (wr.drewN nq) := below_drewN (Below.refl _ _) nq
                      have hrw := own_below HRZ.out (below_drewN (Below.refl _ _) nq)
                      have ca1 : (wr.drewN nq).cell? ⟨b0, i0, none⟩ = some (.string a) := ca0
                      generalize wr.drewN nq = wd at hbd hrw ca1 ⊢
                      have HBD := Lib.hid hbd; have HRW := Lib.hid hrw; have HSW := Lib.hid (Nat.le_trans HBB.out.size hbd.size)
                      clear hbd hrw ca0 cb0 HRE2
                      have hal : Below wd.heap.size wd (wd.alloc (.cells #[.string a] 9)) := (Below.refl _ wd).alloc (Nat.le_refl _) _
                      have hzt : TxAt (wd.alloc (.cells #[.string a] 9)) (some ⟨wd.heap.size, 0, none⟩) [a] := fun k hk => by
                        have hk0 : k = 0 := by simp at hk; omega
                        subst hk0
                        exact ⟨HSA.out, _, 0, rfl, by rw [cell_of_row (World.alloc_heap_new wd _)]; rfl⟩
                      obtain ⟨v', w5, hr, hrow5, hg, _⟩ := app_row 1 (own_below HRW.out hal) hzt (by omega) (by simp) (Nat.le_trans HSW.out hal.size)
                      have HRUN := Lib.hid hr
                      have HOWN := Lib.hid hrow5
                      have HBZ := Lib.hid (HBD.out.trans (((hal.mono HSW.out)).grown hg (Nat.le_trans HSW.out hal.size) (own_base HRW.out)))
                      obtain ⟨av, cv, hvv, _⟩ := own_at hrow5
                      subst hvv
                      clear hal hzt hr hrow5 hg
                      by_cases hc1 : ca = 1
                      · have hz : nx = 0 := by omega
                        subst hc1 hz
                        by_cases hc2 : cb = 1
                        · have hz : ny = 0 := by omega
                          subst hc2 hz
                          go_wp2_with (first | (at_builtin; refine Lib.wpList_append_run _ rfl _ _ _ _ rfl _ _ rfl rfl _ _ (HRUN.out _) ?_))
                          go_roundw
                          case rel => exact ⟨out ++ [a], x, y, rs_done _ _ HNX.out, rs_done _ _ HNY.out, by rw [List.length_append]; have e : strV (out ++ [a]) = strV out ++ strV [a] := (by unfold strV; rw [List.map_append]); rw [e]; exact HOWN.out, by simp only [List.length_append, List.length_cons, List.length_nil, HNX.out, HNY.out]; omega, fun s hs => (List.mem_append.1 hs).elim (HSO.out s) (fun h => by simp at h; subst h; exact HSA.out), HRN.out, HBB.out.trans HBZ.out⟩
                          case measure => simp [slLen]; try omega
                        · have hcb2 : ny + 1 ≤ cb := hcb
                          go_wp2_with (first | (at_builtin; refine Lib.wpList_append_run _ rfl _ _ _ _ rfl _ _ rfl rfl _ _ (HRUN.out _) ?_))
                          go_roundw
                          case rel => exact ⟨out ++ [a], x, y, rs_done _ _ HNX.out, rs_tail (HYT.out _ HBZ.out) HNY.out hcb hb1, by rw [List.length_append]; have e : strV (out ++ [a]) = strV out ++ strV [a] := (by unfold strV; rw [List.map_append]); rw [e]; exact HOWN.out, by simp only [List.length_append, List.length_cons, List.length_nil, HNX.out, HNY.out]; omega, fun s hs => (List.mem_append.1 hs).elim (HSO.out s) (fun h => by simp at h; subst h; exact HSA.out), HRN.out, HBB.out.trans HBZ.out⟩
                          case measure => simp [slLen]; try omega
                      · by_cases hc2 : cb = 1
                        · have hz : ny = 0 := by omega
                          subst hc2 hz
                          go_wp2_with (first | (at_builtin; refine Lib.wpList_append_run _ rfl _ _ _ _ rfl _ _ rfl rfl _ _ (HRUN.out _) ?_))
                          go_roundw
                          case rel => exact ⟨out ++ [a], x, y, rs_tail (HXT.out _ HBZ.out) HNX.out hca hb0, rs_done _ _ HNY.out, by rw [List.length_append]; have e : strV (out ++ [a]) = strV out ++ strV [a] := (by unfold strV; rw [List.map_append]); rw [e]; exact HOWN.out, by simp only [List.length_append, List.length_cons, List.length_nil, HNX.out, HNY.out]; omega, fun s hs => (List.mem_append.1 hs).elim (HSO.out s) (fun h => by simp at h; subst h; exact HSA.out), HRN.out, HBB.out.trans HBZ.out⟩
                          case measure => simp [slLen]; try omega
                        · have hcb2 : ny + 1 ≤ cb := hcb
                          go_wp2_with (first | (at_builtin; refine Lib.wpList_append_run _ rfl _ _ _ _ rfl _ _ rfl rfl _ _ (HRUN.out _) ?_))
                          go_roundw
                          case rel => exact ⟨out ++ [a], x, y, rs_tail (HXT.out _ HBZ.out) HNX.out hca hb0, rs_tail (HYT.out _ HBZ.out) HNY.out hcb hb1, by rw [List.length_append]; have e : strV (out ++ [a]) = strV out ++ strV [a] := (by unfold strV; rw [List.map_append]); rw [e]; exact HOWN.out, by simp only [List.length_append, List.length_cons, List.length_nil, HNX.out, HNY.out]; omega, fun s hs => (List.mem_append.1 hs).elim (HSO.out s) (fun h => by simp at h; subst h; exact HSA.out), HRN.out, HBB.out.trans HBZ.out⟩
                          case measure => simp [slLen]; try omega
                    · have hae : (a.toList == b.toList) = false := by rw [beq_eq_false_iff_ne]; exact fun e => hab (toL_inj e)
                      go_wp2_with fail
                      go_quiet (fail)
                      (first | (have _h : Nat := nq; clear _h) | rename_i nq)
                      have hbd : Below W3.heap.size wr (wr.drewN nq) := below_drewN (Below.refl _ _) nq
                      have hrw := own_below HRZ.out (below_drewN (Below.refl _ _) nq)
                      have ca1 : (wr.drewN nq).cell? ⟨b0, i0, none⟩ = some (.string a) := ca0
                      have cb1 : (wr.drewN nq).cell? ⟨b1, i1, none⟩ = some (.string b) := cb0
                      generalize wr.drewN nq = wd at hbd hrw ca1 cb1 ⊢
                      have HBD := Lib.hid hbd; have HRW := Lib.hid hrw; have HSW := Lib.hid (Nat.le_trans HBB.out.size hbd.size)
                      have hI1 := In_any (some ⟨b1, i1, none⟩) (b :: y) cb a wd (by rw [List.length_cons, HNY.out]; unfold maxLen; omega) (HYT.out _ hbd)
                      have hI2 := In_any (some ⟨b0, i0, none⟩) (a :: x) ca b wd (by rw [List.length_cons, HNX.out]; unfold maxLen; omega) (HXT.out _ hbd)
                      rw [List.length_cons, HNY.out] at hI1
                      rw [List.length_cons, HNX.out] at hI2
                      have FI : Hid (1 = 1) := Lib.hid rfl
                      clear hbd hrw ca0 cb0
                      cases hin1 : inB (b :: y) a with
                      | false =>
                        rw [hin1] at hI1
                        have HRN : Hid (appW (out ++ [a]) (wv x (b :: y)) = R) := Lib.hid (by rw [← HRE2.out, wv_left hab hin1, appW_cons])
                        have IN1 := Lib.hid hI1
                        clear hI1 hI2 hin1 hab HRE2
                        have hal : Below wd.heap.size wd (wd.alloc (.cells #[.string a] 9)) := (Below.refl _ wd).alloc (Nat.le_refl _) _
                        have hzt : TxAt (wd.alloc (.cells #[.string a] 9)) (some ⟨wd.heap.size, 0, none⟩) [a] := fun k hk => by
                          have hk0 : k = 0 := by simp at hk; omega
                          subst hk0
                          exact ⟨HSA.out, _, 0, rfl, by rw [cell_of_row (World.alloc_heap_new wd _)]; rfl⟩
                        obtain ⟨v', w5, hr, hrow5, hg, _⟩ := app_row 1 (own_below HRW.out hal) hzt (by omega) (by simp) (Nat.le_trans HSW.out hal.size)
                        have HRUN := Lib.hid hr
                        have HOWN := Lib.hid hrow5
                        have HBZ := Lib.hid (HBD.out.trans (((hal.mono HSW.out)).grown hg (Nat.le_trans HSW.out hal.size) (own_base HRW.out)))
                        obtain ⟨av, cv, hvv, _⟩ := own_at hrow5
                        subst hvv
                        clear hal hzt hr hrow5 hg
                        by_cases hc1 : ca = 1
                        · have hz : nx = 0 := by omega
                          subst hc1 hz
                          go_wp2_with (first | (clear FI; go_at_call 25; (with_reducible refine IN1.out.mono ?_); rintro e w7 ⟨rfl, hw7⟩; (obtain rfl : w7 = wd := hw7)) | (at_builtin; refine Lib.wpList_append_run _ rfl _ _ _ _ rfl _ _ rfl rfl _ _ (HRUN.out _) ?_))
                          go_roundw
                          case rel => exact ⟨out ++ [a], x, b :: y, rs_done _ _ HNX.out, rs_full (HYT.out _ HBZ.out) HNY.out hcb hb1, by rw [List.length_append]; have e : strV (out ++ [a]) = strV out ++ strV [a] := (by unfold strV; rw [List.map_append]); rw [e]; exact HOWN.out, by simp only [List.length_append, List.length_cons, List.length_nil, HNX.out, HNY.out]; omega, fun s hs => (List.mem_append.1 hs).elim (HSO.out s) (fun h => by simp at h; subst h; exact HSA.out), HRN.out, HBB.out.trans HBZ.out⟩
                          case measure => simp [slLen]; try omega
                        · have hca2 : nx + 1 ≤ ca := hca
                          go_wp2_with (first | (clear FI; go_at_call 25; (with_reducible refine IN1.out.mono ?_); rintro e w7 ⟨rfl, hw7⟩; (obtain rfl : w7 = wd := hw7)) | (at_builtin; refine Lib.wpList_append_run _ rfl _ _ _ _ rfl _ _ rfl rfl _ _ (HRUN.out _) ?_))
                          go_roundw
                          case rel => exact ⟨out ++ [a], x, b :: y, rs_tail (HXT.out _ HBZ.out) HNX.out hca hb0, rs_full (HYT.out _ HBZ.out) HNY.out hcb hb1, by rw [List.length_append]; have e : strV (out ++ [a]) = strV out ++ strV [a] := (by unfold strV; rw [List.map_append]); rw [e]; exact HOWN.out, by simp only [List.length_append, List.length_cons, List.length_nil, HNX.out, HNY.out]; omega, fun s hs => (List.mem_append.1 hs).elim (HSO.out s) (fun h => by simp at h; subst h; exact HSA.out), HRN.out, HBB.out.trans HBZ.out⟩
                          case measure => simp [slLen]; try omega
                      | true =>
                        rw [hin1] at hI1
                        cases hin2 : inB (a :: x) b with
                        | false =>
                          rw [hin2] at hI2
                          have HRN : Hid (appW (out ++ [b]) (wv (a :: x) y) = R) := Lib.hid (by rw [← HRE2.out, wv_right hab hin1 hin2, appW_cons])
                          have IN1 := Lib.hid hI1; have IN2 := Lib.hid hI2
                          clear hI1 hI2 hin1 hin2 hab HRE2
                          have hal : Below wd.heap.size wd (wd.alloc (.cells #[.string b] 9)) := (Below.refl _ wd).alloc (Nat.le_refl _) _
                          have hzt : TxAt (wd.alloc (.cells #[.string b] 9)) (some ⟨wd.heap.size, 0, none⟩) [b] := fun k hk => by
                            have hk0 : k = 0 := by simp at hk; omega
                            subst hk0
                            exact ⟨HSB.out, _, 0, rfl, by rw [cell_of_row (World.alloc_heap_new wd _)]; rfl⟩
                          obtain ⟨v', w5, hr, hrow5, hg, _⟩ := app_row 1 (own_below HRW.out hal) hzt (by omega) (by simp) (Nat.le_trans HSW.out hal.size)
                          have HRUN := Lib.hid hr
                          have HOWN := Lib.hid hrow5
                          have HBZ := Lib.hid (HBD.out.trans (((hal.mono HSW.out)).grown hg (Nat.le_trans HSW.out hal.size) (own_base HRW.out)))
                          obtain ⟨av, cv, hvv, _⟩ := own_at hrow5
                          subst hvv
                          clear hal hzt hr hrow5 hg
                          by_cases hc2 : cb = 1
                          · have hz : ny = 0 := by omega
                            subst hc2 hz
                            go_wp2_with (first | (clear FI; go_at_call 25; (with_reducible refine IN1.out.mono ?_); rintro e w7 ⟨rfl, hw7⟩; (obtain rfl : w7 = wd := hw7)) | (go_at_call 25; (with_reducible refine IN2.out.mono ?_); rintro e w8 ⟨rfl, hw8⟩; (obtain rfl : w8 = w7 := hw8)) | (at_builtin; refine Lib.wpList_append_run _ rfl _ _ _ _ rfl _ _ rfl rfl _ _ (HRUN.out _) ?_))
                            go_roundw
                            case rel => exact ⟨out ++ [b], a :: x, y, rs_full (HXT.out _ HBZ.out) HNX.out hca hb0, rs_done _ _ HNY.out, by rw [List.length_append]; have e : strV (out ++ [b]) = strV out ++ strV [b] := (by unfold strV; rw [List.map_append]); rw [e]; exact HOWN.out, by simp only [List.length_append, List.length_cons, List.length_nil, HNX.out, HNY.out]; omega, fun s hs => (List.mem_append.1 hs).elim (HSO.out s) (fun h => by simp at h; subst h; exact HSB.out), HRN.out, HBB.out.trans HBZ.out⟩
                            case measure => simp [slLen]; try omega
                          · have hcb2 : ny + 1 ≤ cb := hcb
                            go_wp2_with (first | (clear FI; go_at_call 25; (with_reducible refine IN1.out.mono ?_); rintro e w7 ⟨rfl, hw7⟩; (obtain rfl : w7 = wd := hw7)) | (go_at_call 25; (with_reducible refine IN2.out.mono ?_); rintro e w8 ⟨rfl, hw8⟩; (obtain rfl : w8 = w7 := hw8)) | (at_builtin; refine Lib.wpList_append_run _ rfl _ _ _ _ rfl _ _ rfl rfl _ _ (HRUN.out _) ?_))
                            go_roundw
                            case rel => exact ⟨out ++ [b], a :: x, y, rs_full (HXT.out _ HBZ.out) HNX.out hca hb0, rs_tail (HYT.out _ HBZ.out) HNY.out hcb hb1, by rw [List.length_append]; have e : strV (out ++ [b]) = strV out ++ strV [b] := (by unfold strV; rw [List.map_append]); rw [e]; exact HOWN.out, by simp only [List.length_append, List.length_cons, List.length_nil, HNX.out, HNY.out]; omega, fun s hs => (List.mem_append.1 hs).elim (HSO.out s) (fun h => by simp at h; subst h; exact HSB.out), HRN.out, HBB.out.trans HBZ.out⟩
                            case measure => simp [slLen]; try omega
                        | true =>
                          rw [hin2] at hI2
                          have HRC : Hid (R = ([], [a, b])) := Lib.hid (by rw [← HRE2.out, wv_cross hab hin1 hin2]; rfl)
                          have IN1 := Lib.hid hI1; have IN2 := Lib.hid hI2
                          clear hI1 hI2 hin1 hin2 hab HRE2
                          go_upto_region 29 with (first
                            | (clear FI; go_at_call 25; (with_reducible refine IN1.out.mono ?_); rintro e w7 ⟨rfl, hw7⟩; (obtain rfl : w7 = wd := hw7))
                            | (go_at_call 25; (with_reducible refine IN2.out.mono ?_); rintro e w8 ⟨rfl, hw8⟩; (obtain rfl : w8 = w7 := hw8)))
                          have hB7 := Lib.hid (((HBB.out.trans HBD.out).alloc (HBB.out.trans HBD.out).size (.cells #[.string a, .string b] 9)))
                          have HBW8 := Lib.hid (HBB.out.trans HBD.out)
                          have HTW := Lib.hid (tx_pair HSA.out HSB.out w8)
                          clear HXT HYT HBD HRW HSO HBB HRZ HNX HNY HSA HSB hca hcb hlen IN1 IN2
                          go_region_with (fail)
                          all_goals
                            go_wp2_with fail

                            refine bodyPost_ret (v := .tuple #[.slice none 0 0, .slice (some ⟨w8.heap.size, 0, none⟩) 2 2, .int .i64 0]) (by simp [results, Try.results11, go_sem]) rfl ?_
                            rw [HEE.out, HRC.out]
                            first
                            | exact ⟨none, 0, _, 2, rfl, tx_none _, HTW.out, HBW3.out.trans (hB7.out.mono HBW3.out.size)⟩
                            | exact ⟨none, 0, _, 2, rfl, tx_none _, HTW.out.below (Below.refl _ _).drew, HBW3.out.trans (hB7.out.drew.mono HBW3.out.size)⟩
end Go.Proofs.Ytjdlpcokjcmapaa
