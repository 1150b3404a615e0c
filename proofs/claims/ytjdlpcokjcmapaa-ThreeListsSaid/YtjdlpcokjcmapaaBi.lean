/- Three lists: Lists. -/
import Derived.Test.YtjdlpcokjcmapaaBh
set_option linter.unusedVariables false
set_option linter.unusedSimpArgs false
namespace Go.Proofs.Ytjdlpcokjcmapaa
open Go.RowKit Go.Maps Go.WideShapes
variable {w w' : World}

/-- What comes of three lists: the list, the two items, the error. -/
def listsL (B O T : List ByteArray) : List ByteArray × List ByteArray × Int :=
  if ¬ (B.Nodup ∧ O.Nodup ∧ T.Nodup) then ([], [], 10)
  else if O = T ∨ T = B then (O, [], 0) else if O = B then (T, [], 0)
  else ((wv (stayL B T O) (stayL B O T)).1, (wv (stayL B T O) (stayL B O T)).2, 0)
theorem ls_three (w : World) {oB oO oT : Option Addr} {B O T : List ByteArray} (cB cO cT : Nat) (hlB : B.length ≤ 1000000) (hlO : O.length ≤ 1000000) (hlT : T.length ≤ 1000000) (hB : TxAt w oB B) (hO : TxAt w oO O) (hT : TxAt w oT T) :
    LsAt (w.alloc (.cells #[.slice oB B.length cB, .slice oO O.length cO, .slice oT T.length cT] 22)) (some ⟨w.heap.size, 0, none⟩) [(oB, B, cB), (oO, O, cO), (oT, T, cT)] := fun k p hp => by
  have hal : Below w.heap.size w (w.alloc (.cells #[.slice oB B.length cB, .slice oO O.length cO, .slice oT T.length cT] 22)) := (Below.refl _ w).alloc (Nat.le_refl _) _
  have hce := fun j => cell_of_row (j := j) (World.alloc_heap_new w (.cells #[.slice oB B.length cB, .slice oO O.length cO, .slice oT T.length cT] 22))
  match k, hp with
  | 0, hp => simp at hp; subst hp; exact ⟨hlB, hB.below hal, _, rfl, by rw [hce]; rfl⟩
  | 1, hp => simp at hp; subst hp; exact ⟨hlO, hO.below hal, _, rfl, by rw [hce]; rfl⟩
  | 2, hp => simp at hp; subst hp; exact ⟨hlT, hT.below hal, _, rfl, by rw [hce]; rfl⟩
theorem Nodup.keep {P : ByteArray → Bool} {L : List ByteArray} (h : L.Nodup) : (keepL P L).Nodup := h.sublist List.filter_sublist
theorem anyL3 (w : World) {oB oO oT : Option Addr} {B O T : List ByteArray} (cB cO cT : Nat) (hlB : B.length ≤ 1000000) (hlO : O.length ≤ 1000000) (hlT : T.length ≤ 1000000) (hB : TxAt w oB B) (hO : TxAt w oO O) (hT : TxAt w oT T) :
    Calls Try.prog 17 #[.func (.func 18) #[] #[], .slice (some ⟨w.heap.size, 0, none⟩) 3 3] (w.alloc (.cells #[.slice oB B.length cB, .slice oO O.length cO, .slice oT T.length cT] 22)) fun e w' => e = .returned (.bool (decide (4096 < B.length ∨ 4096 < O.length ∨ 4096 < T.length))) ∧ Below w.heap.size w w' := by
  have hal : Below w.heap.size w (w.alloc (.cells #[.slice oB B.length cB, .slice oO O.length cO, .slice oT T.length cT] 22)) := (Below.refl _ w).alloc (Nat.le_refl _) _
  refine (anyOfL_any _ [(oB, B, cB), (oO, O, cO), (oT, T, cT)] 3 _ (by simp) (ls_three w cB cO cT hlB hlO hlT hB hO hT)).mono ?_
  rintro e w' ⟨⟨x, rfl, hx⟩, hb⟩
  refine ⟨ret_bool ?_, hal.trans (hb.mono hal.size)⟩
  rw [Bool.eq_iff_iff, hx, decide_eq_true_iff]
  simp
theorem anyR3 (w : World) {oB oO oT : Option Addr} {B O T : List ByteArray} (cB cO cT : Nat) (hlB : B.length ≤ 1000000) (hlO : O.length ≤ 1000000) (hlT : T.length ≤ 1000000) (hB : TxAt w oB B) (hO : TxAt w oO O) (hT : TxAt w oT T) :
    Calls Try.prog 17 #[.func (.func 19) #[] #[], .slice (some ⟨w.heap.size, 0, none⟩) 3 3] (w.alloc (.cells #[.slice oB B.length cB, .slice oO O.length cO, .slice oT T.length cT] 22)) fun e w' => e = .returned (.bool (decide (¬ (B.Nodup ∧ O.Nodup ∧ T.Nodup)))) ∧ Below w.heap.size w w' := by
  have hal : Below w.heap.size w (w.alloc (.cells #[.slice oB B.length cB, .slice oO O.length cO, .slice oT T.length cT] 22)) := (Below.refl _ w).alloc (Nat.le_refl _) _
  refine (anyOfR_any _ [(oB, B, cB), (oO, O, cO), (oT, T, cT)] 3 _ (by simp) (ls_three w cB cO cT hlB hlO hlT hB hO hT)).mono ?_
  rintro e w' ⟨⟨x, rfl, hx⟩, hb⟩
  refine ⟨ret_bool ?_, hal.trans (hb.mono hal.size)⟩
  rw [Bool.eq_iff_iff, hx, decide_eq_true_iff]
  simp
  by_cases h1 : B.Nodup <;> by_cases h2 : O.Nodup <;> by_cases h3 : T.Nodup <;> simp [h1, h2, h3]
set_option maxHeartbeats 4000000 in
set_option maxRecDepth 100000 in
theorem Lists_any (oB oO oT : Option Addr) (B O T : List ByteArray) (cB cO cT : Nat) (w : World) (hlB : B.length ≤ 4096) (hlO : O.length ≤ 4096) (hlT : T.length ≤ 4096) (hB : TxAt w oB B) (hO : TxAt w oO O) (hT : TxAt w oT T) :
    Calls Try.prog 10 #[.slice oB B.length cB, .slice oO O.length cO, .slice oT T.length cT] w fun e w' => ∃ v1 v2, e = .returned (.tuple #[v1, v2, .int .i64 (listsL B O T).2.2]) ∧ w'.ownsRow w.heap.size 9 1 v1 (listsL B O T).1.length (strV (listsL B O T).1) ∧ w'.ownsRow w.heap.size 9 1 v2 (listsL B O T).2.1.length (strV (listsL B O T).2.1) ∧ Below w.heap.size w w' := by
  have h1 := anyL3 w cB cO cT (by omega) (by omega) (by omega) hB hO hT
  have h2 := fun W (hW : Below w.heap.size w W) => anyR3 W cB cO cT (by omega) (by omega) (by omega) (hB.below hW) (hO.below hW) (hT.below hW)
  have h3 := fun W (hW : Below w.heap.size w W) => settled_any oB oO oT B O T cB cO cT W (by unfold maxLen; omega) (by unfold maxLen; omega) (by unfold maxLen; omega) (hB.below hW) (hO.below hW) (hT.below hW)
  have h4 := fun W (hW : Below w.heap.size w W) => Clone_at oO O cO W (by omega) (hO.below hW)
  have h5 := fun W (hW : Below w.heap.size w W) => Clone_at oT T cT W (by omega) (hT.below hW)
  have h6 := fun W (hW : Below w.heap.size w W) => remaining_any oB oO oT B O T cB cO cT W (by omega) (by omega) (by omega) (hB.below hW) (hO.below hW) (hT.below hW)
  rw [show decide (4096 < B.length ∨ 4096 < O.length ∨ 4096 < T.length) = false from decide_eq_false (by omega)] at h1
  obtain ⟨dn, hdn⟩ : ∃ d, decide (¬ (B.Nodup ∧ O.Nodup ∧ T.Nodup)) = d := ⟨_, rfl⟩
  rw [hdn] at h2
  have HDN := Lib.hid hdn
  have HX := Lib.hid (Nat.le_trans (stay_len B T O) hlO); have HY := Lib.hid (Nat.le_trans (stay_len B O T) hlT)
  obtain ⟨LL, hLL⟩ : ∃ L, listsL B O T = L := ⟨_, rfl⟩
  have HLL := Lib.hid hLL
  rw [hLL]
  obtain ⟨nB, hnB⟩ : ∃ n, B.length = n := ⟨_, rfl⟩
  obtain ⟨nO, hnO⟩ : ∃ n, O.length = n := ⟨_, rfl⟩
  obtain ⟨nT, hnT⟩ : ∃ n, T.length = n := ⟨_, rfl⟩
  have HNO := Lib.hid hnO; have HNT := Lib.hid hnT
  simp only [hnB, hnO, hnT] at h1 h2 h3 h4 h5 h6 ⊢
  have H1 := Lib.hid h1; have H2 := Lib.hid h2; have H3 := Lib.hid h3; have H4 := Lib.hid h4; have H5 := Lib.hid h5; have H6 := Lib.hid h6
  clear h1 h2 h3 h4 h5 h6 hdn hLL hnB hnO hnT hlB hlO hlT hB hO hT
  cases dn with
  | true =>
    have HE : Hid (LL = ([], [], 10)) := Lib.hid (by rw [← HLL.out]; unfold listsL; rw [if_pos (of_decide_eq_true HDN.out)])
    go_enter Try.func10, Try.ntmps10
    go_wp2_with (first
      | (go_at_call 17; (with_reducible refine H1.out.mono ?_); rintro e w2 ⟨rfl, hb⟩; have HB2 := Lib.hid hb; clear hb H1)
      | (go_at_call 17; (with_reducible refine (H2.out _ HB2.out).mono ?_); rintro e w3 ⟨rfl, hb⟩; have HB3 := Lib.hid (HB2.out.trans (hb.mono HB2.out.size)); clear hb H2))
    refine bodyPost_ret (v := .tuple #[.slice none 0 0, .slice none 0 0, .int .i64 10]) (by simp [results, Try.results10, go_sem]) rfl ?_
    rw [HE.out]
    exact ⟨_, _, rfl, World.ownsRow_nil _ _ _ _, World.ownsRow_nil _ _ _ _, HB3.out⟩
  | false =>
    have hnd := of_decide_eq_false HDN.out
    have hnd2 : B.Nodup ∧ O.Nodup ∧ T.Nodup := Classical.not_not.1 hnd
    have HND := Lib.hid hnd2
    have HE : Hid (LL = if O = T ∨ T = B then (O, [], 0) else if O = B then (T, [], 0) else ((wv (stayL B T O) (stayL B O T)).1, (wv (stayL B T O) (stayL B O T)).2, 0)) := Lib.hid (by rw [← HLL.out]; unfold listsL; rw [if_neg (fun h => h hnd2)])
    clear hnd hnd2
    by_cases hs1 : O = T ∨ T = B
    · have HEE : Hid (LL = (O, [], 0)) := Lib.hid (by rw [HE.out, if_pos hs1])
      have hsv : setV B O T (.slice oO nO cO) (.slice oT nT cT) = .tuple #[.slice oO nO cO, .bool true] := by unfold setV; rw [if_pos hs1]
      rw [hsv] at H3
      clear hsv hs1
      go_enter Try.func10, Try.ntmps10
      go_wp2_with (first
        | (go_at_call 17; (with_reducible refine H1.out.mono ?_); rintro e w2 ⟨rfl, hb⟩; have HB2 := Lib.hid hb; clear hb H1)
        | (go_at_call 17; (with_reducible refine (H2.out _ HB2.out).mono ?_); rintro e w3 ⟨rfl, hb⟩; have HB3 := Lib.hid (HB2.out.trans (hb.mono HB2.out.size)); clear hb H2)
        | (go_at_call 20; (with_reducible refine (H3.out _ HB3.out).mono ?_); rintro e w4 ⟨rfl, q, hq⟩; have HB4 := Lib.hid (show Below w.heap.size w w4 by rw [hq]; exact below_drewN HB3.out q); clear hq H3)
        | (go_at_call 21; (with_reducible refine (H4.out _ HB4.out).mono ?_); rintro e w5 ⟨v5, rfl, hr, hb⟩; have HB5 := Lib.hid (HB4.out.trans (hb.mono HB4.out.size)); have HR5 := Lib.hid (own_lower hr HB4.out.size); clear hb hr H4))
      refine bodyPost_ret (v := .tuple #[v5, .slice none 0 0, .int .i64 0]) (by simp [results, Try.results10, go_sem]) rfl ?_
      rw [HEE.out]
      exact ⟨_, _, rfl, by dsimp only; rw [HNO.out]; exact HR5.out, World.ownsRow_nil _ _ _ _, HB5.out⟩
    · by_cases hs2 : O = B
      · have HEE : Hid (LL = (T, [], 0)) := Lib.hid (by rw [HE.out, if_neg hs1, if_pos hs2])
        have hsv : setV B O T (.slice oO nO cO) (.slice oT nT cT) = .tuple #[.slice oT nT cT, .bool true] := by unfold setV; rw [if_neg hs1, if_pos hs2]
        rw [hsv] at H3
        clear hsv hs1 hs2
        go_enter Try.func10, Try.ntmps10
        go_wp2_with (first
          | (go_at_call 17; (with_reducible refine H1.out.mono ?_); rintro e w2 ⟨rfl, hb⟩; have HB2 := Lib.hid hb; clear hb H1)
          | (go_at_call 17; (with_reducible refine (H2.out _ HB2.out).mono ?_); rintro e w3 ⟨rfl, hb⟩; have HB3 := Lib.hid (HB2.out.trans (hb.mono HB2.out.size)); clear hb H2)
          | (go_at_call 20; (with_reducible refine (H3.out _ HB3.out).mono ?_); rintro e w4 ⟨rfl, q, hq⟩; have HB4 := Lib.hid (show Below w.heap.size w w4 by rw [hq]; exact below_drewN HB3.out q); clear hq H3)
          | (go_at_call 21; (with_reducible refine (H5.out _ HB4.out).mono ?_); rintro e w5 ⟨v5, rfl, hr, hb⟩; have HB5 := Lib.hid (HB4.out.trans (hb.mono HB4.out.size)); have HR5 := Lib.hid (own_lower hr HB4.out.size); clear hb hr H5))
        refine bodyPost_ret (v := .tuple #[v5, .slice none 0 0, .int .i64 0]) (by simp [results, Try.results10, go_sem]) rfl ?_
        rw [HEE.out]
        exact ⟨_, _, rfl, by dsimp only; rw [HNT.out]; exact HR5.out, World.ownsRow_nil _ _ _ _, HB5.out⟩
      · have HEE : Hid (LL = ((wv (stayL B T O) (stayL B O T)).1, (wv (stayL B T O) (stayL B O T)).2, 0)) := Lib.hid (by rw [HE.out, if_neg hs1, if_neg hs2])
        have hsv : setV B O T (.slice oO nO cO) (.slice oT nT cT) = .tuple #[.slice none 0 0, .bool false] := by unfold setV; rw [if_neg hs1, if_neg hs2]
        rw [hsv] at H3
        clear hsv hs1 hs2
        go_enter Try.func10, Try.ntmps10
        go_wp2_with (first
          | (go_at_call 17; (with_reducible refine H1.out.mono ?_); rintro e w2 ⟨rfl, hb⟩; have HB2 := Lib.hid hb; clear hb H1)
          | (go_at_call 17; (with_reducible refine (H2.out _ HB2.out).mono ?_); rintro e w3 ⟨rfl, hb⟩; have HB3 := Lib.hid (HB2.out.trans (hb.mono HB2.out.size)); clear hb H2)
          | (go_at_call 20; (with_reducible refine (H3.out _ HB3.out).mono ?_); rintro e w4 ⟨rfl, q, hq⟩; have HB4 := Lib.hid (show Below w.heap.size w w4 by rw [hq]; exact below_drewN HB3.out q); clear hq H3)
          | (go_at_call 23; (with_reducible refine (H6.out _ HB4.out).mono ?_); rintro e w5 ⟨p1, x1, p2, x2, rfl, t1, t2, l1, l2, hb⟩; have HB5 := Lib.hid (HB4.out.trans (hb.mono HB4.out.size)); have HWV := Lib.hid (woven_any p1 p2 (stayL B T O) (stayL B O T) x1 x2 w5 (Nat.le_trans HX.out (by omega)) (Nat.le_trans HY.out (by omega)) l1 l2 t1 t2 (Nodup.keep HND.out.2.1) (Nodup.keep HND.out.2.2)); clear hb t1 t2 l1 l2 H6)
          | (go_at_call 22; (with_reducible refine HWV.out.mono ?_); rintro e w6 ⟨v1, v2, rfl, r1, r2, hb⟩; have HB6 := Lib.hid (HB5.out.trans (hb.mono HB5.out.size)); have HR1 := Lib.hid (own_lower r1 HB5.out.size); have HR2 := Lib.hid (own_lower r2 HB5.out.size); clear hb r1 r2 HWV))
        refine bodyPost_ret (v := .tuple #[v1, v2, .int .i64 0]) (by simp [results, Try.results10, go_sem]) rfl ?_
        rw [HEE.out]
        exact ⟨_, _, rfl, HR1.out, HR2.out, HB6.out⟩
end Go.Proofs.Ytjdlpcokjcmapaa
