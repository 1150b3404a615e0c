/- Three lists: the law on sides in the other order. -/
import Derived.Test.YtjdlpcokjcmapaaBq
set_option linter.unusedVariables false
set_option linter.unusedSimpArgs false
namespace Go.Proofs.Ytjdlpcokjcmapaa
open Go.RowKit Go.Maps Go.WideShapes
variable {w w' : World}

set_option maxHeartbeats 1000000 in
set_option maxRecDepth 100000 in
theorem place_any (o : Option Addr) (l : List ByteArray) (c : Nat) (s : ByteArray) (w : World) (hl : l.length ≤ maxLen) (h : TxAt w o l) :
    Calls Try.prog 16 #[.slice o l.length c, .string s] w fun e w' => (∃ x : Int, e = .returned (.int .i64 x) ∧ decide (x < 0) = !inB l s) ∧ w' = w := by
  obtain ⟨n, hn⟩ : ∃ n, l.length = n := ⟨_, rfl⟩
  have HN := Lib.hid hn; have HL := Lib.hid h
  rw [hn] at hl ⊢
  unfold maxLen at hl
  clear hn h
  go_enter Try.func16, Try.ntmps16
  go_wp2_with fail
  go_loopw [5] (fun i wr => ∃ k : Nat, k ≤ n ∧ i = .int .i64 k ∧ inB (l.take k) s = false ∧ wr = w) (fun i _ => n - (intOf i).toNat)
  case atStart => exact ⟨0, Nat.zero_le _, rfl, rfl, rfl⟩
  case round =>
    obtain ⟨k, hk, rfl, hT, rfl⟩ := hrel
    have HT := Lib.hid hT
    clear hT
    by_cases hlt : k < n
    · obtain ⟨x, hx⟩ : ∃ p, l[k]? = some p := ⟨_, List.getElem?_eq_getElem (by rw [HN.out]; omega)⟩
      obtain ⟨_, b0, i0, ho, c0⟩ := tx_at HL.out hx
      subst ho
      have HX := Lib.hid hx
      have hki : (k : Int) < n := by omega
      clear hx
      by_cases he : x = s
      · subst he
        have HE := Lib.hid (in_take HX.out)
        go_wp2_with fail
        go_ret
        exact ⟨⟨k, rfl, by rw [HE.out]; simp⟩, rfl⟩
      · have hne : (x.toList == s.toList) = false := by rw [beq_eq_false_iff_ne]; exact fun e => he (toL_inj e)
        have HE : Hid (decide (x = s) = false) := Lib.hid (decide_eq_false he)
        clear he
        go_wp2_with fail
        go_roundw
        case rel => exact ⟨k + 1, hlt, by go_num, by rw [take_get HX.out, inB_snoc, HT.out, HE.out]; rfl, by first | trivial | rfl⟩
        case measure => simp [intOf]; omega
    · obtain rfl : k = n := by omega
      have HE : Hid (inB l s = false) := Lib.hid (by
        have h := HT.out
        rw [List.take_of_length_le (by rw [HN.out]; exact Nat.le_refl _)] at h; exact h)
      go_wp2_with fail
      go_ret
      exact ⟨⟨-1, rfl, by rw [HE.out]; simp⟩, rfl⟩
theorem set_mem {l : List ByteArray} {s : ByteArray} (h : s ∈ setL l) : s ∈ l := by
  rw [← in_iff, set_in, in_iff] at h; exact h
def OcS (l : List ByteArray) (w0 : World) (v i : Value) (wr : World) : Prop :=
  ∃ k : Nat, k ≤ l.length ∧ k ≤ 30 ∧ i = .int .i64 k ∧ wr.ownsRow w0.heap.size 9 1 v (setL (l.take k)).length (strV (setL (l.take k))) ∧ Below w0.heap.size w0 wr
set_option maxHeartbeats 4000000 in
set_option maxRecDepth 100000 in
theorem once_any (o : Option Addr) (l : List ByteArray) (c : Nat) (w : World) (hl : l.length ≤ maxLen) (h : TxAt w o l) :
    Calls Try.prog 15 #[.slice o l.length c] w fun e w' => ∃ v, e = .returned v ∧ w'.ownsRow w.heap.size 9 1 v (setL (l.take 30)).length (strV (setL (l.take 30))) ∧ Below w.heap.size w w' := by
  obtain ⟨i1, hi1, hz0, hz1, hz2⟩ := info_parts info_s
  have HI1 := Lib.hid hi1; have HZ0 := Lib.hid hz0; have HZ1 := Lib.hid hz1; have HZ2 := Lib.hid hz2
  obtain ⟨n, hn⟩ : ∃ n, l.length = n := ⟨_, rfl⟩
  have HN := Lib.hid hn; have HL := Lib.hid h
  rw [hn] at hl ⊢
  unfold maxLen at hl
  have H0 : Hid (OcS l w (.slice none 0 0) (.int .i64 0) w) := Lib.hid ⟨0, Nat.zero_le _, Nat.zero_le _, rfl, World.ownsRow_nil _ _ _ _, Below.refl _ _⟩
  clear hi1 hz0 hz1 hz2 hn h
  go_enter Try.func15, Try.ntmps15
  go_wp2_with fail
  go_loopw [3, 4] (fun v i wr => OcS l w v i wr) (fun _ i _ => n - (intOf i).toNat)
  case atStart => exact H0.out
  case round =>
    obtain ⟨k, hk, hk30, rfl, hrow, hb⟩ := hrel
    rw [HN.out] at hk
    have hol : (setL (l.take k)).length ≤ 30 := Nat.le_trans (set_len _) (by rw [List.length_take]; omega)
    have HROW := Lib.hid hrow; have HBB := Lib.hid hb
    clear hrow hb H0
    by_cases hlt : k < n ∧ k < 30
    · obtain ⟨hl1, hl2⟩ := hlt
      obtain ⟨s, hs⟩ : ∃ s, l[k]? = some s := ⟨_, List.getElem?_eq_getElem (by rw [HN.out]; exact hl1)⟩
      obtain ⟨hss, b0, i0, ho, c0⟩ := tx_at (HL.out.below HBB.out) hs
      subst ho
      obtain ⟨a, d, rfl, ht, _⟩ := own_texts HROW.out (fun s hs => tx_small HL.out s (List.mem_of_mem_take (set_mem hs)))
      have hP := place_any a (setL (l.take k)) d s wr (by unfold maxLen; omega) ht
      have hset : setL (l.take (k + 1)) = numK (setL (l.take k)) s := by rw [take_get hs, setL_snoc]
      obtain ⟨K, hK⟩ : ∃ K, setL (l.take k) = K := ⟨_, rfl⟩
      rw [hK] at hP HROW hset hol ⊢
      obtain ⟨m, hm⟩ : ∃ m, K.length = m := ⟨_, rfl⟩
      rw [hm] at hP HROW hol ⊢
      obtain ⟨y, hy⟩ : ∃ y, inB K s = y := ⟨_, rfl⟩
      rw [hy] at hP
      have HP := Lib.hid hP; have HS := Lib.hid hset; have HM := Lib.hid hm; have HY := Lib.hid hy
      have hki : (k : Int) < n := by omega
      have hki2 : (k : Int) < 30 := by omega
      have HLT := Lib.hid hl1; have HL30 := Lib.hid hl2
      clear hs ht hP hset hK hm hy hl1 hl2 hss
      cases y with
      | true =>
        have HK2 : Hid (setL (l.take (k + 1)) = K) := Lib.hid (by rw [HS.out]; unfold numK; rw [HY.out]; rfl)
        go_wp2_with (go_at_call 16; (with_reducible refine HP.out.mono ?_); rintro e w2 ⟨⟨x, rfl, hx⟩, rfl⟩; have hxn : ¬ (x < 0) := (by simpa using hx); clear hx)
        go_roundw
        case rel => exact ⟨k + 1, by rw [HN.out]; exact HLT.out, HL30.out, by go_num, by rw [HK2.out, HM.out]; exact HROW.out, HBB.out⟩
        case measure => simp [intOf]; have := HLT.out; omega
      | false =>
        have HK2 : Hid (setL (l.take (k + 1)) = K ++ [s]) := Lib.hid (by rw [HS.out]; unfold numK; rw [HY.out]; rfl)
        go_wp2_with (first
          | (go_at_call 16; (with_reducible refine HP.out.mono ?_); rintro e w2 ⟨⟨x, rfl, hx⟩, hw2⟩; (obtain rfl : w2 = wr := hw2); have hxn : x < 0 := (by simpa using hx); clear hx)
          | (at_builtin; (refine wpList_append_own _ rfl _ _ 22 rfl w.heap.size 9 i1 (.string ⟨#[]⟩) 1 16 Try.underlying22 HI1.out HZ0.out HZ1.out HZ2.out rfl (by decide) _ _ _ rfl (HROW.out.alloc _) ⟨w2.heap.size, 0, none⟩ 1 1 [.string s] rfl rfl (by simpa using cell_one_new w2 9 (.string s)) one_memS (by unfold maxLen; omega) (by omega) (by have := HBB.out.size; simp; omega) ?_); intro v' w3 hown hgrow _; have HO := Lib.hid hown; have HG := Lib.hid hgrow; clear hown hgrow))
        go_roundw
        case rel => exact ⟨k + 1, by rw [HN.out]; exact HLT.out, HL30.out, by go_num, by
          rw [HK2.out, List.length_append, HM.out]
          have e : strV (K ++ [s]) = strV K ++ [.string s] := by unfold strV; rw [List.map_append]; rfl
          rw [e]; exact HO.out, (HBB.out.alloc HBB.out.size _).grown HG.out (by have := HBB.out.size; simp; omega) (own_base HROW.out)⟩
        case measure => simp [intOf]; have := HLT.out; omega
    · have HE : Hid (setL (l.take k) = setL (l.take 30)) := Lib.hid (by
        congr 1
        by_cases h1 : k = 30
        · rw [h1]
        · rw [List.take_of_length_le (by rw [HN.out]; omega), List.take_of_length_le (by rw [HN.out]; omega)])
      rcases (show (¬ ((k : Int) < n)) ∨ ((k : Int) < n ∧ ¬ ((k : Int) < 30)) by omega) with hx | ⟨hx, hx2⟩
      · go_wp2_with fail
        go_ret
        exact ⟨_, rfl, by rw [← HE.out]; exact HROW.out, HBB.out⟩
      · go_wp2_with fail
        go_ret
        exact ⟨_, rfl, by rw [← HE.out]; exact HROW.out, HBB.out⟩
theorem once_at (o : Option Addr) (l : List ByteArray) (c : Nat) (w : World) (hl : l.length ≤ maxLen) (h : TxAt w o l) :
    Calls Try.prog 15 #[.slice o l.length c] w fun e w' => ∃ a d, e = .returned (.slice a (setL (l.take 30)).length d) ∧ TxAt w' a (setL (l.take 30)) ∧ Below w.heap.size w w' := by
  refine (once_any o l c w hl h).mono ?_
  rintro e w' ⟨v, rfl, hr, hb⟩
  obtain ⟨a, d, rfl, ht, _⟩ := own_texts hr (fun s hs => tx_small h s (List.mem_of_mem_take (set_mem hs)))
  exact ⟨a, d, rfl, ht, hb⟩
theorem lists_mem {B O T : List ByteArray} (hB : B.Nodup) (hO : O.Nodup) (hT : T.Nodup) {s : ByteArray} (h : s ∈ (listsL B O T).1) : s ∈ O ∨ s ∈ T := by
  rw [lists_ok hB hO hT] at h
  split at h
  · exact Or.inl h
  · split at h
    · exact Or.inr h
    · by_cases h0 : (wv (stayL B T O) (stayL B O T)).2 = []
      · exact ((wv_mem _ _ _ (Nat.le_refl _) h0 s).1 h).imp stay_mem stay_mem
      · have h1 := (wv_two _ _ _ (Nat.le_refl _) h0).1
        rw [show (wv (stayL B T O) (stayL B O T), (0 : Int)).1.1 = [] from h1] at h
        cases h
theorem wv_len : ∀ (n : Nat) (x y : List ByteArray), x.length + y.length ≤ n → (wv x y).1.length ≤ x.length + y.length ∧ (wv x y).2.length ≤ 2 := by
  intro n
  induction n with
  | zero =>
    intro x y hl
    cases x with
    | nil => rw [wv_nil]; simp
    | cons a x => simp at hl
  | succ n ih =>
    intro x y hl
    have hcons : ∀ c r m, r.1.length ≤ m ∧ r.2.length ≤ 2 → (consW c r).1.length ≤ m + 1 ∧ (consW c r).2.length ≤ 2 := fun c r m h => by
      unfold consW
      by_cases h3 : r.2 = []
      · rw [if_pos h3]; exact ⟨by simp; exact h.1, by simp⟩
      · rw [if_neg h3]; exact ⟨by omega, h.2⟩
    cases x with
    | nil => rw [wv_nil]; simp
    | cons a x =>
      cases y with
      | nil => rw [wv_nil2]; simp
      | cons b y =>
        simp at hl
        by_cases e : a = b
        · subst e; rw [wv_both]; have h := hcons a _ _ (ih x y (by omega)); exact ⟨by simp; omega, h.2⟩
        · cases h2 : inB (b :: y) a with
          | false => rw [wv_left e h2]; have h := hcons a _ _ (ih x (b :: y) (by simp; omega)); exact ⟨by have := h.1; simp at this ⊢; omega, h.2⟩
          | true =>
            cases h3 : inB (a :: x) b with
            | false => rw [wv_right e h2 h3]; have h := hcons b _ _ (ih (a :: x) y (by simp; omega)); exact ⟨by have := h.1; simp at this ⊢; omega, h.2⟩
            | true => rw [wv_cross e h2 h3]; simp
theorem lists_len {B O T : List ByteArray} (hB : B.Nodup) (hO : O.Nodup) (hT : T.Nodup) : (listsL B O T).1.length ≤ O.length + T.length ∧ (listsL B O T).2.1.length ≤ 2 := by
  rw [lists_ok hB hO hT]
  split
  · simp
  · split
    · simp
    · have h := wv_len _ (stayL B T O) (stayL B O T) (Nat.le_refl _)
      have h1 := stay_len B T O; have h2 := stay_len B O T
      exact ⟨by dsimp only; omega, h.2⟩
theorem Lists_at (oB oO oT : Option Addr) (B O T : List ByteArray) (cB cO cT : Nat) (w : World) (hlB : B.length ≤ 4096) (hlO : O.length ≤ 4096) (hlT : T.length ≤ 4096) (hB : TxAt w oB B) (hO : TxAt w oO O) (hT : TxAt w oT T) (dB : B.Nodup) (dO : O.Nodup) (dT : T.Nodup) :
    Calls Try.prog 10 #[.slice oB B.length cB, .slice oO O.length cO, .slice oT T.length cT] w fun e w' => ∃ a c d f, e = .returned (.tuple #[.slice a (listsL B O T).1.length c, .slice d (listsL B O T).2.1.length f, .int .i64 (listsL B O T).2.2]) ∧ TxAt w' a (listsL B O T).1 ∧ Below w.heap.size w w' := by
  refine (Lists_any oB oO oT B O T cB cO cT w hlB hlO hlT hB hO hT).mono ?_
  rintro e w' ⟨v1, v2, rfl, r1, r2, hb⟩
  obtain ⟨a, c, rfl, ht, _⟩ := own_texts r1 (fun s hs => (lists_mem dB dO dT hs).elim (tx_small hO s) (tx_small hT s))
  obtain ⟨d, f, rfl, _⟩ := own_at r2
  exact ⟨a, c, d, f, rfl, ht, hb⟩
set_option maxHeartbeats 8000000 in
set_option maxRecDepth 100000 in
theorem LTurned_any (o1 : Option Addr) (l1 : List ByteArray) (c1 : Nat) (o2 : Option Addr) (l2 : List ByteArray) (c2 : Nat) (o3 : Option Addr) (l3 : List ByteArray) (c3 : Nat) (w : World) (hl1 : l1.length ≤ maxLen) (hc1 : l1.length ≤ c1) (h1 : TxAt w o1 l1) (hl2 : l2.length ≤ maxLen) (hc2 : l2.length ≤ c2) (h2 : TxAt w o2 l2) (hl3 : l3.length ≤ maxLen) (hc3 : l3.length ≤ c3) (h3 : TxAt w o3 l3) :
    Calls Try.prog 7 #[.slice o1 l1.length c1, .slice o2 l2.length c2, .slice o3 l3.length c3] w fun e w' => e = .returned (.bool true) ∧ Below w.heap.size w w' := by
  have HSP := Lib.hid (fun W => speaks_any W)
  have hI1 := fun (W : World) (hW : Below w.heap.size w W) => once_at o1 l1 c1 W hl1 (h1.below hW)
  have hI2 := fun (W : World) (hW : Below w.heap.size w W) => once_at o2 l2 c2 W hl2 (h2.below hW)
  have hI3 := fun (W : World) (hW : Below w.heap.size w W) => once_at o3 l3 c3 W hl3 (h3.below hW)
  have ht : ∀ l : List ByteArray, (setL (l.take 30)).length ≤ 30 := fun l => Nat.le_trans (set_len _) (by rw [List.length_take]; exact Nat.min_le_left _ _)
  have hB := ht l1; have hO := ht l2; have hT := ht l3
  have eB := set_once (l1.take 30); have eO := set_once (l2.take 30); have eT := set_once (l3.take 30)
  obtain ⟨B, hBe⟩ : ∃ L, setL (l1.take 30) = L := ⟨_, rfl⟩
  obtain ⟨O, hOe⟩ : ∃ L, setL (l2.take 30) = L := ⟨_, rfl⟩
  obtain ⟨T, hTe⟩ : ∃ L, setL (l3.take 30) = L := ⟨_, rfl⟩
  rw [hBe] at hI1 hB eB; rw [hOe] at hI2 hO eO; rw [hTe] at hI3 hT eT
  obtain ⟨nB, hnB⟩ : ∃ n, B.length = n := ⟨_, rfl⟩
  obtain ⟨nO, hnO⟩ : ∃ n, O.length = n := ⟨_, rfl⟩
  obtain ⟨nT, hnT⟩ : ∃ n, T.length = n := ⟨_, rfl⟩
  obtain ⟨m1, hm1⟩ : ∃ n, l1.length = n := ⟨_, rfl⟩
  obtain ⟨m2, hm2⟩ : ∃ n, l2.length = n := ⟨_, rfl⟩
  obtain ⟨m3, hm3⟩ : ∃ n, l3.length = n := ⟨_, rfl⟩
  rw [hnB] at hI1 hB; rw [hnO] at hI2 hO; rw [hnT] at hI3 hT
  rw [hm1] at hI1; rw [hm2] at hI2; rw [hm3] at hI3
  rw [hm1, hm2, hm3]
  have HNB := Lib.hid hnB; have HNO := Lib.hid hnO; have HNT := Lib.hid hnT
  have HI1 := Lib.hid hI1; have HI2 := Lib.hid hI2; have HI3 := Lib.hid hI3
  have EB := Lib.hid eB; have EO := Lib.hid eO; have ET := Lib.hid eT
  clear hI1 hI2 hI3 hnB hnO hnT hm1 hm2 hm3 hBe hOe hTe ht hl1 hc1 h1 hl2 hc2 h2 hl3 hc3 h3 eB eO eT
  have F1 : Hid (1 = 1) := Lib.hid rfl
  have F2 : Hid (1 = 1) := Lib.hid rfl
  go_enter Try.func7, Try.ntmps7
  go_upto_region 4 with (first
    | (go_at_call 8; refine (HSP.out _).mono ?_; rintro e w1 ⟨rfl, hb1⟩; have HB1 := Lib.hid hb1; clear hb1 HSP)
    | (clear F1; go_at_call 15; (with_reducible refine (HI1.out _ HB1.out).mono ?_); rintro e w2 ⟨aB, dB, rfl, tB, hb2⟩; have HB2 := Lib.hid (HB1.out.trans (hb2.mono HB1.out.size)); have HTB := Lib.hid tB; clear tB hb2 HI1)
    | (clear F2; go_at_call 15; (with_reducible refine (HI2.out _ HB2.out).mono ?_); rintro e w3 ⟨aO, dO, rfl, tO, hb3⟩; have HB3 := Lib.hid (HB2.out.trans (hb3.mono HB2.out.size)); have HTO := Lib.hid tO; have HTB3 := Lib.hid (HTB.out.below hb3); clear tO hb3 HI2)
    | (go_at_call 15; (with_reducible refine (HI3.out _ HB3.out).mono ?_); rintro e w4 ⟨aT, dT, rfl, tT, hb4⟩; have HB4 := Lib.hid (HB3.out.trans (hb4.mono HB3.out.size)); have HTT := Lib.hid tT; have HTB4 := Lib.hid (HTB3.out.below hb4); have HTO4 := Lib.hid (HTO.out.below hb4); clear tT hb4 HI3))
  clear HTB HTB3 HTO HB1 HB2 HB3
  have hQ1 := Lists_at aB aO aT B O T dB dO dT w4 (by rw [HNB.out]; omega) (by rw [HNO.out]; omega) (by rw [HNT.out]; omega) HTB4.out HTO4.out HTT.out EB.out EO.out ET.out
  have hQ2 := fun W (hW : Below w4.heap.size w4 W) => Lists_at aB aT aO B T O dB dT dO W (by rw [HNB.out]; omega) (by rw [HNT.out]; omega) (by rw [HNO.out]; omega) (HTB4.out.below hW) (HTT.out.below hW) (HTO4.out.below hW) EB.out ET.out EO.out
  obtain ⟨z1, z2, z3, z4, z5⟩ := lists_turn EB.out EO.out ET.out
  have hln := lists_len EB.out EO.out ET.out
  obtain ⟨⟨m, c⟩, hmc⟩ : ∃ r : List ByteArray × List ByteArray, ((listsL B O T).1, (listsL B O T).2.1) = r := ⟨_, rfl⟩
  obtain ⟨⟨m', c'⟩, hmc'⟩ : ∃ r : List ByteArray × List ByteArray, ((listsL B T O).1, (listsL B T O).2.1) = r := ⟨_, rfl⟩
  injection hmc with e1 e2
  injection hmc' with e3 e4
  rw [z1, e1, e2] at hQ1
  rw [z2, e3, e4] at hQ2
  rw [e1, e3] at z3 z5
  rw [e2, e4] at z4
  rw [e1, e2] at hln
  obtain ⟨nm, hnm⟩ : ∃ n, m.length = n := ⟨_, rfl⟩
  obtain ⟨nc, hnc⟩ : ∃ n, c.length = n := ⟨_, rfl⟩
  rw [hnm] at hQ1 z3 hln
  rw [hnc] at hQ1 z4 hln
  rw [← z3, ← z4] at hQ2
  rw [HNB.out, HNO.out, HNT.out] at hQ1
  rw [HNB.out, HNO.out, HNT.out] at hQ2
  rw [HNO.out, HNT.out] at hln
  have K1 := Lib.hid hQ1; have K2 := Lib.hid hQ2; have Z5 := Lib.hid z5; have HNM := Lib.hid hnm; have Z3 := Lib.hid z3
  clear hQ1 hQ2 z1 z2 z3 z4 z5 e1 e2 e3 e4 hnm hnc
  go_upto_region 5 with (go_at_call 10; (with_reducible refine K1.out.mono ?_); rintro e w5 ⟨p1, r1, s1, v1, rfl, t1, hb5⟩; have G5 := Lib.hid hb5; have T1 := Lib.hid t1; clear t1 hb5 K1)
  go_upto_region 6 with (go_at_call 10; (with_reducible refine (K2.out _ G5.out).mono ?_); rintro e w6 ⟨p2, r2, s2, v2, rfl, t2, hb6⟩; have G6 := Lib.hid (G5.out.trans (hb6.mono G5.out.size)); have T2 := Lib.hid t2; have T16 := Lib.hid (T1.out.below hb6); clear t2 hb6 K2)
  have HB6 := Lib.hid (HB4.out.trans (G6.out.mono HB4.out.size))
  have hmm : nm ≤ 100 := by omega
  go_wp2_with fail
  go_loopw [13] (fun i wr => ∃ k : Nat, k ≤ nm ∧ i = .int .i64 k ∧ wr = w6) (fun i _ => nm - (intOf i).toNat)
  case atStart => exact ⟨0, Nat.zero_le _, rfl, rfl⟩
  case round =>
    obtain ⟨k, hk, rfl, hw⟩ := hrel
    have hw2 := hw.symm
    subst hw2
    by_cases hlt : k < nm
    · obtain ⟨s, hs⟩ : ∃ s, m[k]? = some s := ⟨_, List.getElem?_eq_getElem (by rw [HNM.out]; exact hlt)⟩
      obtain ⟨_, b0, i0, ho, c0⟩ := tx_at T16.out hs
      subst ho
      have hP := place_any p2 m' r2 s w6 (by rw [← Z3.out]; unfold maxLen; omega) T2.out
      rw [(in_iff m' s).2 (Z5.out s (List.mem_of_getElem? hs)), ← Z3.out] at hP
      have HP := Lib.hid hP
      have hki : (k : Int) < nm := by omega
      have HLT := Lib.hid hlt
      clear hs hP hlt
      go_wp2_with (go_at_call 16; (with_reducible refine HP.out.mono ?_); rintro e w7 ⟨⟨x, rfl, hx⟩, hw7⟩; (obtain rfl : w7 = w6 := hw7); have hxn : ¬ (x < 0) := (by simpa using hx); clear hx)
      go_roundw
      case rel => exact ⟨k + 1, HLT.out, by go_num, by first | trivial | rfl⟩
      case measure => simp [intOf]; have := HLT.out; omega
    · obtain rfl : k = nm := by omega
      go_wp2_with fail
      go_ret
      exact ⟨rfl, HB6.out⟩
end Go.Proofs.Ytjdlpcokjcmapaa
