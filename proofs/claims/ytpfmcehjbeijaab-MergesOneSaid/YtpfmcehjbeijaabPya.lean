/- Merges: one pair of single bytes. -/
import Derived.Test.YtpfmcehjbeijaabPy
namespace Go.Proofs.Ytpfmcehjbeijaab
open Go.RowKit
variable {w w' : World}

def bytesL (bs : List UInt8) : List ByteArray := bs.map fun b => ⟨#[b]⟩
theorem byte_inj {a b : UInt8} (h : (⟨#[a]⟩ : ByteArray) = ⟨#[b]⟩) : a = b := by injection h with h; injection h with h; injection h
theorem one_two (a b : UInt8) (r : List UInt8) : mergeL ⟨#[a]⟩ ⟨#[b]⟩ (bytesL (a :: b :: r)) = ⟨#[a, b]⟩ :: mergeL ⟨#[a]⟩ ⟨#[b]⟩ (bytesL r) := by
  show mergeL _ _ (⟨#[a]⟩ :: ⟨#[b]⟩ :: bytesL r) = _
  conv => lhs; unfold mergeL
  rw [if_pos ⟨rfl, rfl⟩]
  rfl
theorem one_one (a b x : UInt8) (r : List UInt8) (h : ¬ (x = a ∧ r.head? = some b)) : mergeL ⟨#[a]⟩ ⟨#[b]⟩ (bytesL (x :: r)) = ⟨#[x]⟩ :: mergeL ⟨#[a]⟩ ⟨#[b]⟩ (bytesL r) := by
  cases r with
  | nil => rfl
  | cons y r =>
    show mergeL _ _ (⟨#[x]⟩ :: ⟨#[y]⟩ :: bytesL r) = _
    conv => lhs; unfold mergeL
    rw [if_neg (fun e => h ⟨byte_inj e.1, by rw [byte_inj e.2]; rfl⟩)]
    rfl
theorem toL_len (s : ByteArray) : s.data.toList.length = s.size := Array.length_toList
theorem toL_drop {s : ByteArray} {c : Nat} (h : c < s.size) : s.data.toList.drop c = s[c] :: s.data.toList.drop (c + 1) := by
  rw [List.drop_eq_getElem_cons (by rw [toL_len]; exact h)]; rfl
theorem bytesB_at {word : ByteArray} {k : Nat} (h : k < word.size) : (bytesB word)[k]? = some (word.extract k (k + 1)) := by
  unfold bytesB
  rw [List.getElem?_map, List.getElem?_eq_getElem (by rw [size_len]; exact h)]
  have : word.extract k (k + 1) = ⟨#[word[k]]⟩ := by
    apply ByteArray.ext
    rw [ByteArray.data_extract]
    apply Array.ext'
    rw [Array.toList_extract, List.extract_eq_take_drop, drop_at word k h, show k + 1 - k = 1 by omega]
    rfl
  rw [this]; rfl
theorem ext_one {s : ByteArray} {c : Nat} (h : c < s.size) : s.extract c (c + 1) = ⟨#[s[c]]⟩ := by
  have h1 := bytesB_at (word := s) h
  unfold bytesB at h1
  rw [List.getElem?_map, List.getElem?_eq_getElem (by rw [toL_len]; exact h)] at h1
  have := Option.some.inj h1
  rw [← this]; rfl
theorem ext_two {s : ByteArray} {c : Nat} (h : c + 1 < s.size) : s.extract c (c + 2) = ⟨#[s[c], s[c + 1]]⟩ := by
  have e : s.extract c (c + 2) = s.extract c (c + 1) ++ s.extract (c + 1) (c + 2) := by
    apply ByteArray.ext
    simp
  rw [e, ext_one (by omega), ext_one h]; rfl
def TwoAt (s : ByteArray) (a b : UInt8) (c : Nat) : Prop := ∃ (h1 : c < s.size) (h2 : c + 1 < s.size), s[c] = a ∧ s[c + 1] = b
theorem one_step {s : ByteArray} {a b : UInt8} {P : List ByteArray} {k c : Nat} (hd : P.drop k = mergeL ⟨#[a]⟩ ⟨#[b]⟩ (bytesL (s.data.toList.drop c))) (hk : k < P.length) :
    c < s.size ∧ (TwoAt s a b c → P[k]? = some (s.extract c (c + 2)) ∧ P.drop (k + 1) = mergeL ⟨#[a]⟩ ⟨#[b]⟩ (bytesL (s.data.toList.drop (c + 2)))) ∧ (¬ TwoAt s a b c → P[k]? = some (s.extract c (c + 1)) ∧ P.drop (k + 1) = mergeL ⟨#[a]⟩ ⟨#[b]⟩ (bytesL (s.data.toList.drop (c + 1)))) := by
  have hc : c < s.size := by
    rcases Nat.lt_or_ge c s.size with h | h
    · exact h
    · rw [List.drop_of_length_le (l := s.data.toList) (by rw [toL_len]; exact h), List.drop_eq_getElem_cons hk] at hd
      cases hd
  rw [List.drop_eq_getElem_cons hk, toL_drop hc] at hd
  refine ⟨hc, fun ⟨h1, h2, e1, e2⟩ => ?_, fun hn => ?_⟩
  · rw [toL_drop h2, e1, e2, one_two] at hd
    injection hd with h3 h4
    exact ⟨by rw [List.getElem?_eq_getElem hk, h3, ext_two h2, e1, e2], h4⟩
  · rw [one_one a b _ _ (fun ⟨e1, e2⟩ => hn (by
      rcases Nat.lt_or_ge (c + 1) s.size with h | h
      · rw [toL_drop h] at e2
        exact ⟨hc, h, e1, Option.some.inj e2⟩
      · rw [List.drop_of_length_le (by rw [toL_len]; exact h)] at e2; cases e2))] at hd
    injection hd with h3 h4
    exact ⟨by rw [List.getElem?_eq_getElem hk, h3, ext_one hc], h4⟩
theorem one_end {s : ByteArray} {a b : UInt8} {P : List ByteArray} {k c : Nat} (hd : P.drop k = mergeL ⟨#[a]⟩ ⟨#[b]⟩ (bytesL (s.data.toList.drop c))) (hk : P.length ≤ k) (hc : c ≤ s.size) : c = s.size := by
  rcases Nat.lt_or_ge c s.size with h | h
  · rw [List.drop_of_length_le hk, toL_drop h] at hd
    by_cases ht : s[c] = a ∧ (s.data.toList.drop (c + 1)).head? = some b
    · cases hr : s.data.toList.drop (c + 1) with
      | nil => rw [hr] at ht; cases ht.2
      | cons y r => rw [hr] at ht hd; rw [ht.1, Option.some.inj ht.2, one_two] at hd; cases hd
    · rw [one_one a b _ _ ht] at hd; cases hd
  · omega
theorem splitN_le (l : List PairB) : ∀ (k : Nat) (P : List ByteArray), (splitN k l P).length ≤ P.length
  | 0, P => Nat.le_refl _
  | k + 1, P => by
    unfold splitN
    split
    · exact Nat.le_refl _
    · exact Nat.le_trans (splitN_le l k _) (mergeL_le _ _ P)
theorem splitP_len (l : List PairB) (s : ByteArray) : (splitP l s).length ≤ 4096 := by
  unfold splitP
  split
  · simp
  · have := splitN_le l s.size (bytesB s)
    rw [bytesB_length] at this
    unfold splitB
    omega
def OnS (s : ByteArray) (a b : UInt8) (P : List ByteArray) (w : World) (t i : Value) (wr : World) : Prop :=
  ∃ k c : Nat, k ≤ P.length ∧ c ≤ s.size ∧ i = .int .i64 k ∧ t = .int .i64 c ∧ P.drop k = mergeL ⟨#[a]⟩ ⟨#[b]⟩ (bytesL (s.data.toList.drop c)) ∧ Below w.heap.size w wr
theorem conv_one (W : World) (b : Nat) (x : UInt8) (hb : b = W.heap.size) : (convert 25 9 (.slice (some ⟨b, 0, none⟩) 1 1)).run Try.prog (W.alloc (.cells #[.int .u8 (x.toNat : Int)] 5)) = .ok (.string ⟨#[x]⟩) (W.alloc (.cells #[.int .u8 (x.toNat : Int)] 5)) := by
  subst hb
  have e : strOfNums [(x.toNat : Int)] = ⟨#[x]⟩ := by simp [strOfNums]
  rw [← e]
  refine run_convert_bytes_arg (P := Try.prog) _ 25 5 Try.underlying25 Try.underlying5 W.heap.size 0 1 1 [(x.toNat : Int)] rfl (fun i hi => ?_) 9 Try.underlying9
  obtain rfl : i = 0 := by omega
  rw [cell_of_row (World.alloc_heap_new W _)]
  rfl
theorem one_pr (W : World) (A B : ByteArray) : PrAt (W.alloc (.cells #[.string A, .string B] 27)) 27 (some ⟨W.heap.size, 0, none⟩) [(A, B)] := fun k p hp => by
  cases k with
  | zero =>
    simp at hp; subst hp
    have h := World.alloc_heap_new W (.cells #[.string A, .string B] 27)
    exact ⟨_, _, rfl, h, cell_of_row h, cell_of_row h⟩
  | succ k => simp at hp
theorem byte_of {x : Int} (h : 0 ≤ x ∧ x < 256) : ∃ a : UInt8, x = (a.toNat : Int) := ⟨UInt8.ofNat x.toNat, by
  rw [UInt8.toNat_ofNat']
  omega⟩
set_option maxHeartbeats 1000000 in
set_option maxRecDepth 100000 in
theorem LOne_any (x y : Int) (s : ByteArray) (w : World) (hx : 0 ≤ x ∧ x < 256) (hy : 0 ≤ y ∧ y < 256) (hs : s.size ≤ maxLen) :
    Calls Try.prog 3 #[.int .u8 x, .int .u8 y, .string s] w fun e w' => e = .returned (.bool true) ∧ Below w.heap.size w w' := by
  unfold maxLen at hs
  obtain ⟨a, rfl⟩ := byte_of hx
  obtain ⟨b, rfl⟩ := byte_of hy
  clear hx hy
  go_enter Try.func3, Try.ntmps3
  go_wp2_with (go_at_call 4; refine (speaks_any w).mono ?_)
  first | rintro e w1 ⟨rfl, hb1⟩ | rintro e w1 rfl hb1
  have HB1 := Lib.hid hb1
  clear hb1
  have hcv := conv_one
  have HPR := Lib.hid (fun W => one_pr W ⟨#[a]⟩ ⟨#[b]⟩)
  by_cases h : 500 < s.size
  · have hq : (s.extract 0 500).size = 500 := by rw [ByteArray.size_extract]; omega
    obtain ⟨P, hP⟩ : ∃ P, splitP [((⟨#[a]⟩ : ByteArray), (⟨#[b]⟩ : ByteArray))] (s.extract 0 500) = P := ⟨_, rfl⟩
    have hPl := splitP_len [((⟨#[a]⟩ : ByteArray), (⟨#[b]⟩ : ByteArray))] (s.extract 0 500)
    have hPB : P = mergeL ⟨#[a]⟩ ⟨#[b]⟩ (bytesL (((s.extract 0 500)).data.toList.drop 0)) := by
      rw [← hP]; unfold splitP; rw [if_neg (by omega), splitB_one]; rfl
    obtain ⟨qq, hqq⟩ : ∃ qq, (s.extract 0 500) = qq := ⟨_, rfl⟩
    have hq5 : qq.size ≤ 500 := by rw [← hqq]; omega
    have HSP := Lib.hid (fun W o (hp : PrAt W 27 o [((⟨#[a]⟩ : ByteArray), (⟨#[b]⟩ : ByteArray))]) => Split_any o [((⟨#[a]⟩ : ByteArray), (⟨#[b]⟩ : ByteArray))] 1 (s.extract 0 500) W (by simp) hp (fun p hp => by simp at hp; subst hp; exact ⟨(by show 1 ≤ maxLen; decide), (by show 1 ≤ maxLen; decide)⟩))
    rw [hP] at hPl HSP
    rw [hqq] at hPB HSP
    have HPB := Lib.hid hPB
    clear hP hPB
    have hpr := one_pr ((w1.alloc (.cells #[.int .u8 (a.toNat : Int)] 5)).alloc (.cells #[.int .u8 (b.toNat : Int)] 5)) ⟨#[a]⟩ ⟨#[b]⟩
    rw [World.size_alloc, World.size_alloc] at hpr
    have HCL := Lib.hid (HSP.out _ _ hpr)
    have HBA := Lib.hid (show Below w.heap.size w (((w1.alloc (.cells #[.int .u8 (a.toNat : Int)] 5)).alloc (.cells #[.int .u8 (b.toNat : Int)] 5)).alloc (.cells #[.string ⟨#[a]⟩, .string ⟨#[b]⟩] 27)) from ((HB1.out.alloc HB1.out.size _).alloc (by have := HB1.out.size; simp; omega) _).alloc (by have := HB1.out.size; simp; omega) _)
    clear hpr HSP
    go_wp2_with (go_at_call 5; refine HCL.out.mono ?_)
    first | rintro e w2 ⟨o2, c2, rfl, s2, hb2⟩ | rintro e w2 o2 c2 rfl s2 hb2
    have HS2 := Lib.hid s2; have HB2 := Lib.hid (HBA.out.trans (hb2.mono HBA.out.size))
    have H0 : Hid (OnS qq a b P w2 (.int .i64 0) (.int .i64 0) w2) := Lib.hid ⟨0, 0, Nat.zero_le _, Nat.zero_le _, rfl, rfl, by rw [List.drop_zero]; exact HPB.out, Below.refl _ _⟩
    obtain ⟨m, hm⟩ : ∃ m, P.length = m := ⟨_, rfl⟩
    rw [hm] at hPl ⊢
    have HM := Lib.hid hm
    clear s2 hb2 hm HCL HBA hcv HPR
    go_wp2_with fail
    go_loopw [8, 9] (fun t i wr => OnS qq a b P w2 t i wr) (fun _ i _ => m - (intOf i).toNat)
    case atStart => exact H0.out
    case round =>
      obtain ⟨k, c, hk, hc, rfl, rfl, hd, hb⟩ := hrel
      rw [HM.out] at hk
      have HB := Lib.hid hb
      clear hb H0
      by_cases hlt : k < m
      · obtain ⟨hcs, h2, h1⟩ := one_step hd (by rw [HM.out]; exact hlt)
        obtain ⟨c1, hc1⟩ : ∃ c1, c + 1 = c1 := ⟨_, rfl⟩
        have hC1 : (c : Int) + 1 = (c1 : Int) := by omega
        by_cases ht : TwoAt qq a b c
        · obtain ⟨hp, hd2⟩ := h2 ht
          obtain ⟨_, h2s, e1, e2⟩ := ht
          obtain ⟨c3, hc3⟩ : ∃ c3, c + 2 = c3 := ⟨_, rfl⟩
          rw [hc3] at hp hd2
          obtain ⟨g, hg, d0, _⟩ := (HS2.out.below HB.out).cell hp
          subst hg
          have h1s : c1 < qq.size := by omega
          have e3 : qq[c1] = b := by subst hc1; exact e2
          have f1 : (((qq[c]).toNat : Int) == (a.toNat : Int)) = true := by rw [e1]; simp
          have f2 : (((qq[c1]).toNat : Int) == (b.toNat : Int)) = true := by rw [e3]; simp
          have hC3 : (c : Int) + 2 = (c3 : Int) := by omega
          have h3s : c3 ≤ qq.size := by omega
          have h3c : c ≤ c3 := by omega
          have HREL := Lib.hid (fun (W : World) (hW : Below w2.heap.size w2 W) => (show OnS qq a b P w2 (.int .i64 (c3 : Int)) (.int .i64 ((k : Int) + 1)) W from ⟨k + 1, c3, by rw [HM.out]; omega, h3s, by rw [Int.natCast_succ], rfl, hd2, hW⟩))
          clear hd hd2 h1 h2 hp e1 e2 e3 hc1 hc3 h2s
          go_wp2_with fail
          go_quiet (fail)
          go_wp2_with fail
          go_roundw
          case rel => first | exact HREL.out _ (below_drewN HB.out _) | exact HREL.out _ (below_drewN (below_drewN HB.out _) _) | ((repeat (apply Exists.intro)); first | exact ⟨HREL.out _ (below_drewN HB.out _), rfl⟩ | exact ⟨HREL.out _ (below_drewN (below_drewN HB.out _) _), rfl⟩)
          case measure => simp [intOf]; omega
        · obtain ⟨hp, hd2⟩ := h1 ht
          rw [hc1] at hp hd2
          obtain ⟨g, hg, d0, _⟩ := (HS2.out.below HB.out).cell hp
          subst hg
          have h1c : c ≤ c1 := by omega
          have h1z : c1 ≤ qq.size := by omega
          have HREL := Lib.hid (fun (W : World) (hW : Below w2.heap.size w2 W) => (show OnS qq a b P w2 (.int .i64 (c1 : Int)) (.int .i64 ((k : Int) + 1)) W from ⟨k + 1, c1, by rw [HM.out]; omega, h1z, by rw [Int.natCast_succ], rfl, hd2, hW⟩))
          have HT := Lib.hid ht
          clear hd hd2 h1 h2 hp ht
          by_cases h1s : c1 < qq.size
          · by_cases e1 : qq[c] = a
            · have e3 : qq[c1] ≠ b := fun e => HT.out ⟨hcs, by omega, e1, by subst hc1; exact e⟩
              have f1 : (((qq[c]).toNat : Int) == (a.toNat : Int)) = true := by rw [e1]; simp
              have f2 : (((qq[c1]).toNat : Int) == (b.toNat : Int)) = false := by
                have : (qq[c1]).toNat ≠ b.toNat := fun h => e3 (UInt8.toNat_inj.1 h)
                simp; omega
              clear e1 e3 hc1
              go_wp2_with fail
              go_quiet (fail)
              go_wp2_with fail
              go_roundw
              case rel => first | exact HREL.out _ (below_drewN HB.out _) | exact HREL.out _ (below_drewN (below_drewN HB.out _) _) | ((repeat (apply Exists.intro)); first | exact ⟨HREL.out _ (below_drewN HB.out _), rfl⟩ | exact ⟨HREL.out _ (below_drewN (below_drewN HB.out _) _), rfl⟩)
              case measure => simp [intOf]; omega
            · have f1 : (((qq[c]).toNat : Int) == (a.toNat : Int)) = false := by
                have : (qq[c]).toNat ≠ a.toNat := fun h => e1 (UInt8.toNat_inj.1 h)
                simp; omega
              clear e1 hc1
              go_wp2_with fail
              go_quiet (fail)
              go_wp2_with fail
              go_roundw
              case rel => first | exact HREL.out _ (below_drewN HB.out _) | exact HREL.out _ (below_drewN (below_drewN HB.out _) _) | ((repeat (apply Exists.intro)); first | exact ⟨HREL.out _ (below_drewN HB.out _), rfl⟩ | exact ⟨HREL.out _ (below_drewN (below_drewN HB.out _) _), rfl⟩)
              case measure => simp [intOf]; omega
          · have h1s2 : (qq.size : Int) ≤ c1 := by omega
            clear hc1
            go_wp2_with fail
            go_quiet (fail)
            go_wp2_with fail
            go_roundw
            case rel => first | exact HREL.out _ (below_drewN HB.out _) | exact HREL.out _ (below_drewN (below_drewN HB.out _) _) | ((repeat (apply Exists.intro)); first | exact ⟨HREL.out _ (below_drewN HB.out _), rfl⟩ | exact ⟨HREL.out _ (below_drewN (below_drewN HB.out _) _), rfl⟩)
            case measure => simp [intOf]; omega
      · have hcz := one_end hd (by rw [HM.out]; omega) hc
        clear hd
        subst hcz
        go_wp2_with fail
        go_ret
        exact ⟨by first | rfl | simp, HB2.out.trans (HB.out.mono HB2.out.size)⟩
  · have hq : s.size = s.size := rfl
    obtain ⟨P, hP⟩ : ∃ P, splitP [((⟨#[a]⟩ : ByteArray), (⟨#[b]⟩ : ByteArray))] s = P := ⟨_, rfl⟩
    have hPl := splitP_len [((⟨#[a]⟩ : ByteArray), (⟨#[b]⟩ : ByteArray))] s
    have hPB : P = mergeL ⟨#[a]⟩ ⟨#[b]⟩ (bytesL ((s).data.toList.drop 0)) := by
      rw [← hP]; unfold splitP; rw [if_neg (by omega), splitB_one]; rfl
    have hq5 : s.size ≤ 500 := by omega
    have HSP := Lib.hid (fun W o (hp : PrAt W 27 o [((⟨#[a]⟩ : ByteArray), (⟨#[b]⟩ : ByteArray))]) => Split_any o [((⟨#[a]⟩ : ByteArray), (⟨#[b]⟩ : ByteArray))] 1 s W (by simp) hp (fun p hp => by simp at hp; subst hp; exact ⟨(by show 1 ≤ maxLen; decide), (by show 1 ≤ maxLen; decide)⟩))
    rw [hP] at hPl HSP
    have HPB := Lib.hid hPB
    clear hP hPB
    have hpr := one_pr ((w1.alloc (.cells #[.int .u8 (a.toNat : Int)] 5)).alloc (.cells #[.int .u8 (b.toNat : Int)] 5)) ⟨#[a]⟩ ⟨#[b]⟩
    rw [World.size_alloc, World.size_alloc] at hpr
    have HCL := Lib.hid (HSP.out _ _ hpr)
    have HBA := Lib.hid (show Below w.heap.size w (((w1.alloc (.cells #[.int .u8 (a.toNat : Int)] 5)).alloc (.cells #[.int .u8 (b.toNat : Int)] 5)).alloc (.cells #[.string ⟨#[a]⟩, .string ⟨#[b]⟩] 27)) from ((HB1.out.alloc HB1.out.size _).alloc (by have := HB1.out.size; simp; omega) _).alloc (by have := HB1.out.size; simp; omega) _)
    clear hpr HSP
    go_wp2_with (go_at_call 5; refine HCL.out.mono ?_)
    first | rintro e w2 ⟨o2, c2, rfl, s2, hb2⟩ | rintro e w2 o2 c2 rfl s2 hb2
    have HS2 := Lib.hid s2; have HB2 := Lib.hid (HBA.out.trans (hb2.mono HBA.out.size))
    have H0 : Hid (OnS s a b P w2 (.int .i64 0) (.int .i64 0) w2) := Lib.hid ⟨0, 0, Nat.zero_le _, Nat.zero_le _, rfl, rfl, by rw [List.drop_zero]; exact HPB.out, Below.refl _ _⟩
    obtain ⟨m, hm⟩ : ∃ m, P.length = m := ⟨_, rfl⟩
    rw [hm] at hPl ⊢
    have HM := Lib.hid hm
    clear s2 hb2 hm HCL HBA hcv HPR
    go_wp2_with fail
    go_loopw [8, 9] (fun t i wr => OnS s a b P w2 t i wr) (fun _ i _ => m - (intOf i).toNat)
    case atStart => exact H0.out
    case round =>
      obtain ⟨k, c, hk, hc, rfl, rfl, hd, hb⟩ := hrel
      rw [HM.out] at hk
      have HB := Lib.hid hb
      clear hb H0
      by_cases hlt : k < m
      · obtain ⟨hcs, h2, h1⟩ := one_step hd (by rw [HM.out]; exact hlt)
        obtain ⟨c1, hc1⟩ : ∃ c1, c + 1 = c1 := ⟨_, rfl⟩
        have hC1 : (c : Int) + 1 = (c1 : Int) := by omega
        by_cases ht : TwoAt s a b c
        · obtain ⟨hp, hd2⟩ := h2 ht
          obtain ⟨_, h2s, e1, e2⟩ := ht
          obtain ⟨c3, hc3⟩ : ∃ c3, c + 2 = c3 := ⟨_, rfl⟩
          rw [hc3] at hp hd2
          obtain ⟨g, hg, d0, _⟩ := (HS2.out.below HB.out).cell hp
          subst hg
          have h1s : c1 < s.size := by omega
          have e3 : s[c1] = b := by subst hc1; exact e2
          have f1 : (((s[c]).toNat : Int) == (a.toNat : Int)) = true := by rw [e1]; simp
          have f2 : (((s[c1]).toNat : Int) == (b.toNat : Int)) = true := by rw [e3]; simp
          have hC3 : (c : Int) + 2 = (c3 : Int) := by omega
          have h3s : c3 ≤ s.size := by omega
          have h3c : c ≤ c3 := by omega
          have HREL := Lib.hid (fun (W : World) (hW : Below w2.heap.size w2 W) => (show OnS s a b P w2 (.int .i64 (c3 : Int)) (.int .i64 ((k : Int) + 1)) W from ⟨k + 1, c3, by rw [HM.out]; omega, h3s, by rw [Int.natCast_succ], rfl, hd2, hW⟩))
          clear hd hd2 h1 h2 hp e1 e2 e3 hc1 hc3 h2s
          go_wp2_with fail
          go_quiet (fail)
          go_wp2_with fail
          go_roundw
          case rel => first | exact HREL.out _ (below_drewN HB.out _) | exact HREL.out _ (below_drewN (below_drewN HB.out _) _) | ((repeat (apply Exists.intro)); first | exact ⟨HREL.out _ (below_drewN HB.out _), rfl⟩ | exact ⟨HREL.out _ (below_drewN (below_drewN HB.out _) _), rfl⟩)
          case measure => simp [intOf]; omega
        · obtain ⟨hp, hd2⟩ := h1 ht
          rw [hc1] at hp hd2
          obtain ⟨g, hg, d0, _⟩ := (HS2.out.below HB.out).cell hp
          subst hg
          have h1c : c ≤ c1 := by omega
          have h1z : c1 ≤ s.size := by omega
          have HREL := Lib.hid (fun (W : World) (hW : Below w2.heap.size w2 W) => (show OnS s a b P w2 (.int .i64 (c1 : Int)) (.int .i64 ((k : Int) + 1)) W from ⟨k + 1, c1, by rw [HM.out]; omega, h1z, by rw [Int.natCast_succ], rfl, hd2, hW⟩))
          have HT := Lib.hid ht
          clear hd hd2 h1 h2 hp ht
          by_cases h1s : c1 < s.size
          · by_cases e1 : s[c] = a
            · have e3 : s[c1] ≠ b := fun e => HT.out ⟨hcs, by omega, e1, by subst hc1; exact e⟩
              have f1 : (((s[c]).toNat : Int) == (a.toNat : Int)) = true := by rw [e1]; simp
              have f2 : (((s[c1]).toNat : Int) == (b.toNat : Int)) = false := by
                have : (s[c1]).toNat ≠ b.toNat := fun h => e3 (UInt8.toNat_inj.1 h)
                simp; omega
              clear e1 e3 hc1
              go_wp2_with fail
              go_quiet (fail)
              go_wp2_with fail
              go_roundw
              case rel => first | exact HREL.out _ (below_drewN HB.out _) | exact HREL.out _ (below_drewN (below_drewN HB.out _) _) | ((repeat (apply Exists.intro)); first | exact ⟨HREL.out _ (below_drewN HB.out _), rfl⟩ | exact ⟨HREL.out _ (below_drewN (below_drewN HB.out _) _), rfl⟩)
              case measure => simp [intOf]; omega
            · have f1 : (((s[c]).toNat : Int) == (a.toNat : Int)) = false := by
                have : (s[c]).toNat ≠ a.toNat := fun h => e1 (UInt8.toNat_inj.1 h)
                simp; omega
              clear e1 hc1
              go_wp2_with fail
              go_quiet (fail)
              go_wp2_with fail
              go_roundw
              case rel => first | exact HREL.out _ (below_drewN HB.out _) | exact HREL.out _ (below_drewN (below_drewN HB.out _) _) | ((repeat (apply Exists.intro)); first | exact ⟨HREL.out _ (below_drewN HB.out _), rfl⟩ | exact ⟨HREL.out _ (below_drewN (below_drewN HB.out _) _), rfl⟩)
              case measure => simp [intOf]; omega
          · have h1s2 : (s.size : Int) ≤ c1 := by omega
            clear hc1
            go_wp2_with fail
            go_quiet (fail)
            go_wp2_with fail
            go_roundw
            case rel => first | exact HREL.out _ (below_drewN HB.out _) | exact HREL.out _ (below_drewN (below_drewN HB.out _) _) | ((repeat (apply Exists.intro)); first | exact ⟨HREL.out _ (below_drewN HB.out _), rfl⟩ | exact ⟨HREL.out _ (below_drewN (below_drewN HB.out _) _), rfl⟩)
            case measure => simp [intOf]; omega
      · have hcz := one_end hd (by rw [HM.out]; omega) hc
        clear hd
        subst hcz
        go_wp2_with fail
        go_ret
        exact ⟨by first | rfl | simp, HB2.out.trans (HB.out.mono HB2.out.size)⟩
end Go.Proofs.Ytpfmcehjbeijaab
