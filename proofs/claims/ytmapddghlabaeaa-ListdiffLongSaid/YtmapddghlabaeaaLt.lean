/- Lists' edits: the contracts as the laws call them; the law on the way there and back. -/
import Derived.Test.YtmapddghlabaeaaLs
set_option linter.unusedVariables false
set_option linter.unusedSimpArgs false
namespace Go.Proofs.Ytmapddghlabaeaa
open Go.RowKit
variable {w w' : World}

theorem edI_mem (a b : List ByteArray) : ∀ (f i j : Nat), i ≤ a.length → j ≤ b.length → (a.length - i) + (b.length - j) ≤ f → ∀ t ∈ edI a b i j, t.2.1 ∈ a ∨ t.2.1 ∈ b
  | 0, i, j, hi, hj, hf => by rw [edI_end (by omega) (by omega)]; intro t ht; cases ht
  | f + 1, i, j, hi, hj, hf => by
    refine edI_cases (a := a) (b := b) (P := fun i' j' => i' = i → j' = j → _) i j hi hj ?_ ?_ ?_ ?_ rfl rfl
    · rintro h1 h2 - -; rw [edI_end (by omega) (by omega)]; intro t ht; cases ht
    · rintro h1 h2 e - - t ht
      rw [edI_keep h1 h2 e] at ht
      rcases List.mem_cons.1 ht with rfl | ht
      · exact .inl (it_mem h1)
      · exact edI_mem a b f (i + 1) (j + 1) (by omega) (by omega) (by omega) t ht
    · rintro h1 hc - - t ht
      rw [edI_ofDrop h1 hc] at ht
      rcases List.mem_cons.1 ht with rfl | ht
      · exact .inl (it_mem h1)
      · exact edI_mem a b f (i + 1) j (by omega) (by omega) (by omega) t ht
    · rintro h1 hc - - t ht
      rw [edI_ofAdd h1 hc] at ht
      rcases List.mem_cons.1 ht with rfl | ht
      · exact .inr (it_mem h1)
      · exact edI_mem a b f i (j + 1) (by omega) (by omega) (by omega) t ht
theorem mem_it {l : List ByteArray} {s : ByteArray} (h : s ∈ l) : ∃ k, k < l.length ∧ itB l k = s := by
  obtain ⟨k, hk, e⟩ := List.getElem_of_mem h
  exact ⟨k, hk, by unfold itB; rw [List.getD_eq_getElem?_getD, List.getElem?_eq_getElem hk]; exact e⟩
theorem TxAt.small {o : Option Addr} {l : List ByteArray} (h : TxAt w o l) : ∀ s ∈ l, s.size ≤ maxLen := fun s hs => by
  obtain ⟨k, hk, rfl⟩ := mem_it hs
  exact (h k hk).1
theorem diffL_len (a b : List ByteArray) : (diffL a b).length ≤ a.length + b.length := by
  unfold diffL; rw [List.length_map]; have := edI_len a b _ 0 0 (Nat.zero_le _) (Nat.zero_le _) (Nat.le_refl _); omega
theorem diffL_small {a b : List ByteArray} (ha : ∀ s ∈ a, s.size ≤ maxLen) (hb : ∀ s ∈ b, s.size ≤ maxLen) : ∀ p ∈ (diffL a b).map edZ, p.2.size ≤ maxLen := fun p hp => by
  obtain ⟨q, hq, rfl⟩ := List.mem_map.1 hp
  obtain ⟨t, ht, rfl⟩ := List.mem_map.1 hq
  rcases edI_mem a b _ 0 0 (Nat.zero_le _) (Nat.zero_le _) (Nat.le_refl _) t ht with h | h
  · exact ha _ h
  · exact hb _ h
theorem short_at (o : Option Addr) (l : List ByteArray) (c : Nat) (w : World) (hl : l.length ≤ maxLen) (hc : l.length ≤ c) (h : TxAt w o l) :
    Calls Try.prog 9 #[.slice o l.length c] w fun e w' => ∃ o' c', e = .returned (.slice o' (l.take 40).length c') ∧ TxAt w' o' (l.take 40) ∧ Below w.heap.size w w' :=
  (short_any o l c w hl hc h).mono fun e w' ⟨v, he, hrow, hb⟩ => by
    obtain ⟨a, cap, rfl, ht, _⟩ := own_texts hrow (fun s hs => h.small s (List.mem_of_mem_take hs))
    exact ⟨a, cap, he, ht, hb⟩
theorem Diff_at (oa ob : Option Addr) (a b : List ByteArray) (ca cb : Nat) (w : World) (hla : a.length ≤ 4096) (hlb : b.length ≤ 4096) (ha : TxAt w oa a) (hb : TxAt w ob b) :
    Calls Try.prog 10 #[.slice oa a.length ca, .slice ob b.length cb] w fun e w' => ∃ o c, e = .returned (.tuple #[.slice o (diffL a b).length c, .int .i64 0]) ∧ EdAt w' o ((diffL a b).map edZ) ∧ Below w.heap.size w w' :=
  (Diff_any oa ob a b ca cb w hla hlb ha hb).mono fun e w' ⟨v, he, hrow, hb⟩ => by
    have hrow' : w'.ownsRow w.heap.size 37 2 v ((diffL a b).map edZ).length (flatZ ((diffL a b).map edZ)) := by rw [List.length_map]; exact hrow
    obtain ⟨o, c, rfl, ht, _⟩ := own_edits hrow'
    rw [List.length_map] at he
    exact ⟨o, c, he, ht, hb⟩
theorem RDiff_at (oa ob : Option Addr) (a b : List ByteArray) (ca cb : Nat) (w : World) (hla : a.length ≤ 4096) (hlb : b.length ≤ 4096) (ha : TxAt w oa a) (hb : TxAt w ob b) :
    Calls Try.prog 11 #[.slice oa a.length ca, .slice ob b.length cb] w fun e w' => ∃ o c, e = .returned (.slice o (diffL a b).length c) ∧ EdAt w' o ((diffL a b).map edZ) ∧ Below w.heap.size w w' :=
  (RDiff_any oa ob a b ca cb w hla hlb ha hb).mono fun e w' ⟨v, he, hrow, hb⟩ => by
    have hrow' : w'.ownsRow w.heap.size 36 2 v ((diffL a b).map edZ).length (flatZ ((diffL a b).map edZ)) := by rw [List.length_map]; exact hrow
    obtain ⟨o, c, rfl, ht, _⟩ := own_edits hrow'
    rw [List.length_map] at he
    exact ⟨o, c, he, ht, hb⟩
theorem Match_at (oa ob : Option Addr) (a b : List ByteArray) (ca cb : Nat) (w : World) (hla : a.length ≤ 4096) (hlb : b.length ≤ 4096) (ha : TxAt w oa a) (hb : TxAt w ob b) :
    Calls Try.prog 12 #[.slice oa a.length ca, .slice ob b.length cb] w fun e w' => ∃ o c, e = .returned (.tuple #[.slice o (matchL a b).length c, .int .i64 0]) ∧ NmAt w' o (matchL a b) ∧ Below w.heap.size w w' :=
  (Match_any oa ob a b ca cb w hla hlb ha hb).mono fun e w' ⟨v, he, hrow, hb⟩ => by
    obtain ⟨o, c, rfl, ht, _⟩ := own_nums hrow
    exact ⟨o, c, he, ht, hb⟩
theorem RMatch_at (oa ob : Option Addr) (a b : List ByteArray) (ca cb : Nat) (w : World) (hla : a.length ≤ 4096) (hlb : b.length ≤ 4096) (ha : TxAt w oa a) (hb : TxAt w ob b) :
    Calls Try.prog 13 #[.slice oa a.length ca, .slice ob b.length cb] w fun e w' => ∃ o c, e = .returned (.slice o (matchL a b).length c) ∧ NmAt w' o (matchL a b) ∧ Below w.heap.size w w' :=
  (RMatch_any oa ob a b ca cb w hla hlb ha hb).mono fun e w' ⟨v, he, hrow, hb⟩ => by
    obtain ⟨o, c, rfl, ht, _⟩ := own_nums hrow
    exact ⟨o, c, he, ht, hb⟩
theorem Shifts_at (oa ob : Option Addr) (a b : List ByteArray) (ca cb : Nat) (w : World) (hla : a.length ≤ 100000) (hlb : b.length ≤ 100000) (ha : TxAt w oa a) (hb : TxAt w ob b) :
    Calls Try.prog 14 #[.slice oa a.length ca, .slice ob b.length cb] w fun e w' => ∃ o c, e = .returned (.slice o (shL a b).length c) ∧ ShAt w' o (shL a b) ∧ Below w.heap.size w w' :=
  (Shifts_any oa ob a b ca cb w hla hlb ha hb).mono fun e w' ⟨v, he, hrow, hb⟩ => by
    obtain ⟨o, c, rfl, ht⟩ := own_shifts hrow
    exact ⟨o, c, he, ht, hb⟩
/-- Edits that were made, applied. -/
theorem ApplyD_at (oa ol : Option Addr) (a b : List ByteArray) (ca cl : Nat) (w : World) (hla : a.length ≤ 1000) (hlb : b.length ≤ 1000) (ha : TxAt w oa a) (hl : EdAt w ol ((diffL a b).map edZ)) (hsa : ∀ s ∈ a, s.size ≤ maxLen) (hsb : ∀ s ∈ b, s.size ≤ maxLen) :
    Calls Try.prog 16 #[.slice oa a.length ca, .slice ol (diffL a b).length cl] w fun e w' => ∃ o c, e = .returned (.tuple #[.slice o b.length c, .int .i64 0]) ∧ TxAt w' o b ∧ Below w.heap.size w w' := by
  have h := Apply_any oa ol a ((diffL a b).map edZ) ca cl w (by omega) (by rw [List.length_map]; have := diffL_len a b; omega) ha hl (diffL_small hsa hsb)
  rw [List.length_map] at h
  refine h.mono fun e w' ⟨v, he, hrow, hs, hb⟩ => ?_
  rw [apply_diff] at he hrow hs
  obtain ⟨o, c, rfl, ht, _⟩ := own_texts hrow hs
  exact ⟨o, c, he, ht, hb⟩
def KpS (l : List EdZ) (W : World) (p i : Value) (wr : World) : Prop :=
  ∃ k : Nat, k ≤ l.length ∧ i = .int .i64 k ∧ p = .int .i64 ((l.take k).countP fun e => e.1 == 0 : Nat) ∧ wr = W
theorem kp_more {l : List EdZ} {k : Nat} {p : EdZ} (h : l[k]? = some p) : (l.take (k + 1)).countP (fun e => e.1 == 0) = (l.take k).countP (fun e => e.1 == 0) + if p.1 == 0 then 1 else 0 := by
  rw [List.take_add_one, h, Option.toList_some, List.countP_append]; simp [List.countP_cons]
theorem kept_map (l : List EdB) : (l.map edZ).countP (fun e => e.1 == 0) = keptN l := by
  unfold keptN; rw [List.countP_map]
  congr 1; funext e; show (((e.1 : Nat) : Int) == 0) = (e.1 == 0)
  rw [Bool.eq_iff_iff]; simp
set_option maxHeartbeats 8000000 in
set_option maxRecDepth 100000 in
theorem LBack_any (oa : Option Addr) (A : List ByteArray) (ca : Nat) (ob : Option Addr) (B : List ByteArray) (cb : Nat) (w : World) (hA : A.length ≤ maxLen) (hac : A.length ≤ ca) (ha : TxAt w oa A) (hB : B.length ≤ maxLen) (hbc : B.length ≤ cb) (hb : TxAt w ob B) :
    Calls Try.prog 5 #[.slice oa A.length ca, .slice ob B.length cb] w fun e w' => e = .returned (.bool true) ∧ Below w.heap.size w w' := by
  have HS := Lib.hid (speaks_any w)
  have HA := Lib.hid (fun W (hW : TxAt W oa A) => short_at oa A ca W hA hac hW)
  have HB := Lib.hid (fun W (hW : TxAt W ob B) => short_at ob B cb W hB hbc hW)
  obtain ⟨a, hae⟩ : ∃ a, A.take 40 = a := ⟨_, rfl⟩
  obtain ⟨b, hbe⟩ : ∃ b, B.take 40 = b := ⟨_, rfl⟩
  have hla : a.length ≤ 40 := by rw [← hae, List.length_take]; exact Nat.min_le_left _ _
  have hlb : b.length ≤ 40 := by rw [← hbe, List.length_take]; exact Nat.min_le_left _ _
  have hsa : ∀ s ∈ a, s.size ≤ maxLen := fun s hs => ha.small s (List.mem_of_mem_take (by rw [hae]; exact hs))
  have hsb : ∀ s ∈ b, s.size ≤ maxLen := fun s hs => hb.small s (List.mem_of_mem_take (by rw [hbe]; exact hs))
  rw [hae] at HA
  rw [hbe] at HB
  have HTA := Lib.hid ha; have HTB := Lib.hid hb; have HSA := Lib.hid hsa; have HSB := Lib.hid hsb
  generalize A.length = nA at *
  generalize B.length = nB at *
  clear ha hb hae hbe hsa hsb hA hB hac hbc
  go_enter Try.func5, Try.ntmps5
  go_wp2_with (go_at_call 8; refine HS.out.mono ?_)
  rintro e w1 ⟨rfl, hb1⟩
  have HB1 := Lib.hid hb1
  clear hb1 HS
  go_wp2_with (go_at_call 9; refine (HA.out w1 (HTA.out.below HB1.out)).mono ?_)
  rintro e w2 ⟨o2, c2, rfl, ta2, hb2⟩
  have HB2 := Lib.hid (HB1.out.trans (hb2.mono HB1.out.size)); have T2 := Lib.hid ta2
  clear hb2 ta2 HA
  go_wp2_with (go_at_call 9; refine (HB.out w2 (HTB.out.below HB2.out)).mono ?_)
  rintro e w3 ⟨o3, c3, rfl, tb3, hb3⟩
  have HB3 := Lib.hid (HB2.out.trans (hb3.mono HB2.out.size)); have TA := Lib.hid (T2.out.below hb3); have TB := Lib.hid tb3
  clear hb3 tb3 HB T2
  have H4 := Lib.hid (Diff_at o2 o3 a b c2 c3 w3 (by omega) (by omega) TA.out TB.out)
  go_wp2_with (go_at_call 10; refine H4.out.mono ?_)
  rintro e w4 ⟨o4, c4, rfl, e4, hb4⟩
  have HB4 := Lib.hid (HB3.out.trans (hb4.mono HB3.out.size)); have TA4 := Lib.hid (TA.out.below hb4); have TB4 := Lib.hid (TB.out.below hb4); have E4 := Lib.hid e4
  clear hb4 e4 H4 TA TB
  have H5 := Lib.hid (Diff_at o3 o2 b a c3 c2 w4 (by omega) (by omega) TB4.out TA4.out)
  go_wp2_with (go_at_call 10; refine H5.out.mono ?_)
  rintro e w5 ⟨o5, c5, rfl, e5, hb5⟩
  have HB5 := Lib.hid (HB4.out.trans (hb5.mono HB4.out.size)); have TA5 := Lib.hid (TA4.out.below hb5); have TB5 := Lib.hid (TB4.out.below hb5); have E45 := Lib.hid (E4.out.below hb5); have E5 := Lib.hid e5
  clear hb5 e5 H5 TA4 TB4 E4
  have H6 := Lib.hid (ApplyD_at o2 o4 a b c2 c4 w5 (by omega) (by omega) TA5.out E45.out HSA.out HSB.out)
  go_wp2_with (go_at_call 16; refine H6.out.mono ?_)
  rintro e w6 ⟨o6, c6, rfl, t6, hb6⟩
  have HB6 := Lib.hid (HB5.out.trans (hb6.mono HB5.out.size)); have TA6 := Lib.hid (TA5.out.below hb6); have TB6 := Lib.hid (TB5.out.below hb6); have E46 := Lib.hid (E45.out.below hb6); have E56 := Lib.hid (E5.out.below hb6); have T6 := Lib.hid t6
  clear hb6 t6 H6 TA5 TB5 E45 E5
  have H7 := Lib.hid (ApplyD_at o3 o5 b a c3 c5 w6 (by omega) (by omega) TB6.out E56.out HSB.out HSA.out)
  go_wp2_with (go_at_call 16; refine H7.out.mono ?_)
  rintro e w7 ⟨o7, c7, rfl, t7, hb7⟩
  have HB7 := Lib.hid (HB6.out.trans (hb7.mono HB6.out.size)); have TA7 := Lib.hid (TA6.out.below hb7); have TB7 := Lib.hid (TB6.out.below hb7); have E47 := Lib.hid (E46.out.below hb7); have E57 := Lib.hid (E56.out.below hb7); have T67 := Lib.hid (T6.out.below hb7); have T7 := Lib.hid t7
  clear hb7 t7 H7 TA6 TB6 E46 E56 T6
  have hl1 := diffL_len a b
  have hl2 := diffL_len b a
  have HK1 := Lib.hid (kept_map (diffL a b)); have HK2 := Lib.hid ((kept_map (diffL b a)).trans (kept_turn a b)); have HKD := Lib.hid (kept_diff a b)
  obtain ⟨l, hl⟩ : ∃ l, (diffL a b).map edZ = l := ⟨_, rfl⟩
  obtain ⟨l2, hl2e⟩ : ∃ l, (diffL b a).map edZ = l := ⟨_, rfl⟩
  have n1 : l.length = (diffL a b).length := by rw [← hl, List.length_map]
  have n2 : l2.length = (diffL b a).length := by rw [← hl2e, List.length_map]
  rw [hl] at E47 HK1
  rw [hl2e] at E57 HK2
  rw [← n1] at hl1 ⊢
  rw [← n2] at hl2 ⊢
  generalize diffL a b = da at *
  generalize diffL b a = db at *
  obtain ⟨m1, hm1⟩ : ∃ m, l.length = m := ⟨_, rfl⟩
  obtain ⟨m2, hm2⟩ : ∃ m, l2.length = m := ⟨_, rfl⟩
  have HM1 := Lib.hid hm1; have HM2 := Lib.hid hm2
  rw [hm1] at hl1 ⊢
  rw [hm2] at hl2 ⊢
  clear n1 n2 hl hl2e hm1 hm2
  go_wp2_with fail
  go_loopw [13, 15] (fun p i wr => KpS l w7 p i wr) (fun _ i _ => m1 - (intOf i).toNat)
  case atStart => exact ⟨0, Nat.zero_le _, rfl, by simp, rfl⟩
  case round =>
    obtain ⟨k, hk, rfl, rfl, hw⟩ := hrel
    subst hw
    rw [HM1.out] at hk
    by_cases hlt : k < m1
    · obtain ⟨p, hp⟩ : ∃ p, l[k]? = some p := ⟨_, List.getElem?_eq_getElem (by rw [HM1.out]; exact hlt)⟩
      obtain ⟨bl, il, hol, d0, _⟩ := E47.out k p hp
      subst hol
      have HP := Lib.hid (kp_more hp)
      have hcl : (l.take k).countP (fun e => e.1 == 0) ≤ k := Nat.le_trans List.countP_le_length (by rw [List.length_take]; exact Nat.min_le_left _ _)
      obtain ⟨op, s⟩ := p
      dsimp only at d0 HP
      generalize (l.take k).countP (fun e => e.1 == 0) = z at *
      clear hp
      by_cases h0 : op = 0
      · subst h0
        go_wp2_with fail
        go_roundw
        case rel => exact ⟨k + 1, by rw [HM1.out]; exact hlt, by go_num, by rw [HP.out]; simp, rfl⟩
        case measure => simp [intOf]; omega
      · have b0 : (op == 0) = false := beq_eq_false_iff_ne.2 h0
        have HP2 := Lib.hid (show (l.take (k + 1)).countP (fun e => e.1 == 0) = z by rw [HP.out, b0]; rfl)
        clear HP h0
        go_wp2_with fail
        go_roundw
        case rel => exact ⟨k + 1, by rw [HM1.out]; exact hlt, by go_num, by rw [HP2.out], rfl⟩
        case measure => simp [intOf]; omega
    · obtain rfl : k = m1 := by omega
      obtain ⟨n1, hn1⟩ : ∃ n, (l.take k).countP (fun e => e.1 == 0) = n := ⟨_, rfl⟩
      have HN1 : Hid (n1 = keptN da) := Lib.hid (by rw [← hn1, List.take_of_length_le (by rw [HM1.out]; exact Nat.le_refl _)]; exact HK1.out)
      have hn1b : n1 ≤ 80 := by rw [← hn1]; exact Nat.le_trans List.countP_le_length (by rw [List.length_take]; exact Nat.le_trans (Nat.min_le_left _ _) (by omega))
      rw [hn1]
      clear hn1 HK1
      obtain ⟨w8, hw8⟩ : ∃ w8, w8 = wr := ⟨_, rfl⟩
      subst hw8
      go_wp2_with fail
      go_loopw [14, 16] (fun p i wr => KpS l2 w8 p i wr) (fun _ i _ => m2 - (intOf i).toNat)
      case atStart => exact ⟨0, Nat.zero_le _, rfl, by simp, rfl⟩
      case round =>
        obtain ⟨k, hk, rfl, rfl, hw⟩ := hrel
        subst hw
        rw [HM2.out] at hk
        by_cases hlt : k < m2
        · obtain ⟨p, hp⟩ : ∃ p, l2[k]? = some p := ⟨_, List.getElem?_eq_getElem (by rw [HM2.out]; exact hlt)⟩
          obtain ⟨bl, il, hol, d0, _⟩ := E57.out k p hp
          subst hol
          have HP := Lib.hid (kp_more hp)
          have hcl : (l2.take k).countP (fun e => e.1 == 0) ≤ k := Nat.le_trans List.countP_le_length (by rw [List.length_take]; exact Nat.min_le_left _ _)
          obtain ⟨op, s⟩ := p
          dsimp only at d0 HP
          generalize (l2.take k).countP (fun e => e.1 == 0) = z at *
          clear hp
          by_cases h0 : op = 0
          · subst h0
            go_wp2_with fail
            go_roundw
            case rel => exact ⟨k + 1, by rw [HM2.out]; exact hlt, by go_num, by rw [HP.out]; simp, rfl⟩
            case measure => simp [intOf]; omega
          · have b0 : (op == 0) = false := beq_eq_false_iff_ne.2 h0
            have HP2 := Lib.hid (show (l2.take (k + 1)).countP (fun e => e.1 == 0) = z by rw [HP.out, b0]; rfl)
            clear HP h0
            go_wp2_with fail
            go_roundw
            case rel => exact ⟨k + 1, by rw [HM2.out]; exact hlt, by go_num, by rw [HP2.out], rfl⟩
            case measure => simp [intOf]; omega
        · obtain rfl : k = m2 := by omega
          have e2 : (l2.take k).countP (fun e => e.1 == 0) = n1 := by rw [List.take_of_length_le (by rw [HM2.out]; exact Nat.le_refl _), HN1.out]; exact HK2.out
          rw [e2]
          have HC : Hid (cmI (eqB a b) a.length b.length 0 0 = n1) := Lib.hid (by rw [HN1.out]; exact HKD.out.symm)
          clear e2 HK2
          have H8 := Lib.hid (texts_any o6 o3 c6 c3 b wr (by omega) T67.out TB7.out)
          go_wp2_with (go_at_call 17; refine H8.out.mono ?_)
          rintro e w8 ⟨rfl, hb8⟩
          have HB8 := Lib.hid (HB7.out.trans (hb8.mono HB7.out.size)); have TA8 := Lib.hid (TA7.out.below hb8); have TB8 := Lib.hid (TB7.out.below hb8); have T78 := Lib.hid (T7.out.below hb8)
          clear hb8 H8
          have H9 := Lib.hid (texts_any o7 o2 c7 c2 a w8 (by omega) T78.out TA8.out)
          go_wp2_with (go_at_call 17; refine H9.out.mono ?_)
          rintro e w9 ⟨rfl, hb9⟩
          have HB9 := Lib.hid (HB8.out.trans (hb9.mono HB8.out.size)); have TA9 := Lib.hid (TA8.out.below hb9); have TB9 := Lib.hid (TB8.out.below hb9)
          clear hb9 H9
          have HX := Lib.hid (Common_any o2 o3 a b c2 c3 w9 (by omega) (by omega) TA9.out TB9.out)
          go_wp2_with (go_at_call 18; refine HX.out.mono ?_)
          rintro e w10 ⟨g, R, cap, rfl, hM, _, _, hb10⟩
          have HB10 := Lib.hid (HB9.out.trans (hb10.mono HB9.out.size))
          have r0 : w10.cell? ⟨g, 0, none⟩ = some (.slice (some ⟨R 0, 0, none⟩) (b.length + 1) (b.length + 1)) := hM.row 0 (by omega)
          have r1 : w10.cell? ⟨R 0, 0, none⟩ = some (.int .i64 (n1 : Nat)) := by rw [← HC.out]; exact hM.cell 0 0 (by omega) (by omega)
          clear hM hb10 HX
          go_wp2_with fail
          go_ret
          exact ⟨rfl, HB10.out⟩
end Go.Proofs.Ytmapddghlabaeaa
