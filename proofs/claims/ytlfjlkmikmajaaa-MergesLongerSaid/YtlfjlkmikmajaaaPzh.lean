/- Merges: longer lists: the law. -/
import Derived.Test.YtlfjlkmikmajaaaPzg
import Derived.Test.YtlfjlkmikmajaaaPze
namespace Go.Proofs.Ytlfjlkmikmajaaa
open Go.RowKit Go.Maps
variable {w w' : World}

def LaS (P : List ByteArray) (B : Nat) (w : World) (t i : Value) (wr : World) : Prop :=
  ∃ k : Nat, k ≤ P.length ∧ i = .int .i64 k ∧ t = .int .i64 (offB P k : Nat) ∧ IsEnd B k k P wr ∧ Below w.heap.size w wr
def LbS (Q : List ByteArray) (w : World) (t i : Value) (wr : World) : Prop :=
  ∃ k : Nat, k ≤ Q.length ∧ i = .int .i64 k ∧ t = .int .i64 (offB Q k : Nat) ∧ Below w.heap.size w wr
set_option maxHeartbeats 1000000 in
set_option maxRecDepth 100000 in
theorem LLonger_any (o : Option Addr) (l : List PairB) (cap : Nat) (o' : Option Addr) (l' : List PairB) (cap' : Nat) (s : ByteArray) (w : World) (hl : l.length ≤ maxLen) (hi : InAt w o l) (hok : ∀ q ∈ l, SmP q) (hl' : l'.length ≤ maxLen) (hi' : InAt w o' l') (hok' : ∀ q ∈ l', SmP q) (hs : s.size ≤ maxLen) :
    Calls Try.prog 5 #[.slice o l.length cap, .slice o' l'.length cap', .string s] w fun e w' => e = .returned (.bool true) ∧ Below w.heap.size w w' := by
  unfold maxLen at hs
  have hmm := @run_makeMap Try.prog
  obtain ⟨n, hn⟩ : ∃ n, l.length = n := ⟨_, rfl⟩
  obtain ⟨n', hn'⟩ : ∃ n', l'.length = n' := ⟨_, rfl⟩
  obtain ⟨t, ht⟩ : ∃ t, l.take 60 = t := ⟨_, rfl⟩
  obtain ⟨u, hu⟩ : ∃ u, l'.take 60 = u := ⟨_, rfl⟩
  have ht60 : t.length ≤ 60 := by rw [← ht, List.length_take]; omega
  have hu60 : u.length ≤ 60 := by rw [← hu, List.length_take]; omega
  have hokt : ∀ q ∈ t, OkP q := by rw [← ht]; exact fun q hq => (take_sm hok 60 q hq).ok
  have hoku : ∀ q ∈ t ++ u, OkP q := fun q hq => by
    rcases List.mem_append.1 hq with h | h
    · exact hokt q h
    · rw [← hu] at h; exact (take_sm hok' 60 q h).ok
  have HF := Lib.hid (fun W (hW : Below w.heap.size w W) => ht ▸ hn ▸ front2 o l cap W hl (hi.below hW))
  have HG := Lib.hid (fun W (hW : Below w.heap.size w W) => hu ▸ hn' ▸ front2 o' l' cap' W hl' (hi'.below hW))
  have HO := Lib.hid hokt; have HO2 := Lib.hid hoku
  clear hi hok hokt hl ht hi' hok' hoku hl' hu
  rw [hn, hn']
  go_enter Try.func5, Try.ntmps5
  go_wp2_with (go_at_call 10; refine (speaks_any w).mono ?_)
  first | rintro e w1 ⟨rfl, hb1⟩ | rintro e w1 rfl hb1
  have HB1 := Lib.hid hb1
  clear hb1
  by_cases h : 300 < s.size
  · have hq : (s.extract 0 300).size = 300 := by rw [ByteArray.size_extract]; omega
    go_wp2_with (go_at_call 14; with_reducible refine (HF.out _ HB1.out).mono ?_)
    first | rintro e w2 ⟨o1, c1, b1, rfl, p1, hb2⟩ | rintro e w2 o1 c1 b1 rfl p1 hb2
    have HB2 := Lib.hid (HB1.out.trans (hb2.mono HB1.out.size)); have HP1 := Lib.hid p1
    clear p1 hb2
    go_wp2_with (go_at_call 14; with_reducible refine (HG.out _ HB2.out).mono ?_)
    first | rintro e w3 ⟨o2, c2, b2, rfl, p2, hb3⟩ | rintro e w3 o2 c2 b2 rfl p2 hb3
    have HB3 := Lib.hid (HB2.out.trans (hb3.mono HB2.out.size)); have HP2 := Lib.hid p2; have HP3 := Lib.hid (own_below HP1.out hb3)
    clear p2 hb3 HP1
    have HSA := Lib.hid (Split_any o1 t c1 (s.extract 0 300) w3 (by omega) (pr_of HP3.out) HO.out)
    go_wp2_with (go_at_call 15; with_reducible refine HSA.out.mono ?_)
    first | rintro e w4 ⟨o4, c4, rfl, s4, hb4⟩ | rintro e w4 o4 c4 rfl s4 hb4
    have HB4 := Lib.hid (HB3.out.trans (hb4.mono HB3.out.size)); have HA4 := Lib.hid (own_below HP3.out hb4); have HC4 := Lib.hid (own_below HP2.out hb4); have HS4 := Lib.hid s4
    clear s4 hb4 HP2 HP3 HSA
    obtain ⟨P, hP⟩ : ∃ P, splitP t (s.extract 0 300) = P := ⟨_, rfl⟩
    have h0row : (w4.alloc (.cells #[] 32)).ownsRow w4.heap.size 32 2 (.slice (some ⟨w4.heap.size, 0, none⟩) 0 0) ([] : List PairB).length (flatP []) := ⟨rfl, .inr ⟨w4.heap.size, 0, #[], rfl, Nat.le_refl _, World.alloc_heap_new _ _, Nat.le_refl _, Nat.zero_le _, rfl, rfl⟩⟩
    have HA0 := Lib.hid ((Below.refl w4.heap.size w4).alloc (Nat.le_refl _) (.cells #[] 32))
    have HAA := Lib.hid (own_below HA4.out HA0.out)
    have H0R := Lib.hid h0row
    have hPl := splitP_le t (s.extract 0 300)
    have hQl := splitP_le (t ++ u) (s.extract 0 300)
    have HPB := Lib.hid (show splitP t (s.extract 0 300) = splitB t (s.extract 0 300) by unfold splitP; rw [if_neg (by omega)])
    have HQB := Lib.hid (show splitP (t ++ u) (s.extract 0 300) = splitB (t ++ u) (s.extract 0 300) by unfold splitP; rw [if_neg (by omega)])
    have HCO := Lib.hid (show Coarse (splitP t (s.extract 0 300)) (splitP (t ++ u) (s.extract 0 300)) by rw [HPB.out, HQB.out]; exact splitB_longer (by rw [List.length_append]; omega) _)
    have HCP := Lib.hid (show (catB (splitP t (s.extract 0 300))).length ≤ 300 by rw [HPB.out, splitB_cat, toL_len]; omega)
    have HCQ := Lib.hid (show (catB (splitP (t ++ u) (s.extract 0 300))).length ≤ 300 by rw [HQB.out, splitB_cat, toL_len]; omega)
    have hz4 : w4.heap.size ≤ (w4.alloc (.cells #[] 32)).heap.size := by simp
    rw [hP] at hPl HCO HCP HS4 ⊢
    obtain ⟨Q, hQ⟩ : ∃ Q, splitP (t ++ u) (s.extract 0 300) = Q := ⟨_, rfl⟩
    have HQS := Lib.hid hQ
    rw [hQ] at hQl HCO HCQ
    obtain ⟨nt, hnt⟩ : ∃ nt, t.length = nt := ⟨_, rfl⟩
    obtain ⟨nu, hnu⟩ : ∃ nu, u.length = nu := ⟨_, rfl⟩
    have HNT := Lib.hid hnt; have HNU := Lib.hid hnu
    clear h0row hP hQ HPB HQB HA4 hnt hnu
    go_wp2_with (first
      | (at_builtin; refine wpList_app_pairs rfl _ _ rfl w4.heap.size _ (.slice (some ⟨w4.heap.size, 0, none⟩) 0 0) (.slice o1 t.length c1) [] t rfl H0R.out rfl HAA.out (by simp; omega) hz4 ?_; intro v5 w5 hown5 hgrow5; have HB5 := Lib.hid (HA0.out.grown hgrow5 HA0.out.size (own_base H0R.out)); have HO5 := Lib.hid hown5; have HC5 := Lib.hid (own_below HC4.out HB5.out); have hz5 := HB5.out.size; clear hown5 hgrow5 H0R HAA HC4 HA0)
      | (at_builtin; refine wpList_app_pairs rfl _ _ rfl w4.heap.size _ v5 (.slice o2 u.length c2) ([] ++ t) u rfl HO5.out rfl HC5.out (by simp; omega) hz5 ?_; intro v6 w6 hown6 hgrow6; have HB6 := Lib.hid (HB5.out.grown hgrow6 HB5.out.size (own_base HO5.out)); have hown6' : w6.ownsRow w4.heap.size 32 2 v6 (t ++ u).length (flatP (t ++ u)) := hown6; obtain ⟨o6, c6, rfl, p6⟩ := own_pairs hown6'; have HP6 := Lib.hid p6; clear hown6 hown6' hgrow6 p6))
    have HSB := Lib.hid (Split_any o6 (t ++ u) c6 (s.extract 0 300) w6 (by rw [List.length_append]; omega) HP6.out HO2.out)
    have HS6 := Lib.hid (HS4.out.below HB6.out)
    clear HO5 HC5 HS4 hz4 hz5 HB5
    rw [HQS.out, List.length_append] at HSB
    clear HQS
    go_wp2_with (go_at_call 15; with_reducible refine HSB.out.mono ?_)
    first | rintro e w7 ⟨o7, c7, rfl, s7, hb7⟩ | rintro e w7 o7 c7 rfl s7 hb7
    have HB7 := Lib.hid ((HB4.out.trans (HB6.out.mono HB4.out.size)).trans (hb7.mono ((HB4.out.trans (HB6.out.mono HB4.out.size)).size)))
    have HS7 := Lib.hid (HS6.out.below hb7); have HT7 := Lib.hid s7
    obtain ⟨m, hm⟩ : ∃ m, P.length = m := ⟨_, rfl⟩
    obtain ⟨m2, hm2⟩ : ∃ m2, Q.length = m2 := ⟨_, rfl⟩
    rw [hm] at hPl ⊢
    rw [hm2] at hQl ⊢
    have HM := Lib.hid hm; have HM2 := Lib.hid hm2
    have H0 : Hid (LaS P w7.heap.size w7 (.int .i64 0) (.int .i64 0) (w7.alloc (.map #[] 0))) := Lib.hid ⟨0, Nat.zero_le _, rfl, by rw [offB_zero]; rfl, IsEnd.new P w7, (Below.refl _ w7).alloc (Nat.le_refl _) _⟩
    clear s7 hb7 hm hm2 HS6 HSB HB6 HB4 HB3 HB2 HB1
    go_wp2_with fail
    go_loopw [13, 14] (fun t i wr => LaS P w7.heap.size w7 t i wr) (fun _ i _ => m - (intOf i).toNat)
    case atStart => exact H0.out
    case round =>
      obtain ⟨k, hk, rfl, rfl, hE, hb⟩ := hrel
      rw [HM.out] at hk
      have HB := Lib.hid hb; have HE := Lib.hid hE
      clear hb hE H0
      by_cases hlt : k < m
      · obtain ⟨p, hp⟩ : ∃ p, P[k]? = some p := ⟨_, List.getElem?_eq_getElem (by rw [HM.out]; exact hlt)⟩
        obtain ⟨g, hg, d0, _⟩ := (HS7.out.below HB.out).cell hp
        subst hg
        have h1 := offB_succ hp
        have h2 := offB_le P (k + 1)
        have h3 := HCP.out
        obtain ⟨w9, hrun, hE2, hT⟩ := HE.out.put (by omega) (by omega)
        have hsum : ((offB P k : Nat) : Int) + (p.size : Int) = ((offB P (k + 1) : Nat) : Int) := by omega
        have HREL : Hid (LaS P w7.heap.size w7 (.int .i64 (offB P (k + 1) : Nat)) (.int .i64 ((k : Int) + 1)) w9) := Lib.hid ⟨k + 1, by rw [HM.out]; omega, by rw [Int.natCast_succ], rfl, hE2, mapTurned_below hT HB.out (Nat.le_refl _) HB.out.size⟩
        have hof : offB P (k + 1) ≤ 300 := by omega
        clear hp h1 h2 h3 hE2 hT
        go_wp2_with fail
        go_roundw
        case rel => first | exact HREL.out | ((repeat (apply Exists.intro)); exact ⟨HREL.out, rfl⟩)
        case measure => simp [intOf]; omega
      · have hkn : k = m := by omega
        subst hkn
        have HT8 := Lib.hid (HT7.out.below HB.out)
        obtain ⟨w8, hw8⟩ : ∃ w8, w8 = wr := ⟨_, rfl⟩
        subst hw8
        have H1 : Hid (LbS Q w8 (.int .i64 0) (.int .i64 0) w8) := Lib.hid ⟨0, Nat.zero_le _, rfl, by rw [offB_zero]; rfl, Below.refl _ _⟩
        go_wp2_with fail
        go_loopw [13, 14] (fun t i wr => LbS Q w8 t i wr) (fun _ i _ => m2 - (intOf i).toNat)
        case atStart => exact H1.out
        case round =>
          obtain ⟨j, hj, rfl, rfl, hb⟩ := hrel
          rw [HM2.out] at hj
          have HB9 := Lib.hid hb
          clear hb H1
          by_cases hlj : j < m2
          · obtain ⟨p, hp⟩ : ∃ p, Q[j]? = some p := ⟨_, List.getElem?_eq_getElem (by rw [HM2.out]; exact hlj)⟩
            obtain ⟨g, hg, d0, _⟩ := (HT8.out.below HB9.out).cell hp
            subst hg
            have h1 := offB_succ hp
            have h2 := offB_le Q (j + 1)
            have h3 := HCQ.out
            obtain ⟨i, hi, hie⟩ := HCO.out.2 j (by rw [HM2.out]; exact hlj)
            rw [HM.out] at hi
            have hrun := (HE.out.keep (HB9.out.block _ HE.out.lt)).look ⟨i, hi, hie⟩ (by omega) (Try.zeroValue4 _)
            have hsum : ((offB Q j : Nat) : Int) + (p.size : Int) = ((offB Q (j + 1) : Nat) : Int) := by omega
            have hof : offB Q (j + 1) ≤ 300 := by omega
            have HREL := Lib.hid (fun (W : World) (hW : Below w8.heap.size w8 W) => (show LbS Q w8 (.int .i64 (offB Q (j + 1) : Nat)) (.int .i64 ((j : Int) + 1)) W from ⟨j + 1, by rw [HM2.out]; omega, by rw [Int.natCast_succ], rfl, hW⟩))
            clear hp h1 h2 h3 hi hie
            go_wp2_with fail
            go_roundw
            case rel => first | exact HREL.out _ HB9.out | ((repeat (apply Exists.intro)); exact ⟨HREL.out _ HB9.out, rfl⟩)
            case measure => simp [intOf]; omega
          · have hle : m2 ≤ k := by have := HCO.out.1; rw [HM.out, HM2.out] at this; exact this
            have hle2 : (m2 : Int) ≤ (k : Int) := by omega
            go_wp2_with fail
            go_ret
            exact ⟨ret_bool (by first | (simp; done) | (simp; omega)), HB7.out.trans ((HB.out.trans (HB9.out.mono HB.out.size)).mono HB7.out.size)⟩
  · have hq : s.size ≤ 300 := by omega
    go_wp2_with (go_at_call 14; with_reducible refine (HF.out _ HB1.out).mono ?_)
    first | rintro e w2 ⟨o1, c1, b1, rfl, p1, hb2⟩ | rintro e w2 o1 c1 b1 rfl p1 hb2
    have HB2 := Lib.hid (HB1.out.trans (hb2.mono HB1.out.size)); have HP1 := Lib.hid p1
    clear p1 hb2
    go_wp2_with (go_at_call 14; with_reducible refine (HG.out _ HB2.out).mono ?_)
    first | rintro e w3 ⟨o2, c2, b2, rfl, p2, hb3⟩ | rintro e w3 o2 c2 b2 rfl p2 hb3
    have HB3 := Lib.hid (HB2.out.trans (hb3.mono HB2.out.size)); have HP2 := Lib.hid p2; have HP3 := Lib.hid (own_below HP1.out hb3)
    clear p2 hb3 HP1
    have HSA := Lib.hid (Split_any o1 t c1 s w3 (by omega) (pr_of HP3.out) HO.out)
    go_wp2_with (go_at_call 15; with_reducible refine HSA.out.mono ?_)
    first | rintro e w4 ⟨o4, c4, rfl, s4, hb4⟩ | rintro e w4 o4 c4 rfl s4 hb4
    have HB4 := Lib.hid (HB3.out.trans (hb4.mono HB3.out.size)); have HA4 := Lib.hid (own_below HP3.out hb4); have HC4 := Lib.hid (own_below HP2.out hb4); have HS4 := Lib.hid s4
    clear s4 hb4 HP2 HP3 HSA
    obtain ⟨P, hP⟩ : ∃ P, splitP t s = P := ⟨_, rfl⟩
    have h0row : (w4.alloc (.cells #[] 32)).ownsRow w4.heap.size 32 2 (.slice (some ⟨w4.heap.size, 0, none⟩) 0 0) ([] : List PairB).length (flatP []) := ⟨rfl, .inr ⟨w4.heap.size, 0, #[], rfl, Nat.le_refl _, World.alloc_heap_new _ _, Nat.le_refl _, Nat.zero_le _, rfl, rfl⟩⟩
    have HA0 := Lib.hid ((Below.refl w4.heap.size w4).alloc (Nat.le_refl _) (.cells #[] 32))
    have HAA := Lib.hid (own_below HA4.out HA0.out)
    have H0R := Lib.hid h0row
    have hPl := splitP_le t s
    have hQl := splitP_le (t ++ u) s
    have HPB := Lib.hid (show splitP t s = splitB t s by unfold splitP; rw [if_neg (by omega)])
    have HQB := Lib.hid (show splitP (t ++ u) s = splitB (t ++ u) s by unfold splitP; rw [if_neg (by omega)])
    have HCO := Lib.hid (show Coarse (splitP t s) (splitP (t ++ u) s) by rw [HPB.out, HQB.out]; exact splitB_longer (by rw [List.length_append]; omega) _)
    have HCP := Lib.hid (show (catB (splitP t s)).length ≤ 300 by rw [HPB.out, splitB_cat, toL_len]; omega)
    have HCQ := Lib.hid (show (catB (splitP (t ++ u) s)).length ≤ 300 by rw [HQB.out, splitB_cat, toL_len]; omega)
    have hz4 : w4.heap.size ≤ (w4.alloc (.cells #[] 32)).heap.size := by simp
    rw [hP] at hPl HCO HCP HS4 ⊢
    obtain ⟨Q, hQ⟩ : ∃ Q, splitP (t ++ u) s = Q := ⟨_, rfl⟩
    have HQS := Lib.hid hQ
    rw [hQ] at hQl HCO HCQ
    obtain ⟨nt, hnt⟩ : ∃ nt, t.length = nt := ⟨_, rfl⟩
    obtain ⟨nu, hnu⟩ : ∃ nu, u.length = nu := ⟨_, rfl⟩
    have HNT := Lib.hid hnt; have HNU := Lib.hid hnu
    clear h0row hP hQ HPB HQB HA4 hnt hnu
    go_wp2_with (first
      | (at_builtin; refine wpList_app_pairs rfl _ _ rfl w4.heap.size _ (.slice (some ⟨w4.heap.size, 0, none⟩) 0 0) (.slice o1 t.length c1) [] t rfl H0R.out rfl HAA.out (by simp; omega) hz4 ?_; intro v5 w5 hown5 hgrow5; have HB5 := Lib.hid (HA0.out.grown hgrow5 HA0.out.size (own_base H0R.out)); have HO5 := Lib.hid hown5; have HC5 := Lib.hid (own_below HC4.out HB5.out); have hz5 := HB5.out.size; clear hown5 hgrow5 H0R HAA HC4 HA0)
      | (at_builtin; refine wpList_app_pairs rfl _ _ rfl w4.heap.size _ v5 (.slice o2 u.length c2) ([] ++ t) u rfl HO5.out rfl HC5.out (by simp; omega) hz5 ?_; intro v6 w6 hown6 hgrow6; have HB6 := Lib.hid (HB5.out.grown hgrow6 HB5.out.size (own_base HO5.out)); have hown6' : w6.ownsRow w4.heap.size 32 2 v6 (t ++ u).length (flatP (t ++ u)) := hown6; obtain ⟨o6, c6, rfl, p6⟩ := own_pairs hown6'; have HP6 := Lib.hid p6; clear hown6 hown6' hgrow6 p6))
    have HSB := Lib.hid (Split_any o6 (t ++ u) c6 s w6 (by rw [List.length_append]; omega) HP6.out HO2.out)
    have HS6 := Lib.hid (HS4.out.below HB6.out)
    clear HO5 HC5 HS4 hz4 hz5 HB5
    rw [HQS.out, List.length_append] at HSB
    clear HQS
    go_wp2_with (go_at_call 15; with_reducible refine HSB.out.mono ?_)
    first | rintro e w7 ⟨o7, c7, rfl, s7, hb7⟩ | rintro e w7 o7 c7 rfl s7 hb7
    have HB7 := Lib.hid ((HB4.out.trans (HB6.out.mono HB4.out.size)).trans (hb7.mono ((HB4.out.trans (HB6.out.mono HB4.out.size)).size)))
    have HS7 := Lib.hid (HS6.out.below hb7); have HT7 := Lib.hid s7
    obtain ⟨m, hm⟩ : ∃ m, P.length = m := ⟨_, rfl⟩
    obtain ⟨m2, hm2⟩ : ∃ m2, Q.length = m2 := ⟨_, rfl⟩
    rw [hm] at hPl ⊢
    rw [hm2] at hQl ⊢
    have HM := Lib.hid hm; have HM2 := Lib.hid hm2
    have H0 : Hid (LaS P w7.heap.size w7 (.int .i64 0) (.int .i64 0) (w7.alloc (.map #[] 0))) := Lib.hid ⟨0, Nat.zero_le _, rfl, by rw [offB_zero]; rfl, IsEnd.new P w7, (Below.refl _ w7).alloc (Nat.le_refl _) _⟩
    clear s7 hb7 hm hm2 HS6 HSB HB6 HB4 HB3 HB2 HB1
    go_wp2_with fail
    go_loopw [13, 14] (fun t i wr => LaS P w7.heap.size w7 t i wr) (fun _ i _ => m - (intOf i).toNat)
    case atStart => exact H0.out
    case round =>
      obtain ⟨k, hk, rfl, rfl, hE, hb⟩ := hrel
      rw [HM.out] at hk
      have HB := Lib.hid hb; have HE := Lib.hid hE
      clear hb hE H0
      by_cases hlt : k < m
      · obtain ⟨p, hp⟩ : ∃ p, P[k]? = some p := ⟨_, List.getElem?_eq_getElem (by rw [HM.out]; exact hlt)⟩
        obtain ⟨g, hg, d0, _⟩ := (HS7.out.below HB.out).cell hp
        subst hg
        have h1 := offB_succ hp
        have h2 := offB_le P (k + 1)
        have h3 := HCP.out
        obtain ⟨w9, hrun, hE2, hT⟩ := HE.out.put (by omega) (by omega)
        have hsum : ((offB P k : Nat) : Int) + (p.size : Int) = ((offB P (k + 1) : Nat) : Int) := by omega
        have HREL : Hid (LaS P w7.heap.size w7 (.int .i64 (offB P (k + 1) : Nat)) (.int .i64 ((k : Int) + 1)) w9) := Lib.hid ⟨k + 1, by rw [HM.out]; omega, by rw [Int.natCast_succ], rfl, hE2, mapTurned_below hT HB.out (Nat.le_refl _) HB.out.size⟩
        have hof : offB P (k + 1) ≤ 300 := by omega
        clear hp h1 h2 h3 hE2 hT
        go_wp2_with fail
        go_roundw
        case rel => first | exact HREL.out | ((repeat (apply Exists.intro)); exact ⟨HREL.out, rfl⟩)
        case measure => simp [intOf]; omega
      · have hkn : k = m := by omega
        subst hkn
        have HT8 := Lib.hid (HT7.out.below HB.out)
        obtain ⟨w8, hw8⟩ : ∃ w8, w8 = wr := ⟨_, rfl⟩
        subst hw8
        have H1 : Hid (LbS Q w8 (.int .i64 0) (.int .i64 0) w8) := Lib.hid ⟨0, Nat.zero_le _, rfl, by rw [offB_zero]; rfl, Below.refl _ _⟩
        go_wp2_with fail
        go_loopw [13, 14] (fun t i wr => LbS Q w8 t i wr) (fun _ i _ => m2 - (intOf i).toNat)
        case atStart => exact H1.out
        case round =>
          obtain ⟨j, hj, rfl, rfl, hb⟩ := hrel
          rw [HM2.out] at hj
          have HB9 := Lib.hid hb
          clear hb H1
          by_cases hlj : j < m2
          · obtain ⟨p, hp⟩ : ∃ p, Q[j]? = some p := ⟨_, List.getElem?_eq_getElem (by rw [HM2.out]; exact hlj)⟩
            obtain ⟨g, hg, d0, _⟩ := (HT8.out.below HB9.out).cell hp
            subst hg
            have h1 := offB_succ hp
            have h2 := offB_le Q (j + 1)
            have h3 := HCQ.out
            obtain ⟨i, hi, hie⟩ := HCO.out.2 j (by rw [HM2.out]; exact hlj)
            rw [HM.out] at hi
            have hrun := (HE.out.keep (HB9.out.block _ HE.out.lt)).look ⟨i, hi, hie⟩ (by omega) (Try.zeroValue4 _)
            have hsum : ((offB Q j : Nat) : Int) + (p.size : Int) = ((offB Q (j + 1) : Nat) : Int) := by omega
            have hof : offB Q (j + 1) ≤ 300 := by omega
            have HREL := Lib.hid (fun (W : World) (hW : Below w8.heap.size w8 W) => (show LbS Q w8 (.int .i64 (offB Q (j + 1) : Nat)) (.int .i64 ((j : Int) + 1)) W from ⟨j + 1, by rw [HM2.out]; omega, by rw [Int.natCast_succ], rfl, hW⟩))
            clear hp h1 h2 h3 hi hie
            go_wp2_with fail
            go_roundw
            case rel => first | exact HREL.out _ HB9.out | ((repeat (apply Exists.intro)); exact ⟨HREL.out _ HB9.out, rfl⟩)
            case measure => simp [intOf]; omega
          · have hle : m2 ≤ k := by have := HCO.out.1; rw [HM.out, HM2.out] at this; exact this
            have hle2 : (m2 : Int) ≤ (k : Int) := by omega
            go_wp2_with fail
            go_ret
            exact ⟨ret_bool (by first | (simp; done) | (simp; omega)), HB7.out.trans ((HB.out.trans (HB9.out.mono HB.out.size)).mono HB7.out.size)⟩
end Go.Proofs.Ytlfjlkmikmajaaa
