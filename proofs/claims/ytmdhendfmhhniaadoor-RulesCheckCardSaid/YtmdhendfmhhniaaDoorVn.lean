/- Rules: the document's Check; the law RulesCheck. -/
import Derived.Test.YtmdhendfmhhniaaDoorVm
import Derived.Test.YtmdhendfmhhniaaDoorRj
namespace Go.Proofs.YtmdhendfmhhniaaDoor
open Go.RowKit
variable {w w' : World}

set_option maxHeartbeats 2000000 in
set_option maxRecDepth 100000 in
theorem RCheck_any (k : Int) (S : ByteArray) (w : World) (hS : S.size ≤ 262144) : Calls Tryd.prog 24 #[.int .i64 k, .string S] w fun e w' => e = .returned (.tuple #[.int .i64 (chk k S).1, .int .i64 (chk k S).2]) ∧ Below w.heap.size w w' := by
  by_cases h1 : k = 1
  · subst h1
    have HC0 : Hid (chk 1 S = chkM S) := Lib.hid (if_pos rfl)
    have HP := Lib.hid (RParseM_any S w hS)
    obtain ⟨hok, hlen⟩ := parseM_okp S
    have HC : Hid (chkM S = if (parseM S).2.2 = 0 then if 0 ≤ invM (parseM S).1 then (invM (parseM S).1 + 1, 17) else (0, 0) else ((parseM S).2.1, (parseM S).2.2)) := Lib.hid rfl
    rw [← HC0.out] at HC
    obtain ⟨c, hc⟩ : ∃ c, chk 1 S = c := ⟨_, rfl⟩
    obtain ⟨⟨L, n, e⟩, hp⟩ : ∃ p, parseM S = p := ⟨_, rfl⟩
    rw [hc, hp] at HC
    rw [hp] at HP hok hlen
    rw [hc]
    simp only at HC HP hok hlen
    have hil := invF_le 0 [] L
    obtain ⟨v, hv⟩ : ∃ v, invM L = v := ⟨_, rfl⟩
    rw [show invF 0 [] L = invM L from rfl, hv] at hil
    have HI : Hid (∀ (o : Option Addr) (cap : Nat) (W : World), PrAt W 67 o L → Calls Tryd.prog 44 #[.slice o L.length cap] W fun e w' => e = .returned (.int .i64 v) ∧ Below W.heap.size W w') := Lib.hid (fun o cap W h => by rw [← hv]; exact RInvalid_any o L cap W (by omega) h hok)
    rw [hv] at HC
    have hv1 : -1 ≤ v := hil.1
    have hv2 : v ≤ 4096 := by have := hil.2; push_cast at this; omega
    clear hc hp hv hok hil HC0
    by_cases h0 : e = 0
    · have HC1 : Hid (c = if 0 ≤ v then (v + 1, 17) else (0, 0)) := Lib.hid (by rw [HC.out, if_pos h0])
      subst h0
      clear HC
      by_cases hi : 0 ≤ v
      · have HC2 : Hid (c = (v + 1, 17)) := Lib.hid (by rw [HC1.out, if_pos hi])
        clear HC1
        go_enter Tryd.func24, Tryd.ntmps24
        go_wp2_with (go_at_call 43; refine HP.out.mono ?_)
        first | rintro e w1 v1 rfl ho hb1 | rintro e w1 ⟨v1, rfl, ho, hb1⟩
        obtain ⟨o, cap, rfl, hpa⟩ := own_pairs ho
        have HPA := Lib.hid hpa; have HB1 := Lib.hid hb1
        clear ho hpa hb1
        go_wp2_with (go_at_call 44; refine (HI.out _ _ _ HPA.out).mono ?_; rintro e w2 ⟨rfl, hb2⟩; have HB2 := Lib.hid (HB1.out.trans (hb2.mono HB1.out.size)); clear hb2)
        rw [HC2.out]
        exact bodyPost_ret (v := .tuple #[.int .i64 (v + 1), .int .i64 17]) (by simp [results, Tryd.results24, go_sem]) rfl ⟨rfl, HB2.out⟩
      · have HC2 : Hid (c = (0, 0)) := Lib.hid (by rw [HC1.out, if_neg hi])
        clear HC1
        go_enter Tryd.func24, Tryd.ntmps24
        go_wp2_with (go_at_call 43; refine HP.out.mono ?_)
        first | rintro e w1 v1 rfl ho hb1 | rintro e w1 ⟨v1, rfl, ho, hb1⟩
        obtain ⟨o, cap, rfl, hpa⟩ := own_pairs ho
        have HPA := Lib.hid hpa; have HB1 := Lib.hid hb1
        clear ho hpa hb1
        go_wp2_with (go_at_call 44; refine (HI.out _ _ _ HPA.out).mono ?_; rintro e w2 ⟨rfl, hb2⟩; have HB2 := Lib.hid (HB1.out.trans (hb2.mono HB1.out.size)); clear hb2)
        rw [HC2.out]
        exact bodyPost_ret (v := .tuple #[.int .i64 0, .int .i64 0]) (by simp [results, Tryd.results24, go_sem]) rfl ⟨rfl, HB2.out⟩
    · have HC1 : Hid (c = (n, e)) := Lib.hid (by rw [HC.out, if_neg h0])
      clear HC
      go_enter Tryd.func24, Tryd.ntmps24
      go_wp2_with (go_at_call 43; refine HP.out.mono ?_)
      first | rintro e1 w1 v1 rfl ho hb1 | rintro e1 w1 ⟨v1, rfl, ho, hb1⟩
      have HB1 := Lib.hid hb1
      obtain ⟨o, cap, rfl, hpa⟩ := own_pairs ho
      clear ho hpa hb1
      go_wp2_with fail
      rw [HC1.out]
      exact bodyPost_ret (v := .tuple #[.int .i64 n, .int .i64 e]) (by simp [results, Tryd.results24, go_sem]) rfl ⟨rfl, HB1.out⟩
  by_cases h2 : k = 2
  · subst h2
    have HC : Hid (chk 2 S = ((parseV S).2.1, (parseV S).2.2)) := Lib.hid (by unfold chk; rw [if_neg (by decide), if_pos rfl])
    have HM := Lib.hid (RParseV_any S w hS)
    obtain ⟨⟨L, n, e⟩, hp⟩ : ∃ p, parseV S = p := ⟨_, rfl⟩
    rw [hp] at HC HM
    simp only at HC HM
    clear hp h1
    go_enter Tryd.func24, Tryd.ntmps24
    go_wp2_with (go_at_call 45; refine HM.out.mono ?_)
    first | rintro e1 w1 v1 rfl ho hb1 | rintro e1 w1 ⟨v1, rfl, ho, hb1⟩
    have HB1 := Lib.hid hb1
    clear ho hb1
    go_wp2_with fail
    rw [HC.out]
    exact bodyPost_ret (v := .tuple #[.int .i64 n, .int .i64 e]) (by simp [results, Tryd.results24, go_sem]) rfl ⟨rfl, HB1.out⟩
  by_cases h3 : k = 3
  · subst h3
    have HC : Hid (chk 3 S = ((parseR S).2.1, (parseR S).2.2)) := Lib.hid (by unfold chk; rw [if_neg (by decide), if_neg (by decide), if_pos rfl])
    have HM := Lib.hid (RParseR_any S w hS)
    obtain ⟨⟨L, n, e⟩, hp⟩ : ∃ p, parseR S = p := ⟨_, rfl⟩
    rw [hp] at HC HM
    simp only at HC HM
    clear hp h1 h2
    go_enter Tryd.func24, Tryd.ntmps24
    go_wp2_with (go_at_call 46; refine HM.out.mono ?_)
    first | rintro e1 w1 v1 rfl ho hb1 | rintro e1 w1 ⟨v1, rfl, ho, hb1⟩
    have HB1 := Lib.hid hb1
    clear ho hb1
    go_wp2_with fail
    rw [HC.out]
    exact bodyPost_ret (v := .tuple #[.int .i64 n, .int .i64 e]) (by simp [results, Tryd.results24, go_sem]) rfl ⟨rfl, HB1.out⟩
  have b1 : (k == 1) = false := beq_eq_false_iff_ne.2 h1
  have b2 : (k == 2) = false := beq_eq_false_iff_ne.2 h2
  have b3 : (k == 3) = false := beq_eq_false_iff_ne.2 h3
  have HC : Hid (chk k S = (0, 0)) := Lib.hid (by unfold chk; rw [if_neg h1, if_neg h2, if_neg h3, if_neg (by omega)])
  have hli : ¬ (262144 : Int) < S.size := by omega
  go_enter Tryd.func24, Tryd.ntmps24
  go_wp2_with fail
  rw [HC.out]
  exact bodyPost_ret (v := .tuple #[.int .i64 0, .int .i64 0]) (by simp [results, Tryd.results24, go_sem]) rfl ⟨rfl, Below.refl _ _⟩
set_option maxHeartbeats 2000000 in
set_option maxRecDepth 100000 in
theorem LCheck_any (name : ByteArray) (k : Int) (S : ByteArray) (w : World) (hn : name.size ≤ maxLen) (hS : S.size ≤ maxLen) (hw : StrAt w) :
    Calls Tryd.prog 7 #[.string name, .int .i64 k, .string S] w fun e w' => e = .returned (.bool true) ∧ Below w.heap.size w w' := by
  have HS := Lib.hid (speaksR_any w)
  unfold maxLen at hS
  by_cases hl : 3000 < S.size
  · have hli : (3000 : Int) < S.size := by omega
    clear hl
    go_enter Tryd.func7, Tryd.ntmps7
    go_wp2_with (go_at_call 22; refine HS.out.mono ?_; rintro e w1 ⟨rfl, hb1⟩; have HB1 := Lib.hid hb1; clear hb1)
    go_ret
    exact ⟨rfl, HB1.out⟩
  · have hli : ¬ (3000 : Int) < S.size := by omega
    obtain ⟨⟨c1, c2⟩, hc⟩ : ∃ c, chk k S = c := ⟨_, rfl⟩
    have H1 := fun W hW => Check_any k S W (by unfold maxLen; omega) hW
    have H2 := fun W => RCheck_any k S W (by omega)
    have H3 := fun W => Kind_any name W hn
    have H4 := fun W => RKind_any name W hn
    rw [hc] at H1 H2
    obtain ⟨kn, hkn⟩ : ∃ x, kindN name = x := ⟨_, rfl⟩
    rw [hkn] at H3 H4
    have H1 := Lib.hid H1; have H2 := Lib.hid H2; have H3 := Lib.hid H3; have H4 := Lib.hid H4
    have HW := Lib.hid hw
    clear hc hl hw hkn hn hS
    go_enter Tryd.func7, Tryd.ntmps7
    go_wp2_with (first
      | (go_at_call 22; refine HS.out.mono ?_; rintro e w1 ⟨rfl, hb1⟩; have HB1 := Lib.hid hb1; clear hb1)
      | (go_at_call 23; refine (H1.out _ (HW.out.below HB1.out)).mono ?_; rintro e w2 ⟨rfl, hb2⟩; have HB2 := Lib.hid (HB1.out.trans (hb2.mono HB1.out.size)); clear hb2)
      | (go_at_call 24; refine (H2.out _).mono ?_; rintro e w3 ⟨rfl, hb3⟩; have HB3 := Lib.hid (HB2.out.trans (hb3.mono HB2.out.size)); clear hb3)
      | (go_at_call 25; (with_reducible refine (H3.out _).mono ?_); rintro e w4 ⟨rfl, hw4⟩; (try subst hw4))
      | (go_at_call 26; (with_reducible refine (H4.out _).mono ?_); rintro e w5 ⟨rfl, hb5⟩; have HB5 := Lib.hid (HB3.out.trans (hb5.mono HB3.out.size)); clear hb5))
    go_ret
    exact ⟨rfl, HB5.out⟩
end Go.Proofs.YtmdhendfmhhniaaDoor
