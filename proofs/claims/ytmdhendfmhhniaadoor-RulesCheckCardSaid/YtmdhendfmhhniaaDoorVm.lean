/- Rules: what is wrong with a text of a kind: the program's Check and the document's. -/
import Derived.Test.YtmdhendfmhhniaaDoorVl
namespace Go.Proofs.YtmdhendfmhhniaaDoor
open Go.RowKit
variable {w w' : World}

theorem parseF_all {α : Type} {rd : List α → ByteArray → α ⊕ Int} {P : α → Prop} (hrd : ∀ out x p, rd out x = .inl p → P p) (s : ByteArray) :
    ∀ (n k : Nat) (out : List α), out.length ≤ 4096 → (∀ p ∈ out, P p) → (∀ p ∈ (parseF rd s n k out).1, P p) ∧ (parseF rd s n k out).1.length ≤ 4096
  | 0, k, out, hl, h => ⟨h, hl⟩
  | n + 1, k, out, hl, h => by
    unfold parseF
    split
    · split
      · exact ⟨fun p hp => (by cases hp), Nat.zero_le _⟩
      · split
        · exact ⟨fun p hp => (by cases hp), Nat.zero_le _⟩
        · cases hx : rd out (s.extract k (nlAt s k)) with
          | inr e => exact ⟨fun p hp => (by cases hp), Nat.zero_le _⟩
          | inl x =>
            refine parseF_all hrd s n _ _ (by rw [List.length_append]; simp; omega) (fun p hp => ?_)
            rcases List.mem_append.1 hp with h1 | h1
            · exact h p h1
            · rw [List.mem_singleton.1 h1]; exact hrd _ _ _ hx
    · exact ⟨h, hl⟩
theorem parseM_okp (S : ByteArray) : (∀ p ∈ (parseM S).1, p.1.size + p.2.size ≤ maxLen) ∧ (parseM S).1.length ≤ 4096 := by
  unfold parseM parseL
  split
  · exact ⟨fun p hp => (by cases hp), Nat.zero_le _⟩
  · refine parseF_all (P := fun p : PairB => p.1.size + p.2.size ≤ maxLen) (fun out x p h => ?_) S _ _ _ (by decide) (fun p hp => (by cases hp))
    have hp := (rdM_ok h).1
    unfold rdM at h
    split at h
    · rename_i hg
      simp only [Bool.and_eq_true] at hg
      obtain ⟨g1, g2⟩ := hg
      unfold goodB at g1 g2
      simp only [Bool.and_eq_true, decide_eq_true_eq] at g1 g2
      subst hp
      unfold maxLen
      have := g1.1.2; have := g2.1.2
      omega
    · cases h
/-- What is wrong with a list of merges. -/
def chkM (S : ByteArray) : Int × Int := if (parseM S).2.2 = 0 then if 0 ≤ invM (parseM S).1 then (invM (parseM S).1 + 1, 17) else (0, 0) else ((parseM S).2.1, (parseM S).2.2)
/-- What is wrong with a text of a kind. -/
def chk (k : Int) (S : ByteArray) : Int × Int := if k = 1 then chkM S else if k = 2 then ((parseV S).2.1, (parseV S).2.2) else if k = 3 then ((parseR S).2.1, (parseR S).2.2) else if 262144 < S.size then (0, 6) else (0, 0)
theorem invF_le : ∀ (k : Nat) (rs : List ByteArray) (l : List PairB), -1 ≤ invF k rs l ∧ invF k rs l < (k : Int) + l.length + 1
  | k, rs, [] => by unfold invF; exact ⟨by decide, by simp; omega⟩
  | k, rs, p :: l => by
    unfold invF
    split
    · obtain ⟨h1, h2⟩ := invF_le (k + 1) (rs ++ [p.1 ++ p.2]) l
      refine ⟨h1, ?_⟩
      rw [List.length_cons]; push_cast at h2 ⊢; omega
    · exact ⟨by omega, by rw [List.length_cons]; push_cast; omega⟩
set_option maxHeartbeats 1000000 in
set_option maxRecDepth 100000 in
theorem checkM_any (S : ByteArray) (w : World) (hS : S.size ≤ maxLen) : Calls Tryd.prog 41 #[.string S] w fun e w' => e = .returned (.tuple #[.int .i64 (chkM S).1, .int .i64 (chkM S).2]) ∧ Below w.heap.size w w' := by
  have HP := Lib.hid (Parse_any S w hS)
  obtain ⟨hok, hlen⟩ := parseM_okp S
  have HC : Hid (chkM S = if (parseM S).2.2 = 0 then if 0 ≤ invM (parseM S).1 then (invM (parseM S).1 + 1, 17) else (0, 0) else ((parseM S).2.1, (parseM S).2.2)) := Lib.hid rfl
  obtain ⟨c, hc⟩ : ∃ c, chkM S = c := ⟨_, rfl⟩
  obtain ⟨⟨L, n, e⟩, hp⟩ : ∃ p, parseM S = p := ⟨_, rfl⟩
  rw [hc, hp] at HC
  rw [hp] at HP hok hlen
  rw [hc]
  simp only at HC HP hok hlen
  have hil := invF_le 0 [] L
  obtain ⟨v, hv⟩ : ∃ v, invM L = v := ⟨_, rfl⟩
  rw [show invF 0 [] L = invM L from rfl, hv] at hil
  have HI : Hid (∀ (o : Option Addr) (cap : Nat) (W : World), PrAt W 48 o L → Calls Tryd.prog 18 #[.slice o L.length cap] W fun e w' => e = .returned (.int .i64 v) ∧ Below W.heap.size W w') := Lib.hid (fun o cap W h => by rw [← hv]; exact Invalid_any o L cap W (by omega) h hok)
  rw [hv] at HC
  have hv1 : -1 ≤ v := hil.1
  have hv2 : v ≤ 4096 := by have := hil.2; push_cast at this; omega
  clear hc hp hv hok hil
  by_cases h0 : e = 0
  · have HC1 : Hid (c = if 0 ≤ v then (v + 1, 17) else (0, 0)) := Lib.hid (by rw [HC.out, if_pos h0])
    subst h0
    clear HC
    by_cases hi : 0 ≤ v
    · have HC2 : Hid (c = (v + 1, 17)) := Lib.hid (by rw [HC1.out, if_pos hi])
      clear HC1
      go_enter Tryd.func41, Tryd.ntmps41
      go_wp2_with (go_at_call 66; refine HP.out.mono ?_)
      first | rintro e w1 v1 rfl ho hb1 | rintro e w1 ⟨v1, rfl, ho, hb1⟩
      obtain ⟨o, cap, rfl, hpa⟩ := own_pairs ho
      have HPA := Lib.hid hpa; have HB1 := Lib.hid hb1
      clear ho hpa hb1
      go_wp2_with (go_at_call 18; refine (HI.out _ _ _ HPA.out).mono ?_; rintro e w2 ⟨rfl, hb2⟩; have HB2 := Lib.hid (HB1.out.trans (hb2.mono HB1.out.size)); clear hb2)
      rw [HC2.out]
      exact bodyPost_ret (v := .tuple #[.int .i64 (v + 1), .int .i64 17]) (by simp [results, Tryd.results41, go_sem]) rfl ⟨rfl, HB2.out⟩
    · have HC2 : Hid (c = (0, 0)) := Lib.hid (by rw [HC1.out, if_neg hi])
      clear HC1
      go_enter Tryd.func41, Tryd.ntmps41
      go_wp2_with (go_at_call 66; refine HP.out.mono ?_)
      first | rintro e w1 v1 rfl ho hb1 | rintro e w1 ⟨v1, rfl, ho, hb1⟩
      obtain ⟨o, cap, rfl, hpa⟩ := own_pairs ho
      have HPA := Lib.hid hpa; have HB1 := Lib.hid hb1
      clear ho hpa hb1
      go_wp2_with (go_at_call 18; refine (HI.out _ _ _ HPA.out).mono ?_; rintro e w2 ⟨rfl, hb2⟩; have HB2 := Lib.hid (HB1.out.trans (hb2.mono HB1.out.size)); clear hb2)
      rw [HC2.out]
      exact bodyPost_ret (v := .tuple #[.int .i64 0, .int .i64 0]) (by simp [results, Tryd.results41, go_sem]) rfl ⟨rfl, HB2.out⟩
  · have HC1 : Hid (c = (n, e)) := Lib.hid (by rw [HC.out, if_neg h0])
    clear HC
    go_enter Tryd.func41, Tryd.ntmps41
    go_wp2_with (go_at_call 66; refine HP.out.mono ?_)
    first | rintro e1 w1 v1 rfl ho hb1 | rintro e1 w1 ⟨v1, rfl, ho, hb1⟩
    have HB1 := Lib.hid hb1
    obtain ⟨o, cap, rfl, hpa⟩ := own_pairs ho
    clear ho hpa hb1
    go_wp2_with fail
    rw [HC1.out]
    exact bodyPost_ret (v := .tuple #[.int .i64 n, .int .i64 e]) (by simp [results, Tryd.results41, go_sem]) rfl ⟨rfl, HB1.out⟩
set_option maxHeartbeats 1000000 in
set_option maxRecDepth 100000 in
theorem Check_any (k : Int) (S : ByteArray) (w : World) (hS : S.size ≤ maxLen) (hw : StrAt w) : Calls Tryd.prog 23 #[.int .i64 k, .string S] w fun e w' => e = .returned (.tuple #[.int .i64 (chk k S).1, .int .i64 (chk k S).2]) ∧ Below w.heap.size w w' := by
  by_cases h1 : k = 1
  · subst h1
    have HC : Hid (chk 1 S = chkM S) := Lib.hid (if_pos rfl)
    have HM := Lib.hid (checkM_any S w hS)
    clear hw
    go_enter Tryd.func23, Tryd.ntmps23
    go_wp2_with (go_at_call 41; refine HM.out.mono ?_; rintro e w1 ⟨rfl, hb1⟩; have HB1 := Lib.hid hb1; clear hb1)
    rw [HC.out]
    exact bodyPost_ret (v := .tuple #[.int .i64 (chkM S).1, .int .i64 (chkM S).2]) (by simp [results, Tryd.results23, go_sem]) rfl ⟨rfl, HB1.out⟩
  by_cases h2 : k = 2
  · subst h2
    have HC : Hid (chk 2 S = ((parseV S).2.1, (parseV S).2.2)) := Lib.hid (by unfold chk; rw [if_neg (by decide), if_pos rfl])
    have HM := Lib.hid (ParseV_any S w hS hw)
    obtain ⟨⟨L, n, e⟩, hp⟩ : ∃ p, parseV S = p := ⟨_, rfl⟩
    rw [hp] at HC HM
    simp only at HC HM
    clear hw hp h1
    go_enter Tryd.func23, Tryd.ntmps23
    go_wp2_with (go_at_call 42; refine HM.out.mono ?_)
    first | rintro e1 w1 v1 rfl ho hb1 | rintro e1 w1 ⟨v1, rfl, ho, hb1⟩
    have HB1 := Lib.hid hb1
    clear ho hb1
    go_wp2_with fail
    rw [HC.out]
    exact bodyPost_ret (v := .tuple #[.int .i64 n, .int .i64 e]) (by simp [results, Tryd.results23, go_sem]) rfl ⟨rfl, HB1.out⟩
  by_cases h3 : k = 3
  · subst h3
    have HC : Hid (chk 3 S = ((parseR S).2.1, (parseR S).2.2)) := Lib.hid (by unfold chk; rw [if_neg (by decide), if_neg (by decide), if_pos rfl])
    have HM := Lib.hid (ParseR_any S w hS)
    obtain ⟨⟨L, n, e⟩, hp⟩ : ∃ p, parseR S = p := ⟨_, rfl⟩
    rw [hp] at HC HM
    simp only at HC HM
    clear hw hp h1 h2
    go_enter Tryd.func23, Tryd.ntmps23
    go_wp2_with (go_at_call 40; refine HM.out.mono ?_)
    first | rintro e1 w1 v1 rfl ho hb1 | rintro e1 w1 ⟨v1, rfl, ho, hb1⟩
    have HB1 := Lib.hid hb1
    clear ho hb1
    go_wp2_with fail
    rw [HC.out]
    exact bodyPost_ret (v := .tuple #[.int .i64 n, .int .i64 e]) (by simp [results, Tryd.results23, go_sem]) rfl ⟨rfl, HB1.out⟩
  have hc : chk k S = if 262144 < S.size then (0, 6) else (0, 0) := by unfold chk; rw [if_neg h1, if_neg h2, if_neg h3]
  have b1 : (k == 1) = false := beq_eq_false_iff_ne.2 h1
  have b2 : (k == 2) = false := beq_eq_false_iff_ne.2 h2
  have b3 : (k == 3) = false := beq_eq_false_iff_ne.2 h3
  unfold maxLen at hS
  by_cases hl : 262144 < S.size
  · have HC : Hid (chk k S = (0, 6)) := Lib.hid (by rw [hc, if_pos hl])
    have hli : (262144 : Int) < S.size := by omega
    clear hc hw hl
    go_enter Tryd.func23, Tryd.ntmps23
    go_wp2_with fail
    rw [HC.out]
    exact bodyPost_ret (v := .tuple #[.int .i64 0, .int .i64 6]) (by simp [results, Tryd.results23, go_sem]) rfl ⟨rfl, Below.refl _ _⟩
  · have HC : Hid (chk k S = (0, 0)) := Lib.hid (by rw [hc, if_neg hl])
    have hli : ¬ (262144 : Int) < S.size := by omega
    clear hc hw hl
    go_enter Tryd.func23, Tryd.ntmps23
    go_wp2_with fail
    rw [HC.out]
    exact bodyPost_ret (v := .tuple #[.int .i64 0, .int .i64 0]) (by simp [results, Tryd.results23, go_sem]) rfl ⟨rfl, Below.refl _ _⟩
end Go.Proofs.YtmdhendfmhhniaaDoor
