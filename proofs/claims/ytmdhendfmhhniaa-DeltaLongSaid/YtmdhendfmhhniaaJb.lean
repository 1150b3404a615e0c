/- Deltas: an instruction at the beginning of a text. -/
import Derived.Test.YtmdhendfmhhniaaJa
namespace Go.Proofs.Ytmdhendfmhhniaa
open Go.RowKit
variable {w w' : World}

/-- New bytes: the bytes, how many the instruction takes, the error. -/
def addD (s : ByteArray) : ByteArray × Int × Int :=
  if (getI s).2.2 ≠ 0 then (⟨#[]⟩, 0, (getI s).2.2)
  else if (getI s).1 = 0 then (⟨#[]⟩, 0, 2)
  else if (s.size : Int) - (getI s).2.1 < (getI s).1 then (⟨#[]⟩, 0, 3)
  else (s.extract (getI s).2.1.toNat ((getI s).2.1 + (getI s).1).toNat, (getI s).2.1 + (getI s).1, 0)
/-- Bytes of the base. -/
def copD (base s : ByteArray) : ByteArray × Int × Int :=
  if (getI s).2.2 ≠ 0 then (⟨#[]⟩, 0, (getI s).2.2)
  else if (getI (s.extract (getI s).2.1.toNat s.size)).2.2 ≠ 0 then (⟨#[]⟩, 0, (getI (s.extract (getI s).2.1.toNat s.size)).2.2)
  else if (getI (s.extract (getI s).2.1.toNat s.size)).1 = 0 ∨ (base.size : Int) - (getI s).1 < (getI (s.extract (getI s).2.1.toNat s.size)).1 then (⟨#[]⟩, 0, 2)
  else (base.extract (getI s).1.toNat ((getI s).1 + (getI (s.extract (getI s).2.1.toNat s.size)).1).toNat, (getI s).2.1 + (getI (s.extract (getI s).2.1.toNat s.size)).2.1, 0)
/-- An instruction. -/
def insD (base s : ByteArray) : ByteArray × Int × Int :=
  if byt s 0 = 0 then ((addD (s.extract 1 s.size)).1, 1 + (addD (s.extract 1 s.size)).2.1, (addD (s.extract 1 s.size)).2.2)
  else if byt s 0 = 1 then ((copD base (s.extract 1 s.size)).1, 1 + (copD base (s.extract 1 s.size)).2.1, (copD base (s.extract 1 s.size)).2.2)
  else (⟨#[]⟩, 0, 2)
set_option maxHeartbeats 1000000 in
set_option maxRecDepth 100000 in
theorem added_any (s : ByteArray) (w : World) (hm : s.size ≤ maxLen) :
    Calls Try.prog 25 #[.string s] w fun e w' => e = .returned (.tuple #[.string (addD s).1, .int .i64 (addD s).2.1, .int .i64 (addD s).2.2]) ∧ Below w.heap.size w w' := by
  obtain ⟨z, hz⟩ : ∃ z, addD s = z := ⟨_, rfl⟩
  have HS := Lib.hid hz.symm
  rw [hz]
  clear hz
  unfold addD at HS
  obtain ⟨n, k, e, hg⟩ : ∃ a n e, getI s = (a, n, e) := ⟨_, _, _, rfl⟩
  have g1 := getI_bounds s n k e hg
  have H1 := Lib.hid (fun W => get_vars s n k e W hm hg)
  rw [hg] at HS
  dsimp only at HS
  unfold maxLen at hm
  by_cases h1 : e = 0
  · subst h1
    have hn := g1.2.2.2.2.2 rfl
    by_cases h2 : n = 0
    · subst h2
      have HC := Lib.hid (HS.out.trans (by rw [if_neg (by decide), if_pos rfl]))
      clear HS hg g1 hn
      go_enter Try.func25, Try.ntmps25
      go_wp2_with (go_at_call 24; (with_reducible refine (H1.out _).mono ?_); rintro e w1 ⟨rfl, hb1⟩; have HB1 := Lib.hid hb1; clear hb1)
      rw [HC.out]
      exact bodyPost_ret (v := .tuple #[.string ⟨#[]⟩, .int .i64 0, .int .i64 2]) (by simp [results, Try.results25, go_sem]) rfl ⟨rfl, HB1.out⟩
    · have hnb : (n == 0) = false := beq_eq_false_iff_ne.2 h2
      by_cases h3 : (s.size : Int) - k < n
      · have HC := Lib.hid (HS.out.trans (by rw [if_neg (by decide), if_neg h2, if_pos h3]))
        have hk1 : 0 ≤ k := by omega
        have hk2 : k ≤ s.size := hn.2
        clear HS hg g1 hn
        go_enter Try.func25, Try.ntmps25
        go_wp2_with (go_at_call 24; (with_reducible refine (H1.out _).mono ?_); rintro e w1 ⟨rfl, hb1⟩; have HB1 := Lib.hid hb1; clear hb1)
        rw [HC.out]
        exact bodyPost_ret (v := .tuple #[.string ⟨#[]⟩, .int .i64 0, .int .i64 3]) (by simp [results, Try.results25, go_sem]) rfl ⟨rfl, HB1.out⟩
      · have HC := Lib.hid (HS.out.trans (by rw [if_neg (by decide), if_neg h2, if_neg h3]))
        have hk1 : 0 ≤ k := by omega
        have hk2 : k ≤ s.size := hn.2
        have hn0 : 0 ≤ n := by omega
        have hkn : k + n ≤ s.size := by omega
        have hkk : k ≤ k + n := by omega
        have hk3 : 0 ≤ k + n := by omega
        clear HS hg g1 hn
        go_enter Try.func25, Try.ntmps25
        go_wp2_with (go_at_call 24; (with_reducible refine (H1.out _).mono ?_); rintro e w1 ⟨rfl, hb1⟩; have HB1 := Lib.hid hb1; clear hb1)
        rw [HC.out]
        exact bodyPost_ret (v := .tuple #[.string (s.extract k.toNat (k + n).toNat), .int .i64 (k + n), .int .i64 0]) (by simp [results, Try.results25, go_sem]) rfl ⟨rfl, HB1.out⟩
  · have HC := Lib.hid (HS.out.trans (by rw [if_pos h1]))
    have heb : (e == 0) = false := beq_eq_false_iff_ne.2 h1
    clear HS hg g1
    go_enter Try.func25, Try.ntmps25
    go_wp2_with (go_at_call 24; (with_reducible refine (H1.out _).mono ?_); rintro e w1 ⟨rfl, hb1⟩; have HB1 := Lib.hid hb1; clear hb1)
    rw [HC.out]
    exact bodyPost_ret (v := .tuple #[.string ⟨#[]⟩, .int .i64 0, .int .i64 e]) (by simp [results, Try.results25, go_sem]) rfl ⟨rfl, HB1.out⟩
set_option maxHeartbeats 1000000 in
set_option maxRecDepth 100000 in
theorem copied_any (base s : ByteArray) (w : World) (hm : s.size ≤ maxLen) (hbm : base.size ≤ 4294967295) :
    Calls Try.prog 26 #[.string base, .string s] w fun e w' => e = .returned (.tuple #[.string (copD base s).1, .int .i64 (copD base s).2.1, .int .i64 (copD base s).2.2]) ∧ Below w.heap.size w w' := by
  obtain ⟨z, hz⟩ : ∃ z, copD base s = z := ⟨_, rfl⟩
  have HS := Lib.hid hz.symm
  rw [hz]
  clear hz
  unfold copD at HS
  obtain ⟨p, k, e, hg⟩ : ∃ a n e, getI s = (a, n, e) := ⟨_, _, _, rfl⟩
  have g1 := getI_bounds s p k e hg
  have H1 := Lib.hid (fun W => get_vars s p k e W hm hg)
  rw [hg] at HS
  dsimp only at HS
  unfold maxLen at hm
  by_cases h1 : e = 0
  · subst h1
    have hn := g1.2.2.2.2.2 rfl
    obtain ⟨r, hr⟩ : ∃ r, s.extract k.toNat s.size = r := ⟨_, rfl⟩
    have hrs : r.size ≤ maxLen := by rw [← hr, ByteArray.size_extract]; unfold maxLen; omega
    rw [hr] at HS
    obtain ⟨n, m, f, hg2⟩ : ∃ a n e, getI r = (a, n, e) := ⟨_, _, _, rfl⟩
    have g2 := getI_bounds r n m f hg2
    have H2 := Lib.hid (fun W => get_vars r n m f W hrs hg2)
    rw [hg2] at HS
    dsimp only at HS
    have hk0 : 0 ≤ k := by omega
    have hks : k ≤ s.size := hn.2
    have HR := Lib.hid hr
    have hp0 : 0 ≤ p := by omega
    have hp1 : p ≤ 1099511627776 := by omega
    by_cases h2 : f = 0
    · subst h2
      by_cases h3 : n = 0
      · subst h3
        have HC := Lib.hid (HS.out.trans (by rw [if_neg (by decide), if_neg (by decide), if_pos (.inl rfl)]))
        clear HS hg hg2 hr hrs g1 g2 hn
        go_enter Try.func26, Try.ntmps26
        go_wp2_with (first
          | (go_at_call 24; (with_reducible refine (H1.out _).mono ?_); rintro e w1 ⟨rfl, hb1⟩; have HB1 := Lib.hid hb1; clear hb1)
          | (go_at_call 24; rw [HR.out]; (with_reducible refine (H2.out _).mono ?_); rintro e w2 ⟨rfl, hb2⟩; have HB2 := Lib.hid (HB1.out.trans (hb2.mono HB1.out.size)); clear hb2))
        rw [HC.out]
        exact bodyPost_ret (v := .tuple #[.string ⟨#[]⟩, .int .i64 0, .int .i64 2]) (by simp [results, Try.results26, go_sem]) rfl ⟨rfl, HB2.out⟩
      · have hnb : (n == 0) = false := beq_eq_false_iff_ne.2 h3
        by_cases h4 : (base.size : Int) - p < n
        · have HC := Lib.hid (HS.out.trans (by rw [if_neg (by decide), if_neg (by decide), if_pos (.inr h4)]))
          clear HS hg hg2 hr hrs g1 g2 hn
          go_enter Try.func26, Try.ntmps26
          go_wp2_with (first
            | (go_at_call 24; (with_reducible refine (H1.out _).mono ?_); rintro e w1 ⟨rfl, hb1⟩; have HB1 := Lib.hid hb1; clear hb1)
            | (go_at_call 24; rw [HR.out]; (with_reducible refine (H2.out _).mono ?_); rintro e w2 ⟨rfl, hb2⟩; have HB2 := Lib.hid (HB1.out.trans (hb2.mono HB1.out.size)); clear hb2))
          rw [HC.out]
          exact bodyPost_ret (v := .tuple #[.string ⟨#[]⟩, .int .i64 0, .int .i64 2]) (by simp [results, Try.results26, go_sem]) rfl ⟨rfl, HB2.out⟩
        · have HC := Lib.hid (HS.out.trans (by rw [if_neg (by decide), if_neg (by decide), if_neg (by omega)]))
          have hn0 : 0 ≤ n := by omega
          have hpn : p + n ≤ base.size := by omega
          have hpp : p ≤ p + n := by omega
          have hp3 : 0 ≤ p + n := by omega
          have hp4 : p ≤ base.size := by omega
          have hkm : k ≤ 6 ∧ m ≤ 6 := by omega
          have hm0 : 0 ≤ m := by omega
          clear HS hg hg2 hr hrs g1 g2 hn
          go_enter Try.func26, Try.ntmps26
          go_wp2_with (first
            | (go_at_call 24; (with_reducible refine (H1.out _).mono ?_); rintro e w1 ⟨rfl, hb1⟩; have HB1 := Lib.hid hb1; clear hb1)
            | (go_at_call 24; rw [HR.out]; (with_reducible refine (H2.out _).mono ?_); rintro e w2 ⟨rfl, hb2⟩; have HB2 := Lib.hid (HB1.out.trans (hb2.mono HB1.out.size)); clear hb2))
          rw [HC.out]
          exact bodyPost_ret (v := .tuple #[.string (base.extract p.toNat (p + n).toNat), .int .i64 (k + m), .int .i64 0]) (by simp [results, Try.results26, go_sem]) rfl ⟨rfl, HB2.out⟩
    · have HC := Lib.hid (HS.out.trans (by rw [if_neg (by decide), if_pos h2]))
      have hfb : (f == 0) = false := beq_eq_false_iff_ne.2 h2
      clear HS hg hg2 hr hrs g1 g2 hn
      go_enter Try.func26, Try.ntmps26
      go_wp2_with (first
        | (go_at_call 24; (with_reducible refine (H1.out _).mono ?_); rintro e w1 ⟨rfl, hb1⟩; have HB1 := Lib.hid hb1; clear hb1)
        | (go_at_call 24; rw [HR.out]; (with_reducible refine (H2.out _).mono ?_); rintro e w2 ⟨rfl, hb2⟩; have HB2 := Lib.hid (HB1.out.trans (hb2.mono HB1.out.size)); clear hb2))
      rw [HC.out]
      exact bodyPost_ret (v := .tuple #[.string ⟨#[]⟩, .int .i64 0, .int .i64 f]) (by simp [results, Try.results26, go_sem]) rfl ⟨rfl, HB2.out⟩
  · have HC := Lib.hid (HS.out.trans (by rw [if_pos h1]))
    have heb : (e == 0) = false := beq_eq_false_iff_ne.2 h1
    clear HS hg g1
    go_enter Try.func26, Try.ntmps26
    go_wp2_with (go_at_call 24; (with_reducible refine (H1.out _).mono ?_); rintro e w1 ⟨rfl, hb1⟩; have HB1 := Lib.hid hb1; clear hb1)
    rw [HC.out]
    exact bodyPost_ret (v := .tuple #[.string ⟨#[]⟩, .int .i64 0, .int .i64 e]) (by simp [results, Try.results26, go_sem]) rfl ⟨rfl, HB1.out⟩
end Go.Proofs.Ytmdhendfmhhniaa
