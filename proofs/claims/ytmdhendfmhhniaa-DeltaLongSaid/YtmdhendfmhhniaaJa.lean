/- Deltas: the two lengths at the beginning, by the program and by the document. -/
import Derived.Test.YtmdhendfmhhniaaKk
import Derived.Test.YtmdhendfmhhniaaKd
import Derived.IntWalk
namespace Go.Proofs.Ytmdhendfmhhniaa
open Go.RowKit
variable {w w' : World}

/-- The two lengths, how many bytes they take, the error. -/
def sizD (d : ByteArray) : Int × Int × Int × Int :=
  if (getI d).2.2 ≠ 0 then (0, 0, 0, (getI d).2.2)
  else if (getI (d.extract (getI d).2.1.toNat d.size)).2.2 ≠ 0 then (0, 0, 0, (getI (d.extract (getI d).2.1.toNat d.size)).2.2)
  else if 262208 < max (getI d).1 (getI (d.extract (getI d).2.1.toNat d.size)).1 then (0, 0, 0, 6)
  else ((getI d).1, (getI (d.extract (getI d).2.1.toNat d.size)).1, (getI d).2.1 + (getI (d.extract (getI d).2.1.toNat d.size)).2.1, 0)
theorem ret4i_of {a b c d : Int} {r : Int × Int × Int × Int} (h : r = (a, b, c, d)) : Ending.returned (.tuple #[.int .i64 a, .int .i64 b, .int .i64 c, .int .i64 d]) = .returned (.tuple #[.int .i64 r.1, .int .i64 r.2.1, .int .i64 r.2.2.1, .int .i64 r.2.2.2]) := by rw [h]
theorem sizD_bounds (d : ByteArray) (a b k e : Int) (h : sizD d = (a, b, k, e)) : 0 ≤ a ∧ a ≤ 262208 ∧ 0 ≤ b ∧ b ≤ 262208 ∧ 0 ≤ k ∧ k ≤ 12 ∧ (e = 0 ∨ e = 2 ∨ e = 3 ∨ e = 6) ∧ (e = 0 → k ≤ d.size) := by
  unfold sizD at h
  obtain ⟨a1, n1, e1, h1⟩ : ∃ a n e, getI d = (a, n, e) := ⟨_, _, _, rfl⟩
  have g1 := getI_bounds d a1 n1 e1 h1
  rw [h1] at h
  dsimp only at h
  obtain ⟨a2, n2, e2, h2⟩ : ∃ a n e, getI (d.extract n1.toNat d.size) = (a, n, e) := ⟨_, _, _, rfl⟩
  have g2 := getI_bounds _ a2 n2 e2 h2
  rw [h2] at h
  dsimp only at h
  rw [ByteArray.size_extract] at g2
  split at h
  · injection h with x1 h; injection h with x2 h; injection h with x3 h
    subst x1 x2 x3 h
    refine ⟨by omega, by omega, by omega, by omega, by omega, by omega, by omega, fun h => absurd h (by assumption)⟩
  · split at h
    · injection h with x1 h; injection h with x2 h; injection h with x3 h
      subst x1 x2 x3 h
      refine ⟨by omega, by omega, by omega, by omega, by omega, by omega, by omega, fun h => absurd h (by assumption)⟩
    · split at h
      · injection h with x1 h; injection h with x2 h; injection h with x3 h
        subst x1 x2 x3 h
        refine ⟨by omega, by omega, by omega, by omega, by omega, by omega, by omega, fun h => absurd h (by decide)⟩
      · injection h with x1 h; injection h with x2 h; injection h with x3 h
        subst x1 x2 x3 h
        refine ⟨by omega, by omega, by omega, by omega, by omega, by omega, by omega, fun h => by omega⟩
set_option maxHeartbeats 1000000 in
set_option maxRecDepth 100000 in
theorem sizes_any (d : ByteArray) (w : World) (hm : d.size ≤ maxLen) :
    Calls Try.prog 15 #[.string d] w fun e w' => e = .returned (.tuple #[.int .i64 (sizD d).1, .int .i64 (sizD d).2.1, .int .i64 (sizD d).2.2.1, .int .i64 (sizD d).2.2.2]) ∧ Below w.heap.size w w' := by
  obtain ⟨z, hz⟩ : ∃ z, sizD d = z := ⟨_, rfl⟩
  have HS := Lib.hid hz.symm
  rw [hz]
  clear hz
  unfold sizD at HS
  obtain ⟨a, n, e, hg⟩ : ∃ a n e, getI d = (a, n, e) := ⟨_, _, _, rfl⟩
  have g1 := getI_bounds d a n e hg
  have H1 := Lib.hid (fun W => get_vars d a n e W hm hg)
  rw [hg] at HS
  dsimp only at HS
  unfold maxLen at hm
  by_cases h1 : e = 0
  · subst h1
    have hn := g1.2.2.2.2.2 rfl
    obtain ⟨r, hr⟩ : ∃ r, d.extract n.toNat d.size = r := ⟨_, rfl⟩
    have hrs : r.size ≤ maxLen := by rw [← hr, ByteArray.size_extract]; unfold maxLen; omega
    rw [hr] at HS
    obtain ⟨b, m, f, hg2⟩ : ∃ a n e, getI r = (a, n, e) := ⟨_, _, _, rfl⟩
    have g2 := getI_bounds r b m f hg2
    have H2 := Lib.hid (fun W => get_vars r b m f W hrs hg2)
    rw [hg2] at HS
    dsimp only at HS
    have hn0 : 0 ≤ n := by omega
    have hnd : n ≤ d.size := hn.2
    have HR := Lib.hid hr
    by_cases h2 : f = 0
    · subst h2
      by_cases h3 : 262208 < max a b
      · have HC := Lib.hid (HS.out.trans (by rw [if_neg (by decide), if_neg (by decide), if_pos h3]))
        clear HS hg hg2 hr hrs g1 g2 hn
        go_enter Try.func15, Try.ntmps15
        go_wp2_with (first
          | (go_at_call 24; (with_reducible refine (H1.out _).mono ?_); rintro e w1 ⟨rfl, hb1⟩; have HB1 := Lib.hid hb1; clear hb1)
          | (go_at_call 24; rw [HR.out]; (with_reducible refine (H2.out _).mono ?_); rintro e w2 ⟨rfl, hb2⟩; have HB2 := Lib.hid (HB1.out.trans (hb2.mono HB1.out.size)); clear hb2))
        rw [HC.out]
        exact bodyPost_ret (v := .tuple #[.int .i64 0, .int .i64 0, .int .i64 0, .int .i64 6]) (by simp [results, Try.results15, go_sem]) rfl ⟨rfl, HB2.out⟩
      · have HC := Lib.hid (HS.out.trans (by rw [if_neg (by decide), if_neg (by decide), if_neg h3]))
        have hab : a ≤ 262208 ∧ b ≤ 262208 := by omega
        have hnm : n ≤ 6 ∧ m ≤ 6 := by omega
        have hm0 : 0 ≤ m := by omega
        clear HS hg hg2 hr hrs g1 g2 hn
        go_enter Try.func15, Try.ntmps15
        go_wp2_with (first
          | (go_at_call 24; (with_reducible refine (H1.out _).mono ?_); rintro e w1 ⟨rfl, hb1⟩; have HB1 := Lib.hid hb1; clear hb1)
          | (go_at_call 24; rw [HR.out]; (with_reducible refine (H2.out _).mono ?_); rintro e w2 ⟨rfl, hb2⟩; have HB2 := Lib.hid (HB1.out.trans (hb2.mono HB1.out.size)); clear hb2))
        rw [HC.out]
        exact bodyPost_ret (v := .tuple #[.int .i64 a, .int .i64 b, .int .i64 (n + m), .int .i64 0]) (by simp [results, Try.results15, go_sem]) rfl ⟨rfl, HB2.out⟩
    · have HC := Lib.hid (HS.out.trans (by rw [if_neg (by decide), if_pos h2]))
      have hfb : (f == 0) = false := beq_eq_false_iff_ne.2 h2
      clear HS hg hg2 hr hrs g1 g2 hn
      go_enter Try.func15, Try.ntmps15
      go_wp2_with (first
        | (go_at_call 24; (with_reducible refine (H1.out _).mono ?_); rintro e w1 ⟨rfl, hb1⟩; have HB1 := Lib.hid hb1; clear hb1)
        | (go_at_call 24; rw [HR.out]; (with_reducible refine (H2.out _).mono ?_); rintro e w2 ⟨rfl, hb2⟩; have HB2 := Lib.hid (HB1.out.trans (hb2.mono HB1.out.size)); clear hb2))
      rw [HC.out]
      exact bodyPost_ret (v := .tuple #[.int .i64 0, .int .i64 0, .int .i64 0, .int .i64 f]) (by simp [results, Try.results15, go_sem]) rfl ⟨rfl, HB2.out⟩
  · have HC := Lib.hid (HS.out.trans (by rw [if_pos h1]))
    have heb : (e == 0) = false := beq_eq_false_iff_ne.2 h1
    clear HS hg g1
    go_enter Try.func15, Try.ntmps15
    go_wp2_with (go_at_call 24; (with_reducible refine (H1.out _).mono ?_); rintro e w1 ⟨rfl, hb1⟩; have HB1 := Lib.hid hb1; clear hb1)
    rw [HC.out]
    exact bodyPost_ret (v := .tuple #[.int .i64 0, .int .i64 0, .int .i64 0, .int .i64 e]) (by simp [results, Try.results15, go_sem]) rfl ⟨rfl, HB1.out⟩
set_option maxHeartbeats 1000000 in
set_option maxRecDepth 100000 in
theorem RSizes_any (d : ByteArray) (w : World) (hm : d.size ≤ maxLen) :
    Calls Try.prog 12 #[.string d] w fun e w' => e = .returned (.tuple #[.int .i64 (sizD d).1, .int .i64 (sizD d).2.1, .int .i64 (sizD d).2.2.1, .int .i64 (sizD d).2.2.2]) ∧ Below w.heap.size w w' := by
  obtain ⟨z, hz⟩ : ∃ z, sizD d = z := ⟨_, rfl⟩
  have HS := Lib.hid hz.symm
  rw [hz]
  clear hz
  unfold sizD at HS
  obtain ⟨a, n, e, hg⟩ : ∃ a n e, getI d = (a, n, e) := ⟨_, _, _, rfl⟩
  have g1 := getI_bounds d a n e hg
  have H1 := Lib.hid (fun W => rget_vars d a n e W hm hg)
  rw [hg] at HS
  dsimp only at HS
  unfold maxLen at hm
  by_cases h1 : e = 0
  · subst h1
    have hn := g1.2.2.2.2.2 rfl
    obtain ⟨r, hr⟩ : ∃ r, d.extract n.toNat d.size = r := ⟨_, rfl⟩
    have hrs : r.size ≤ maxLen := by rw [← hr, ByteArray.size_extract]; unfold maxLen; omega
    rw [hr] at HS
    obtain ⟨b, m, f, hg2⟩ : ∃ a n e, getI r = (a, n, e) := ⟨_, _, _, rfl⟩
    have g2 := getI_bounds r b m f hg2
    have H2 := Lib.hid (fun W => rget_vars r b m f W hrs hg2)
    rw [hg2] at HS
    dsimp only at HS
    have hn0 : 0 ≤ n := by omega
    have hnd : n ≤ d.size := hn.2
    have HR := Lib.hid hr
    by_cases h2 : f = 0
    · subst h2
      by_cases h3 : 262208 < max a b
      · have HC := Lib.hid (HS.out.trans (by rw [if_neg (by decide), if_neg (by decide), if_pos h3]))
        by_cases hA : 262208 < a
        · clear h3
          clear HS hg hg2 hr hrs g1 g2 hn
          go_enter Try.func12, Try.ntmps12
          go_wp2_with (first
            | (go_at_call 20; (with_reducible refine (H1.out _).mono ?_); rintro e w1 ⟨rfl, hb1⟩; have HB1 := Lib.hid hb1; clear hb1)
            | (go_at_call 20; rw [HR.out]; (with_reducible refine (H2.out _).mono ?_); rintro e w2 ⟨rfl, hb2⟩; have HB2 := Lib.hid (HB1.out.trans (hb2.mono HB1.out.size)); clear hb2))
          rw [HC.out]
          exact bodyPost_ret (v := .tuple #[.int .i64 0, .int .i64 0, .int .i64 0, .int .i64 6]) (by simp [results, Try.results12, go_sem]) rfl ⟨rfl, HB2.out⟩
        · have hB : 262208 < b := by omega
          clear h3
          clear HS hg hg2 hr hrs g1 g2 hn
          go_enter Try.func12, Try.ntmps12
          go_wp2_with (first
            | (go_at_call 20; (with_reducible refine (H1.out _).mono ?_); rintro e w1 ⟨rfl, hb1⟩; have HB1 := Lib.hid hb1; clear hb1)
            | (go_at_call 20; rw [HR.out]; (with_reducible refine (H2.out _).mono ?_); rintro e w2 ⟨rfl, hb2⟩; have HB2 := Lib.hid (HB1.out.trans (hb2.mono HB1.out.size)); clear hb2))
          rw [HC.out]
          exact bodyPost_ret (v := .tuple #[.int .i64 0, .int .i64 0, .int .i64 0, .int .i64 6]) (by simp [results, Try.results12, go_sem]) rfl ⟨rfl, HB2.out⟩
      · have HC := Lib.hid (HS.out.trans (by rw [if_neg (by decide), if_neg (by decide), if_neg h3]))
        have hab1 : ¬ 262208 < a := by omega
        have hab2 : ¬ 262208 < b := by omega
        clear h3
        have hnm : n ≤ 6 ∧ m ≤ 6 := by omega
        have hm0 : 0 ≤ m := by omega
        clear HS hg hg2 hr hrs g1 g2 hn
        go_enter Try.func12, Try.ntmps12
        go_wp2_with (first
          | (go_at_call 20; (with_reducible refine (H1.out _).mono ?_); rintro e w1 ⟨rfl, hb1⟩; have HB1 := Lib.hid hb1; clear hb1)
          | (go_at_call 20; rw [HR.out]; (with_reducible refine (H2.out _).mono ?_); rintro e w2 ⟨rfl, hb2⟩; have HB2 := Lib.hid (HB1.out.trans (hb2.mono HB1.out.size)); clear hb2))
        rw [HC.out]
        exact bodyPost_ret (v := .tuple #[.int .i64 a, .int .i64 b, .int .i64 (n + m), .int .i64 0]) (by simp [results, Try.results12, go_sem]) rfl ⟨rfl, HB2.out⟩
    · have HC := Lib.hid (HS.out.trans (by rw [if_neg (by decide), if_pos h2]))
      have hfb : (f == 0) = false := beq_eq_false_iff_ne.2 h2
      clear HS hg hg2 hr hrs g1 g2 hn
      go_enter Try.func12, Try.ntmps12
      go_wp2_with (first
        | (go_at_call 20; (with_reducible refine (H1.out _).mono ?_); rintro e w1 ⟨rfl, hb1⟩; have HB1 := Lib.hid hb1; clear hb1)
        | (go_at_call 20; rw [HR.out]; (with_reducible refine (H2.out _).mono ?_); rintro e w2 ⟨rfl, hb2⟩; have HB2 := Lib.hid (HB1.out.trans (hb2.mono HB1.out.size)); clear hb2))
      rw [HC.out]
      exact bodyPost_ret (v := .tuple #[.int .i64 0, .int .i64 0, .int .i64 0, .int .i64 f]) (by simp [results, Try.results12, go_sem]) rfl ⟨rfl, HB2.out⟩
  · have HC := Lib.hid (HS.out.trans (by rw [if_pos h1]))
    have heb : (e == 0) = false := beq_eq_false_iff_ne.2 h1
    clear HS hg g1
    go_enter Try.func12, Try.ntmps12
    go_wp2_with (go_at_call 20; (with_reducible refine (H1.out _).mono ?_); rintro e w1 ⟨rfl, hb1⟩; have HB1 := Lib.hid hb1; clear hb1)
    rw [HC.out]
    exact bodyPost_ret (v := .tuple #[.int .i64 0, .int .i64 0, .int .i64 0, .int .i64 e]) (by simp [results, Try.results12, go_sem]) rfl ⟨rfl, HB1.out⟩
end Go.Proofs.Ytmdhendfmhhniaa
