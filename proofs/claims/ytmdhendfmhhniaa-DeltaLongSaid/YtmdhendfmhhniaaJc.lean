/- Deltas: the program's next; instructions one behind the other. -/
import Derived.Test.YtmdhendfmhhniaaJb
namespace Go.Proofs.Ytmdhendfmhhniaa
open Go.RowKit
variable {w w' : World}

theorem addD_bounds (s t : ByteArray) (n e : Int) (h : addD s = (t, n, e)) : 0 ≤ n ∧ n ≤ s.size ∧ t.size ≤ s.size ∧ (e = 0 ∨ e = 2 ∨ e = 3) ∧ (e = 0 → 1 ≤ n ∧ 1 ≤ t.size) ∧ (e ≠ 0 → t = ⟨#[]⟩) := by
  unfold addD at h
  obtain ⟨m, k, f, hg⟩ : ∃ a n e, getI s = (a, n, e) := ⟨_, _, _, rfl⟩
  have g := getI_bounds s m k f hg
  rw [hg] at h
  dsimp only at h
  split at h
  · rename_i hf
    injection h with h1 h; injection h with h2 h3
    subst h1 h2 h3
    exact ⟨by omega, by omega, by show 0 ≤ _; omega, by omega, fun h => absurd h hf, fun _ => rfl⟩
  · rename_i hf
    have hf0 : f = 0 := by omega
    have g2 := g.2.2.2.2.2 hf0
    split at h
    · injection h with h1 h; injection h with h2 h3
      subst h1 h2 h3
      exact ⟨by omega, by omega, by show 0 ≤ _; omega, by omega, fun h => absurd h (by decide), fun _ => rfl⟩
    · split at h
      · injection h with h1 h; injection h with h2 h3
        subst h1 h2 h3
        exact ⟨by omega, by omega, by show 0 ≤ _; omega, by omega, fun h => absurd h (by decide), fun _ => rfl⟩
      · injection h with h1 h; injection h with h2 h3
        subst h1 h2 h3
        rw [ByteArray.size_extract]
        exact ⟨by omega, by omega, by omega, by omega, fun _ => ⟨by omega, by omega⟩, fun h => absurd rfl h⟩
theorem copD_bounds (base s t : ByteArray) (n e : Int) (h : copD base s = (t, n, e)) : 0 ≤ n ∧ n ≤ s.size ∧ t.size ≤ base.size ∧ (e = 0 ∨ e = 2 ∨ e = 3) ∧ (e = 0 → 1 ≤ n ∧ 1 ≤ t.size) ∧ (e ≠ 0 → t = ⟨#[]⟩) := by
  unfold copD at h
  obtain ⟨m, k, f, hg⟩ : ∃ a n e, getI s = (a, n, e) := ⟨_, _, _, rfl⟩
  have g := getI_bounds s m k f hg
  rw [hg] at h
  dsimp only at h
  obtain ⟨m2, k2, f2, hg2⟩ : ∃ a n e, getI (s.extract k.toNat s.size) = (a, n, e) := ⟨_, _, _, rfl⟩
  have g' := getI_bounds _ m2 k2 f2 hg2
  rw [hg2] at h
  dsimp only at h
  rw [ByteArray.size_extract] at g'
  split at h
  · rename_i hf
    injection h with h1 h; injection h with h2 h3
    subst h1 h2 h3
    exact ⟨by omega, by omega, by show 0 ≤ _; omega, by omega, fun h => absurd h hf, fun _ => rfl⟩
  · rename_i hf
    have hf0 : f = 0 := by omega
    have g2 := g.2.2.2.2.2 hf0
    split at h
    · rename_i hf2
      injection h with h1 h; injection h with h2 h3
      subst h1 h2 h3
      exact ⟨by omega, by omega, by show 0 ≤ _; omega, by omega, fun h => absurd h hf2, fun _ => rfl⟩
    · rename_i hf2
      have hf20 : f2 = 0 := by omega
      have g3 := g'.2.2.2.2.2 hf20
      split at h
      · injection h with h1 h; injection h with h2 h3
        subst h1 h2 h3
        exact ⟨by omega, by omega, by show 0 ≤ _; omega, by omega, fun h => absurd h (by decide), fun _ => rfl⟩
      · injection h with h1 h; injection h with h2 h3
        subst h1 h2 h3
        rw [ByteArray.size_extract]
        exact ⟨by omega, by omega, by omega, by omega, fun _ => ⟨by omega, by omega⟩, fun h => absurd rfl h⟩
theorem insD_bounds (base s t : ByteArray) (n e : Int) (hs : 0 < s.size) (h : insD base s = (t, n, e)) : 0 ≤ n ∧ n ≤ s.size ∧ (t.size ≤ base.size ∨ t.size ≤ s.size) ∧ (e = 0 ∨ e = 2 ∨ e = 3) ∧ (e = 0 → 1 ≤ n ∧ 1 ≤ t.size) ∧ (e ≠ 0 → t = ⟨#[]⟩) := by
  unfold insD at h
  split at h
  · obtain ⟨t1, n1, e1, h1⟩ : ∃ a n e, addD (s.extract 1 s.size) = (a, n, e) := ⟨_, _, _, rfl⟩
    have g := addD_bounds _ _ _ _ h1
    rw [ByteArray.size_extract] at g
    rw [h1] at h
    dsimp only at h
    injection h with x1 h; injection h with x2 x3
    subst x1 x2 x3
    exact ⟨by omega, by omega, by omega, by omega, fun h => ⟨by omega, (g.2.2.2.2.1 h).2⟩, g.2.2.2.2.2⟩
  · split at h
    · obtain ⟨t1, n1, e1, h1⟩ : ∃ a n e, copD base (s.extract 1 s.size) = (a, n, e) := ⟨_, _, _, rfl⟩
      have g := copD_bounds _ _ _ _ _ h1
      rw [ByteArray.size_extract] at g
      rw [h1] at h
      dsimp only at h
      injection h with x1 h; injection h with x2 x3
      subst x1 x2 x3
      exact ⟨by omega, by omega, by omega, by omega, fun h => ⟨by omega, (g.2.2.2.2.1 h).2⟩, g.2.2.2.2.2⟩
    · injection h with x1 h; injection h with x2 x3
      subst x1 x2 x3
      exact ⟨by omega, by omega, .inl (Nat.zero_le _), by omega, fun h => absurd h (by decide), fun _ => rfl⟩
/-- What instructions give behind what there is: the target, the error. -/
def runD (base : ByteArray) (to : Int) : Nat → ByteArray → List UInt8 → ByteArray × Int
  | 0, _, _ => (⟨#[]⟩, 0)
  | f + 1, s, out =>
    if s.size = 0 then if (out.length : Int) < to then (⟨#[]⟩, 4) else (mkB out, 0)
    else if (insD base s).2.2 ≠ 0 then (⟨#[]⟩, (insD base s).2.2)
    else if to - (out.length : Int) < (insD base s).1.size then (⟨#[]⟩, 6)
    else runD base to f (s.extract (insD base s).2.1.toNat s.size) (out ++ (insD base s).1.data.toList)
theorem runD_fuel (base : ByteArray) (to : Int) : ∀ (f g : Nat) (s : ByteArray) (out : List UInt8), s.size < f → s.size < g → runD base to f s out = runD base to g s out
  | 0, _, s, out, h, _ => absurd h (by omega)
  | _ + 1, 0, s, out, _, h => absurd h (by omega)
  | f + 1, g + 1, s, out, h1, h2 => by
    unfold runD
    by_cases h0 : s.size = 0
    · rw [if_pos h0, if_pos h0]
    · rw [if_neg h0, if_neg h0]
      obtain ⟨t, n, e, hi⟩ : ∃ a n e, insD base s = (a, n, e) := ⟨_, _, _, rfl⟩
      have b := insD_bounds base s t n e (by omega) hi
      rw [hi]
      dsimp only
      by_cases he : e = 0
      · have hne : ¬ e ≠ 0 := fun h => h he
        rw [if_neg hne, if_neg hne]
        have := b.2.2.2.2.1 he
        split
        · rfl
        · exact runD_fuel base to f g _ _ (by rw [ByteArray.size_extract]; omega) (by rw [ByteArray.size_extract]; omega)
      · rw [if_pos he, if_pos he]
def restD (base : ByteArray) (to : Int) (s : ByteArray) (out : List UInt8) : ByteArray × Int := runD base to (s.size + 1) s out
theorem restD_end (base : ByteArray) (to : Int) {s : ByteArray} (out : List UInt8) (h : s.size = 0) : restD base to s out = if (out.length : Int) < to then (⟨#[]⟩, 4) else (mkB out, 0) := by
  unfold restD runD; rw [if_pos h]
theorem restD_err (base : ByteArray) (to : Int) {s t : ByteArray} {n e : Int} (out : List UInt8) (h : 0 < s.size) (hi : insD base s = (t, n, e)) (he : e ≠ 0) : restD base to s out = (⟨#[]⟩, e) := by
  unfold restD runD; rw [if_neg (by omega), hi, if_pos he]
theorem restD_long (base : ByteArray) (to : Int) {s t : ByteArray} {n : Int} (out : List UInt8) (h : 0 < s.size) (hi : insD base s = (t, n, 0)) (hl : to - (out.length : Int) < t.size) : restD base to s out = (⟨#[]⟩, 6) := by
  unfold restD runD; rw [if_neg (by omega), hi]; dsimp only; rw [if_neg (fun h => h rfl), if_pos hl]
theorem restD_more (base : ByteArray) (to : Int) {s t : ByteArray} {n : Int} (out : List UInt8) (h : 0 < s.size) (hi : insD base s = (t, n, 0)) (hl : ¬ to - (out.length : Int) < t.size) : restD base to s out = restD base to (s.extract n.toNat s.size) (out ++ t.data.toList) := by
  have b := insD_bounds base s t n 0 h hi
  have := b.2.2.2.2.1 rfl
  conv => lhs; unfold restD runD
  rw [if_neg (by omega), hi]
  dsimp only
  rw [if_neg (fun h => h rfl), if_neg hl]
  exact runD_fuel base to _ _ _ _ (by rw [ByteArray.size_extract]; omega) (by rw [ByteArray.size_extract]; omega)
/-- A delta applied to a base. -/
def appD (base d : ByteArray) : ByteArray × Int :=
  if (sizD d).2.2.2 ≠ 0 then (⟨#[]⟩, (sizD d).2.2.2)
  else if (base.size : Int) ≠ (sizD d).1 then (⟨#[]⟩, 13)
  else restD base (sizD d).2.1 (d.extract (sizD d).2.2.1.toNat d.size) []
theorem ext_one {s : ByteArray} (h : 0 < s.size) : s.extract 0 1 = ⟨#[s[0]]⟩ := by
  apply ByteArray.ext
  apply Array.toList_inj.1
  rw [ext_list]
  have e : s.data.toList.length = s.size := by simp
  cases hl : s.data.toList with
  | nil => rw [hl] at e; simp at e; omega
  | cons x r =>
    have hx : s[0] = x := by
      show s.data[0] = x
      have : s.data.toList[0]? = some x := by rw [hl]; rfl
      rw [Array.getElem?_toList, Array.getElem?_eq_getElem (by exact h)] at this
      exact Option.some.inj this
    rw [hx]; rfl
theorem one_ne {x y : UInt8} (h : x ≠ y) : ¬ (⟨#[x]⟩ : ByteArray) = ⟨#[y]⟩ := fun e => by
  have e2 := congrArg (fun a : ByteArray => a.data.toList) e
  simp at e2; exact h e2
theorem ba_ne {x y : ByteArray} (h : ¬ x = y) : ¬ x.toList = y.toList := by
  rw [ByteArray.toList_eq, ByteArray.toList_eq]
  exact fun e => h (ByteArray.ext (Array.ext' e))
set_option maxHeartbeats 1000000 in
set_option maxRecDepth 100000 in
theorem next_any (base s : ByteArray) (w : World) (h0 : 0 < s.size) (hm : s.size ≤ maxLen) (hbm : base.size ≤ 4294967295) :
    Calls Try.prog 16 #[.string base, .string s] w fun e w' => e = .returned (.tuple #[.string (insD base s).1, .int .i64 (insD base s).2.1, .int .i64 (insD base s).2.2]) ∧ Below w.heap.size w w' := by
  obtain ⟨z, hz⟩ : ∃ z, insD base s = z := ⟨_, rfl⟩
  have HS := Lib.hid hz.symm
  rw [hz]
  clear hz
  unfold insD at HS
  unfold maxLen at hm
  have hx := ext_one h0
  have hby := byt_eq s 0 h0
  obtain ⟨x, hxx⟩ : ∃ x, s[0] = x := ⟨_, rfl⟩
  rw [hxx] at hx hby
  obtain ⟨r, hr⟩ : ∃ r, s.extract 1 s.size = r := ⟨_, rfl⟩
  have hrs : r.size ≤ maxLen := by rw [← hr, ByteArray.size_extract]; unfold maxLen; omega
  rw [hr] at HS
  have h1i : (1 : Int) ≤ s.size := by omega
  by_cases hx0 : x = 0
  · subst hx0
    obtain ⟨t, n, e, hg⟩ : ∃ a n e, addD r = (a, n, e) := ⟨_, _, _, rfl⟩
    have g := addD_bounds r t n e hg
    have H1 := Lib.hid (fun W => (added_any r W hrs))
    rw [hg] at HS H1
    dsimp only at HS H1
    have HC := Lib.hid (HS.out.trans (if_pos (by rw [← hby]; rfl)))
    have hn0 : 0 ≤ n := g.1
    have hn1 : n ≤ 9223372036854775806 := by have := g.2.1; rw [← hr, ByteArray.size_extract] at this; omega
    clear HS hg g hby hxx hrs
    go_enter Try.func16, Try.ntmps16
    go_wp2_with (go_at_call 25; (with_reducible refine (H1.out _).mono ?_); rintro e w1 ⟨rfl, hb1⟩; have HB1 := Lib.hid hb1; clear hb1)
    rw [HC.out]
    exact bodyPost_ret (v := .tuple #[.string t, .int .i64 (1 + n), .int .i64 e]) (by simp [results, Try.results16, go_sem]) rfl ⟨rfl, HB1.out⟩
  · have hnx : byt s 0 ≠ 0 := fun e => hx0 (UInt8.toNat_inj.1 (by show x.toNat = 0; omega))
    by_cases hx1 : x = 1
    · subst hx1
      obtain ⟨t, n, e, hg⟩ : ∃ a n e, copD base r = (a, n, e) := ⟨_, _, _, rfl⟩
      have g := copD_bounds base r t n e hg
      have H1 := Lib.hid (fun W => (copied_any base r W hrs hbm))
      rw [hg] at HS H1
      dsimp only at HS H1
      have HC := Lib.hid (HS.out.trans ((if_neg hnx).trans (if_pos (by rw [← hby]; rfl))))
      have hn0 : 0 ≤ n := g.1
      have hn1 : n ≤ 9223372036854775806 := by have := g.2.1; rw [← hr, ByteArray.size_extract] at this; omega
      clear HS hg g hby hxx hrs hnx hx0
      go_enter Try.func16, Try.ntmps16
      go_wp2_with (go_at_call 26; (with_reducible refine (H1.out _).mono ?_); rintro e w1 ⟨rfl, hb1⟩; have HB1 := Lib.hid hb1; clear hb1)
      rw [HC.out]
      exact bodyPost_ret (v := .tuple #[.string t, .int .i64 (1 + n), .int .i64 e]) (by simp [results, Try.results16, go_sem]) rfl ⟨rfl, HB1.out⟩
    · have hnx1 : byt s 0 ≠ 1 := fun e => hx1 (UInt8.toNat_inj.1 (by show x.toNat = 1; omega))
      have HC := Lib.hid (HS.out.trans ((if_neg hnx).trans (if_neg hnx1)))
      obtain ⟨y, hy⟩ : ∃ y, (⟨#[x]⟩ : ByteArray) = y := ⟨_, rfl⟩
      have n0 := ba_ne (one_ne hx0)
      have n1 := ba_ne (one_ne hx1)
      rw [hy, ByteArray.toList_eq (⟨#[0]⟩ : ByteArray)] at n0
      rw [hy, ByteArray.toList_eq (⟨#[1]⟩ : ByteArray)] at n1
      have m0 : (y.toList == [0]) = false := beq_eq_false_iff_ne.2 n0
      have m1 : (y.toList == [1]) = false := beq_eq_false_iff_ne.2 n1
      rw [hy] at hx
      clear HS hby hxx hrs hnx hx0 hx1 hnx1 hy
      go_enter Try.func16, Try.ntmps16
      go_wp2_with fail
      rw [HC.out]
      exact bodyPost_ret (v := .tuple #[.string ⟨#[]⟩, .int .i64 0, .int .i64 2]) (by simp [results, Try.results16, go_sem]) rfl ⟨rfl, Below.refl _ _⟩
end Go.Proofs.Ytmdhendfmhhniaa
