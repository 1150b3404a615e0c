/- The laws ShaHex and ShaParses, at whatever world that has the package's variables. -/
import Derived.Test.YtodmomhilpheiaaDoorQm
namespace Go.Proofs.YtodmomhilpheiaaDoor
open Go.RowKit

set_option maxHeartbeats 1000000 in
set_option maxRecDepth 100000 in
theorem ShaHex_any (s : ByteArray) (w : World) (hV : VarsAt w) :
    Calls Tryd.prog 4 #[.string s] w fun e w' => e = .returned (.bool true) ∧ Below w.heap.size w w' := by
  have HV := Lib.hid hV
  clear hV
  by_cases hs : s.size = 32
  · have hne : ((s.size : Int) == 32) = true := by rw [hs]; rfl
    have HS := Lib.hid hs
    clear hs
    go_enter Tryd.func4, Tryd.ntmps4
    go_wp2_with fail
    refine (speaks_any w HV.out).mono ?_
    rintro e w1 ⟨rfl, h1⟩
    have H1 := Lib.hid h1
    clear h1
    go_wp2_with fail
    refine (Hex_any s w1 HS.out).mono ?_
    rintro e w2 ⟨rfl, h2⟩
    have H2 := Lib.hid (H1.out.trans (h2.mono H1.out.size))
    clear h2
    rw [show strOfNums ((List.range 64).map (hexF (atI s))) = hexB s from rfl]
    obtain ⟨X, hX⟩ : ∃ X, hexB s = X := ⟨_, rfl⟩
    rw [hX]
    go_wp2_with fail
    refine (RHex_any s w2 HS.out).mono ?_
    rintro e w3 ⟨rfl, h3⟩
    have H3 := Lib.hid (H2.out.trans (h3.mono H2.out.size))
    clear h3
    rw [hX]
    go_wp2_with fail
    refine (Parse_any X w3 (by rw [← hX]; exact hexB_size s)).mono ?_
    rintro e w4 ⟨he, h4⟩
    have H4 := Lib.hid (H3.out.trans (h4.mono H3.out.size))
    clear h4
    obtain rfl := he.1 (by rw [← hX]; exact hex_digits s)
    rw [show strOfNums ((List.range 32).map (parF X)) = s from by rw [← hX]; exact par_hex s HS.out]
    clear he hX
    go_wp2_with fail
    go_ret
    exact ⟨rfl, H4.out⟩
  · have hne : ((s.size : Int) == 32) = false := by rw [beq_eq_false_iff_ne]; omega
    have HS := Lib.hid hs
    clear hs
    go_enter Tryd.func4, Tryd.ntmps4
    go_wp2_with fail
    refine (speaks_any w HV.out).mono ?_
    rintro e w1 ⟨rfl, h1⟩
    have H1 := Lib.hid h1
    clear h1
    go_wp2_with fail
    refine (Hex_not s w1 HS.out).mono ?_
    rintro e w2 ⟨rfl, h2⟩
    have H2 := Lib.hid (H1.out.trans (h2.mono H1.out.size))
    clear h2
    go_wp2_with fail
    refine (RHex_not s w2 HS.out).mono ?_
    rintro e w3 ⟨rfl, h3⟩
    have H3 := Lib.hid (H2.out.trans (h3.mono H2.out.size))
    clear h3
    go_wp2_with fail
    refine (Parse_not ByteArray.empty w3 (by decide)).mono ?_
    rintro e w4 ⟨rfl, h4⟩
    have H4 := Lib.hid (H3.out.trans (h4.mono H3.out.size))
    clear h4
    go_wp2_with fail
    go_ret
    exact ⟨rfl, H4.out⟩

def allD (s : ByteArray) (k : Nat) : Bool := (List.range k).all fun j => decide (0 ≤ digV (atI s j))
theorem allD_step (s : ByteArray) (k : Nat) : allD s (k + 1) = (allD s k && decide (0 ≤ digV (atI s k))) := by
  unfold allD; rw [List.range_succ, List.all_append]; simp
theorem allD_iff (s : ByteArray) : allD s 64 = true ↔ Digits s := by
  unfold allD Digits; rw [List.all_eq_true]; simp
def ParSlot2 (s : ByteArray) (n : Nat) (b : Bool) (w : World) (r i : Value) (wr : World) : Prop :=
  ∃ k : Nat, k ≤ n ∧ i = .int .i64 k ∧ r = .bool (b && allD s k) ∧ w = wr

set_option maxHeartbeats 2000000 in
set_option maxRecDepth 100000 in
theorem ShaParses_any (s : ByteArray) (w : World) (hV : VarsAt w) :
    Calls Tryd.prog 5 #[.string s] w fun e w' => e = .returned (.bool true) ∧ Below w.heap.size w w' := by
  have HV := Lib.hid hV
  clear hV
  by_cases hs : s.size = 64
  · have hne : ((s.size : Int) == 64) = true := by rw [hs]; rfl
    go_enter Tryd.func5, Tryd.ntmps5
    go_wp2_with fail
    refine (speaks_any w HV.out).mono ?_
    rintro e w1 ⟨rfl, h1⟩
    have H1 := Lib.hid h1
    clear h1
    go_wp2_with fail
    refine (Parse_any s w1 hs).mono ?_
    rintro e w2 ⟨he, h2⟩
    have H2 := Lib.hid (H1.out.trans (h2.mono H1.out.size))
    have HE := Lib.hid he
    clear h2 he
    obtain ⟨d, b, hdb, hd, hn⟩ : ∃ (d : ByteArray) (b : Bool), e = .returned (.tuple #[.string d, .bool b]) ∧ (b = true → d = parB s ∧ Digits s) ∧ (b = false → d = ByteArray.empty ∧ ¬ Digits s) := by
      by_cases h : Digits s
      · exact ⟨_, true, HE.out.1 h, fun _ => ⟨rfl, h⟩, fun h => absurd h (by decide)⟩
      · exact ⟨_, false, HE.out.2 h, fun h => absurd h (by decide), fun _ => ⟨rfl, h⟩⟩
    subst hdb
    have HD := Lib.hid hd; have HN := Lib.hid hn
    clear hd hn
    go_wp2_with fail
    go_loopw [5, 6] (fun r i wr => ParSlot2 s 64 true w2 r i wr) (fun _ i _ => 64 - (intOf i).toNat)
    case atStart => exact ⟨0, by omega, rfl, rfl, rfl⟩
    case round =>
      obtain ⟨k, hk, rfl, rfl, rfl⟩ := hrel
      by_cases hlt : k < 64
      · have hk8 : (k : Int) < 64 := by omega
        have hix := idx_at s k (by omega)
        have hx := atI_rng s k
        have hstep := allD_step s k
        obtain ⟨x, hxe⟩ : ∃ x, atI s k = x := ⟨_, rfl⟩
        rw [hxe] at hix hx hstep
        obtain ⟨hx0, hx1⟩ := hx
        obtain ⟨R, hR⟩ : ∃ R, allD s k = R := ⟨_, rfl⟩
        rw [hR] at hstep ⊢
        have hv : digV x = if 48 ≤ x ∧ x ≤ 57 then x - 48 else if 97 ≤ x ∧ x ≤ 102 then x - 87 else -1 := rfl
        have Hst : ∀ b : Bool, (R && decide (0 ≤ digV x)) = b → Hid (ParSlot2 s 64 true w2 (.bool b) (.int .i64 ((k : Int) + 1)) w2) := fun b hb => Lib.hid ⟨k + 1, by omega, by rw [Int.natCast_succ], by rw [hstep, hb]; cases b <;> rfl, rfl⟩
        have HST := Lib.hid Hst
        clear Hst hxe hstep hR
        cases R
        · have q := (HST.out false rfl)
          clear hv
          go_wp2_with fail
          exact ⟨q.out, by simp [intOf]; omega⟩
        · rcases (show x < 48 ∨ (48 ≤ x ∧ x ≤ 57) ∨ (57 < x ∧ x < 97) ∨ (97 ≤ x ∧ x ≤ 102) ∨ 102 < x by omega) with h | ⟨h, h'⟩ | ⟨h, h'⟩ | ⟨h, h'⟩ | h
          · have q := (HST.out false (by rw [hv, if_neg (by omega), if_neg (by omega)]; rfl))
            clear hv
            go_wp2_with fail
            exact ⟨q.out, by simp [intOf]; omega⟩
          · have q := (HST.out true (by rw [hv, if_pos (by omega)]; simp; omega))
            clear hv
            go_wp2_with fail
            exact ⟨q.out, by simp [intOf]; omega⟩
          · have q := (HST.out false (by rw [hv, if_neg (by omega), if_neg (by omega)]; rfl))
            have E57 := Lib.hid (show decide (x ≤ 57) = false from decide_eq_false (by omega))
            clear hv
            go_wp2_with fail
            rw [E57.out]
            exact ⟨q.out, by simp [intOf]; omega⟩
          · have q := (HST.out true (by rw [hv, if_neg (by omega), if_pos (by omega)]; simp; omega))
            clear hv
            go_wp2_with fail
            exact ⟨q.out, by simp [intOf]; omega⟩
          · have q := (HST.out false (by rw [hv, if_neg (by omega), if_neg (by omega)]; rfl))
            have E57 := Lib.hid (show decide (x ≤ 57) = false from decide_eq_false (by omega))
            have E102 := Lib.hid (show decide (x ≤ 102) = false from decide_eq_false (by omega))
            clear hv
            go_wp2_with fail
            rw [E57.out, E102.out]
            exact ⟨q.out, by simp [intOf]; omega⟩
      · obtain rfl : k = 64 := by omega
        cases hb : b
        · obtain ⟨rfl, hnd⟩ := HN.out hb
          have hall : allD s 64 = false := by
            cases h : allD s 64
            · rfl
            · exact absurd ((allD_iff s).1 h) hnd
          rw [hall]
          clear hlt hk HE hb HD HN
          go_wp2_with fail
          go_ret
          exact ⟨rfl, H2.out⟩
        · obtain ⟨rfl, hnd⟩ := HD.out hb
          have hall : allD s 64 = true := (allD_iff s).2 hnd
          have hps := hex_par s hs hnd
          have hdz := parB_size s
          obtain ⟨d, hd⟩ : ∃ d, parB s = d := ⟨_, rfl⟩
          rw [hd] at hps hdz
          rw [hall]
          rw [hd]
          have hdi : ((d.size : Int) == 32) = true := by rw [hdz]; rfl
          have hd8 : (d.size : Int) = 32 := by rw [hdz]; rfl
          have HPS := Lib.hid hps; have HDZ := Lib.hid hdz
          clear hlt hk HE hb HD HN hd hps hdz
          go_wp2_with fail
          refine (Hex_any d w2 HDZ.out).mono ?_
          rintro e w3 ⟨rfl, h3⟩
          have H3 := Lib.hid (H2.out.trans (h3.mono H2.out.size))
          clear h3
          rw [show strOfNums ((List.range 64).map (hexF (atI d))) = s from HPS.out]
          go_wp2_with fail
          go_ret
          exact ⟨rfl, H3.out⟩
  · have hne : ((s.size : Int) == 64) = false := by rw [beq_eq_false_iff_ne]; omega
    go_enter Tryd.func5, Tryd.ntmps5
    go_wp2_with fail
    refine (speaks_any w HV.out).mono ?_
    rintro e w1 ⟨rfl, h1⟩
    have H1 := Lib.hid h1
    clear h1
    go_wp2_with fail
    refine (Parse_not s w1 hs).mono ?_
    rintro e w2 ⟨rfl, h2⟩
    have H2 := Lib.hid (H1.out.trans (h2.mono H1.out.size))
    clear h2
    go_wp2_with fail
    go_loopw [5, 6] (fun r i wr => ∃ k : Nat, k ≤ 64 ∧ k ≤ s.size ∧ i = .int .i64 k ∧ r = .bool false ∧ w2 = wr) (fun _ i _ => 64 - (intOf i).toNat)
    case atStart => exact ⟨0, by omega, by omega, rfl, rfl, rfl⟩
    case round =>
      obtain ⟨k, hk, hks, rfl, rfl, rfl⟩ := hrel
      by_cases hlt : k < s.size
      · have hlti : (k : Int) < s.size := by omega
        by_cases h64 : k < 64
        · have h64i : (k : Int) < 64 := by omega
          have q : Hid (∃ j : Nat, j ≤ 64 ∧ j ≤ s.size ∧ Value.int .i64 ((k : Int) + 1) = .int .i64 j ∧ Value.bool false = .bool false ∧ True) := Lib.hid ⟨k + 1, by omega, by omega, by rw [Int.natCast_succ], rfl, trivial⟩
          go_wp2_with fail
          exact ⟨q.out, by simp [intOf]; omega⟩
        · have h64i : ¬ (k : Int) < 64 := by omega
          go_wp2_with fail
          go_ret
          exact ⟨rfl, H2.out⟩
      · have hlti : ¬ (k : Int) < s.size := by omega
        go_wp2_with fail
        go_ret
        exact ⟨rfl, H2.out⟩
end Go.Proofs.YtodmomhilpheiaaDoor
