/- What the statements of layer 1 ask at their beginning is so: at the number 128 and the text a. -/
import Derived.Test.YtljlbgfggmkngaaI
namespace Go.Proofs.Ytljlbgfggmkngaa
open Go.RowKit

theorem sp_get : getI ⟨#[128, 128, 120]⟩ = (128, 2, 0) := by decide +kernel
theorem sp_put : strOfNums (putI 128) = ⟨#[128, 128]⟩ := by decide +kernel
theorem sp_join : (⟨(joinL [⟨#[97]⟩]).toArray⟩ : ByteArray) = ⟨#[1, 97]⟩ := by decide +kernel

theorem join_str (g len cap : Nat) (ss : List ByteArray) (p : ByteArray) (w : World) (hl : ss.length = len) (hlen : len ≤ 1099511627776) (hg : g < w.heap.size)
    (hc : ∀ i, i < len → w.cell? ⟨g, i, none⟩ = some (.string (ss.getD i ByteArray.empty))) (hs : (joinL ss).length ≤ 1099511627776) (hp : (⟨(joinL ss).toArray⟩ : ByteArray) = p) :
    Calls Try.prog 15 #[.slice (some ⟨g, 0, none⟩) len cap] w fun e w' => e = .returned (.string p) ∧ Below w.heap.size w w' := by
  subst hp; exact join_any g len cap ss w hl hlen hg hc hs

theorem cell_new1 (w : World) (x : Value) (t : TypeId) : (w.alloc (.cells #[x] t)).cell? ⟨w.heap.size, 0, none⟩ = some x := by
  have : (w.alloc (.cells #[x] t)).heap[w.heap.size]? = some (.cells #[x] t (0, 0)) := by
    show (w.heap.push _)[w.heap.size]? = _
    simp
  unfold World.cell?
  simp only [this]
  rfl

theorem join_one (s p : ByteArray) (w : World) (hs : s.size ≤ 1048576) (hp : (⟨(joinL [s]).toArray⟩ : ByteArray) = p) :
    Calls Try.prog 15 #[.slice (some ⟨w.heap.size, 0, none⟩) 1 1] (w.alloc (.cells #[.string s] 9)) fun e w' => e = .returned (.string p) ∧ Below w.heap.size w w' := by
  refine (join_str w.heap.size 1 1 [s] p (w.alloc (.cells #[.string s] 9)) rfl (by omega) (by simp) ?_ ?_ hp).mono ?_
  · intro i hi
    obtain rfl : i = 0 := by omega
    rw [cell_new1]; rfl
  · have : (joinL [s]).length = (putI s.size).length + s.size := by simp [joinL, encL_length]
    have h2 := len_put (s.size : Int)
    have h3 : folI (s.size : Int) ≤ 5 := by unfold folI; repeat' (first | omega | split)
    omega
  · rintro e w' ⟨rfl, hb⟩
    refine ⟨rfl, bel_trans (bel_alloc (bel_refl _) _) hb⟩

theorem speaks_any (w : World) :
    Calls Try.prog 8 #[] w fun e w' => e = .returned (.bool true) ∧ Below w.heap.size w w' := by
  go_enter Try.func8, Try.ntmps8
  go_wp2_with fail
  refine (get_vars _ 128 2 0 _ (by decide) sp_get).mono ?_
  rintro e w1 ⟨rfl, hw1⟩
  go_wp2_with fail
  refine (put_nat _ _ _ (by omega) (by omega) sp_put).mono ?_
  rintro e w2 ⟨rfl, hw2⟩
  go_wp2_with fail
  refine (join_one _ _ _ (by decide) sp_join).mono ?_
  rintro e w3 ⟨rfl, hw3⟩
  go_wp2_with fail
  go_ret
  exact ⟨rfl, bel_trans (bel_trans hw1 hw2) hw3⟩

theorem puts_any (n : Int) (w : World) :
    Calls Try.prog 3 #[.int .i64 n] w fun e w' => e = .returned (.bool true) ∧ Below w.heap.size w w' := by
  obtain ⟨p, h1, h2⟩ : ∃ p : ByteArray, (∀ W, Calls Try.prog 9 #[.int .i64 n] W fun e w' => e = .returned (.string p) ∧ Below W.heap.size W w') ∧ (∀ W, Calls Try.prog 10 #[.int .i64 n] W fun e w' => e = .returned (.string p) ∧ Below W.heap.size W w') := by
    by_cases c0 : n < 0
    · exact ⟨_, fun W => (put_low n W c0).mono fun e w' ⟨a, b⟩ => ⟨a, b ▸ bel_refl _⟩, fun W => (rput_low n W c0).mono fun e w' ⟨a, b⟩ => ⟨a, b ▸ bel_refl _⟩⟩
    · by_cases c1 : 1099511627776 < n
      · exact ⟨_, fun W => (put_high n W c1).mono fun e w' ⟨a, b⟩ => ⟨a, b ▸ bel_refl _⟩, fun W => (rput_high n W c1).mono fun e w' ⟨a, b⟩ => ⟨a, b ▸ bel_refl _⟩⟩
      · exact ⟨_, fun W => put_any n W (by omega) (by omega), fun W => rput_any n W (by omega) (by omega)⟩
  have H1 := Lib.hid h1; have H2 := Lib.hid h2
  clear h1 h2
  go_enter Try.func3, Try.ntmps3
  go_wp2_with fail
  refine (speaks_any _).mono ?_
  rintro e w1 ⟨rfl, hw1⟩
  go_wp2_with fail
  refine (H1.out _).mono ?_
  rintro e w2 ⟨rfl, hw2⟩
  go_wp2_with fail
  refine (H2.out _).mono ?_
  rintro e w3 ⟨rfl, hw3⟩
  go_wp2_with fail
  go_ret
  exact ⟨by simp, bel_trans (bel_trans hw1 hw2) hw3⟩

theorem gets_any (s : ByteArray) (w : World) (hm : s.size ≤ maxLen) :
    Calls Try.prog 4 #[.string s] w fun e w' => e = .returned (.bool true) ∧ Below w.heap.size w w' := by
  obtain ⟨n, k, er, hg⟩ : ∃ n k er, getI s = (n, k, er) := ⟨_, _, _, rfl⟩
  obtain ⟨t, i, g, hn⟩ : ∃ t i g, nextI s = (t, i, g) := ⟨_, _, _, rfl⟩
  have HG := Lib.hid hg; have HN := Lib.hid hn; have HM := Lib.hid hm
  clear hg hn hm
  go_enter Try.func4, Try.ntmps4
  go_wp2_with fail
  refine (speaks_any _).mono ?_
  rintro e w1 ⟨rfl, hw1⟩
  go_wp2_with fail
  refine (get_vars _ n k er _ HM.out HG.out).mono ?_
  rintro e w2 ⟨rfl, hw2⟩
  go_wp2_with fail
  refine (rget_vars _ n k er _ HM.out HG.out).mono ?_
  rintro e w3 ⟨rfl, hw3⟩
  go_wp2_with fail
  refine (next_vars _ t i g _ HM.out HN.out).mono ?_
  rintro e w4 ⟨rfl, hw4⟩
  go_wp2_with fail
  refine ((rnext_any s _ HM.out).mono fun e w' ⟨a, b⟩ => ⟨by rw [a, HN.out], b⟩ : Calls Try.prog 14 #[.string s] _ fun e w' => e = .returned (.tuple #[.string t, .int .i64 i, .int .i64 g]) ∧ Below w4.heap.size w4 w').mono ?_
  rintro e w5 ⟨rfl, hw5⟩
  go_wp2_with fail
  go_ret
  exact ⟨by simp, bel_trans (bel_trans (bel_trans (bel_trans hw1 hw2) hw3) hw4) hw5⟩
end Go.Proofs.Ytljlbgfggmkngaa
