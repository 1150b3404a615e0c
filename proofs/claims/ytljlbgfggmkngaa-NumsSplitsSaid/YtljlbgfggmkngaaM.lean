/- NumsAny and NumsOrder: what their walks come to: true, for every text that can be, and all ints. -/
import Derived.Test.YtljlbgfggmkngaaJ
import Derived.Test.YtljlbgfggmkngaaL
namespace Go.Proofs.Ytljlbgfggmkngaa
open Go.RowKit

theorem addr_add (g i : Nat) : (⟨g, 0, none⟩ : Addr).add i = ⟨g, i, none⟩ := by
  unfold Addr.add; split <;> simp_all

theorem join_nil (w : World) : Calls Try.prog 15 #[.slice none 0 0] w fun e w' => e = .returned (.string ⟨#[]⟩) ∧ Below w.heap.size w w' := by
  go_enter Try.func15, Try.ntmps15
  go_wp2_with fail
  refine wp_loop_rounds 1 ?_
  rw [rounds_succ]
  go_wp2_with (go_at_call 20; refine (Try.Builder_String_any w.heap.size w.heap.size [] _ (Lib.fresh_isBuilder _ _ _) (by simp)).mono ?_; rintro e w1 ⟨rfl, hw1⟩)
  go_ret
  exact ⟨rfl, (bel_alloc (bel_refl w) _).trans hw1⟩

/-- Join of a slice that the call owns. -/
theorem join_own (B : Nat) (v : Value) (ss : List ByteArray) (p : ByteArray) (w : World) (hown : w.ownsRow B 9 1 v ss.length (ss.map Value.string)) (hs : (joinL ss).length ≤ 1099511627776) (hp : mkB (joinL ss) = p) :
    Calls Try.prog 15 #[v] w fun e w' => e = .returned (.string p) ∧ Below w.heap.size w w' := by
  rcases hown.2 with ⟨rfl, h0⟩ | ⟨g, cap, cur, rfl, _, hg, _⟩
  · have : ss = [] := List.eq_nil_of_length_eq_zero h0
    subst this
    rw [← hp]
    exact join_nil w
  · subst hp
    refine join_any g ss.length cap ss w rfl (by have := joinL_ge ss; omega) (lt_of_some hg) ?_ hs
    intro i hi
    have h1 := hown.cells (g := g) rfl i (.string ss[i]) (by simp [List.getElem?_eq_getElem hi])
    rw [show ss.getD i ByteArray.empty = ss[i] by simp [List.getD, List.getElem?_eq_getElem hi]]
    rw [addr_add] at h1
    exact h1

theorem any_any (s : ByteArray) (w : World) (hm : s.size ≤ maxLen) :
    Calls Try.prog 7 #[.string s] w fun e w' => e = .returned (.bool true) ∧ Below w.heap.size w w' := by
  unfold maxLen at hm
  by_cases h5 : 5000 < s.size
  · have h5' : (5000 : Int) < (s.size : Int) := by omega
    go_enter Try.func7, Try.ntmps7
    go_wp2_with fail
    refine (speaks_any _).mono ?_
    rintro e w1 ⟨rfl, hw1⟩
    go_wp2_with fail
    go_ret
    exact ⟨rfl, hw1⟩
  · obtain ⟨l, er, hl⟩ : ∃ l er, splitI s = (l, er) := ⟨_, _, rfl⟩
    have h5' : (s.size : Int) ≤ 5000 := by omega
    have HL := Lib.hid hl
    clear hl
    by_cases he : er = 0
    · subst he
      have hj : Hid (mkB (joinL l) = s) := Lib.hid (by
        have := split_join _ [] l s (by omega) HL.out
        rw [this, joinL, List.nil_append, mkB_list])
      have hz : Hid ((joinL l).length ≤ 1099511627776) := Lib.hid (by
        have := congrArg ByteArray.size hj.out
        rw [mkB_size] at this; omega)
      go_enter Try.func7, Try.ntmps7
      go_wp2_with fail
      refine (speaks_any _).mono ?_
      rintro e w1 ⟨rfl, hw1⟩
      go_wp2_with fail
      refine (split_any s _ (by omega)).mono ?_
      rintro e w2 ⟨v, he, hown, hw2⟩
      rw [HL.out] at he hown
      subst he
      have HO := Lib.hid hown
      clear hown
      go_wp2_with fail
      refine (join_own _ v l s _ HO.out hz.out hj.out).mono ?_
      rintro e w3 ⟨rfl, hw3⟩
      go_wp2_with fail
      go_ret
      exact ⟨by simp, bel_trans (bel_trans hw1 hw2) hw3⟩
    · have hq := split_err _ _ _ _ _ HL.out he
      obtain ⟨rfl, hs0⟩ := hq
      have hem := ba_some s (by omega)
      have hne : (er != 0) = true := by rw [bne_iff_ne]; exact he
      clear he hs0
      go_enter Try.func7, Try.ntmps7
      go_wp2_with fail
      refine (speaks_any _).mono ?_
      rintro e w1 ⟨rfl, hw1⟩
      go_wp2_with fail
      refine (split_any s _ (by omega)).mono ?_
      rintro e w2 ⟨v, he, hown, hw2⟩
      rw [HL.out] at he hown
      obtain ⟨a, cap, rfl⟩ : ∃ a cap, v = .slice a 0 cap := by
        rcases hown.2 with ⟨hv, _⟩ | ⟨g, cap, cur, hv, _⟩
        · exact ⟨_, _, hv⟩
        · exact ⟨_, _, hv⟩
      subst he
      clear hown
      go_wp2_with fail
      go_ret
      exact ⟨rfl, bel_trans hw1 hw2⟩
end Go.Proofs.Ytljlbgfggmkngaa
