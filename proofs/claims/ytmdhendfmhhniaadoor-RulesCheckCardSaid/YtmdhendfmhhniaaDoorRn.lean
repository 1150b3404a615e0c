/- Rules: the document's Good; a line scanned, plain facts. -/
import Derived.Test.YtmdhendfmhhniaaDoorRb
namespace Go.Proofs.YtmdhendfmhhniaaDoor
open Go.RowKit
variable {w w' : World}

theorem nameC_hit {x : UInt8} (h : (97 ≤ (x.toNat : Int) ∧ (x.toNat : Int) ≤ 122) ∨ (48 ≤ (x.toNat : Int) ∧ (x.toNat : Int) ≤ 57) ∨ (x.toNat : Int) = 45) : nameC x = true := decide_eq_true h
theorem nameC_miss {x : UInt8} (h : ¬ ((97 ≤ (x.toNat : Int) ∧ (x.toNat : Int) ≤ 122) ∨ (48 ≤ (x.toNat : Int) ∧ (x.toNat : Int) ≤ 57) ∨ (x.toNat : Int) = 45)) : nameC x = false := decide_eq_false h
set_option maxHeartbeats 2000000 in
set_option maxRecDepth 100000 in
theorem RGoodN_any (s : ByteArray) (w : World) (hs : s.size ≤ maxLen) :
    Calls Tryd.prog 72 #[.string s] w fun e w' => e = .returned (.bool (goodN s)) ∧ w' = w := by
  unfold maxLen at hs
  go_enter Tryd.func72, Tryd.ntmps72
  go_wp2_with fail
  go_loop [3] (GSf nameC s) (fun i => s.size - (intOf i).toNat)
  case atStart => exact ⟨0, Nat.zero_le _, rfl, rfl⟩
  case round =>
    obtain ⟨k, hk, rfl, hr⟩ := hrel
    have HR := Lib.hid hr; clear hr
    by_cases hlt : k < s.size
    · have e0 : ∀ y : Int, (s[k].toNat : Int) = y → nameC s[k] = decide ((97 ≤ y ∧ y ≤ 122) ∨ (48 ≤ y ∧ y ≤ 57) ∨ y = 45) := fun y h => by unfold nameC; rw [h]
      have hx1 : (s[k].toNat : Int) < 256 := by have := s[k].toNat_lt; omega
      rcases (show (nameC s[k] = true ∧ (s[k].toNat : Int) = 45) ∨ (nameC s[k] = true ∧ 48 ≤ (s[k].toNat : Int) ∧ (s[k].toNat : Int) ≤ 57) ∨ (nameC s[k] = true ∧ 97 ≤ (s[k].toNat : Int) ∧ (s[k].toNat : Int) ≤ 122) ∨ (nameC s[k] = false ∧ 122 < (s[k].toNat : Int)) ∨ (nameC s[k] = false ∧ 57 < (s[k].toNat : Int) ∧ (s[k].toNat : Int) < 97) ∨ (nameC s[k] = false ∧ (s[k].toNat : Int) < 48 ∧ ¬ (s[k].toNat : Int) = 45) by
        by_cases h1 : (97 ≤ (s[k].toNat : Int) ∧ (s[k].toNat : Int) ≤ 122) ∨ (48 ≤ (s[k].toNat : Int) ∧ (s[k].toNat : Int) ≤ 57) ∨ (s[k].toNat : Int) = 45
        · have := nameC_hit h1
          simp only [this, true_and]; omega
        · have := nameC_miss h1
          simp only [this]; simp; omega) with ⟨hc, h⟩ | ⟨hc, h, h2⟩ | ⟨hc, h, h2⟩ | ⟨hc, h⟩ | ⟨hc, h, h2⟩ | ⟨hc, h, h2⟩
      · have E3 := Lib.hid (show (s.data.toList.drop (k + 1)).all nameC = (s.data.toList.drop 0).all nameC by rw [← HR.out, nb_c s nameC hlt, hc, Bool.true_and])
        clear hc e0
        go_wp2_with fail
        go_round
        case rel => exact ⟨k + 1, by omega, by go_num, E3.out⟩
        case measure => simp [intOf]; omega
      · have E3 := Lib.hid (show (s.data.toList.drop (k + 1)).all nameC = (s.data.toList.drop 0).all nameC by rw [← HR.out, nb_c s nameC hlt, hc, Bool.true_and])
        have h3 : ¬ (s[k].toNat : Int) = 45 := by omega
        clear hc e0
        go_wp2_with fail
        go_round
        case rel => exact ⟨k + 1, by omega, by go_num, E3.out⟩
        case measure => simp [intOf]; omega
      · have E3 := Lib.hid (show (s.data.toList.drop (k + 1)).all nameC = (s.data.toList.drop 0).all nameC by rw [← HR.out, nb_c s nameC hlt, hc, Bool.true_and])
        have h3 : ¬ (s[k].toNat : Int) = 45 := by omega
        have h4 : 57 < (s[k].toNat : Int) := by omega
        have h5 : 48 ≤ (s[k].toNat : Int) := by omega
        clear hc e0
        go_wp2_with fail
        go_round
        case rel => exact ⟨k + 1, by omega, by go_num, E3.out⟩
        case measure => simp [intOf]; omega
      · have E2 := Lib.hid (goodN_no HR.out hlt hc)
        have h3 : ¬ (s[k].toNat : Int) = 45 := by omega
        have h4 : 57 < (s[k].toNat : Int) := by omega
        have h5 : 48 ≤ (s[k].toNat : Int) := by omega
        have h6 : 97 ≤ (s[k].toNat : Int) := by omega
        clear hc e0
        go_wp2_with fail
        all_goals first
          | (go_ret; exact ⟨ret_bool E2.out.symm, rfl⟩)
          | (exfalso; rename_i hx; revert hx; simp; omega)
          | (exfalso; rename_i hx; simp at hx; omega)
      · have E2 := Lib.hid (goodN_no HR.out hlt hc)
        have h3 : ¬ (s[k].toNat : Int) = 45 := by omega
        have h5 : 48 ≤ (s[k].toNat : Int) := by omega
        clear hc e0
        go_wp2_with fail
        all_goals first
          | (go_ret; exact ⟨ret_bool E2.out.symm, rfl⟩)
          | (exfalso; rename_i hx; revert hx; simp; omega)
          | (exfalso; rename_i hx; simp at hx; omega)
      · have E2 := Lib.hid (goodN_no HR.out hlt hc)
        have h6 : (s[k].toNat : Int) < 97 := by omega
        clear hc e0
        go_wp2_with fail
        all_goals first
          | (go_ret; exact ⟨ret_bool E2.out.symm, rfl⟩)
          | (exfalso; rename_i hx; revert hx; simp; omega)
          | (exfalso; rename_i hx; simp at hx; omega)
    · by_cases h0 : 0 < s.size
      · by_cases h2 : s.size < 33
        · have E2 := Lib.hid (show goodN s = true by
            unfold goodN
            rw [← HR.out, nb_end s nameC (by omega)]; simp; omega)
          go_wp2_with fail
          go_ret
          exact ⟨ret_bool (by rw [E2.out]; simp; try omega), rfl⟩
        · have E2 := Lib.hid (show goodN s = false by unfold goodN; simp; omega)
          go_wp2_with fail
          go_ret
          exact ⟨ret_bool (by rw [E2.out]; simp; try omega), rfl⟩
      · have E2 := Lib.hid (show goodN s = false by unfold goodN; simp; omega)
        go_wp2_with fail
        go_ret
        exact ⟨ret_bool (by rw [E2.out]; try simp), rfl⟩
/-- Where the first space is. -/
def spL (l : List UInt8) : Nat := (l.takeWhile (· != 32)).length
theorem spL_le (l : List UInt8) : spL l ≤ l.length := takeWhile_len _ l
theorem spL_snoc : ∀ (l : List UInt8) (c : UInt8), spL (l ++ [c]) = if spL l < l.length then spL l else if c = 32 then l.length else l.length + 1
  | [], c => by
    unfold spL
    by_cases h : c = 32
    · subst h; rfl
    · simp [h]
  | x :: r, c => by
    have ih := spL_snoc r c
    by_cases h : x = 32
    · subst h
      unfold spL; simp
    · have e : ∀ t : List UInt8, spL (x :: t) = spL t + 1 := fun t => by unfold spL; rw [List.takeWhile_cons, if_pos (by simpa using h)]; rfl
      rw [List.cons_append, e, e, ih]
      simp only [List.length_cons]
      split <;> split <;> (try split) <;> omega
theorem spAt_L (s : ByteArray) : spAt s = spL s.data.toList := rfl
end Go.Proofs.YtmdhendfmhhniaaDoor
