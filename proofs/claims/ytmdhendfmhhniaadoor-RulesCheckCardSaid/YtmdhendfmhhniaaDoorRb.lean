/- Rules: which names and patterns are good: the program's and the document's. -/
import Derived.Test.YtmdhendfmhhniaaDoorRa
import Derived.Test.YtmdhendfmhhniaaDoorPd
namespace Go.Proofs.YtmdhendfmhhniaaDoor
open Go.RowKit

theorem nb_c (s : ByteArray) (f : UInt8 → Bool) {k : Nat} (h : k < s.size) : (s.data.toList.drop k).all f = (f s[k] && (s.data.toList.drop (k + 1)).all f) := by
  rw [drop_at s k h, List.all_cons]
theorem nb_end (s : ByteArray) (f : UInt8 → Bool) {k : Nat} (h : s.size ≤ k) : (s.data.toList.drop k).all f = true := by
  rw [List.drop_eq_nil_of_le (by rw [size_len]; exact h)]; rfl
theorem nameByte_any (x : UInt8) (w : World) : Calls Tryd.prog 86 #[.int .u8 x.toNat] w fun e w' => e = .returned (.bool (nameC x)) ∧ w' = w := by
  unfold nameC
  have hx0 : (0 : Int) ≤ (x.toNat : Int) := by omega
  have hx1 : (x.toNat : Int) < 256 := by have := x.toNat_lt; omega
  generalize (x.toNat : Int) = y at hx0 hx1
  rcases (show (97 ≤ y ∧ y ≤ 122) ∨ (48 ≤ y ∧ y ≤ 57) ∨ y = 45 ∨ (122 < y) ∨ (57 < y ∧ y < 97) ∨ (45 < y ∧ y < 48) ∨ y < 45 by omega) with h | h | h | h | h | h | h
  · obtain ⟨h1, h2⟩ := h
    have hE := Lib.hid (show decide ((97 ≤ y ∧ y ≤ 122) ∨ (48 ≤ y ∧ y ≤ 57) ∨ y = 45) = true by simp; omega)
    go_enter Tryd.func86, Tryd.ntmps86
    go_wp2_with fail
    go_ret
    exact ⟨ret_bool (by first | rfl | (rw [hE.out]; done) | (rw [hE.out]; simp; done) | (rw [hE.out]; simp; omega) | (rw [Bool.eq_iff_iff]; simp; done) | (rw [Bool.eq_iff_iff]; simp; omega)), rfl⟩
  · obtain ⟨h1, h2⟩ := h
    have h3 : y < 97 := by omega
    have hE := Lib.hid (show decide ((97 ≤ y ∧ y ≤ 122) ∨ (48 ≤ y ∧ y ≤ 57) ∨ y = 45) = true by simp; omega)
    go_enter Tryd.func86, Tryd.ntmps86
    go_wp2_with fail
    go_ret
    exact ⟨ret_bool (by first | rfl | (rw [hE.out]; done) | (rw [hE.out]; simp; done) | (rw [hE.out]; simp; omega) | (rw [Bool.eq_iff_iff]; simp; done) | (rw [Bool.eq_iff_iff]; simp; omega)), rfl⟩
  · subst h
    go_enter Tryd.func86, Tryd.ntmps86
    go_wp2_with fail
    go_ret
    exact ⟨rfl, rfl⟩
  · have h3 : 97 ≤ y := by omega
    have h4 : 48 ≤ y := by omega
    have h5 : 57 < y := by omega
    have h6 : ¬ y = 45 := by omega
    have hE := Lib.hid (show decide ((97 ≤ y ∧ y ≤ 122) ∨ (48 ≤ y ∧ y ≤ 57) ∨ y = 45) = false by simp; omega)
    go_enter Tryd.func86, Tryd.ntmps86
    go_wp2_with fail
    go_ret
    exact ⟨ret_bool (by first | rfl | (rw [hE.out]; done) | (rw [hE.out]; simp; done) | (rw [hE.out]; simp; omega) | (rw [Bool.eq_iff_iff]; simp; done) | (rw [Bool.eq_iff_iff]; simp; omega)), rfl⟩
  · obtain ⟨h1, h2⟩ := h
    have h4 : 48 ≤ y := by omega
    have h6 : ¬ y = 45 := by omega
    have hE := Lib.hid (show decide ((97 ≤ y ∧ y ≤ 122) ∨ (48 ≤ y ∧ y ≤ 57) ∨ y = 45) = false by simp; omega)
    go_enter Tryd.func86, Tryd.ntmps86
    go_wp2_with fail
    go_ret
    exact ⟨ret_bool (by first | rfl | (rw [hE.out]; done) | (rw [hE.out]; simp; done) | (rw [hE.out]; simp; omega) | (rw [Bool.eq_iff_iff]; simp; done) | (rw [Bool.eq_iff_iff]; simp; omega)), rfl⟩
  · obtain ⟨h1, h2⟩ := h
    have h3 : y < 97 := by omega
    have h6 : ¬ y = 45 := by omega
    have hE := Lib.hid (show decide ((97 ≤ y ∧ y ≤ 122) ∨ (48 ≤ y ∧ y ≤ 57) ∨ y = 45) = false by simp; omega)
    go_enter Tryd.func86, Tryd.ntmps86
    go_wp2_with fail
    go_ret
    exact ⟨ret_bool (by first | rfl | (rw [hE.out]; done) | (rw [hE.out]; simp; done) | (rw [hE.out]; simp; omega) | (rw [Bool.eq_iff_iff]; simp; done) | (rw [Bool.eq_iff_iff]; simp; omega)), rfl⟩
  · have h3 : y < 97 := by omega
    have h4 : y < 48 := by omega
    have h6 : ¬ y = 45 := by omega
    have hE := Lib.hid (show decide ((97 ≤ y ∧ y ≤ 122) ∨ (48 ≤ y ∧ y ≤ 57) ∨ y = 45) = false by simp; omega)
    go_enter Tryd.func86, Tryd.ntmps86
    go_wp2_with fail
    go_ret
    exact ⟨ret_bool (by first | rfl | (rw [hE.out]; done) | (rw [hE.out]; simp; done) | (rw [hE.out]; simp; omega) | (rw [Bool.eq_iff_iff]; simp; done) | (rw [Bool.eq_iff_iff]; simp; omega)), rfl⟩
def GSf (f : UInt8 → Bool) (s : ByteArray) (i : Value) : Prop := ∃ k : Nat, k ≤ s.size ∧ i = .int .i64 k ∧ (s.data.toList.drop k).all f = (s.data.toList.drop 0).all f
theorem goodN_no {s : ByteArray} {k : Nat} (h : (s.data.toList.drop k).all nameC = (s.data.toList.drop 0).all nameC) (hk : k < s.size) (hb : nameC s[k] = false) : goodN s = false := by
  unfold goodN
  rw [← h, nb_c s nameC hk, hb, Bool.false_and, Bool.and_false]
theorem goodQ_no {s : ByteArray} {k : Nat} (h : (s.data.toList.drop k).all patC = (s.data.toList.drop 0).all patC) (hk : k < s.size) (hb : patC s[k] = false) : goodQ s = false := by
  unfold goodQ
  rw [← h, nb_c s patC hk, hb, Bool.false_and, Bool.and_false]
set_option maxHeartbeats 1000000 in
theorem GoodN_any (s : ByteArray) (w : World) (hs : s.size ≤ maxLen) :
    Calls Tryd.prog 64 #[.string s] w fun e w' => e = .returned (.bool (goodN s)) ∧ w' = w := by
  unfold maxLen at hs
  by_cases h0 : s.size = 0
  · have e1 : s.toList = [] := ba_nil s h0
    have e2 : goodN s = false := by unfold goodN; simp [h0]
    have E2 := Lib.hid e2; clear e2 h0
    go_enter Tryd.func64, Tryd.ntmps64
    go_wp2_with fail
    go_ret
    exact ⟨ret_bool E2.out.symm, rfl⟩
  have h1 : s.toList.isEmpty = false := ba_some s (by omega)
  have h1' : s.toList ≠ [] := fun e => by rw [e] at h1; cases h1
  by_cases h2 : 32 < s.size
  · have e2 : goodN s = false := by unfold goodN; simp; omega
    have E2 := Lib.hid e2; clear e2
    go_enter Tryd.func64, Tryd.ntmps64
    go_wp2_with fail
    go_ret
    exact ⟨ret_bool E2.out.symm, rfl⟩
  have h3 : s.size ≤ 32 := by omega
  have HNB := Lib.hid nameByte_any
  go_enter Tryd.func64, Tryd.ntmps64
  go_wp2_with fail
  go_loop [13] (GSf nameC s) (fun i => s.size - (intOf i).toNat)
  case atStart => exact ⟨0, Nat.zero_le _, rfl, rfl⟩
  case round =>
    obtain ⟨k, hk, rfl, hr⟩ := hrel
    have HR := Lib.hid hr; clear hr
    by_cases hlt : k < s.size
    · have HN1 := HNB.out s[k]
      cases hc : nameC s[k] with
      | false =>
        have E2 := Lib.hid (goodN_no HR.out hlt hc)
        rw [hc] at HN1
        have HN1 := Lib.hid HN1
        clear hc
        go_wp2_with (go_at_call 86; refine (HN1.out _).mono ?_; rintro e w1 ⟨rfl, rfl⟩)
        go_ret
        exact ⟨ret_bool E2.out.symm, rfl⟩
      | true =>
        have E3 := Lib.hid (show (s.data.toList.drop (k + 1)).all nameC = (s.data.toList.drop 0).all nameC by
          rw [← HR.out, nb_c s nameC hlt, hc, Bool.true_and])
        rw [hc] at HN1
        have HN1 := Lib.hid HN1
        clear hc
        go_wp2_with (go_at_call 86; refine (HN1.out _).mono ?_; rintro e w1 ⟨rfl, rfl⟩)
        go_round
        case rel => exact ⟨k + 1, by omega, by go_num, E3.out⟩
        case measure => simp [intOf]; omega
    · have E2 := Lib.hid (show goodN s = true by
        unfold goodN
        rw [← HR.out, nb_end s nameC (by omega)]; simp; omega)
      go_wp2_with fail
      go_ret
      exact ⟨ret_bool E2.out.symm, rfl⟩
set_option maxHeartbeats 1000000 in
theorem GoodQ_any (s : ByteArray) (w : World) (hs : s.size ≤ maxLen) :
    Calls Tryd.prog 65 #[.string s] w fun e w' => e = .returned (.bool (goodQ s)) ∧ w' = w := by
  unfold maxLen at hs
  by_cases h0 : s.size = 0
  · have e1 : s.toList = [] := ba_nil s h0
    have e2 : goodQ s = false := by unfold goodQ; simp [h0]
    have E2 := Lib.hid e2; clear e2 h0
    go_enter Tryd.func65, Tryd.ntmps65
    go_wp2_with fail
    go_ret
    exact ⟨ret_bool E2.out.symm, rfl⟩
  have h1 : s.toList.isEmpty = false := ba_some s (by omega)
  have h1' : s.toList ≠ [] := fun e => by rw [e] at h1; cases h1
  by_cases h2 : 256 < s.size
  · have e2 : goodQ s = false := by unfold goodQ; simp; omega
    have E2 := Lib.hid e2; clear e2
    go_enter Tryd.func65, Tryd.ntmps65
    go_wp2_with fail
    go_ret
    exact ⟨ret_bool E2.out.symm, rfl⟩
  have h3 : s.size ≤ 256 := by omega
  go_enter Tryd.func65, Tryd.ntmps65
  go_wp2_with fail
  go_loop [13] (GSf patC s) (fun i => s.size - (intOf i).toNat)
  case atStart => exact ⟨0, Nat.zero_le _, rfl, rfl⟩
  case round =>
    obtain ⟨k, hk, rfl, hr⟩ := hrel
    have HR := Lib.hid hr; clear hr
    by_cases hlt : k < s.size
    · by_cases hlo : (s[k].toNat : Int) < 32
      · have E2 := Lib.hid (goodQ_no HR.out hlt (by unfold patC; simp; omega))
        go_wp2_with fail
        go_ret
        exact ⟨ret_bool E2.out.symm, rfl⟩
      · have hlo' : 32 ≤ (s[k].toNat : Int) := by omega
        by_cases hhi : 126 < (s[k].toNat : Int)
        · have E2 := Lib.hid (goodQ_no HR.out hlt (by unfold patC; simp; omega))
          go_wp2_with fail
          go_ret
          exact ⟨ret_bool E2.out.symm, rfl⟩
        · have hhi' : (s[k].toNat : Int) ≤ 126 := by omega
          have E3 := Lib.hid (show (s.data.toList.drop (k + 1)).all patC = (s.data.toList.drop 0).all patC by
            rw [← HR.out, nb_c s patC hlt, show patC s[k] = true by unfold patC; simp; omega, Bool.true_and])
          go_wp2_with fail
          go_round
          case rel => exact ⟨k + 1, by omega, by go_num, E3.out⟩
          case measure => simp [intOf]; omega
    · have E2 := Lib.hid (show goodQ s = true by
        unfold goodQ
        rw [← HR.out, nb_end s patC (by omega)]; simp; omega)
      go_wp2_with fail
      go_ret
      exact ⟨ret_bool E2.out.symm, rfl⟩
theorem Good_yesN (s : ByteArray) (h : goodN s = true) (w : World) : Calls Tryd.prog 64 #[.string s] w fun e w' => e = .returned (.bool true) ∧ w' = w := by
  have h2 := (goodN_size h).2
  exact h ▸ GoodN_any s w (by unfold maxLen; omega)
theorem Good_noN (s : ByteArray) (h : goodN s = false) (hs : s.size ≤ maxLen) (w : World) : Calls Tryd.prog 64 #[.string s] w fun e w' => e = .returned (.bool false) ∧ w' = w := h ▸ GoodN_any s w hs
theorem Good_yesQ (s : ByteArray) (h : goodQ s = true) (w : World) : Calls Tryd.prog 65 #[.string s] w fun e w' => e = .returned (.bool true) ∧ w' = w := by
  have h2 := (goodQ_size h).2
  exact h ▸ GoodQ_any s w (by unfold maxLen; omega)
theorem Good_noQ (s : ByteArray) (h : goodQ s = false) (hs : s.size ≤ maxLen) (w : World) : Calls Tryd.prog 65 #[.string s] w fun e w' => e = .returned (.bool false) ∧ w' = w := h ▸ GoodQ_any s w hs
end Go.Proofs.YtmdhendfmhhniaaDoor
