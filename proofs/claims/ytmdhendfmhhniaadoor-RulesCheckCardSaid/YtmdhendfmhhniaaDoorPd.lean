/- Merges: which texts are tokens: the program's Good and the document's. -/
import Derived.Test.YtmdhendfmhhniaaDoorPc
import Derived.Test.YtmdhendfmhhniaaDoorRows
import Derived.WalkKit
import Derived.WalkSpells
import Derived.Lib.Hide
import Derived.WalkLawsBesides
import Derived.BigQuiet
namespace Go.Proofs.YtmdhendfmhhniaaDoor
open Go.RowKit

theorem ret_int {k : IntKind} {a b : Int} (h : a = b) : Ending.returned (.int k a) = .returned (.int k b) := by rw [h]
theorem ret_bool {a b : Bool} (h : a = b) : Ending.returned (.bool a) = .returned (.bool b) := by rw [h]
def okB (b : UInt8) : Bool := decide (33 ≤ (b.toNat : Int) ∧ (b.toNat : Int) ≤ 126)
theorem all_at {s : ByteArray} {k : Nat} (h : k < s.size) : (s.data.toList.drop k).all okB = (okB s[k] && (s.data.toList.drop (k + 1)).all okB) := by
  rw [drop_at s k h, List.all_cons]
theorem goodB_all (s : ByteArray) : goodB s = (decide (0 < s.size) && decide (s.size ≤ 64) && (s.data.toList.drop 0).all okB) := rfl
theorem all_end {s : ByteArray} {k : Nat} (h : s.size ≤ k) : (s.data.toList.drop k).all okB = true := by
  rw [List.drop_eq_nil_of_le (by rw [size_len]; exact h)]; rfl
theorem okB_low {b : UInt8} (h : (b.toNat : Int) < 33) : okB b = false := by unfold okB; simp; omega
theorem okB_high {b : UInt8} (h : 126 < (b.toNat : Int)) : okB b = false := by unfold okB; simp; omega
theorem okB_mid {b : UInt8} (h : 33 ≤ (b.toNat : Int)) (h2 : (b.toNat : Int) ≤ 126) : okB b = true := by unfold okB; simp; omega
def GS (s : ByteArray) (i : Value) : Prop := ∃ k : Nat, k ≤ s.size ∧ i = .int .i64 k ∧ (s.data.toList.drop k).all okB = (s.data.toList.drop 0).all okB
theorem ba_empty (s : ByteArray) (h : s.size = 0) : s.toList.isEmpty = true := by
  rw [ByteArray.toList_eq, List.isEmpty_iff_length_eq_zero]; simpa using h
theorem ba_nil (s : ByteArray) (h : s.size = 0) : s.toList = [] := List.isEmpty_iff.1 (ba_empty s h)
theorem ba_some (s : ByteArray) (h : 0 < s.size) : s.toList.isEmpty = false := by
  cases hc : s.toList.isEmpty
  · rfl
  · rw [ByteArray.toList_eq, List.isEmpty_iff_length_eq_zero] at hc
    have : s.size = 0 := by simpa using hc
    omega
theorem good_no {s : ByteArray} {k : Nat} (h : (s.data.toList.drop k).all okB = (s.data.toList.drop 0).all okB) (hk : k < s.size) (hb : okB s[k] = false) : goodB s = false := by
  rw [goodB_all, ← h, all_at hk, hb, Bool.false_and, Bool.and_false]
set_option maxHeartbeats 1000000 in
theorem Good_any (s : ByteArray) (w : World) (hs : s.size ≤ maxLen) :
    Calls Tryd.prog 17 #[.string s] w fun e w' => e = .returned (.bool (goodB s)) ∧ w' = w := by
  unfold maxLen at hs
  by_cases h0 : s.size = 0
  · have e1 : s.toList = [] := ba_nil s h0
    have e2 : goodB s = false := by unfold goodB; simp [h0]
    have E2 := Lib.hid e2; clear e2 h0
    go_enter Tryd.func17, Tryd.ntmps17
    go_wp2_with fail
    go_ret
    exact ⟨ret_bool E2.out.symm, rfl⟩
  have h1 : s.toList.isEmpty = false := ba_some s (by omega)
  have h1' : s.toList ≠ [] := fun e => by rw [e] at h1; cases h1
  by_cases h2 : 64 < s.size
  · have e2 : goodB s = false := by unfold goodB; simp; omega
    have E2 := Lib.hid e2; clear e2
    go_enter Tryd.func17, Tryd.ntmps17
    go_wp2_with fail
    go_ret
    exact ⟨ret_bool E2.out.symm, rfl⟩
  have h3 : s.size ≤ 64 := by omega
  go_enter Tryd.func17, Tryd.ntmps17
  go_wp2_with fail
  go_loop [13] (GS s) (fun i => s.size - (intOf i).toNat)
  case atStart => exact ⟨0, Nat.zero_le _, rfl, rfl⟩
  case round =>
    obtain ⟨k, hk, rfl, hr⟩ := hrel
    have HR := Lib.hid hr; clear hr
    by_cases hlt : k < s.size
    · by_cases hlo : (s[k].toNat : Int) < 33
      · have E2 := Lib.hid (good_no HR.out hlt (okB_low hlo))
        go_wp2_with fail
        go_ret
        exact ⟨ret_bool E2.out.symm, rfl⟩
      · have hlo' : 33 ≤ (s[k].toNat : Int) := by omega
        by_cases hhi : 126 < (s[k].toNat : Int)
        · have E2 := Lib.hid (good_no HR.out hlt (okB_high hhi))
          go_wp2_with fail
          go_ret
          exact ⟨ret_bool E2.out.symm, rfl⟩
        · have hhi' : (s[k].toNat : Int) ≤ 126 := by omega
          have E3 := Lib.hid (show (s.data.toList.drop (k + 1)).all okB = (s.data.toList.drop 0).all okB by
            rw [← HR.out, all_at hlt, okB_mid hlo' hhi', Bool.true_and])
          go_wp2_with fail
          go_round
          case rel => exact ⟨k + 1, by omega, by go_num, E3.out⟩
          case measure => simp [intOf]; omega
    · have E2 := Lib.hid (show goodB s = true by
        rw [goodB_all, ← HR.out, all_end (by omega)]; simp; omega)
      go_wp2_with fail
      go_ret
      exact ⟨ret_bool E2.out.symm, rfl⟩
set_option maxHeartbeats 1000000 in
theorem RGood_any (s : ByteArray) (w : World) (hs : s.size ≤ maxLen) :
    Calls Tryd.prog 28 #[.string s] w fun e w' => e = .returned (.bool (goodB s)) ∧ w' = w := by
  unfold maxLen at hs
  go_enter Tryd.func28, Tryd.ntmps28
  go_wp2_with fail
  go_loop [3] (GS s) (fun i => s.size - (intOf i).toNat)
  case atStart => exact ⟨0, Nat.zero_le _, rfl, rfl⟩
  case round =>
    obtain ⟨k, hk, rfl, hr⟩ := hrel
    have HR := Lib.hid hr; clear hr
    by_cases hlt : k < s.size
    · by_cases hlo : (s[k].toNat : Int) < 33
      · have E2 := Lib.hid (good_no HR.out hlt (okB_low hlo))
        go_wp2_with fail
        go_ret
        exact ⟨ret_bool E2.out.symm, rfl⟩
      · have hlo' : 33 ≤ (s[k].toNat : Int) := by omega
        by_cases hhi : 126 < (s[k].toNat : Int)
        · have E2 := Lib.hid (good_no HR.out hlt (okB_high hhi))
          go_wp2_with fail
          go_ret
          exact ⟨ret_bool E2.out.symm, rfl⟩
        · have hhi' : (s[k].toNat : Int) ≤ 126 := by omega
          have E3 := Lib.hid (show (s.data.toList.drop (k + 1)).all okB = (s.data.toList.drop 0).all okB by
            rw [← HR.out, all_at hlt, okB_mid hlo' hhi', Bool.true_and])
          go_wp2_with fail
          go_round
          case rel => exact ⟨k + 1, by omega, by go_num, E3.out⟩
          case measure => simp [intOf]; omega
    · by_cases h0 : 0 < s.size
      · by_cases h2 : s.size < 65
        · have E2 := Lib.hid (show goodB s = true by
            rw [goodB_all, ← HR.out, all_end (by omega)]; simp; omega)
          go_wp2_with fail
          go_ret
          exact ⟨ret_bool (by rw [E2.out]; simp; try omega), rfl⟩
        · have E2 := Lib.hid (show goodB s = false by unfold goodB; simp; omega)
          go_wp2_with fail
          go_ret
          exact ⟨ret_bool (by rw [E2.out]; simp; try omega), rfl⟩
      · have E2 := Lib.hid (show goodB s = false by unfold goodB; simp; omega)
        go_wp2_with fail
        go_ret
        exact ⟨ret_bool (by rw [E2.out]), rfl⟩
end Go.Proofs.YtmdhendfmhhniaaDoor
