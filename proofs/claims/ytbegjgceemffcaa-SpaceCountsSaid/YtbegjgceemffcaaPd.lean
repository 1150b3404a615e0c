/- Merges: which texts are tokens: the program's Good and the document's. -/
import Derived.Test.YtbegjgceemffcaaPc
import Derived.Test.YtbegjgceemffcaaRows
import Derived.WalkKit
import Derived.WalkSpells
import Derived.Lib.Hide
import Derived.WalkLawsBesides
import Derived.BigQuiet
namespace Go.Proofs.Ytbegjgceemffcaa
open Go.RowKit

theorem ret_int {k : IntKind} {a b : Int} (h : a = b) : Ending.returned (.int k a) = .returned (.int k b) := by rw [h]
theorem ret_bool {a b : Bool} (h : a = b) : Ending.returned (.bool a) = .returned (.bool b) := by rw [h]
def okB (b : UInt8) : Bool := decide (33 ≤ (b.toNat : Int) ∧ (b.toNat : Int) ≤ 126)
theorem all_at {s : ByteArray} {k : Nat} (h : k < s.size) : (s.data.toList.drop k).all okB = (okB s[k] && (s.data.toList.drop (k + 1)).all okB) := by
  rw [drop_at s k h, List.all_cons]
theorem goodB_all (s : ByteArray) : goodB s = (decide (0 < s.size) && decide (s.size ≤ 64) && (s.data.toList.drop 0).all okB) := rfl
theorem all_end {s : ByteArray} {k : Nat} (h : s.size ≤ k) : (s.data.toList.drop k).all okB = true := by
  rw [List.drop_eq_nil_of_le (by rw [size_len]; exact h)]; rfl
theorem okB_low {b : UInt8} (h : (b.toNat : Int) < 33) : okB b = false := by unfold okB; simp; omega
theorem okB_high {b : UInt8} (h : 126 < (b.toNat : Int)) : okB b = false := by unfold okB; simp; omega
theorem okB_mid {b : UInt8} (h : 33 ≤ (b.toNat : Int)) (h2 : (b.toNat : Int) ≤ 126) : okB b = true := by unfold okB; simp; omega
def GS (s : ByteArray) (i : Value) : Prop := ∃ k : Nat, k ≤ s.size ∧ i = .int .i64 k ∧ (s.data.toList.drop k).all okB = (s.data.toList.drop 0).all okB
theorem ba_empty (s : ByteArray) (h : s.size = 0) : s.toList.isEmpty = true := by
  rw [ByteArray.toList_eq, List.isEmpty_iff_length_eq_zero]; simpa using h
theorem ba_nil (s : ByteArray) (h : s.size = 0) : s.toList = [] := List.isEmpty_iff.1 (ba_empty s h)
theorem ba_some (s : ByteArray) (h : 0 < s.size) : s.toList.isEmpty = false := by
  cases hc : s.toList.isEmpty
  · rfl
  · rw [ByteArray.toList_eq, List.isEmpty_iff_length_eq_zero] at hc
    have : s.size = 0 := by simpa using hc
    omega
theorem good_no {s : ByteArray} {k : Nat} (h : (s.data.toList.drop k).all okB = (s.data.toList.drop 0).all okB) (hk : k < s.size) (hb : okB s[k] = false) : goodB s = false := by
  rw [goodB_all, ← h, all_at hk, hb, Bool.false_and, Bool.and_false]
end Go.Proofs.Ytbegjgceemffcaa
