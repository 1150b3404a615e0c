/- Rules: the document's Kind; what is wrong with a text of a kind: the program's Check and the document's. -/
import Derived.Test.YtmdhendfmhhniaaDoorVk
import Derived.Test.YtmdhendfmhhniaaDoorVj
import Derived.Test.YtmdhendfmhhniaaDoorRp
import Derived.Test.YtmdhendfmhhniaaDoorRg
import Derived.Test.YtmdhendfmhhniaaDoorRn2
import Derived.Test.YtmdhendfmhhniaaDoorPzc
import Derived.Test.YtmdhendfmhhniaaDoorMp
import Derived.StillTailTactics
namespace Go.Proofs.YtmdhendfmhhniaaDoor
open Go.RowKit
variable {w w' : World}

set_option maxHeartbeats 1000000 in
set_option maxRecDepth 100000 in
theorem Ends_any (s t : ByteArray) (w : World) (hs : s.size ≤ maxLen) (ht : t.size ≤ maxLen) : Calls Tryd.prog 48 #[.string s, .string t] w fun e w' => e = .returned (.bool (endsB s t)) ∧ w' = w := by
  unfold maxLen at hs ht
  rcases Nat.lt_or_ge s.size t.size with h | h
  · have HE := Lib.hid (ends_short h)
    have hi : ¬ (t.size : Int) ≤ s.size := by omega
    have hn : ¬ t.size ≤ s.size := by omega
    clear h
    go_enter Tryd.func48, Tryd.ntmps48
    go_wp2_with fail
    go_ret
    exact ⟨by rw [HE.out]; rfl, rfl⟩
  · have HE := Lib.hid (ends_cut h)
    have hi : (t.size : Int) ≤ s.size := by omega
    obtain ⟨k, hk⟩ : ∃ k, s.size - t.size = k := ⟨_, rfl⟩
    rw [hk] at HE
    have hki : (s.size : Int) - t.size = (k : Int) := by omega
    have hwk : IntKind.i64.wrap (k : Int) = (k : Int) := IntWalk.i64_in _ (by omega)
    have hk1 : (k : Int) ≤ s.size := by omega
    have hk0 : 0 ≤ (k : Int) := by omega
    have hkn : (k : Int).toNat = k := by omega
    clear hk
    by_cases he : s.extract k s.size = t
    · have HB : Hid (endsB s t = true) := Lib.hid (by rw [HE.out, decide_eq_true he])
      clear HE
      go_enter Tryd.func48, Tryd.ntmps48
      go_wp2_with fail
      go_ret
      exact ⟨by rw [HB.out]; rfl, rfl⟩
    · have HB : Hid (endsB s t = false) := Lib.hid (by rw [HE.out, decide_eq_false he])
      have hne := ba_ne he
      have hnb : ((s.extract k s.size).toList == t.toList) = false := beq_eq_false_iff_ne.2 hne
      clear HE he
      go_enter Tryd.func48, Tryd.ntmps48
      go_wp2_with fail
      go_ret
      exact ⟨by rw [HB.out]; rfl, rfl⟩

def sfN : Nat → ByteArray
  | 0 => sfM
  | 1 => sfV
  | 2 => sfR
  | _ => sfC
def kindFrom (s : ByteArray) : Nat → Int
  | 0 => if endsB s sfM then 1 else if endsB s sfV then 2 else if endsB s sfR then 3 else if endsB s sfC then 4 else 0
  | 1 => if endsB s sfV then 2 else if endsB s sfR then 3 else if endsB s sfC then 4 else 0
  | 2 => if endsB s sfR then 3 else if endsB s sfC then 4 else 0
  | 3 => if endsB s sfC then 4 else 0
  | _ => 0
theorem kf_true {s : ByteArray} {j : Nat} (hj : j < 4) (h : endsB s (sfN j) = true) : kindFrom s j = (j : Int) + 1 := by
  match j, hj with
  | 0, _ => exact if_pos h
  | 1, _ => exact if_pos h
  | 2, _ => exact if_pos h
  | 3, _ => exact if_pos h
theorem kf_false {s : ByteArray} {j : Nat} (hj : j < 4) (h : endsB s (sfN j) = false) : kindFrom s j = kindFrom s (j + 1) := by
  match j, hj with
  | 0, _ => exact if_neg (Bool.eq_false_iff.1 h)
  | 1, _ => exact if_neg (Bool.eq_false_iff.1 h)
  | 2, _ => exact if_neg (Bool.eq_false_iff.1 h)
  | 3, _ => exact if_neg (Bool.eq_false_iff.1 h)
def RkdS (s : ByteArray) (w : World) (i : Value) (wr : World) : Prop := ∃ j : Nat, j ≤ 4 ∧ i = .int .i64 j ∧ kindN s = kindFrom s j ∧ wr = (w.alloc (.cells #[.string ⟨#[46, 109, 101, 114, 103, 101, 115]⟩, .string ⟨#[46, 118, 111, 99, 97, 98]⟩, .string ⟨#[46, 114, 117, 108, 101, 115]⟩, .string ⟨#[46, 99, 104, 97, 116]⟩] 9))
set_option maxHeartbeats 2000000 in
set_option maxRecDepth 100000 in
theorem RKind_any (s : ByteArray) (w : World) (hs : s.size ≤ maxLen) : Calls Tryd.prog 26 #[.string s] w fun e w' => e = .returned (.int .i64 (kindN s)) ∧ Below w.heap.size w w' := by
  have HB : Hid (Below w.heap.size w (w.alloc (.cells #[.string ⟨#[46, 109, 101, 114, 103, 101, 115]⟩, .string ⟨#[46, 118, 111, 99, 97, 98]⟩, .string ⟨#[46, 114, 117, 108, 101, 115]⟩, .string ⟨#[46, 99, 104, 97, 116]⟩] 9))) := Lib.hid ((Below.refl w.heap.size w).alloc (Nat.le_refl _) _)
  go_enter Tryd.func26, Tryd.ntmps26
  go_wp2_with fail
  go_loopw [4] (fun i wr => RkdS s w i wr) (fun i _ => 4 - (intOf i).toNat)
  case atStart => exact ⟨0, by decide, rfl, rfl, rfl⟩
  case round =>
    obtain ⟨j, hj, rfl, hk, rfl⟩ := hrel
    obtain rfl | rfl | rfl | rfl | rfl : j = 0 ∨ j = 1 ∨ j = 2 ∨ j = 3 ∨ j = 4 := by omega
    · -- 0
      cases he : endsB s ⟨#[46, 109, 101, 114, 103, 101, 115]⟩ with
      | true =>
        have HE := Lib.hid (hk.trans (kf_true (j := 0) (by decide) he))
        have HC := Lib.hid (fun W => (Ends_any s ⟨#[46, 109, 101, 114, 103, 101, 115]⟩ W hs (by decide)))
        rw [he] at HC
        clear hk he
        go_wp2_with (go_at_call 48; refine (HC.out _).mono ?_; rintro e w3 ⟨rfl, rfl⟩)
        rw [HE.out]
        exact bodyPost_ret (v := .int .i64 1) (by simp [results, Tryd.results26, go_sem]) rfl ⟨rfl, HB.out⟩
      | false =>
        have HE := Lib.hid (hk.trans (kf_false (j := 0) (by decide) he))
        have HC := Lib.hid (fun W => (Ends_any s ⟨#[46, 109, 101, 114, 103, 101, 115]⟩ W hs (by decide)))
        rw [he] at HC
        clear hk he
        go_wp2_with (go_at_call 48; refine (HC.out _).mono ?_; rintro e w3 ⟨rfl, rfl⟩)
        go_roundw
        case rel => exact ⟨1, by decide, rfl, HE.out, rfl⟩
        case measure => simp [intOf]
    · -- 1
      cases he : endsB s ⟨#[46, 118, 111, 99, 97, 98]⟩ with
      | true =>
        have HE := Lib.hid (hk.trans (kf_true (j := 1) (by decide) he))
        have HC := Lib.hid (fun W => (Ends_any s ⟨#[46, 118, 111, 99, 97, 98]⟩ W hs (by decide)))
        rw [he] at HC
        clear hk he
        go_wp2_with (go_at_call 48; refine (HC.out _).mono ?_; rintro e w3 ⟨rfl, rfl⟩)
        rw [HE.out]
        exact bodyPost_ret (v := .int .i64 2) (by simp [results, Tryd.results26, go_sem]) rfl ⟨rfl, HB.out⟩
      | false =>
        have HE := Lib.hid (hk.trans (kf_false (j := 1) (by decide) he))
        have HC := Lib.hid (fun W => (Ends_any s ⟨#[46, 118, 111, 99, 97, 98]⟩ W hs (by decide)))
        rw [he] at HC
        clear hk he
        go_wp2_with (go_at_call 48; refine (HC.out _).mono ?_; rintro e w3 ⟨rfl, rfl⟩)
        go_roundw
        case rel => exact ⟨2, by decide, rfl, HE.out, rfl⟩
        case measure => simp [intOf]
    · -- 2
      cases he : endsB s ⟨#[46, 114, 117, 108, 101, 115]⟩ with
      | true =>
        have HE := Lib.hid (hk.trans (kf_true (j := 2) (by decide) he))
        have HC := Lib.hid (fun W => (Ends_any s ⟨#[46, 114, 117, 108, 101, 115]⟩ W hs (by decide)))
        rw [he] at HC
        clear hk he
        go_wp2_with (go_at_call 48; refine (HC.out _).mono ?_; rintro e w3 ⟨rfl, rfl⟩)
        rw [HE.out]
        exact bodyPost_ret (v := .int .i64 3) (by simp [results, Tryd.results26, go_sem]) rfl ⟨rfl, HB.out⟩
      | false =>
        have HE := Lib.hid (hk.trans (kf_false (j := 2) (by decide) he))
        have HC := Lib.hid (fun W => (Ends_any s ⟨#[46, 114, 117, 108, 101, 115]⟩ W hs (by decide)))
        rw [he] at HC
        clear hk he
        go_wp2_with (go_at_call 48; refine (HC.out _).mono ?_; rintro e w3 ⟨rfl, rfl⟩)
        go_roundw
        case rel => exact ⟨3, by decide, rfl, HE.out, rfl⟩
        case measure => simp [intOf]
    · -- 3
      cases he : endsB s ⟨#[46, 99, 104, 97, 116]⟩ with
      | true =>
        have HE := Lib.hid (hk.trans (kf_true (j := 3) (by decide) he))
        have HC := Lib.hid (fun W => (Ends_any s ⟨#[46, 99, 104, 97, 116]⟩ W hs (by decide)))
        rw [he] at HC
        clear hk he
        go_wp2_with (go_at_call 48; refine (HC.out _).mono ?_; rintro e w3 ⟨rfl, rfl⟩)
        rw [HE.out]
        exact bodyPost_ret (v := .int .i64 4) (by simp [results, Tryd.results26, go_sem]) rfl ⟨rfl, HB.out⟩
      | false =>
        have HE := Lib.hid (hk.trans (kf_false (j := 3) (by decide) he))
        have HC := Lib.hid (fun W => (Ends_any s ⟨#[46, 99, 104, 97, 116]⟩ W hs (by decide)))
        rw [he] at HC
        clear hk he
        go_wp2_with (go_at_call 48; refine (HC.out _).mono ?_; rintro e w3 ⟨rfl, rfl⟩)
        go_roundw
        case rel => exact ⟨4, by decide, rfl, HE.out, rfl⟩
        case measure => simp [intOf]
    · have HE := Lib.hid (hk.trans (show kindFrom s 4 = 0 from rfl))
      clear hk
      go_wp2_with fail
      rw [HE.out]
      exact bodyPost_ret (v := .int .i64 0) (by simp [results, Tryd.results26, go_sem]) rfl ⟨rfl, HB.out⟩
end Go.Proofs.YtmdhendfmhhniaaDoor
