/- Rules: the kinds of files, by their names: the program's and the document's. -/
import Derived.Test.YtmdhendfmhhniaaDoorVf
namespace Go.Proofs.YtmdhendfmhhniaaDoor
open Go.RowKit
variable {w w' : World}

def sfM : ByteArray := ⟨#[46, 109, 101, 114, 103, 101, 115]⟩
def sfV : ByteArray := ⟨#[46, 118, 111, 99, 97, 98]⟩
def sfR : ByteArray := ⟨#[46, 114, 117, 108, 101, 115]⟩
def sfC : ByteArray := ⟨#[46, 99, 104, 97, 116]⟩
def endsB (s t : ByteArray) : Bool := Lib.hasSuffix s.data.toList t.data.toList
/-- The kind of a name. -/
def kindN (s : ByteArray) : Int := if endsB s sfM then 1 else if endsB s sfV then 2 else if endsB s sfR then 3 else if endsB s sfC then 4 else 0
theorem ends_short {s t : ByteArray} (h : s.size < t.size) : endsB s t = false := by
  rw [Bool.eq_false_iff]
  intro e
  have h1 : t.data.toList <:+ s.data.toList := List.isSuffixOf_iff_suffix.1 e
  have := h1.length_le
  rw [size_len, size_len] at this
  omega
theorem ends_cut {s t : ByteArray} (h : t.size ≤ s.size) : endsB s t = decide (s.extract (s.size - t.size) s.size = t) := by
  have e : (s.extract (s.size - t.size) s.size).data.toList = s.data.toList.drop (s.size - t.size) := ext_drop _ _
  by_cases hc : s.extract (s.size - t.size) s.size = t
  · rw [decide_eq_true hc]
    refine List.isSuffixOf_iff_suffix.2 (List.suffix_iff_eq_drop.2 ?_)
    rw [size_len, size_len, ← e, hc]
  · rw [decide_eq_false hc, Bool.eq_false_iff]
    intro e2
    have h1 := List.suffix_iff_eq_drop.1 (List.isSuffixOf_iff_suffix.1 e2)
    rw [size_len, size_len, ← e] at h1
    exact hc (ByteArray.ext (Array.toList_inj.1 h1.symm))
set_option maxHeartbeats 1000000 in
set_option maxRecDepth 100000 in
theorem Kind_any (s : ByteArray) (w : World) (hs : s.size ≤ maxLen) : Calls Tryd.prog 25 #[.string s] w fun e w' => e = .returned (.int .i64 (kindN s)) ∧ w' = w := by
  obtain ⟨b1, h1⟩ : ∃ b, Lib.hasSuffix s.data.toList (⟨#[46, 109, 101, 114, 103, 101, 115]⟩ : ByteArray).data.toList = b := ⟨_, rfl⟩
  obtain ⟨b2, h2⟩ : ∃ b, Lib.hasSuffix s.data.toList (⟨#[46, 118, 111, 99, 97, 98]⟩ : ByteArray).data.toList = b := ⟨_, rfl⟩
  obtain ⟨b3, h3⟩ : ∃ b, Lib.hasSuffix s.data.toList (⟨#[46, 114, 117, 108, 101, 115]⟩ : ByteArray).data.toList = b := ⟨_, rfl⟩
  obtain ⟨b4, h4⟩ : ∃ b, Lib.hasSuffix s.data.toList (⟨#[46, 99, 104, 97, 116]⟩ : ByteArray).data.toList = b := ⟨_, rfl⟩
  have HK := Lib.hid (show kindN s = if b1 then 1 else if b2 then 2 else if b3 then 3 else if b4 then 4 else 0 from by
    unfold kindN endsB sfM sfV sfR sfC
    rw [h1, h2, h3, h4])
  have H1 := Lib.hid h1; have H2 := Lib.hid h2; have H3 := Lib.hid h3; have H4 := Lib.hid h4
  clear h1 h2 h3 h4
  go_enter Tryd.func25, Tryd.ntmps25
  cases b1
  · cases b2
    · cases b3
      · cases b4
        all_goals
          go_wp2_with (go_at_call 47; refine (Tryd.strings_HasSuffix _ _ _ (by first | exact hs | decide)).mono ?_; rintro e w1 ⟨rfl, rfl⟩; first | rw [H1.out] | rw [H2.out] | rw [H3.out] | rw [H4.out])
          go_ret
          exact ⟨by rw [HK.out]; rfl, rfl⟩
      · go_wp2_with (go_at_call 47; refine (Tryd.strings_HasSuffix _ _ _ (by first | exact hs | decide)).mono ?_; rintro e w1 ⟨rfl, rfl⟩; first | rw [H1.out] | rw [H2.out] | rw [H3.out] | rw [H4.out])
        go_ret
        exact ⟨by rw [HK.out]; rfl, rfl⟩
    · go_wp2_with (go_at_call 47; refine (Tryd.strings_HasSuffix _ _ _ (by first | exact hs | decide)).mono ?_; rintro e w1 ⟨rfl, rfl⟩; first | rw [H1.out] | rw [H2.out] | rw [H3.out] | rw [H4.out])
      go_ret
      exact ⟨by rw [HK.out]; rfl, rfl⟩
  · go_wp2_with (go_at_call 47; refine (Tryd.strings_HasSuffix _ _ _ (by first | exact hs | decide)).mono ?_; rintro e w1 ⟨rfl, rfl⟩; first | rw [H1.out] | rw [H2.out] | rw [H3.out] | rw [H4.out])
    go_ret
    exact ⟨by rw [HK.out]; rfl, rfl⟩
end Go.Proofs.YtmdhendfmhhniaaDoor
