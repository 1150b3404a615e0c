/- The contract of crc.Frame. -/
import Derived.Test.YtaionhdamdhjjabDoorMe
import Derived.Test.YtaionhdamdhjjabDoorKk
namespace Go.Proofs.YtaionhdamdhjjabDoor
open Go.RowKit

/-- A frame without its checksum, and with it. -/
def headL (k : UInt8) (body : ByteArray) : List UInt8 := k :: encL body
def sumL (l : List UInt8) : List UInt8 := (leB (crcL l)).data.toList
def frL (k : UInt8) (body : ByteArray) : List UInt8 := headL k body ++ sumL (headL k body)
theorem leB_size (c : B32) : (leB c).size = 4 := by unfold leB; rw [strOfNums_size]; rfl
theorem sumL_len (l : List UInt8) : (sumL l).length = 4 := by unfold sumL; simpa using leB_size (crcL l)
theorem encL_le (s : ByteArray) : s.size < (encL s).length ∧ (encL s).length ≤ s.size + 6 := by
  rw [encL_length]
  have h1 := len_put (s.size : Int)
  have h2 : folI s.size = 0 ∨ folI s.size = 1 ∨ folI s.size = 2 ∨ folI s.size = 3 ∨ folI s.size = 4 ∨ folI s.size = 5 := fol_cases _
  omega
theorem frL_len (k : UInt8) (s : ByteArray) : (frL k s).length = (encL s).length + 5 := by
  unfold frL headL; rw [List.length_append, sumL_len]; simp

theorem join_one (g : Nat) (body : ByteArray) (w : World) (hs : body.size ≤ 1099511627000) :
    Calls Tryd.prog 6 #[.slice (some ⟨w.heap.size, 0, none⟩) 1 1] (w.alloc (.cells #[.string body] 9)) fun e w' => e = .returned (.string (mkB (encL body))) ∧ Below w.heap.size w w' := by
  have hj : joinL [body] = encL body := by show encL body ++ [] = _; rw [List.append_nil]
  have hl := (encL_le body).2
  refine (join_any w.heap.size 1 1 [body] _ rfl (by decide) (by simp) (fun i hi => ?_) (by rw [hj]; omega)).mono ?_
  · obtain rfl : i = 0 := by omega
    have e : (w.alloc (.cells #[.string body] 9)).heap[w.heap.size]? = some (.cells #[.string body] 9 (0, 0)) := by
      show (w.heap.push _)[w.heap.size]? = _
      simp
    unfold World.cell?
    simp only [e]
    rfl
  · rintro e w' ⟨rfl, h⟩
    rw [hj]
    exact ⟨rfl, ((Below.refl w.heap.size w).alloc (Nat.le_refl _) _).trans (h.mono (by simp))⟩

set_option maxHeartbeats 1000000 in
set_option maxRecDepth 100000 in
theorem Frame_long (x : Int) (body : ByteArray) (w : World) (hm : body.size ≤ maxLen) (hb : 262144 < body.size) :
    Calls Tryd.prog 5 #[.int .u8 x, .string body] w fun e w' => e = .returned (.string ⟨#[]⟩) ∧ Below w.heap.size w w' := by
  unfold maxLen at hm
  have hbi : (262144 : Int) < (body.size : Int) := by omega
  go_enter Tryd.func5, Tryd.ntmps5
  go_wp2_with fail
  go_ret
  exact ⟨rfl, Below.refl _ _⟩

set_option maxHeartbeats 1000000 in
set_option maxRecDepth 100000 in
theorem Frame_any (k : UInt8) (x : Int) (hx : (k.toNat : Int) = x) (body : ByteArray) (w : World) (hb : body.size ≤ 262144) (hV : CrcVars w) :
    Calls Tryd.prog 5 #[.int .u8 x, .string body] w fun e w' => e = .returned (.string (mkB (frL k body))) ∧ Below w.heap.size w w' := by
  have hel := encL_le body
  have hbi : ¬ (262144 : Int) < (body.size : Int) := by omega
  have H0 := Lib.hid (Lib.IsBuilderF.of (Lib.fresh_isBuilder 48 5 w))
  have HV := Lib.hid hV; have HX := Lib.hid hx; have HEL := Lib.hid hel; have HB := Lib.hid hb
  clear hV hx hel hb
  go_enter Tryd.func5, Tryd.ntmps5
  go_wp2_with fail
  refine (byte_f w.heap.size w.heap.size [] x _ H0.out (by simp) (by simp)).mono ?_
  rintro e w1 ⟨rfl, h1, b1⟩
  have B1 := Lib.hid (((Below.refl w.heap.size w).alloc (Nat.le_refl _) (.cells #[.pointer none, .slice none 0 0] 48)).trans b1)
  have h1' : Lib.IsBuilderF 48 5 w.heap.size w.heap.size (Lib.byteCells [k]) w1 := by
    have e : Lib.byteCells [k] = [] ++ [Value.int .u8 x] := by rw [← HX.out]; rfl
    rw [e]; exact h1
  have H1 := Lib.hid h1'
  clear h1 h1' b1
  go_wp2_with fail
  refine (join_one 0 body w1 (by have := HB.out; omega)).mono ?_
  rintro e w2 ⟨rfl, b2⟩
  have H2 := Lib.hid (bldF_below H1.out b2)
  have B2 := Lib.hid (B1.out.trans (b2.mono B1.out.size))
  clear b2
  go_wp2_with fail
  refine (write_f w.heap.size w.heap.size _ _ w2 H2.out (by rw [mkB_size, Lib.byteCells_length]; have := HEL.out; have := HB.out; simp; omega) B2.out.size).mono ?_
  rintro e w3 ⟨rfl, h3, b3⟩
  have h3' : Lib.IsBuilderF 48 5 w.heap.size w.heap.size (Lib.byteCells (headL k body)) w3 := by
    have e : Lib.byteCells (headL k body) = Lib.byteCells [k] ++ Lib.strCells (mkB (encL body)) := by rw [strCells_eq, mkB_data, ← byteCells_app]; rfl
    rw [e]; exact h3
  have H3 := Lib.hid h3'
  have B3 := Lib.hid (B2.out.trans b3)
  clear h3 h3' b3
  go_wp2_with fail
  refine (Tryd.Builder_String_any_f w.heap.size w.heap.size (headL k body) w3 H3.out B3.out.size).mono ?_
  rintro e w4 ⟨rfl, h4, b4⟩
  have H4 := Lib.hid h4
  have B4 := Lib.hid (B3.out.trans b4)
  clear h4 b4
  rw [show (⟨(headL k body).toArray⟩ : ByteArray) = mkB (headL k body) from rfl]
  go_wp2_with fail
  refine (Sum_any (mkB (headL k body)) w4 (by rw [mkB_size]; unfold maxLen headL; have := HEL.out; have := HB.out; simp; omega) (HV.out.below B4.out)).mono ?_
  rintro e w5 ⟨rfl, rfl⟩
  rw [mkB_data]
  go_wp2_with fail
  refine (le_any (crcL (headL k body)) w4).mono ?_
  rintro e w5 ⟨rfl, b5⟩
  have H5 := Lib.hid (bldF_below H4.out b5)
  have B5 := Lib.hid (B4.out.trans (b5.mono B4.out.size))
  clear b5
  go_wp2_with fail
  refine (write_f w.heap.size w.heap.size _ _ w5 H5.out (by rw [leB_size, Lib.byteCells_length]; unfold headL; have := HEL.out; have := HB.out; simp; omega) B5.out.size).mono ?_
  rintro e w6 ⟨rfl, h6, b6⟩
  have h6' : Lib.IsBuilderF 48 5 w.heap.size w.heap.size (Lib.byteCells (frL k body)) w6 := by
    have e : Lib.byteCells (frL k body) = Lib.byteCells (headL k body) ++ Lib.strCells (leB (crcL (headL k body))) := by rw [strCells_eq, ← byteCells_app]; rfl
    rw [e]; exact h6
  have H6 := Lib.hid h6'
  have B6 := Lib.hid (B5.out.trans b6)
  clear h6 h6' b6
  go_wp2_with fail
  refine (Tryd.Builder_String_any_f w.heap.size w.heap.size (frL k body) w6 H6.out B6.out.size).mono ?_
  rintro e w7 ⟨rfl, h7, b7⟩
  have B7 := Lib.hid (B6.out.trans b7)
  clear h7 b7
  go_wp2_with fail
  go_ret
  exact ⟨rfl, B7.out⟩
end Go.Proofs.YtaionhdamdhjjabDoor
