/- Wal: contracts of pad, littleEndian. -/
import Derived.Test.YtbpaiiljhdohfaaDoorWa
import Derived.Test.YtbpaiiljhdohfaaDoorMe
namespace Go.Proofs.YtbpaiiljhdohfaaDoor
open Go.RowKit

theorem wpad_any (s : ByteArray) (w : World) (hs : s.size ≤ 512) :
    Calls Tryd.prog 63 #[.string s] w fun e w' => e = .returned (.string (padB s)) ∧ Below w.heap.size w w' := by
  have hi : IntKind.i64.wrap (512 - (s.size : Int)) = ((512 - s.size : Nat) : Int) := by rw [IntWalk.i64_in _ (by omega)]; omega
  obtain ⟨c, hc⟩ : ∃ c, 512 - s.size = c := ⟨_, rfl⟩
  have hz : (s ++ ⟨(Lib.repeatL [0] c).toArray⟩) = padB s := by unfold padB; rw [hc]
  have hl : ((Lib.repeatL [0] c).toArray).size = c := by rw [List.size_toArray, Lib.repeatL_length]; simp
  rw [hc] at hi
  have hno : ¬ 9223372036854775807 < s.size + ByteArray.size ⟨(Lib.repeatL [0] c).toArray⟩ := by
    have : ByteArray.size ⟨(Lib.repeatL [0] c).toArray⟩ = c := hl
    omega
  have HZ := Lib.hid hz
  clear hz hl
  go_enter Tryd.func63, Tryd.ntmps63
  go_wp2_with (go_at_call 45; refine (Tryd.strings_Repeat ⟨#[0]⟩ c w (by omega) (by show 1 * c ≤ _; omega)).mono ?_)
  rintro e w1 rfl hb
  have HB := Lib.hid hb
  clear hb
  go_wp2_with fail
  go_ret
  exact ⟨by rw [HZ.out]; rfl, HB.out⟩
theorem wl_step (x v : Int) (k : Nat) (_hk : k < 4) (hv : (leI x)[k]? = some v) (v0 : 0 ≤ v) (v1 : v < 256) :
    Lib.byteCells (((leI x).take k).map fun n => UInt8.ofNat n.toNat) ++ [Value.int .u8 v] = Lib.byteCells (((leI x).take (k + 1)).map fun n => UInt8.ofNat n.toNat) := by
  obtain ⟨h1, h2⟩ := List.getElem?_eq_some_iff.1 hv
  rw [List.take_succ_eq_append_getElem h1, List.map_append, h2]
  unfold Lib.byteCells
  rw [List.map_append]
  congr 1
  show _ = [Value.int .u8 _]
  congr 2
  show v = (((UInt8.ofNat v.toNat).toNat : Nat) : Int)
  rw [UInt8.toNat_ofNat']
  omega
def WlS (B : Nat) (x : Int) (w : World) (i : Value) (wr : World) : Prop :=
  ∃ k : Nat, i = .int .i64 k ∧ k ≤ 4 ∧ Lib.IsBuilderF 116 5 B B (Lib.byteCells (((leI x).take k).map fun n => UInt8.ofNat n.toNat)) wr ∧ Below B w wr
set_option maxHeartbeats 1000000 in
set_option maxRecDepth 100000 in
theorem wle_any (c : B32) (w : World) :
    Calls Tryd.prog 64 #[.int .u32 (c.toNat : Int)] w fun e w' => e = .returned (.string (leB c)) ∧ Below w.heap.size w w' := by
  have hb := c.isLt
  obtain ⟨x, hx⟩ : ∃ x : Int, (c.toNat : Int) = x := ⟨_, rfl⟩
  have x0 : 0 ≤ x := by omega
  have x1 : x < 4294967296 := by omega
  have hle : leB c = strOfNums ((leI x).take 4) := by unfold leB; rw [hx]; rfl
  rw [hle, hx]
  clear hx hb hle
  have H0 := Lib.hid (Lib.IsBuilderF.of (Lib.fresh_isBuilder 116 5 w))
  have HB0 : Hid (Below w.heap.size w (w.alloc (.cells #[.pointer none, .slice none 0 0] 116))) := Lib.hid ((Below.refl _ _).alloc (Nat.le_refl _) _)
  go_enter Tryd.func64, Tryd.ntmps64
  go_wp2_with fail
  go_loopw [5] (fun i wr => WlS w.heap.size x w i wr) (fun i _ => 4 - (intOf i).toNat)
  case atStart => exact ⟨0, rfl, by omega, H0.out, HB0.out⟩
  case round =>
    obtain ⟨k, rfl, hk, hbd, hbl⟩ := hrel
    have HBD := Lib.hid hbd; have HBL := Lib.hid hbl
    clear hbd hbl
    rcases (show k = 0 ∨ k = 1 ∨ k = 2 ∨ k = 3 ∨ k = 4 by omega) with rfl | rfl | rfl | rfl | rfl
    rotate_right
    · go_wp2_with fail
      refine (Tryd.Builder_String_any_f w.heap.size w.heap.size _ wr HBD.out HBL.out.size).mono ?_
      rintro e w1 ⟨rfl, h1, b1⟩
      have HF := Lib.hid (HBL.out.trans b1)
      clear h1 b1
      go_wp2_with fail
      go_ret
      exact ⟨rfl, HF.out⟩
    all_goals
      go_wp2_with fail
      refine (byte_f w.heap.size w.heap.size _ _ wr HBD.out (by rw [Lib.byteCells_length, List.length_map]; exact Nat.le_trans (Nat.add_le_add_right (List.length_take_le _ _) 1) (by decide)) HBL.out.size).mono ?_
      rintro e w1 ⟨rfl, h1, b1⟩
      have HF := Lib.hid (HBL.out.trans b1)
      rw [wl_step x _ _ (by decide) (by first | rfl | (show some _ = some _; congr 1; omega)) (by omega) (by omega)] at h1
      have H1 := Lib.hid h1
      clear h1 b1
      go_wp2_with fail
      first | exact ⟨⟨1, rfl, by decide, H1.out, HF.out⟩, by simp [intOf]⟩ | exact ⟨⟨2, rfl, by decide, H1.out, HF.out⟩, by simp [intOf]⟩ | exact ⟨⟨3, rfl, by decide, H1.out, HF.out⟩, by simp [intOf]⟩ | exact ⟨⟨4, rfl, by decide, H1.out, HF.out⟩, by simp [intOf]⟩
end Go.Proofs.YtbpaiiljhdohfaaDoor
