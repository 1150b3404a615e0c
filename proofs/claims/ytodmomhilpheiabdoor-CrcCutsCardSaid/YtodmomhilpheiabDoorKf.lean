/- The contract of the document's Frame. -/
import Derived.Test.YtodmomhilpheiabDoorKe
import Derived.Deep.DeepCutAuto
import Derived.Deep.DrawnRows
namespace Go.Proofs.YtodmomhilpheiabDoor
open Go.RowKit
attribute [local go_sem ↓] Go.wp_at_zero Go.wp_at_succ

theorem conv_cell (W : World) (b : Nat) (x : Int) (hb : W.cell? ⟨b, 0, none⟩ = some (.int .u8 x)) : (convert 39 9 (.slice (some ⟨b, 0, none⟩) 1 1)).run Tryd.prog W = .ok (.string (strOfNums [x])) W := by
  refine run_convert_bytes_arg (P := Tryd.prog) _ 39 5 Tryd.underlying39 Tryd.underlying5 b 0 1 1 [x] rfl (fun i hi => ?_) 9 Tryd.underlying9
  obtain rfl : i = 0 := by omega
  exact hb

theorem cell_behind {w w1 : World} {v : Value} {T : TypeId} (h : Below (w.alloc (.cells #[v] T)).drew.heap.size (w.alloc (.cells #[v] T)).drew w1) : w1.cell? ⟨w.heap.size, 0, none⟩ = some v := by
  refine (h.cell (p := ⟨w.heap.size, 0, none⟩) ?_).trans ?_
  · show w.heap.size < (w.heap.push _).size
    simp
  · have e : (w.alloc (.cells #[v] T)).drew.heap[w.heap.size]? = some (.cells #[v] T (0, 0)) := by
      show (w.heap.push _)[w.heap.size]? = _
      simp
    unfold World.cell?
    simp only [e]
    rfl
theorem conv_new (W : World) (b : Nat) (x : Int) (hb : b = W.heap.size) : (convert 39 9 (.slice (some ⟨b, 0, none⟩) 1 1)).run Tryd.prog (W.alloc (.cells #[.int .u8 x] 5)) = .ok (.string (strOfNums [x])) (W.alloc (.cells #[.int .u8 x] 5)) := conv_one W b x hb

def FrSlot (S : ByteArray) (c : Int) (w : World) (s cc i : Value) (wr : World) : Prop :=
  ∃ (j : Nat) (y : Int), j ≤ 4 ∧ i = .int .i64 j ∧ (j = 0 ∧ y = c ∨ j = 1 ∧ y = c / 256 ∨ j = 2 ∧ y = c / 256 / 256 ∨ j = 3 ∧ y = c / 256 / 256 / 256 ∨ j = 4 ∧ y = c / 256 / 256 / 256 / 256) ∧ cc = .int .u32 y ∧ s = .string (S ++ strOfNums ((leI c).take j)) ∧ Below w.heap.size w wr ∧ w.heap.size ≤ wr.heap.size
theorem fr_rng (c y : Int) (j : Nat) (c0 : 0 ≤ c) (c1 : c < 4294967296) (hy : j = 0 ∧ y = c ∨ j = 1 ∧ y = c / 256 ∨ j = 2 ∧ y = c / 256 / 256 ∨ j = 3 ∧ y = c / 256 / 256 / 256 ∨ j = 4 ∧ y = c / 256 / 256 / 256 / 256) : 0 ≤ y ∧ y < 4294967296 := by omega
theorem fr_step (S T : ByteArray) (c y : Int) (j : Nat) (hT : S ++ strOfNums ((leI c).take j) = T) (hy : j = 0 ∧ y = c ∨ j = 1 ∧ y = c / 256 ∨ j = 2 ∧ y = c / 256 / 256 ∨ j = 3 ∧ y = c / 256 / 256 / 256 ∨ j = 4 ∧ y = c / 256 / 256 / 256 / 256) (hj : j < 4) (c0 : 0 ≤ c) :
    T ++ strOfNums [y % 256] = S ++ strOfNums ((leI c).take (j + 1)) ∧ (j + 1 = 0 ∧ y / 256 = c ∨ j + 1 = 1 ∧ y / 256 = c / 256 ∨ j + 1 = 2 ∧ y / 256 = c / 256 / 256 ∨ j + 1 = 3 ∧ y / 256 = c / 256 / 256 / 256 ∨ j + 1 = 4 ∧ y / 256 = c / 256 / 256 / 256 / 256) := by
  rw [← hT, ByteArray.append_assoc, str_app]
  have d2 : c / 65536 = c / 256 / 256 := by omega
  have d3 : c / 16777216 = c / 256 / 256 / 256 := by omega
  unfold leI
  rw [d2, d3]
  rcases hy with ⟨rfl, rfl⟩ | ⟨rfl, rfl⟩ | ⟨rfl, rfl⟩ | ⟨rfl, rfl⟩ | ⟨rfl, rfl⟩
  · exact ⟨rfl, by simp⟩
  · exact ⟨rfl, by simp⟩
  · exact ⟨rfl, by simp⟩
  · exact ⟨rfl, by simp⟩
  · omega
theorem ba_end (s : ByteArray) : s ++ (⟨#[]⟩ : ByteArray) = s := by
  cases s; rename_i d; show _ ++ ByteArray.empty = _; simp

set_option maxHeartbeats 1000000 in
set_option maxRecDepth 100000 in
theorem RFrame_any (k : UInt8) (x : Int) (hx : (k.toNat : Int) = x) (body : ByteArray) (w : World) (hb : body.size ≤ 262144) :
    Calls Tryd.prog 12 #[.int .u8 x, .string body] w fun e w' => e = .returned (.string (mkB (frL k body))) ∧ Below w.heap.size w w' := by
  have hel := encL_le body
  have hbi : ¬ (262144 : Int) < (body.size : Int) := by omega
  have HX := Lib.hid hx; have HEL := Lib.hid hel; have HB := Lib.hid hb
  have hcc := conv_cell
  obtain ⟨p, hp⟩ : ∃ p, strOfNums (putI body.size) = p := ⟨_, rfl⟩
  have HP := Lib.hid hp
  obtain ⟨X1, hX1⟩ : ∃ p, strOfNums [x] = p := ⟨_, rfl⟩
  have hs1 : X1.size = 1 := by rw [← hX1]; rfl
  have hp6 : p.size ≤ 6 := by
    have : (encL body).length = p.size + body.size := by rw [encL_length, ← hp, strOfNums_size]
    omega
  have n1 : ¬ 9223372036854775807 < X1.size + p.size := by omega
  have HH : Hid (strOfNums [x] ++ p ++ body = mkB (headL k body)) := Lib.hid (by
    apply ba_ext
    rw [mkB_data]
    unfold headL encL
    rw [hp, ByteArray.data_append, ByteArray.data_append, Array.toList_append, Array.toList_append, ← HX.out]
    simp [strOfNums])
  rw [hX1] at HH
  have n2 : ¬ 9223372036854775807 < (X1 ++ p).size + body.size := by rw [ByteArray.size_append]; omega
  clear hx hel hb hp
  go_enter Tryd.func12, Tryd.ntmps12
  go_upto_region 3 with fail
  go_cut [5] (fun s5 wx => s5 = .string (mkB (headL k body)) ∧ Below w.heap.size w wx)
  case first =>
    go_region_with ((go_at_call 21; refine (rput_str _ p _ (by omega) (by omega) HP.out).mono ?_; rintro e w1 ⟨rfl, hw1⟩; try (have q1 := cell_behind hw1)))
    all_goals
      go_wp2_with fail
      go_meet
      exact ⟨by rw [HH.out], by first | exact (((Below.refl w.heap.size w).alloc (Nat.le_refl _) _).drew).trans (hw1.mono (by show _ ≤ (w.heap.push _).size; simp)) | exact (((Below.refl w.heap.size w).drew).trans hw1).alloc hw1.size _⟩
  case rest =>
    obtain ⟨rfl, hB⟩ := hcut
    have HBW := Lib.hid hB
    have hz := hB.size
    obtain ⟨S, hS⟩ : ∃ S, mkB (headL k body) = S := ⟨_, rfl⟩
    have hSz : S.size ≤ 262151 := by rw [← hS, mkB_size]; unfold headL; have := HEL.out; have := HB.out; simp; omega
    have hSl : S.data.toList = headL k body := by rw [← hS, mkB_data]
    rw [hS]
    have HS := Lib.hid hS; have HSL := Lib.hid hSl
    clear hB hS hSl n1 n2 hp6 hs1 HH
    go_wp2_with fail
    refine (RSum_any S wc (by unfold maxLen; omega)).mono ?_
    rintro e w2 ⟨rfl, rfl⟩
    rw [HSL.out]
    obtain ⟨C, hC⟩ : ∃ C, crcL (headL k body) = C := ⟨_, rfl⟩
    rw [hC]
    have HC := Lib.hid hC
    have HFIN : Hid (S ++ strOfNums (leI C.toNat) = mkB (frL k body)) := Lib.hid (by
      unfold frL sumL; rw [mkB_app, HS.out, hC]; unfold leB; rw [mkB_list])
    have c1 : (C.toNat : Int) < 4294967296 := by have := C.isLt; omega
    have c0 : 0 ≤ (C.toNat : Int) := by omega
    obtain ⟨c, hc⟩ : ∃ c : Int, (C.toNat : Int) = c := ⟨_, rfl⟩
    rw [hc] at HFIN c1 c0
    rw [hc]
    clear hC hc
    go_wp2_with fail
    go_loopw [5, 6, 7] (fun s cc i wr => FrSlot S c w s cc i wr) (fun _ _ i _ => 4 - (intOf i).toNat)
    case atStart => exact ⟨0, c, by omega, rfl, Or.inl ⟨rfl, rfl⟩, rfl, by rw [show strOfNums ((leI c).take 0) = ⟨#[]⟩ from rfl, ba_end], HBW.out, hz⟩
    case round =>
      obtain ⟨j, y, hj, rfl, hy, rfl, rfl, hB, hzr⟩ := hrel
      have HB2 := Lib.hid hB
      obtain ⟨T, hT⟩ : ∃ T, S ++ strOfNums ((leI c).take j) = T := ⟨_, rfl⟩
      have hTz : T.size ≤ 262155 := by rw [← hT, ByteArray.size_append, strOfNums_size]; have : ((leI c).take j).length ≤ j := List.length_take_le _ _; omega
      rw [hT]
      by_cases hlt : j < 4
      · have hj4 : (j : Int) < 4 := by omega
        obtain ⟨y0, y1⟩ := fr_rng c y j c0 c1 hy
        have hstep := fr_step S T c y j hT hy hlt c0
        have hz1 : (strOfNums [y % 256]).size = 1 := rfl
        have n1 : ¬ 9223372036854775807 < T.size + 1 := by omega
        have hend : Hid (FrSlot S c w (.string (T ++ strOfNums [y % 256])) (.int .u32 (y / 256)) (.int .i64 ((j : Int) + 1)) (wr.alloc (.cells #[.int .u8 (y % 256)] 5))) := Lib.hid ⟨j + 1, y / 256, by omega, by rw [Int.natCast_succ], hstep.2, rfl, by rw [hstep.1], HB2.out.alloc hzr _, by show _ ≤ (wr.heap.push _).size; simp; omega⟩
        clear hstep hT hB hy hTz
        have hcn := conv_new wr wr.heap.size (y % 256) rfl
        clear hcc
        go_wp2_with fail
        exact ⟨hend.out, by simp [intOf]; omega⟩
      · obtain rfl : j = 4 := by omega
        have hfin : T = mkB (frL k body) := by rw [← hT, ← HFIN.out]; rfl
        rw [hfin]
        clear hT hTz hfin hcc
        go_wp2_with fail
        go_ret
        exact ⟨rfl, HB2.out⟩
end Go.Proofs.YtodmomhilpheiabDoor
