/- Contracts: crc.Sum, and the document's: the register behind every text, turned over. -/
import Derived.Test.YtodmomhilpheiabDoorKa
namespace Go.Proofs.YtodmomhilpheiabDoor
open Go.RowKit

def CrcVars (w : World) : Prop := (∀ i, i < 16 → w.cell? ⟨0, i, none⟩ = some (.int .u32 (remF i))) ∧ 0 < w.heap.size
theorem CrcVars.below {w w' : World} (h : CrcVars w) (hb : Below w.heap.size w w') : CrcVars w' :=
  ⟨fun i hi => (hb.cell (p := ⟨0, i, none⟩) (by show 0 < _; exact h.2)).trans (h.1 i hi), by have := hb.size; have := h.2; omega⟩

theorem sum_round (R : B32) (x : UInt8) : ∃ (x1 x2 : Int) (j1 j2 : Nat), bits .xor .u32 (R.toNat : Int) (x.toNat : Int) = x1 ∧ 0 ≤ x1 ∧ x1 < 4294967296 ∧ bits .and .u32 x1 15 = (j1 : Int) ∧ j1 < 16 ∧ bits .xor .u32 (x1 / 16) (remF j1) = x2 ∧
    0 ≤ x2 ∧ x2 < 4294967296 ∧ bits .and .u32 x2 15 = (j2 : Int) ∧ j2 < 16 ∧ bits .xor .u32 (x2 / 16) (remF j2) = ((reg1 R x).toNat : Int) := by
  have hx : ((BitVec.ofNat 32 x.toNat).toNat : Int) = (x.toNat : Int) := by
    have : x.toNat < 256 := x.toNat_lt
    rw [BitVec.toNat_ofNat]; omega
  have h1 := u32_xor R (BitVec.ofNat 32 x.toNat)
  rw [hx] at h1
  have h2 := tab_step (R ^^^ BitVec.ofNat 32 x.toNat)
  have h3 := tab_step (s1n 4 (R ^^^ BitVec.ofNat 32 x.toNat))
  rw [tab_twice] at h3
  have b1 := (R ^^^ BitVec.ofNat 32 x.toNat).isLt
  have b2 := (s1n 4 (R ^^^ BitVec.ofNat 32 x.toNat)).isLt
  exact ⟨_, _, _, _, h1, by omega, by omega, and15 _, Nat.mod_lt _ (by decide), h2, by omega, by omega, and15 _, Nat.mod_lt _ (by decide), h3⟩

theorem take_snoc (s : ByteArray) (k : Nat) (h : k < s.size) : s.data.toList.take (k + 1) = s.data.toList.take k ++ [s[k]] := by
  rw [List.take_succ_eq_append_getElem (by simpa using h)]; rfl
theorem idx_u8 (s : ByteArray) (k : Nat) (h : k < s.size) : ∀ W, (Instr.index 9 (.string s) (.int .i64 k)).run Tryd.prog W = .ok (.int .u8 (s[k].toNat : Int)) W := by
  intro W
  rw [run_index_string W _ _ _ _ Tryd.underlying9, dif_pos ⟨by omega, by omega⟩]
  rfl

def RegSlot (s : ByteArray) (r i : Value) : Prop := ∃ k : Nat, k ≤ s.size ∧ i = .int .i64 k ∧ r = .int .u32 ((regL 0xffffffff#32 (s.data.toList.take k)).toNat : Int)
theorem reg_step (s : ByteArray) (k : Nat) (h : k < s.size) : regL 0xffffffff#32 (s.data.toList.take (k + 1)) = reg1 (regL 0xffffffff#32 (s.data.toList.take k)) s[k] := by
  rw [take_snoc s k h, regL_app]; rfl
theorem ret_u32 {a b : Int} (h : a = b) : Ending.returned (.int .u32 a) = .returned (.int .u32 b) := by rw [h]

set_option maxHeartbeats 1000000 in
set_option maxRecDepth 100000 in
theorem Sum_any (s : ByteArray) (w : World) (hs : s.size ≤ maxLen) (hV : CrcVars w) :
    Calls Tryd.prog 9 #[.string s] w fun e w' => e = .returned (.int .u32 ((crcL s.data.toList).toNat : Int)) ∧ w = w' := by
  unfold maxLen at hs
  have HV := Lib.hid hV
  clear hV
  go_enter Tryd.func9, Tryd.ntmps9
  go_wp2_with fail
  go_loop [3, 7] (fun r i => RegSlot s r i) (fun _ i => s.size - (intOf i).toNat)
  case atStart => exact ⟨0, Nat.zero_le _, rfl, rfl⟩
  case round =>
    obtain ⟨k, hk, rfl, rfl⟩ := hrel
    by_cases hlt : k < s.size
    · have hix := idx_u8 s k hlt
      have hst := reg_step s k hlt
      obtain ⟨R, hR⟩ : ∃ R, regL 0xffffffff#32 (s.data.toList.take k) = R := ⟨_, rfl⟩
      rw [hR] at hst ⊢
      obtain ⟨x, hx⟩ : ∃ x, s[k] = x := ⟨_, rfl⟩
      rw [hx] at hst hix
      obtain ⟨x1, x2, j1, j2, e1, a1, b1, e2, l1, e3, a2, b2, e4, l2, e5⟩ := sum_round R x
      have c1 := HV.out.1 j1 l1
      have c2 := HV.out.1 j2 l2
      have hx0 : 0 ≤ (x.toNat : Int) := by omega
      have hx1 : (x.toNat : Int) < 256 := by have := x.toNat_lt; omega
      have hr0 : 0 ≤ (R.toNat : Int) := by omega
      have hr1 : (R.toNat : Int) < 4294967296 := by have := R.isLt; omega
      have hj1 : (j1 : Int) < 16 := by omega
      have hj2 : (j2 : Int) < 16 := by omega
      have HST := Lib.hid hst
      clear hst hR hx l1 l2
      obtain ⟨c, hc⟩ : ∃ c : Int, (x.toNat : Int) = c := ⟨_, rfl⟩
      obtain ⟨r, hr⟩ : ∃ r : Int, (R.toNat : Int) = r := ⟨_, rfl⟩
      obtain ⟨r3, hr3⟩ : ∃ r : Int, ((reg1 R x).toNat : Int) = r := ⟨_, rfl⟩
      rw [hc] at hix hx0 hx1 e1
      rw [hr] at hr0 hr1 e1 ⊢
      rw [hr3] at e5
      have hend : Hid (RegSlot s (.int .u32 r3) (.int .i64 ((k : Int) + 1))) := Lib.hid ⟨k + 1, by omega, by rw [Int.natCast_succ], by rw [HST.out, hr3]⟩
      obtain ⟨t1, ht1⟩ : ∃ t, remF j1 = t := ⟨_, rfl⟩
      obtain ⟨t2, ht2⟩ : ∃ t, remF j2 = t := ⟨_, rfl⟩
      rw [ht1] at c1 e3
      rw [ht2] at c2 e5
      clear hc hr hr3 ht1 ht2
      go_wp2_with fail
      exact ⟨hend.out, by simp [intOf]; omega⟩
    · obtain rfl : k = s.size := by omega
      have hfull : s.data.toList.take s.size = s.data.toList := List.take_of_length_le (by simp)
      rw [hfull]
      go_wp2_with fail
      go_ret
      exact ⟨ret_u32 (xor_max _), rfl⟩

/-- The document's register: bit by bit. -/
def BitSlot (s : ByteArray) (k : Nat) (R : B32) (c : B32) (r b : Value) : Prop := ∃ j : Nat, j ≤ 8 ∧ b = .int .i64 j ∧ r = .int .u32 ((refN R c j).toNat : Int)
theorem bit_round (R c : B32) (j : Nat) : ∃ x1 : Int, bits .xor .u32 ((refN R c j).toNat : Int) ((c.toNat : Int) / 2 ^ j) = x1 ∧ 0 ≤ x1 ∧ x1 < 4294967296 ∧
    ((bits .and .u32 x1 1 = 1 ∧ bits .xor .u32 (((refN R c j).toNat : Int) / 2) 3988292384 = ((refN R c (j + 1)).toNat : Int)) ∨ (bits .and .u32 x1 1 = 0 ∧ ((refN R c j).toNat : Int) / 2 = ((refN R c (j + 1)).toNat : Int))) := by
  have hc : (c.toNat : Int) / 2 ^ j = ((c >>> j).toNat : Int) := by
    rw [BitVec.toNat_ushiftRight, Nat.shiftRight_eq_div_pow]; simp
  rw [hc, u32_xor]
  obtain ⟨X, hX⟩ : ∃ X, refN R c j ^^^ c >>> j = X := ⟨_, rfl⟩
  have hb := X.isLt
  have hs : ((refN R c j).toNat : Int) / (2 : Int) = ((refN R c j >>> 1).toNat : Int) := shr1 _
  rw [hX, hs]
  refine ⟨_, rfl, by omega, by omega, ?_⟩
  rw [and1]
  have hl : X.getLsbD 0 = decide (X.toNat % 2 = 1) := by
    rw [BitVec.getLsbD]; simp [Nat.testBit_zero]
  have hn : refN R c (j + 1) = (refN R c j >>> 1) ^^^ (if X.getLsbD 0 then polyB else 0#32) := by rw [← hX]; rfl
  rcases (show X.toNat % 2 = 1 ∨ X.toNat % 2 = 0 by omega) with h | h
  · refine Or.inl ⟨by rw [h]; rfl, ?_⟩
    rw [hn, hl, decide_eq_true h, if_pos rfl, ← u32_xor]
    rfl
  · refine Or.inr ⟨by rw [h]; rfl, ?_⟩
    rw [hn, hl, decide_eq_false (by omega), if_neg (by decide)]
    simp

set_option maxHeartbeats 1000000 in
set_option maxRecDepth 100000 in
theorem RSum_any (s : ByteArray) (w : World) (hs : s.size ≤ maxLen) :
    Calls Tryd.prog 10 #[.string s] w fun e w' => e = .returned (.int .u32 ((crcL s.data.toList).toNat : Int)) ∧ w = w' := by
  unfold maxLen at hs
  go_enter Tryd.func10, Tryd.ntmps10
  go_wp2_with fail
  go_loop [3, 4] (fun r i => RegSlot s r i) (fun _ i => s.size - (intOf i).toNat)
  case atStart => exact ⟨0, Nat.zero_le _, rfl, rfl⟩
  case round =>
    obtain ⟨k, hk, rfl, rfl⟩ := hrel
    by_cases hlt : k < s.size
    · have hix := idx_u8 s k hlt
      have hst := reg_step s k hlt
      obtain ⟨R, hR⟩ : ∃ R, regL 0xffffffff#32 (s.data.toList.take k) = R := ⟨_, rfl⟩
      rw [hR] at hst ⊢
      obtain ⟨x, hx⟩ : ∃ x, s[k] = x := ⟨_, rfl⟩
      rw [hx] at hst hix
      have hx0 : 0 ≤ (x.toNat : Int) := by omega
      have hx1 : (x.toNat : Int) < 256 := by have := x.toNat_lt; omega
      obtain ⟨c, hc⟩ : ∃ c : B32, BitVec.ofNat 32 x.toNat = c := ⟨_, rfl⟩
      have hcx : (x.toNat : Int) = (c.toNat : Int) := by
        rw [← hc]; have := x.toNat_lt; rw [BitVec.toNat_ofNat]; omega
      have h8 := refN_8 R x
      rw [hc] at h8
      have HST := Lib.hid (hst.trans h8.symm)
      rw [hcx] at hix hx0 hx1
      clear hst hR hx hc hcx h8
      have R0 : Hid (((R.toNat : Nat) : Int) = ((refN R c 0).toNat : Int)) := Lib.hid rfl
      have hk63 : (k : Int) < 9223372036854775807 := by omega
      go_wp2_with fail
      go_loop [3, 5] (fun r b => BitSlot s k R c r b) (fun _ b => 8 - (intOf b).toNat)
      case atStart => exact ⟨0, Nat.zero_le _, rfl, by rw [R0.out]⟩
      case round =>
        obtain ⟨j, hj, rfl, rfl⟩ := hrel
        by_cases hj8 : j < 8
        · obtain ⟨x1, e1, a1, b1, h⟩ := bit_round R c j
          obtain ⟨q, hq⟩ : ∃ q : Int, ((refN R c j).toNat : Int) = q := ⟨_, rfl⟩
          have q0 : 0 ≤ q := by omega
          have q1 : q < 4294967296 := by have := (refN R c j).isLt; omega
          obtain ⟨y, hy⟩ : ∃ y : Int, ((refN R c (j + 1)).toNat : Int) = y := ⟨_, rfl⟩
          rw [hq] at e1 h ⊢
          rw [hy] at h
          obtain ⟨cc, hcc⟩ : ∃ y : Int, (c.toNat : Int) = y := ⟨_, rfl⟩
          rw [hcc] at hix hx0 hx1 e1
          have hj8' : (j : Int) < 8 := by omega
          have hend : Hid (BitSlot s k R c (.int .u32 y) (.int .i64 ((j : Int) + 1))) := Lib.hid ⟨j + 1, by omega, by rw [Int.natCast_succ], by rw [hy]⟩
          clear hq hy hcc
          clear HST R0 hk63 hlt hk
          rcases h with ⟨ha, hb⟩ | ⟨ha, hb⟩
          · go_wp2_with fail
            exact ⟨hend.out, by simp [intOf]; omega⟩
          · have hz : ((0 : Int) == 1) = false := rfl
            rw [← hb] at hend
            clear hb
            go_wp2_with fail
            exact ⟨hend.out, by simp [intOf]; omega⟩
        · obtain rfl : j = 8 := by omega
          go_wp2_with fail
          exact ⟨⟨k + 1, by omega, by rw [Int.natCast_succ], by rw [HST.out]⟩, by simp [intOf]; omega⟩
    · obtain rfl : k = s.size := by omega
      have hfull : s.data.toList.take s.size = s.data.toList := List.take_of_length_le (by simp)
      rw [hfull]
      have hnot := not_b (regL 0xffffffff#32 s.data.toList)
      obtain ⟨r, hr⟩ : ∃ r : Int, ((regL 0xffffffff#32 s.data.toList).toNat : Int) = r := ⟨_, rfl⟩
      have r0 : 0 ≤ r := by omega
      have r1 : r < 4294967296 := by have := (regL 0xffffffff#32 s.data.toList).isLt; omega
      rw [hr] at hnot ⊢
      have HN := Lib.hid hnot
      clear hnot hr hfull
      go_wp2_with fail
      go_ret
      exact ⟨ret_u32 HN.out, rfl⟩
end Go.Proofs.YtodmomhilpheiabDoor
