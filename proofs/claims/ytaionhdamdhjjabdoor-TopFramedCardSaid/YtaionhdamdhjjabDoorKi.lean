/- Plain facts on frames; the contract of crc.Whole; the statements' first question. -/
import Derived.Test.YtaionhdamdhjjabDoorKh
namespace Go.Proofs.YtaionhdamdhjjabDoor
open Go.RowKit

theorem mkB_drop (l : List UInt8) (k : Nat) (h : k ≤ l.length) : (mkB l).extract k (mkB l).size = mkB (l.drop k) := by
  apply ba_ext
  rw [ext_list, mkB_data, mkB_data, mkB_size, List.take_of_length_le (by simp)]
theorem mkB_at0 (a : UInt8) (l : List UInt8) : byt (mkB (a :: l)) 0 = (a.toNat : Int) := by
  rw [byt_zero _ (by rw [mkB_size]; simp)]; rfl
theorem nextF_frame (k : UInt8) (body : ByteArray) (rest : List UInt8) (hb : body.size ≤ 262144) : nextF (mkB (frL k body ++ rest)) = ((k.toNat : Int), body, ((frL k body).length : Int), 0) := by
  have hl : frL k body ++ rest = k :: (encL body ++ (sumL (headL k body) ++ rest)) := by
    unfold frL headL; simp
  have hz : (mkB (frL k body ++ rest)).size = (encL body).length + 5 + rest.length := by rw [mkB_size, List.length_append, frL_len]
  have h1 : (mkB (frL k body ++ rest)).extract 1 (mkB (frL k body ++ rest)).size = mkB (encL body ++ (sumL (headL k body) ++ rest)) := by
    rw [mkB_drop _ 1 (by rw [hl]; simp), hl]; rfl
  have hn := next_of_enc body (sumL (headL k body) ++ rest) hb
  unfold nextF
  rw [h1, hn]
  dsimp only
  rw [if_neg (by rw [hz]; omega), if_neg (by decide), if_neg (by rw [hz]; omega)]
  have e1 : (1 + ((encL body).length : Int)).toNat = (encL body).length + 1 := by omega
  have e2 : (1 + ((encL body).length : Int) + 4).toNat = (encL body).length + 1 + 4 := by omega
  have hh : (frL k body ++ rest).take ((encL body).length + 1) = headL k body := by
    unfold frL
    rw [List.append_assoc, List.take_append_of_le_length (by unfold headL; simp), List.take_of_length_le (by unfold headL; simp)]
  have hd : (frL k body ++ rest).drop ((encL body).length + 1) = sumL (headL k body) ++ rest := by
    have hlen : (headL k body).length = (encL body).length + 1 := by unfold headL; simp
    unfold frL
    rw [← hlen, List.append_assoc, List.drop_left]
  rw [beq_lists, ext_list, mkB_data, e1, e2, hh, hd, Nat.add_sub_cancel_left, List.take_append_of_le_length (by rw [sumL_len]; omega), List.take_of_length_le (by rw [sumL_len]; omega), if_pos (decide_eq_true (show sumL (headL k body) = (leB (crcL (headL k body))).data.toList from rfl)), frL_len]
  have hb0 : byt (mkB (frL k body ++ rest)) 0 = (k.toNat : Int) := by rw [hl]; exact mkB_at0 _ _
  rw [hb0]
  simp
theorem nextF_ok (s t : ByteArray) (a n : Int) (h : nextF s = (a, t, n, 0)) : 6 ≤ n ∧ n ≤ s.size := by
  unfold nextF at h
  split at h
  · have := congrArg (fun x => x.2.2.2) h; dsimp only at this; omega
  rename_i h0
  split at h
  · rename_i h1
    have := congrArg (fun x => x.2.2.2) h; dsimp only at this; exact absurd this h1
  rename_i h1
  split at h
  · have := congrArg (fun x => x.2.2.2) h; dsimp only at this; omega
  rename_i h2
  split at h
  · have h3 := congrArg (fun x => x.2.2.1) h
    dsimp only at h3
    obtain ⟨t', n', er, hn⟩ : ∃ t n er, nextI (s.extract 1 s.size) = (t, n, er) := ⟨_, _, _, rfl⟩
    rw [hn] at h1 h2 h3
    dsimp only at h1 h2 h3
    obtain rfl : er = 0 := by omega
    have := nextI_ok _ _ _ hn
    omega
  · have := congrArg (fun x => x.2.2.2) h; dsimp only at this; omega
theorem nextF_rng (s : ByteArray) : 0 ≤ (nextF s).2.2.1 ∧ (nextF s).2.2.1 ≤ s.size := by
  by_cases h : (nextF s).2.2.2 = 0
  · have := nextF_ok s (nextF s).2.1 (nextF s).1 (nextF s).2.2.1 (by rw [← h])
    omega
  · unfold nextF at h ⊢
    split
    · dsimp only; omega
    split
    · dsimp only; omega
    split
    · dsimp only; omega
    split
    · rename_i h0 h1 h2 h3
      rw [if_neg h0, if_neg h1, if_neg h2, if_pos h3] at h
      exact absurd rfl h
    · dsimp only; omega

def wholeF : Nat → ByteArray → Nat → Nat → Nat × Nat
  | 0, _, a, c => (a, c)
  | f + 1, s, a, c => if (nextF (s.extract a s.size)).2.2.2 ≠ 0 then (a, c) else wholeF f s (a + (nextF (s.extract a s.size)).2.2.1.toNat) (c + 1)
def wholeI (s : ByteArray) : Nat × Nat := wholeF (s.size + 1) s 0 0
theorem wholeF_fuel (s : ByteArray) : ∀ (f g a c : Nat), s.size - a < f → s.size - a < g → wholeF f s a c = wholeF g s a c := by
  intro f
  induction f with
  | zero => intro g a c h; omega
  | succ f ih =>
    intro g a c hf hg
    obtain ⟨g, rfl⟩ : ∃ g', g = g' + 1 := ⟨g - 1, by omega⟩
    unfold wholeF
    by_cases h : (nextF (s.extract a s.size)).2.2.2 ≠ 0
    · rw [if_pos h, if_pos h]
    · rw [if_neg h, if_neg h]
      have h' : (nextF (s.extract a s.size)).2.2.2 = 0 := by omega
      have := nextF_ok _ (nextF (s.extract a s.size)).2.1 (nextF (s.extract a s.size)).1 (nextF (s.extract a s.size)).2.2.1 (by rw [← h'])
      rw [ByteArray.size_extract] at this
      exact ih _ _ _ (by omega) (by omega)
/-- What the walk over frames has come to. -/
def WholeAt (s : ByteArray) (a c : Nat) : Prop := a ≤ s.size ∧ c ≤ a ∧ wholeF (s.size - a + 1) s a c = wholeI s
theorem whole_start (s : ByteArray) : WholeAt s 0 0 := ⟨Nat.zero_le _, Nat.le_refl _, rfl⟩
theorem whole_next (s : ByteArray) (a c : Nat) (h : WholeAt s a c) (t : ByteArray) (x n : Int) (hn : nextF (s.extract a s.size) = (x, t, n, 0)) : WholeAt s (a + n.toNat) (c + 1) ∧ 6 ≤ n ∧ (a : Int) + n ≤ s.size := by
  have hk := nextF_ok _ _ _ _ hn
  rw [ByteArray.size_extract] at hk
  obtain ⟨h1, h2, h3⟩ := h
  refine ⟨⟨by omega, by omega, ?_⟩, by omega, by omega⟩
  rw [← h3]
  conv => rhs; unfold wholeF
  rw [hn]
  dsimp only
  rw [if_neg (by decide)]
  exact wholeF_fuel _ _ _ _ _ (by omega) (by omega)
theorem whole_end (s : ByteArray) (a c : Nat) (h : WholeAt s a c) (t : ByteArray) (x n er : Int) (hn : nextF (s.extract a s.size) = (x, t, n, er)) (he : er ≠ 0) : wholeI s = (a, c) := by
  obtain ⟨h1, h2, h3⟩ := h
  rw [← h3]
  unfold wholeF
  rw [hn]
  exact if_pos he

theorem FNext_vars (s t : ByteArray) (x n er : Int) (w : World) (hm : s.size ≤ maxLen) (hV : CrcVars w) (h : nextF s = (x, t, n, er)) :
    Calls Tryd.prog 13 #[.string s] w fun e w' => e = .returned (.tuple #[.int .u8 x, .string t, .int .i64 n, .int .i64 er]) ∧ Below w.heap.size w w' := by
  have := FNext_any s w hm hV
  rw [h] at this
  exact this
theorem ret2i {a b c d : Int} (h : a = c) (h' : b = d) : Ending.returned (.tuple #[.int .i64 a, .int .i64 b]) = .returned (.tuple #[.int .i64 c, .int .i64 d]) := by rw [h, h']
def WhSlot (s : ByteArray) (w : World) (a c : Value) (wr : World) : Prop := ∃ i j : Nat, a = .int .i64 i ∧ c = .int .i64 j ∧ WholeAt s i j ∧ Below w.heap.size w wr

set_option maxHeartbeats 1000000 in
set_option maxRecDepth 100000 in
theorem Whole_any (s : ByteArray) (w : World) (hm : s.size ≤ maxLen) (hV : CrcVars w) :
    Calls Tryd.prog 12 #[.string s] w fun e w' => e = .returned (.tuple #[.int .i64 (wholeI s).1, .int .i64 (wholeI s).2]) ∧ Below w.heap.size w w' := by
  have HV := Lib.hid hV; have HM := Lib.hid hm
  unfold maxLen at hm
  clear hV
  go_enter Tryd.func12, Tryd.ntmps12
  go_wp2_with fail
  go_loopw [4, 5] (fun a c wr => WhSlot s w a c wr) (fun a _ _ => s.size - (intOf a).toNat)
  case atStart => exact ⟨0, 0, rfl, rfl, whole_start s, Below.refl _ _⟩
  case round =>
    obtain ⟨a, c, rfl, rfl, hW, hB⟩ := hrel
    obtain ⟨x, t, n, er, hn⟩ : ∃ x t n er, nextF (s.extract a s.size) = (x, t, n, er) := ⟨_, _, _, _, rfl⟩
    have ha : a ≤ s.size := hW.1
    have hc : c ≤ a := hW.2.1
    have a1 : (a : Int) ≤ s.size := by omega
    have a0 : 0 ≤ (a : Int) := by omega
    have c1 : (c : Int) < 9223372036854775807 ∨ (c : Int) = 9223372036854775807 := by omega
    have HW := Lib.hid hW; have HB := Lib.hid hB; have HN := Lib.hid hn
    have hsz : (s.extract a s.size).size ≤ maxLen := by rw [ByteArray.size_extract]; unfold maxLen; omega
    have HSZ := Lib.hid hsz
    by_cases her : er = 0
    · subst her
      have hx := whole_next s a c hW t x n hn
      have n0 : 0 ≤ n := by omega
      have n1 : (a : Int) + n ≤ s.size := hx.2.2
      have n2 : (c : Int) + 1 ≤ s.size := by have := hx.1.1; have := hx.1.2.1; omega
      have HX := Lib.hid hx
      clear hW hB hn hsz hx c1
      go_wp2_with fail
      refine (FNext_vars _ t x n 0 wr HSZ.out (HV.out.below HB.out) HN.out).mono ?_
      rintro e w1 ⟨rfl, hw1⟩
      have hend : Hid (WhSlot s w (.int .i64 ((a : Int) + n)) (.int .i64 ((c : Int) + 1)) w1) := Lib.hid ⟨a + n.toNat, c + 1, by rw [show ((a + n.toNat : Nat) : Int) = (a : Int) + n by omega], by rw [Int.natCast_succ], HX.out.1, HB.out.trans (hw1.mono HB.out.size)⟩
      clear hw1
      have hn6 := HX.out.2.1
      go_wp2_with fail
      exact ⟨hend.out, by simp [intOf]; omega⟩
    · have hne : (er != 0) = true := by rw [bne_iff_ne]; exact her
      have hfin := whole_end s a c hW t x n er hn her
      have HFIN := Lib.hid hfin
      clear hW hB hn hsz c1 hfin her
      go_wp2_with fail
      refine (FNext_vars _ t x n er wr HSZ.out (HV.out.below HB.out) HN.out).mono ?_
      rintro e w1 ⟨rfl, hw1⟩
      have HE := Lib.hid (HB.out.trans (hw1.mono HB.out.size))
      clear hw1
      go_wp2_with fail
      go_ret2
      exact ⟨by rw [HFIN.out]; rfl, HE.out⟩

def ab : ByteArray := ⟨#[97, 98]⟩
def digitsS : ByteArray := ⟨#[49, 50, 51, 52, 53, 54, 55, 56, 57]⟩
theorem crc_digits : ((crcL digitsS.data.toList).toNat : Int) = 3421780262 := by decide +kernel
theorem frame_ab : nextF (mkB (frL 7 ab)) = (7, ab, 8, 0) := by
  have h := nextF_frame 7 ab [] (by decide)
  rw [List.append_nil] at h
  rw [h]
  have : (frL 7 ab).length = 8 := by rw [frL_len]; rfl
  rw [this]; rfl

end Go.Proofs.YtaionhdamdhjjabDoor
