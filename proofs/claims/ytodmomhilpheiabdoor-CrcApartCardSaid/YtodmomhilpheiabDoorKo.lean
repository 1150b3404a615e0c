/- The law CrcApart, at whatever world that has the package's variable. -/
import Derived.Test.YtodmomhilpheiabDoorKj
import Derived.Deep.RegionHeld3
import Derived.Deep.QuietTactic
import Derived.BigQuiet
namespace Go.Proofs.YtodmomhilpheiabDoor
open Go.RowKit
attribute [local go_sem ↓] Go.wp_at_zero Go.wp_at_succ

theorem frL_inj (k l : UInt8) (a b : ByteArray) (ha : a.size ≤ 262144) (hb : b.size ≤ 262144) (h : frL k a = frL l b) : k = l ∧ a = b := by
  have h1 := nextF_frame k a [] ha
  have h2 := nextF_frame l b [] hb
  rw [List.append_nil] at h1 h2
  rw [h, h2] at h1
  have e1 := congrArg (fun x => x.1) h1
  have e2 := congrArg (fun x => x.2.1) h1
  dsimp only at e1 e2
  exact ⟨UInt8.toNat_inj.1 (by omega), e2.symm⟩
theorem lists_ne (a b : ByteArray) (h : a ≠ b) : (a.toList == b.toList) = false ∧ ¬ a.toList = b.toList := by
  have hd : ¬ a.data.toList = b.data.toList := fun e => h (ba_ext _ _ e)
  refine ⟨by rw [beq_lists]; exact decide_eq_false hd, ?_⟩
  rw [ByteArray.toList_eq, ByteArray.toList_eq]
  exact hd
theorem bcell {W w1 : World} (hb : Below W.heap.size W w1) : (∀ b o, b < W.heap.size → w1.cell? ⟨b, o, none⟩ = W.cell? ⟨b, o, none⟩) :=
  fun b o h => hb.cell (p := ⟨b, o, none⟩) h
theorem Frame_of (x : Int) (body : ByteArray) (W : World) (h0 : 0 ≤ x) (h1 : x < 256) (hb : body.size ≤ 262144) (hV : CrcVars W) :
    Calls Tryd.prog 11 #[.int .u8 x, .string body] W fun e w' => e = .returned (.string (mkB (frL (UInt8.ofNat x.toNat) body))) ∧ Below W.heap.size W w' ∧ CrcVars w' :=
  (Frame_any (UInt8.ofNat x.toNat) x (by rw [UInt8.toNat_ofNat']; omega) body W hb hV).mono fun _ _ ⟨a, b⟩ => ⟨a, b, hV.below b⟩
theorem below_drewN {B : Nat} {a w : World} (h : Below B a w) (n : Nat) : Below B a (w.drewN n) := ⟨h.os, h.tape, h.output, h.size, h.block⟩
theorem CrcVars.drew {w : World} (h : CrcVars w) : CrcVars w.drew := h
theorem CrcVars.drewN {w : World} (h : CrcVars w) (n : Nat) : CrcVars (w.drewN n) := h

theorem two_cells (w w1 : World) (A B : Array Value) (T : TypeId) (h : Below ((w.alloc (.cells A T)).alloc (.cells B T)).heap.size ((w.alloc (.cells A T)).alloc (.cells B T)) w1) :
    w1.heap[w.heap.size]? = some (.cells A T (0, 0)) ∧ w1.heap[w.heap.size + 1]? = some (.cells B T (0, 0)) := by
  have hs : ((w.alloc (.cells A T)).alloc (.cells B T)).heap.size = w.heap.size + 2 := by show ((w.heap.push _).push _).size = _; simp
  refine ⟨(h.block _ (by rw [hs]; omega)).trans ?_, (h.block _ (by rw [hs]; omega)).trans ?_⟩
  · show ((w.heap.push _).push _)[w.heap.size]? = _
    rw [Array.getElem?_push, if_neg (by simp)]
    simp
  · show ((w.heap.push _).push _)[w.heap.size + 1]? = _
    rw [Array.getElem?_push, if_pos (by simp)]

set_option maxHeartbeats 2000000 in
set_option maxRecDepth 100000 in
theorem apart_big (a0 a1 b0 b1 c : ByteArray) (w : World) (hV : CrcVars w) (h : 2000 < a0.size ∨ (a0.size ≤ 2000 ∧ 2000 < b0.size) ∨ (a0.size ≤ 2000 ∧ b0.size ≤ 2000 ∧ 2000 < a1.size) ∨ (a0.size ≤ 2000 ∧ b0.size ≤ 2000 ∧ a1.size ≤ 2000 ∧ 2000 < b1.size)) :
    Calls Tryd.prog 7 #[.agg #[.string a0, .string a1], .agg #[.string b0, .string b1], .string c] w fun e w' => e = .returned (.bool true) ∧ Below w.heap.size w w' := by
  have hB0 : Below w.heap.size w ((w.alloc (.cells #[.string a0, .string a1] 41)).alloc (.cells #[.string b0, .string b1] 41)) := ((Below.refl _ _).alloc (Nat.le_refl _) _).alloc (by show _ ≤ (w.heap.push _).size; simp) _
  have HB0 := Lib.hid hB0
  have HV := Lib.hid (hV.below hB0)
  clear hV hB0
  rcases h with h | ⟨h0, h⟩ | ⟨h0, h1, h⟩ | ⟨h0, h1, h2, h⟩
  all_goals
    go_enter Tryd.func7, Tryd.ntmps7
    go_wp2_with fail
    refine (speaks_any _ HV.out).mono ?_
    rintro e w1 ⟨rfl, hw1⟩
    obtain ⟨k1, k2⟩ := two_cells w w1 _ _ _ hw1
    have q0 : w1.cell? ⟨w.heap.size, 0, none⟩ = some (.string a0) := by unfold World.cell?; simp only [k1]; rfl
    have q1 : w1.cell? ⟨w.heap.size, 1, none⟩ = some (.string a1) := by unfold World.cell?; simp only [k1]; rfl
    have q2 : w1.cell? ⟨w.heap.size + 1, 0, none⟩ = some (.string b0) := by unfold World.cell?; simp only [k2]; rfl
    have q3 : w1.cell? ⟨w.heap.size + 1, 1, none⟩ = some (.string b1) := by unfold World.cell?; simp only [k2]; rfl
    have B1 := Lib.hid (HB0.out.trans (hw1.mono HB0.out.size))
    clear hw1 k1 k2
    go_wp2_with fail
    refine wp_loop_rounds 2 ?_
    rw [rounds_succ]; go_wp2_with fail
    try (rw [rounds_succ]; go_wp2_with fail)
    go_ret
    exact ⟨rfl, B1.out⟩

def ApInv (w w1 : World) (a1 b1 : ByteArray) (W : World) : Prop :=
  Below w1.heap.size w1 W ∧ CrcVars W ∧ W.cell? ⟨w.heap.size, 1, none⟩ = some (.string a1) ∧ W.cell? ⟨w.heap.size + 1, 1, none⟩ = some (.string b1) ∧ w.heap.size + 1 < W.heap.size
theorem Frame_inv (w w1 : World) (a1 b1 : ByteArray) (x : Int) (body : ByteArray) (W : World) (h0 : 0 ≤ x) (h1 : x < 256) (hb : body.size ≤ 262144) (hV : ApInv w w1 a1 b1 W) :
    Calls Tryd.prog 11 #[.int .u8 x, .string body] W fun e w' => e = .returned (.string (mkB (frL (UInt8.ofNat x.toNat) body))) ∧ ApInv w w1 a1 b1 w' := by
  obtain ⟨i1, i2, i3, i4, i5⟩ := hV
  exact (Frame_of x body W h0 h1 hb i2).mono fun _ w' ⟨a, b, c⟩ => ⟨a, i1.trans (b.mono i1.size), c, (bcell b _ _ (by omega)).trans i3, (bcell b _ _ i5).trans i4, Nat.lt_of_lt_of_le i5 b.size⟩

set_option maxHeartbeats 2000000 in
set_option maxRecDepth 100000 in
theorem apart_small (a0 a1 b0 b1 c : ByteArray) (w : World) (hV : CrcVars w) (ha0 : a0.size ≤ 2000) (hb0 : b0.size ≤ 2000) (ha1 : a1.size ≤ 2000) (hb1 : b1.size ≤ 2000) (hc : c.size ≤ maxLen) :
    Calls Tryd.prog 7 #[.agg #[.string a0, .string a1], .agg #[.string b0, .string b1], .string c] w fun e w' => e = .returned (.bool true) ∧ Below w.heap.size w w' := by
  unfold maxLen at hc
  have hB0 : Below w.heap.size w ((w.alloc (.cells #[.string a0, .string a1] 41)).alloc (.cells #[.string b0, .string b1] 41)) := ((Below.refl _ _).alloc (Nat.le_refl _) _).alloc (by show _ ≤ (w.heap.push _).size; simp) _
  have HB0 := Lib.hid hB0
  have HV := Lib.hid (hV.below hB0)
  clear hV hB0
  obtain ⟨x, hx⟩ : ∃ x : Int, (a0.size : Int) % 256 = x := ⟨_, rfl⟩
  obtain ⟨y, hy⟩ : ∃ y : Int, (b0.size : Int) % 256 = y := ⟨_, rfl⟩
  have x0 : 0 ≤ x := by omega
  have x1 : x < 256 := by omega
  have y0 : 0 ≤ y := by omega
  have y1 : y < 256 := by omega
  go_enter Tryd.func7, Tryd.ntmps7
  go_wp2_with fail
  refine (speaks_any _ HV.out).mono ?_
  rintro e w1 ⟨rfl, hw1⟩
  obtain ⟨k1, k2⟩ := two_cells w w1 _ _ _ hw1
  have q0 : w1.cell? ⟨w.heap.size, 0, none⟩ = some (.string a0) := by unfold World.cell?; simp only [k1]; rfl
  have q1 : w1.cell? ⟨w.heap.size, 1, none⟩ = some (.string a1) := by unfold World.cell?; simp only [k1]; rfl
  have q2 : w1.cell? ⟨w.heap.size + 1, 0, none⟩ = some (.string b0) := by unfold World.cell?; simp only [k2]; rfl
  have q3 : w1.cell? ⟨w.heap.size + 1, 1, none⟩ = some (.string b1) := by unfold World.cell?; simp only [k2]; rfl
  have B1 := Lib.hid (HB0.out.trans (hw1.mono HB0.out.size))
  have V1 := Lib.hid (HV.out.below hw1)
  have hg1 : w.heap.size + 1 < w1.heap.size := by
    rcases Nat.lt_or_ge (w.heap.size + 1) w1.heap.size with h' | h'
    · exact h'
    · rw [Array.getElem?_eq_none h'] at k2; cases k2
  have hg0 : w.heap.size < w1.heap.size := by omega
  clear hw1 k1 k2
  go_wp2_with fail
  refine wp_loop_rounds 3 ?_
  rw [rounds_succ]; go_wp2_with fail
  rw [rounds_succ]; go_wp2_with fail
  rw [rounds_succ]; go_wp2_with fail
  go_quiet (fail)
  go_wp2_with fail
  obtain ⟨ka, hka⟩ : ∃ k, UInt8.ofNat ((a0.size : Int) % 256).toNat = k := ⟨_, rfl⟩
  obtain ⟨kb, hkb⟩ : ∃ k, UInt8.ofNat ((b0.size : Int) % 256).toNat = k := ⟨_, rfl⟩
  have iq : ApInv w w1 a1 b1 (w1.drewN nq).drew := ⟨(below_drewN (Below.refl _ _) nq).drew, V1.out, q1, q3, hg1⟩
  have HKA := Lib.hid hka; have HKB := Lib.hid hkb
  clear hka hkb hx hy
  go_cut [10, 11] (fun s t wx => s = .string (mkB (frL ka a1)) ∧ t = .string (mkB (frL kb b1)) ∧ ApInv w w1 a1 b1 wx)
  case first =>
    go_region_held3 (fun w' => w'.cell? ⟨w.heap.size, 1, none⟩ = some (.string a1) ∧ w'.cell? ⟨w.heap.size + 1, 1, none⟩ = some (.string b1)) (go_keep)
      ((go_at_call 11; refine (Frame_inv w w1 a1 b1 _ _ _ (by omega) (by omega) (by omega) (by assumption)).mono ?_; rintro e wF ⟨rfl, iF⟩; have cA := iF.2.2.1; have cB := iF.2.2.2.1))
    all_goals
      go_wp2_with fail
      go_meet
      exact ⟨by rw [HKA.out], by rw [HKB.out], by assumption⟩
  case rest =>
    obtain ⟨rfl, rfl, hI⟩ := hcut
    obtain ⟨i1, i2, i3, i4, i5⟩ := hI
    obtain ⟨c', hc'⟩ : ∃ c', c.extract 0 (min (c.size : Int) 500).toNat = c' := ⟨_, rfl⟩
    have hcz : c'.size ≤ 500 := by rw [← hc', ByteArray.size_extract]; omega
    have hnx : nextF (mkB (frL ka a1) ++ c') = ((ka.toNat : Int), a1, ((frL ka a1).length : Int), 0) := by
      have h := nextF_frame ka a1 c'.data.toList (by omega)
      rw [mkB_app, mkB_list] at h
      exact h
    have hinj := frL_inj ka kb a1 b1 (by omega) (by omega)
    have hlf : (mkB (frL ka a1)).size = (frL ka a1).length := mkB_size _
    obtain ⟨F, hF⟩ : ∃ F, mkB (frL ka a1) = F := ⟨_, rfl⟩
    obtain ⟨G, hG⟩ : ∃ G, mkB (frL kb b1) = G := ⟨_, rfl⟩
    have hkav : (ka.toNat : Int) = (a0.size : Int) % 256 := by rw [← HKA.out, UInt8.toNat_ofNat']; omega
    have hkbv : (kb.toNat : Int) = (b0.size : Int) % 256 := by rw [← HKB.out, UInt8.toNat_ofNat']; omega
    have hFz : F.size ≤ 2011 := by
      rw [← hF, mkB_size, frL_len]; have := encL_le a1; omega
    have hFG : F = G ↔ ((a0.size : Int) % 256 = (b0.size : Int) % 256 ∧ a1 = b1) := by
      constructor
      · intro e
        rw [← hF, ← hG] at e
        have e2 := congrArg (fun x : ByteArray => x.data.toList) e
        simp only [mkB_data] at e2
        obtain ⟨h1, h2⟩ := hinj e2
        exact ⟨by rw [← hkav, ← hkbv, h1], h2⟩
      · rintro ⟨h1, h2⟩
        have : ka = kb := UInt8.toNat_inj.1 (by omega)
        rw [← hF, ← hG, this, h2]
    rw [hF] at hnx hlf
    rw [hkav, ← hlf] at hnx
    rw [hF, hG]
    have HNX := Lib.hid hnx; have HFG := Lib.hid hFG; have HB := Lib.hid (B1.out.trans (i1.mono B1.out.size)); have HV2 := Lib.hid i2
    have hmz : (F ++ c').size ≤ maxLen := by rw [ByteArray.size_append]; unfold maxLen; omega
    have HMZ := Lib.hid hmz
    have n1 : ¬ 9223372036854775807 < F.size + c'.size := by omega
    clear hnx hFG hinj hF hG hkav hkbv hlf i1 i2 i5 hmz
    go_wp2_with fail
    refine (FNext_vars (F ++ c') a1 _ _ _ wc HMZ.out HV2.out HNX.out).mono ?_
    rintro e w5 ⟨rfl, h5⟩
    have hcell := bcell h5
    have HE := Lib.hid (HB.out.trans (h5.mono HB.out.size))
    have i6 : w.heap.size + 1 < wc.heap.size := by
      rcases Nat.lt_or_ge (w.heap.size + 1) wc.heap.size with h' | h'
      · exact h'
      · unfold World.cell? at i4; rw [Array.getElem?_eq_none h'] at i4; cases i4
    have r3 : w5.cell? ⟨w.heap.size, 1, none⟩ = some (.string a1) := (hcell _ _ (by omega)).trans i3
    have r4 : w5.cell? ⟨w.heap.size + 1, 1, none⟩ = some (.string b1) := (hcell _ _ i6).trans i4
    clear hcell h5 i3 i4 q0 q1 q2 q3
    by_cases hk : (a0.size : Int) % 256 = (b0.size : Int) % 256
    · by_cases hab : a1 = b1
      · subst hab
        have hFG2 : F = G := HFG.out.2 ⟨hk, rfl⟩
        subst hFG2
        go_wp2_with fail
        go_ret
        exact ⟨rfl, HE.out⟩
      · have z1 : (a1.toList == b1.toList) = false := (lists_ne a1 b1 hab).1
        have z2 := (lists_ne a1 b1 hab).2
        have hne : F ≠ G := fun e => hab (HFG.out.1 e).2
        have z3 : (F.toList == G.toList) = false := (lists_ne F G hne).1
        have z4 := (lists_ne F G hne).2
        clear hne hab
        go_wp2_with fail
        go_ret
        exact ⟨rfl, HE.out⟩
    · have hne : F ≠ G := fun e => hk (HFG.out.1 e).1
      have z3 : (F.toList == G.toList) = false := (lists_ne F G hne).1
      have z4 := (lists_ne F G hne).2
      clear hne
      go_wp2_with fail
      go_ret
      exact ⟨rfl, HE.out⟩

theorem CrcApart_any (a0 a1 b0 b1 c : ByteArray) (w : World) (hV : CrcVars w) (hc : c.size ≤ maxLen) :
    Calls Tryd.prog 7 #[.agg #[.string a0, .string a1], .agg #[.string b0, .string b1], .string c] w fun e w' => e = .returned (.bool true) ∧ Below w.heap.size w w' := by
  by_cases h0 : 2000 < a0.size
  · exact apart_big a0 a1 b0 b1 c w hV (Or.inl h0)
  by_cases h1 : 2000 < b0.size
  · exact apart_big a0 a1 b0 b1 c w hV (Or.inr (Or.inl ⟨by omega, h1⟩))
  by_cases h2 : 2000 < a1.size
  · exact apart_big a0 a1 b0 b1 c w hV (Or.inr (Or.inr (Or.inl ⟨by omega, by omega, h2⟩)))
  by_cases h3 : 2000 < b1.size
  · exact apart_big a0 a1 b0 b1 c w hV (Or.inr (Or.inr (Or.inr ⟨by omega, by omega, by omega, h3⟩)))
  · exact apart_small a0 a1 b0 b1 c w hV (by omega) (by omega) (by omega) (by omega) hc
end Go.Proofs.YtodmomhilpheiabDoor
