/- Wal: Open. -/
import Derived.Test.YtbpaiiljhdohfaaDoorWj
namespace Go.Proofs.YtbpaiiljhdohfaaDoor
open Go.RowKit
variable {B n g gd gc cd cc l f m t : Nat} {vw vk : Value} {S : DS} {w : World}

/-- May there be such a log? -/
def Fits (n : Nat) (fI zI : Int) : Prop := 0 ≤ fI ∧ 2 ≤ zI ∧ zI ≤ 65 ∧ fI ≤ n - zI
theorem open_bad (hI : IsD B n g gd gc cd cc vw vk S w) (hn : n ≤ 4096) (fI zI : Int) (h : ¬ Fits n fI zI) :
    Calls Tryd.prog 7 #[.pointer (some ⟨g, 0, none⟩), .int .i64 fI, .int .i64 zI] w fun e w' => e = .returned (.tuple #[.pointer none, .int .i64 0, .int .i64 1]) ∧ w' = w := by
  have hni : (n : Int) ≤ 4096 := by omega
  have hD := Lib.hid (Size_any g _ _ _ _ _ _ _ _ _ w hI.d)
  have hcs : fI < 0 ∨ (0 ≤ fI ∧ zI < 2) ∨ (0 ≤ fI ∧ 2 ≤ zI ∧ 65 < zI) ∨ (0 ≤ fI ∧ 2 ≤ zI ∧ zI ≤ 65 ∧ (n : Int) - zI < fI) := by
    unfold Fits at h; omega
  clear h hI
  rcases hcs with a1 | ⟨a1, a2⟩ | ⟨a1, a2, a3⟩ | ⟨a1, a2, a3, a4⟩
  all_goals
    first | have hd1 : decide (fI < 0) = true := decide_eq_true (by omega) | have hd1 : decide (fI < 0) = false := decide_eq_false (by omega)
    first | have hd2 : decide (zI < 2) = true := decide_eq_true (by omega) | have hd2 : decide (zI < 2) = false := decide_eq_false (by omega) | skip
    first | have hd3 : decide (65 < zI) = true := decide_eq_true (by omega) | have hd3 : decide (65 < zI) = false := decide_eq_false (by omega) | skip
    try have hw : IntKind.i64.wrap ((n : Int) - zI) = (n : Int) - zI := IntWalk.i64_in _ (by omega)
    go_enter Tryd.func7, Tryd.ntmps7
    go_wp2_with (go_at_call 24; refine hD.out.mono ?_; rintro e w' ⟨rfl, rfl⟩)
    go_ret3
    exact ⟨rfl, rfl⟩
/-- What an opening leaves. -/
def Opened (B n g gd gc cd cc : Nat) (vw : Value) (f m : Nat) (r : (Int × Int) × DS) (w : World) (e : Ending) (w' : World) : Prop :=
  (∃ l, e = .returned (.tuple #[if r.1.2 = 0 then .pointer (some ⟨l, 0, none⟩) else .pointer none, .int .i64 r.1.1, .int .i64 r.1.2]) ∧ (r.1.2 = 0 → LogAt l g f m w' ∧ w.heap.size ≤ l)) ∧
    ∃ vw' vk', IsD B n g gd gc cd cc vw' vk' r.2 w' ∧ (∀ y, vw'.ownBlock = some y → vw.ownBlock = some y ∨ w.heap.size ≤ y) ∧ FrD B g gd gc vw w w'
theorem found_takes {X : List (Nat × ByteArray)} (h : foundS n f m S = X) (hx : X ≠ []) : Takes n f m (intC X) := by
  subst h
  unfold foundS at hx ⊢
  split
  · rename_i h; exact h.2.2
  · rename_i h; exact absurd (if_neg h) hx
theorem takes_nat {X : List (Nat × ByteArray)} (h : Takes n f m (intC X)) : X.length ≤ m ∧ ∀ c ∈ X, c.1 < n ∧ c.2.size ≤ 512 := by
  refine ⟨by have := h.2.1; rw [intC_length] at this; exact this, fun c hc => ?_⟩
  obtain ⟨h1, h2, _, h4⟩ := h.2.2 ((c.1 : Int), c.2) (List.mem_map.2 ⟨c, hc, rfl⟩)
  exact ⟨by simp only at h2; omega, h4⟩
set_option maxHeartbeats 4000000 in
set_option maxRecDepth 100000 in
theorem open_good (hI : IsD B n g gd gc cd cc vw vk S w) (hf : f + 1 + m ≤ n) (hn : n ≤ 4096) (hm1 : 1 ≤ m) (hm64 : m ≤ 64) (hz : Sz S) (bd : Bd t S) (hV : CrcVars w) (ht : t + 140 ≤ 10000000) (fI zI : Int) (hfI : fI = f) (hzI : zI = (m : Int) + 1) :
    Calls Tryd.prog 7 #[.pointer (some ⟨g, 0, none⟩), .int .i64 fI, .int .i64 zI] w (Opened B n g gd gc cd cc vw f m (openS n f m S) w) := by
  have hni : (n : Int) ≤ 4096 := by omega
  have hD := Lib.hid (Size_any g _ _ _ _ _ _ _ _ _ w hI.d)
  have hd1 : decide (fI < 0) = false := decide_eq_false (by omega)
  have hd2 : decide (zI < 2) = false := decide_eq_false (by omega)
  have hd3 : decide (65 < zI) = false := decide_eq_false (by omega)
  have hw : IntKind.i64.wrap ((n : Int) - zI) = (n : Int) - zI := IntWalk.i64_in _ (by omega)
  have hw1 : IntKind.i64.wrap (zI - 1) = (m : Int) := by rw [IntWalk.i64_in _ (by omega)]; omega
  have hd4 : ¬ (n : Int) - zI < fI := by omega
  obtain ⟨W1, hW1⟩ : ∃ W1, w.alloc (.cells #[.pointer (some ⟨g, 0, none⟩), .int .i64 f, .int .i64 m] 77) = W1 := ⟨_, rfl⟩
  have hB1 : Below w.heap.size w W1 := hW1 ▸ (Below.refl _ _).alloc (Nat.le_refl _) _
  have hL1 : LogAt w.heap.size g f m W1 := by rw [← hW1]; exact heap_alloc_new w _
  have HB1 := Lib.hid hB1; have HL1 := Lib.hid hL1; have HI := Lib.hid hI
  have hI1 := hI.below hB1
  have HI1 := Lib.hid hI1; have HBD := Lib.hid bd
  have HDS : Hid (Calls Tryd.prog 25 #[.pointer (some ⟨w.heap.size, 0, none⟩)] W1 (Described n f m S W1)) := Lib.hid (by
    cases ho : S.off
    · exact described_on hL1 hI1 hf hn hm64 hz (hV.below hB1) ho
    · exact described_off hL1 hI1 (by omega) ho)
  clear hB1 hL1 hI hI1 bd hz hV
  subst hfI
  go_enter Tryd.func7, Tryd.ntmps7
  go_wp2_with (first | (go_at_call 24; refine hD.out.mono ?_; rintro e w' ⟨rfl, hw'⟩; subst w') | (go_at_call 25; refine HDS.out.mono ?_))
  rintro e w2 ⟨v, rfl, hrow, hb2⟩
  have hI2 := HI1.out.below hb2
  have hL2 := HL1.out.below hb2
  have HF2 : Hid (FrD B g gd gc vw w w2) := Lib.hid (FrD.of_below HI.out.b1 (Nat.le_of_lt HI.out.d.lt) (HB1.out.trans (hb2.mono HB1.out.size)))
  obtain ⟨ox, cx, hv, hxm, _⟩ := hrow.opened
  rw [intC_length] at hv hxm
  have HI2 := Lib.hid hI2; have HL2 := Lib.hid hL2; have HROW := Lib.hid hrow
  have HSZ : Hid (w.heap.size ≤ w2.heap.size) := Lib.hid (Nat.le_trans HB1.out.size hb2.size)
  clear hrow hb2 hI2 hL2 hW1
  cases ho : S.off
  · rw [if_neg (by rw [ho]; decide)] at hv hxm
    have HRX := HROW.out
    rw [if_neg (by rw [ho]; decide)] at HRX
    rw [if_neg (show ¬ (false = true) by decide)]
    obtain ⟨X, hX⟩ : ∃ X, foundS n f m S = X := ⟨_, rfl⟩
    rw [hX] at hv HRX hxm
    obtain ⟨k, hk⟩ : ∃ k, X.length = k := ⟨_, rfl⟩
    rw [hk] at hv hxm
    subst hv
    have HX := Lib.hid hX; have HRX := Lib.hid HRX; have HK := Lib.hid hk; have HO := Lib.hid ho
    clear hX ho hk hxm
    by_cases h0 : k = 0
    · have hk0 : (k : Int) = 0 := by omega
      have hend : Hid (Opened B n g gd gc cd cc vw f m (openS n f m S) w (.returned (.tuple #[.pointer (some ⟨w.heap.size, 0, none⟩), .int .i64 0, .int .i64 0])) w2) := Lib.hid (by
        have e : openS n f m S = ((0, 0), S) := by
          unfold openS
          rw [if_neg (by rw [HO.out]; decide), HX.out, if_pos (List.length_eq_zero_iff.1 (HK.out.trans h0))]
        rw [e]
        exact ⟨⟨w.heap.size, rfl, fun _ => ⟨HL2.out, Nat.le_refl _⟩⟩, _, _, HI2.out, fun _ h => .inl h, HF2.out⟩)
      subst h0
      go_wp2_with fail
      go_ret3
      exact hend.out
    · have hkp : (0 : Int) < k := by omega
      have hT := found_takes HX.out (by intro e; have := HK.out; rw [e] at this; exact h0 this.symm)
      obtain ⟨t1, t2⟩ := takes_nat hT
      have hap := apply_any HL2.out HI2.out (by omega) hn HBD.out _ X HRX.out t2 (by omega)
      have HAP := Lib.hid hap
      have HE : Hid (openS n f m S = if (applyS f X S).1 = 0 then (((k : Int), 0), (applyS f X S).2) else ((0, 7), (applyS f X S).2)) := Lib.hid (by
        unfold openS
        rw [if_neg (by rw [HO.out]; decide), HX.out, if_neg (by intro e; have := HK.out; rw [e] at this; exact h0 this.symm), HK.out])
      clear hT t1 t2 hap
      go_wp2_with (go_at_call 26; refine HAP.out.mono ?_)
      rintro e w3 ⟨rfl, va, ka, h3, hv3, f3⟩
      have hL3 := HL2.out.disk HI2.out f3
      have hva : ∀ y, va.ownBlock = some y → vw.ownBlock = some y ∨ w.heap.size ≤ y := fun y hy => by
        rcases hv3 y hy with h | h
        · exact .inl h
        · exact .inr (Nat.le_trans HSZ.out h)
      have HL3 := Lib.hid hL3; have HI3 := Lib.hid h3; have HVA := Lib.hid hva; have HF3 := Lib.hid (HF2.out.trans f3 (fun _ h => .inl h))
      clear hL3 h3 hva f3 hv3 HAP
      rcases applyS_err f X S with he | he
      · have hend : Hid (Opened B n g gd gc cd cc vw f m (openS n f m S) w (.returned (.tuple #[.pointer (some ⟨w.heap.size, 0, none⟩), .int .i64 k, .int .i64 0])) w3) := Lib.hid (by
          rw [HE.out, if_pos he]
          exact ⟨⟨w.heap.size, rfl, fun _ => ⟨HL3.out, Nat.le_refl _⟩⟩, _, _, HI3.out, HVA.out, HF3.out⟩)
        rw [he]
        go_wp2_with fail
        go_ret3
        exact hend.out
      · have hend : Hid (Opened B n g gd gc cd cc vw f m (openS n f m S) w (.returned (.tuple #[.pointer none, .int .i64 0, .int .i64 7])) w3) := Lib.hid (by
          rw [HE.out, if_neg (by rw [he]; decide)]
          exact ⟨⟨0, rfl, fun h => absurd h (show ¬ ((7 : Int) = 0) by decide)⟩, _, _, HI3.out, HVA.out, HF3.out⟩)
        rw [he]
        go_wp2_with fail
        go_ret3
        exact hend.out
  · rw [if_pos ho] at hv
    rw [if_pos rfl]
    have hend : Hid (Opened B n g gd gc cd cc vw f m (openS n f m S) w (.returned (.tuple #[.pointer none, .int .i64 0, .int .i64 7])) w2) := Lib.hid (by
      have e : openS n f m S = ((0, 7), S) := by unfold openS; rw [if_pos ho]
      rw [e]
      exact ⟨⟨0, rfl, fun h => absurd h (show ¬ ((7 : Int) = 0) by decide)⟩, _, _, HI2.out, fun _ h => .inl h, HF2.out⟩)
    have hv0 : v = .slice ox 0 cx := hv
    subst hv0
    clear hv ho hxm
    go_wp2_with fail
    go_ret3
    exact hend.out
end Go.Proofs.YtbpaiiljhdohfaaDoor
