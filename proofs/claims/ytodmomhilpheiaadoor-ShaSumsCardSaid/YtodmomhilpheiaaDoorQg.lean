/- Parse. -/
import Derived.Test.YtodmomhilpheiaaDoorQf
namespace Go.Proofs.YtodmomhilpheiaaDoor
open Go.RowKit

def parF (s : ByteArray) (i : Nat) : Int := digV (atI s (2 * i)) * 16 + digV (atI s (2 * i + 1))
def parT (s : ByteArray) (t i : Nat) : Int := if i < t then parF s i else 0
theorem parT_step (s : ByteArray) (t : Nat) (v : Int) (hv : v = parF s t) : (fun i => if i = t then v else parT s t i) = parT s (t + 1) := by
  funext i
  unfold parT
  by_cases h : i = t
  · subst h; rw [if_pos rfl, if_pos (by omega), hv]
  · rw [if_neg h]
    by_cases h2 : i < t
    · rw [if_pos h2, if_pos (by omega)]
    · rw [if_neg h2, if_neg (by omega)]
theorem digV_rng (c : Int) : -1 ≤ digV c ∧ digV c < 16 := by unfold digV; split <;> (try split) <;> omega
theorem or16 (p q : Int) (h0 : 0 ≤ p) (h1 : p < 16) (q0 : 0 ≤ q) (q1 : q < 16) : bits .or .i64 (p * 16) q % 256 = p * 16 + q := by
  have t : ∀ a b : Fin 16, bits .or .i64 ((a.val : Int) * 16) (b.val : Int) % 256 = (a.val : Int) * 16 + (b.val : Int) := by decide +kernel
  have := t ⟨p.toNat, by omega⟩ ⟨q.toNat, by omega⟩
  simpa [show ((p.toNat : Nat) : Int) = p by omega, show ((q.toNat : Nat) : Int) = q by omega] using this
/-- Each of 64 is a digit. -/
def Digits (s : ByteArray) : Prop := ∀ i, i < 64 → 0 ≤ digV (atI s i)
def ParSlot (s : ByteArray) (w : World) (i : Value) (wr : World) : Prop :=
  ∃ k : Nat, k ≤ 32 ∧ i = .int .i64 k ∧ (∀ i, i < 2 * k → 0 ≤ digV (atI s i)) ∧ Row8 48 (w.heap.size) 32 (parT s k) wr ∧ Below w.heap.size w wr ∧ w.heap.size ≤ wr.heap.size

set_option maxHeartbeats 1000000 in
set_option maxRecDepth 100000 in
theorem Parse_not (s : ByteArray) (w : World) (hs : s.size ≠ 64) :
    Calls Tryd.prog 15 #[.string s] w fun e w' => e = .returned (.tuple #[.string ByteArray.empty, .bool false]) ∧ Below w.heap.size w w' := by
  have hne : ((s.size : Int) == 64) = false := by rw [beq_eq_false_iff_ne]; omega
  clear hs
  go_enter Tryd.func15, Tryd.ntmps15
  go_wp2_with fail
  go_ret2
  exact ⟨rfl, Below.refl _ _⟩

def parR (s : ByteArray) (e : Ending) : Prop := (Digits s → e = .returned (.tuple #[.string (strOfNums ((List.range 32).map (parF s))), .bool true])) ∧ (¬ Digits s → e = .returned (.tuple #[.string ByteArray.empty, .bool false]))

set_option maxHeartbeats 1000000 in
set_option maxRecDepth 100000 in
theorem Parse_any (s : ByteArray) (w : World) (hs : s.size = 64) :
    Calls Tryd.prog 15 #[.string s] w fun e w' => parR s e ∧ Below w.heap.size w w' := by
  have hne : ((s.size : Int) == 64) = true := by rw [hs]; rfl
  go_enter Tryd.func15, Tryd.ntmps15
  go_wp2_with fail
  go_loopw [11] (fun i wr => ParSlot s w i wr) (fun i _ => 32 - (intOf i).toNat)
  case atStart =>
    refine ⟨0, by omega, rfl, fun i hi => absurd hi (by omega), ?_, (Below.refl _ _).alloc (Nat.le_refl _) _, by show w.heap.size ≤ (w.heap.push _).size; simp⟩
    unfold Row8; rw [heap_one]; rfl
  case round =>
    obtain ⟨k, hk, rfl, hD, hRow, hB, hz⟩ := hrel
    have HRow := Lib.hid hRow; have HB := Lib.hid hB; have HD := Lib.hid hD
    clear hRow hB hD
    by_cases hlt : k < 32
    · have hi1 := idx_at s (2 * k) (by omega)
      have hi2 := idx_at s (2 * k + 1) (by omega)
      have hx := atI_rng s (2 * k)
      have hy := atI_rng s (2 * k + 1)
      obtain ⟨x, hxe⟩ : ∃ x, atI s (2 * k) = x := ⟨_, rfl⟩
      obtain ⟨y, hye⟩ : ∃ y, atI s (2 * k + 1) = y := ⟨_, rfl⟩
      rw [hxe] at hi1 hx
      rw [hye] at hi2 hy
      have D1 := fun W => (digit_any x W hx.1 hx.2).mono fun _ _ h => And.intro h.1 h.2.symm
      have D2 := fun W => (digit_any y W hy.1 hy.2).mono fun _ _ h => And.intro h.1 h.2.symm
      have hp := digV_rng x
      have hq := digV_rng y
      obtain ⟨p, hpe⟩ : ∃ p, digV x = p := ⟨_, rfl⟩
      obtain ⟨q, hqe⟩ : ∃ q, digV y = q := ⟨_, rfl⟩
      rw [hpe] at D1 hp
      rw [hqe] at D2 hq
      have HX := Lib.hid hxe
      have HY := Lib.hid hye
      have HP := Lib.hid hpe
      have HQ := Lib.hid hqe
      clear hxe hye hpe hqe
      push_cast at hi1 hi2
      obtain ⟨hx0, hx1⟩ := hx
      obtain ⟨hy0, hy1⟩ := hy
      obtain ⟨hp0, hp1⟩ := hp
      obtain ⟨hq0, hq1⟩ := hq
      have c0 := HRow.out.cell k (by omega)
      have z0 := HRow.out.free k
      have k8 : (k : Int) < 32 := by omega
      have m0 : IntKind.i64.wrap (2 * (k : Int)) = 2 * (k : Int) := IntWalk.i64_in _ (by omega)
      have m1 : IntKind.i64.wrap (2 * (k : Int) + 1) = 2 * (k : Int) + 1 := IntWalk.i64_in _ (by omega)
      have HHP := Lib.hid (show p < 0 ∨ 0 ≤ p by omega); have HHQ := Lib.hid (show q < 0 ∨ 0 ≤ q by omega)
      go_wp2_with fail
      refine wp_region_still_tail 11 (by kernel_rfl) (by kernel_rfl) ?_
      change wpStill _ _ (World.drew _) _ _ _
      simp only [List.take_succ_cons, List.take_zero, List.drop_succ_cons, List.drop_zero]
      repeat still_step
      still_call (D1 _)
      repeat still_step
      still_call (D2 _)
      repeat still_step
      try refine wpStill_nil ?_
      change wpList _ _ _ _ _ (World.drew _)
      go_wp2_with fail
      · go_ret2
        exact ⟨⟨fun h => absurd h fun h => by
          have h1 := h (2 * k) (by omega); have h2 := h (2 * k + 1) (by omega)
          rw [HX.out, HP.out] at h1; rw [HY.out, HQ.out] at h2; omega, fun _ => rfl⟩, HB.out.drew⟩
      · have hv := or16 p q (by omega) hp1 (by omega) hq1
        rw [hv]
        refine ⟨⟨k + 1, by omega, by rw [Int.natCast_succ], fun i hi => ?_, ?_, (HB.out.setCell (p := ⟨w.heap.size, k, none⟩) (Nat.le_refl _) _).drew, ?_⟩, by simp [intOf]; omega⟩
        · by_cases h1 : i < 2 * k
          · exact HD.out i h1
          · rcases (show i = 2 * k ∨ i = 2 * k + 1 by omega) with rfl | rfl
            · rw [HX.out, HP.out]; omega
            · rw [HY.out, HQ.out]; omega
        · have r := HRow.out.set k (by omega) (p * 16 + q)
          rw [parT_step s k _ (by unfold parF; rw [HX.out, HY.out, HP.out, HQ.out])] at r
          exact r
        · simpa [World.setCell, World.drew] using hz
      · go_ret2
        exact ⟨⟨fun h => absurd h fun h => by
          have h1 := h (2 * k) (by omega)
          rw [HX.out, HP.out] at h1; omega, fun _ => rfl⟩, HB.out.drew⟩
    · obtain rfl : k = 32 := by omega
      have hc := run_convert_bytes_arg (P := Tryd.prog) wr 44 5 Tryd.underlying44 Tryd.underlying5 (w.heap.size) 0 32 32 ((List.range 32).map (parF s)) (by simp) (fun i hi => by
        rw [Nat.zero_add, HRow.out.cell i hi]
        simp [parT, hi]) 9 Tryd.underlying9
      go_wp2_with fail
      go_ret2
      exact ⟨⟨fun _ => rfl, fun h => absurd HD.out h⟩, HB.out⟩
end Go.Proofs.YtodmomhilpheiaaDoor
