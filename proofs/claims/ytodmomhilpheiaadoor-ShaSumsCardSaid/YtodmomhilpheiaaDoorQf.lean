/- Hex, digit, Parse: digits of a digest. -/
import Derived.Test.YtodmomhilpheiaaDoorQe
namespace Go.Proofs.YtodmomhilpheiaaDoor
open Go.RowKit

/-- Byte i of a text. -/
def atI (s : ByteArray) (i : Nat) : Int := ((s.data[i]?.getD 0).toNat : Int)
theorem atI_rng (s : ByteArray) (i : Nat) : 0 ≤ atI s i ∧ atI s i < 256 := by
  unfold atI
  have := (s.data[i]?.getD 0).toNat_lt
  omega
/-- A digit of sixteen. -/
def digF (d : Int) : Int := if d < 10 then 48 + d else 87 + d
def hexF (g : Nat → Int) (i : Nat) : Int := digF (if i % 2 = 0 then g (i / 2) / 16 else g (i / 2) % 16)
theorem hex_0 (g : Nat → Int) (k : Nat) : hexF g (2 * k) = digF (g k / 16) := by unfold hexF; rw [if_pos (by omega), show 2 * k / 2 = k by omega]
theorem hex_1 (g : Nat → Int) (k : Nat) : hexF g (2 * k + 1) = digF (g k % 16) := by unfold hexF; rw [if_neg (by omega), show (2 * k + 1) / 2 = k by omega]
theorem heap_one (w : World) (o : Obj) : (w.alloc o).heap[w.heap.size]? = some o := heap_alloc_last w o
def hexT (g : Nat → Int) (t i : Nat) : Int := if i < t then hexF g i else 0
theorem hexT_step (g : Nat → Int) (t : Nat) (v : Int) (hv : v = hexF g t) : (fun i => if i = t then v else hexT g t i) = hexT g (t + 1) := by
  funext i
  unfold hexT
  by_cases h : i = t
  · subst h; rw [if_pos rfl, if_pos (by omega), hv]
  · rw [if_neg h]
    by_cases h2 : i < t
    · rw [if_pos h2, if_pos (by omega)]
    · rw [if_neg h2, if_neg (by omega)]

/-- What a digit stands for. -/
def digV (c : Int) : Int := if 48 ≤ c ∧ c ≤ 57 then c - 48 else if 97 ≤ c ∧ c ≤ 102 then c - 87 else -1

theorem retI {v u : Int} (h : v = u) : Ending.returned (.int .i64 v) = .returned (.int .i64 u) := by rw [h]

def HexSlot (s : ByteArray) (w : World) (i : Value) (wr : World) : Prop :=
  ∃ k : Nat, k ≤ 32 ∧ i = .int .i64 k ∧ Row8 27 (w.heap.size) 64 (hexT (atI s) (2 * k)) wr ∧ Below w.heap.size w wr ∧ w.heap.size ≤ wr.heap.size

theorem idx_at (s : ByteArray) (k : Nat) (hk : k < s.size) (W : World) : (Instr.index 9 (.string s) (.int .i64 k)).run Tryd.prog W = .ok (.int .u8 (atI s k)) W := by
  rw [run_index_string W _ _ _ _ Tryd.underlying9, dif_pos ⟨by omega, by omega⟩]
  have h' : k < s.data.size := hk
  unfold atI
  rw [Array.getElem?_eq_getElem h']
  rfl
def tabS : ByteArray := ⟨#[48, 49, 50, 51, 52, 53, 54, 55, 56, 57, 97, 98, 99, 100, 101, 102]⟩
theorem tab_at (d : Int) (h0 : 0 ≤ d) (h1 : d < 16) (W : World) : (Instr.index 9 (.string tabS) (.int .u8 d)).run Tryd.prog W = .ok (.int .u8 (digF d)) W := by
  rcases (show d = 0 ∨ d = 1 ∨ d = 2 ∨ d = 3 ∨ d = 4 ∨ d = 5 ∨ d = 6 ∨ d = 7 ∨ d = 8 ∨ d = 9 ∨ d = 10 ∨ d = 11 ∨ d = 12 ∨ d = 13 ∨ d = 14 ∨ d = 15 by omega) with rfl | rfl | rfl | rfl | rfl | rfl | rfl | rfl | rfl | rfl | rfl | rfl | rfl | rfl | rfl | rfl <;> exact (run_index_string W _ _ _ _ Tryd.underlying9).trans (by rfl)
theorem and15 (x : Int) (h0 : 0 ≤ x) (h1 : x < 256) : bits .and .u8 x 15 = x % 16 := by
  have t : ∀ b : Fin 256, bits .and .u8 (b.val : Int) 15 = (b.val : Int) % 16 := by decide +kernel
  have := t ⟨x.toNat, by omega⟩
  simpa [show ((x.toNat : Nat) : Int) = x by omega] using this

set_option maxHeartbeats 1000000 in
set_option maxRecDepth 100000 in
theorem Hex_not (s : ByteArray) (w : World) (hs : s.size ≠ 32) :
    Calls Tryd.prog 13 #[.string s] w fun e w' => e = .returned (.string ByteArray.empty) ∧ Below w.heap.size w w' := by
  have hne : ((s.size : Int) == 32) = false := by rw [beq_eq_false_iff_ne]; omega
  clear hs
  go_enter Tryd.func13, Tryd.ntmps13
  go_wp2_with fail
  go_ret
  exact ⟨rfl, Below.refl _ _⟩

set_option maxHeartbeats 1000000 in
set_option maxRecDepth 100000 in
theorem Hex_any (s : ByteArray) (w : World) (hs : s.size = 32) :
    Calls Tryd.prog 13 #[.string s] w fun e w' => e = .returned (.string (strOfNums ((List.range 64).map (hexF (atI s))))) ∧ Below w.heap.size w w' := by
  have hne : ((s.size : Int) == 32) = true := by rw [hs]; rfl
  go_enter Tryd.func13, Tryd.ntmps13
  go_wp2_with fail
  go_loopw [8] (fun i wr => HexSlot s w i wr) (fun i _ => 32 - (intOf i).toNat)
  case atStart =>
    refine ⟨0, by omega, rfl, ?_, (Below.refl _ _).alloc (Nat.le_refl _) _, by show w.heap.size ≤ (w.heap.push _).size; simp⟩
    unfold Row8; rw [heap_one]; rfl
  case round =>
    obtain ⟨k, hk, rfl, hRow, hB, hz⟩ := hrel
    have HRow := Lib.hid hRow; have HB := Lib.hid hB
    clear hRow hB
    by_cases hlt : k < 32
    · have hix := idx_at s k (by omega)
      have hx := atI_rng s k
      obtain ⟨x, hxe⟩ : ∃ x, atI s k = x := ⟨_, rfl⟩
      rw [hxe] at hix hx
      obtain ⟨hx0, hx1⟩ := hx
      have T1 := tab_at (x / 16) (by omega) (by omega)
      have T2 := tab_at (x % 16) (by omega) (by omega)
      have ha := and15 x hx0 hx1
      unfold tabS at T1 T2
      have c0 := HRow.out.cell (2 * k) (by omega); have c1 := HRow.out.cell (2 * k + 1) (by omega)
      have z0 := HRow.out.free (2 * k); have z1 := HRow.out.free (2 * k + 1)
      have HX := Lib.hid hxe
      clear hxe
      have k8 : (k : Int) < 32 := by omega
      have g0 : 0 ≤ 2 * (k : Int) := by omega
      have g1 : 0 ≤ 2 * (k : Int) + 1 := by omega
      have l0 : 2 * (k : Int) < 64 := by omega
      have l1 : 2 * (k : Int) + 1 < 64 := by omega
      have t0 : (2 * (k : Int)).toNat = 2 * k := by omega
      have t1 : (2 * (k : Int) + 1).toNat = 2 * k + 1 := by omega
      go_wp2_with fail
      refine ⟨⟨k + 1, by omega, by rw [Int.natCast_succ], ?_, (HB.out.setCell (p := ⟨w.heap.size, 2 * k, none⟩) (Nat.le_refl _) _).setCell (p := ⟨w.heap.size, 2 * k + 1, none⟩) (Nat.le_refl _) _, ?_⟩, by simp [intOf]; omega⟩
      · have hx' : atI s k = x := HX.out
        have q := HRow.out.set (2 * k) (by omega) (digF (x / 16))
        rw [hexT_step (atI s) (2 * k) _ (by rw [hex_0, hx'])] at q
        have q := q.set (2 * k + 1) (by omega) (digF (x % 16))
        rw [hexT_step (atI s) (2 * k + 1) _ (by rw [hex_1, hx'])] at q
        exact q
      · simpa [World.setCell] using hz
    · obtain rfl : k = 32 := by omega
      have hc := run_convert_bytes_arg (P := Tryd.prog) wr 44 5 Tryd.underlying44 Tryd.underlying5 (w.heap.size) 0 64 64 ((List.range 64).map (hexF (atI s))) (by simp) (fun i hi => by
        rw [Nat.zero_add, HRow.out.cell i hi]
        simp [hexT, show i < 2 * 32 by omega, hi]) 9 Tryd.underlying9
      go_wp2_with fail
      go_ret
      exact ⟨rfl, HB.out⟩

set_option maxHeartbeats 1000000 in
set_option maxRecDepth 100000 in
theorem digit_any (c : Int) (w : World) (h0 : 0 ≤ c) (h1 : c < 256) :
    Calls Tryd.prog 22 #[.int .u8 c] w fun e w' => e = .returned (.int .i64 (digV c)) ∧ w = w' := by
  go_enter Tryd.func22, Tryd.ntmps22
  go_wp2_with fail
  all_goals go_ret
  · exact ⟨retI (by unfold digV; rw [if_pos (by omega)]), rfl⟩
  · exact ⟨retI (by unfold digV; rw [if_neg (by omega), if_pos (by omega)]; omega), rfl⟩
  · exact ⟨retI (by unfold digV; rw [if_neg (by omega), if_neg (by omega)]), rfl⟩
  · exact ⟨retI (by unfold digV; rw [if_neg (by omega), if_neg (by omega)]), rfl⟩
  · exact ⟨retI (by unfold digV; rw [if_neg (by omega), if_neg (by omega)]), rfl⟩
end Go.Proofs.YtodmomhilpheiaaDoor
