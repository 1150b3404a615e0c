/- bigEndian: the bytes of eight numbers, the highest of each first, for all numbers of 32 bits. -/
import Derived.Test.YtodmomhilpheiaaDoorQd
import Derived.Laws.BytesArg
namespace Go.Proofs.YtodmomhilpheiaaDoor
open Go.RowKit

def u8s (f : Nat → Int) (n : Nat) : Array Value := ((List.range n).map fun i => Value.int .u8 (f i)).toArray
theorem u8s_size (f : Nat → Int) (n : Nat) : (u8s f n).size = n := by simp [u8s]
theorem u8s_get (f : Nat → Int) (n i : Nat) (h : i < n) : (u8s f n)[i]? = some (.int .u8 (f i)) := by simp [u8s, h]
theorem u8s_set (F : Nat → Int) (n k : Nat) (v : Int) (h : k < n) : (u8s F n).setIfInBounds k (.int .u8 v) = u8s (fun j => if j = k then v else F j) n := by
  apply Array.ext_getElem?
  intro j
  rw [Array.getElem?_setIfInBounds]
  by_cases hj : j < n
  · by_cases e : k = j
    · subst e; rw [if_pos rfl, if_pos (by rw [u8s_size]; omega), u8s_get _ _ _ hj, if_pos rfl]
    · rw [if_neg e, u8s_get _ _ _ hj, u8s_get _ _ _ hj, if_neg (fun h => e h.symm)]
  · rw [if_neg (by omega), Array.getElem?_eq_none (by rw [u8s_size]; omega), Array.getElem?_eq_none (by rw [u8s_size]; omega)]
/-- A row of n bytes, of type T, in block g. -/
def Row8 (T g n : Nat) (F : Nat → Int) (w : World) : Prop := w.heap[g]? = some (.cells (u8s F n) T (0, 0))
theorem Row8.cell {T g n : Nat} {F : Nat → Int} {w : World} (h : Row8 T g n F w) (i : Nat) (hi : i < n) : w.cell? ⟨g, i, none⟩ = some (.int .u8 (F i)) := by
  unfold World.cell?; simp only [show w.heap[g]? = _ from h]; exact u8s_get F n i hi
theorem Row8.free {T g n : Nat} {F : Nat → Int} {w : World} (h : Row8 T g n F w) (i : Nat) : w.frozen? ⟨g, i, none⟩ = false := by
  simp [World.frozen?, show w.heap[g]? = _ from h]
theorem Row8.set {T g n : Nat} {F : Nat → Int} {w : World} (h : Row8 T g n F w) (k : Nat) (hk : k < n) (v : Int) : Row8 T g n (fun j => if j = k then v else F j) (w.setCell ⟨g, k, none⟩ (.int .u8 v)) := by
  have e : w.heap[g]? = some (.cells (u8s F n) T (0, 0)) := h
  show (w.heap.modify g _)[g]? = _
  rw [Array.getElem?_modify, if_pos rfl, e]
  simp [u8s_set F n k v hk]

/-- Byte i of eight numbers. -/
def beF (f : Nat → Int) (i : Nat) : Int := f (i / 4) / (if i % 4 = 0 then 16777216 else if i % 4 = 1 then 65536 else if i % 4 = 2 then 256 else 1) % 256
def beT (f : Nat → Int) (t i : Nat) : Int := if i < t then beF f i else 0
theorem beT_step (f : Nat → Int) (t : Nat) (v : Int) (hv : v = beF f t) : (fun i => if i = t then v else beT f t i) = beT f (t + 1) := by
  funext i
  unfold beT
  by_cases h : i = t
  · subst h; rw [if_pos rfl, if_pos (by omega), hv]
  · rw [if_neg h]
    by_cases h2 : i < t
    · rw [if_pos h2, if_pos (by omega)]
    · rw [if_neg h2, if_neg (by omega)]
theorem be_0 (f : Nat → Int) (k : Nat) : beF f (4 * k) = f k / 16777216 % 256 := by unfold beF; rw [show 4 * k / 4 = k by omega, if_pos (by omega)]
theorem be_1 (f : Nat → Int) (k : Nat) : beF f (4 * k + 1) = f k / 65536 % 256 := by unfold beF; rw [show (4 * k + 1) / 4 = k by omega, if_neg (by omega), if_pos (by omega)]
theorem be_2 (f : Nat → Int) (k : Nat) : beF f (4 * k + 2) = f k / 256 % 256 := by unfold beF; rw [show (4 * k + 2) / 4 = k by omega, if_neg (by omega), if_neg (by omega), if_pos (by omega)]
theorem be_3 (f : Nat → Int) (k : Nat) : beF f (4 * k + 3) = f k % 256 := by unfold beF; rw [show (4 * k + 3) / 4 = k by omega, if_neg (by omega), if_neg (by omega), if_neg (by omega), Int.ediv_one]

theorem below_four {w wr : World} {g : Nat} (h : Below g w wr) (a b c d : Nat) (x y z t : Value) :
    Below g w ((((wr.setCell ⟨g + 1, a, none⟩ x).setCell ⟨g + 1, b, none⟩ y).setCell ⟨g + 1, c, none⟩ z).setCell ⟨g + 1, d, none⟩ t) :=
  (((h.setCell (p := ⟨g + 1, a, none⟩) (Nat.le_succ g) _).setCell (p := ⟨g + 1, b, none⟩) (Nat.le_succ g) _).setCell (p := ⟨g + 1, c, none⟩) (Nat.le_succ g) _).setCell (p := ⟨g + 1, d, none⟩) (Nat.le_succ g) _

def BeSlot (f : Nat → Int) (w : World) (i : Value) (wr : World) : Prop :=
  ∃ k : Nat, k ≤ 8 ∧ i = .int .i64 k ∧ Row8 48 (w.heap.size + 1) 32 (beT f (4 * k)) wr ∧ Below w.heap.size w wr ∧ w.heap.size ≤ wr.heap.size

def stAgg (f : Nat → Int) : Value := .agg #[.int .u32 (f 0), .int .u32 (f 1), .int .u32 (f 2), .int .u32 (f 3), .int .u32 (f 4), .int .u32 (f 5), .int .u32 (f 6), .int .u32 (f 7)]

set_option maxHeartbeats 1000000 in
set_option maxRecDepth 100000 in
theorem bigEndian_any (f : Nat → Int) (w : World) (hr : ∀ i, 0 ≤ f i ∧ f i < 4294967296) :
    Calls Tryd.prog 21 #[.agg #[.int .u32 (f 0), .int .u32 (f 1), .int .u32 (f 2), .int .u32 (f 3), .int .u32 (f 4), .int .u32 (f 5), .int .u32 (f 6), .int .u32 (f 7)]] w fun e w' => e = .returned (.string (strOfNums ((List.range 32).map (beF f)))) ∧ Below w.heap.size w w' := by
  have HR := Lib.hid hr
  clear hr
  go_enter Tryd.func21, Tryd.ntmps21
  go_wp2_with fail
  go_loopw [8] (fun i wr => BeSlot f w i wr) (fun i _ => 8 - (intOf i).toNat)
  case atStart =>
    refine ⟨0, by omega, rfl, ?_, ((Below.refl _ _).alloc (Nat.le_refl _) _).alloc (by simp) _, by simp; omega⟩
    unfold Row8; rw [heap_two]; rfl
  case round =>
    obtain ⟨k, hk, rfl, hRow, hB, hz⟩ := hrel
    have HRow := Lib.hid hRow; have HB := Lib.hid hB
    clear hRow hB
    by_cases hlt : k < 8
    · have hix : ∀ W', (Instr.index 26 (.agg #[.int .u32 (f 0), .int .u32 (f 1), .int .u32 (f 2), .int .u32 (f 3), .int .u32 (f 4), .int .u32 (f 5), .int .u32 (f 6), .int .u32 (f 7)]) (.int .i64 k)).run Tryd.prog W' = .ok (.int .u32 (f k)) W' := by
        rcases (show k = 0 ∨ k = 1 ∨ k = 2 ∨ k = 3 ∨ k = 4 ∨ k = 5 ∨ k = 6 ∨ k = 7 by omega) with rfl | rfl | rfl | rfl | rfl | rfl | rfl | rfl <;> exact fun _ => by kernel_rfl
      have hx := HR.out k
      obtain ⟨x, hxe⟩ : ∃ x, f k = x := ⟨_, rfl⟩
      rw [hxe] at hix hx
      obtain ⟨hx0, hx1⟩ := hx
      have c0 := HRow.out.cell (4 * k) (by omega); have c1 := HRow.out.cell (4 * k + 1) (by omega); have c2 := HRow.out.cell (4 * k + 2) (by omega); have c3 := HRow.out.cell (4 * k + 3) (by omega)
      have z0 := HRow.out.free (4 * k); have z1 := HRow.out.free (4 * k + 1); have z2 := HRow.out.free (4 * k + 2); have z3 := HRow.out.free (4 * k + 3)
      have HX := Lib.hid hxe
      clear hxe
      have k8 : (k : Int) < 8 := by omega
      have g0 : 0 ≤ 4 * (k : Int) := by omega
      have g1 : 0 ≤ 4 * (k : Int) + 1 := by omega
      have g2 : 0 ≤ 4 * (k : Int) + 2 := by omega
      have g3 : 0 ≤ 4 * (k : Int) + 3 := by omega
      have l0 : 4 * (k : Int) < 32 := by omega
      have l1 : 4 * (k : Int) + 1 < 32 := by omega
      have l2 : 4 * (k : Int) + 2 < 32 := by omega
      have l3 : 4 * (k : Int) + 3 < 32 := by omega
      have t0 : (4 * (k : Int)).toNat = 4 * k := by omega
      have t1 : (4 * (k : Int) + 1).toNat = 4 * k + 1 := by omega
      have t2 : (4 * (k : Int) + 2).toNat = 4 * k + 2 := by omega
      have t3 : (4 * (k : Int) + 3).toNat = 4 * k + 3 := by omega
      go_wp2_with fail
      refine wp_loop_rounds 5 ?_
      iterate 5 (rw [rounds_succ]; go_wp2_with fail)
      refine ⟨⟨k + 1, by omega, by rw [Int.natCast_succ], ?_, below_four HB.out _ _ _ _ _ _ _ _, ?_⟩, by simp [intOf]; omega⟩
      · have hx' : f k = x := HX.out
        have q := HRow.out.set (4 * k) (by omega) (x / 16777216)
        rw [beT_step f (4 * k) _ (by rw [be_0, hx', Int.emod_eq_of_lt (by omega) (by omega)])] at q
        have q := q.set (4 * k + 1) (by omega) (x / 65536 % 256)
        rw [beT_step f (4 * k + 1) _ (by rw [be_1, hx'])] at q
        have q := q.set (4 * k + 2) (by omega) (x / 256 % 256)
        rw [beT_step f (4 * k + 2) _ (by rw [be_2, hx'])] at q
        have q := q.set (4 * k + 3) (by omega) (x % 256)
        rw [beT_step f (4 * k + 3) _ (by rw [be_3, hx'])] at q
        exact q
      · simpa [World.setCell] using hz
    · obtain rfl : k = 8 := by omega
      have hc := fun (W' : World) (e : W' = wr) => run_convert_bytes_arg (P := Tryd.prog) wr 44 5 Tryd.underlying44 Tryd.underlying5 (w.heap.size + 1) 0 32 32 ((List.range 32).map (beF f)) (by simp) (fun i hi => by
        rw [Nat.zero_add, HRow.out.cell i hi]
        simp [beT, show i < 4 * 8 by omega, hi]) 9 Tryd.underlying9
      have hc := hc wr rfl
      go_wp2_with fail
      go_ret
      exact ⟨rfl, HB.out⟩
end Go.Proofs.YtodmomhilpheiaaDoor
