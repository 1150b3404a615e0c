/- begin, mix. -/
import Derived.Test.YtodmomhilpheiaaDoorQc
namespace Go.Proofs.YtodmomhilpheiaaDoor
open Go.RowKit

/-- The package's variables, as the program's text lays them. -/
def rootF (i : Nat) : Int := ([1779033703, 3144134277, 1013904242, 2773480762, 1359893119, 2600822924, 528734635, 1541459225] : List Int).getD i 0
def kkF (i : Nat) : Int := ([1116352408, 1899447441, 3049323471, 3921009573, 961987163, 1508970993, 2453635748, 2870763221, 3624381080, 310598401, 607225278, 1426881987, 1925078388, 2162078206, 2614888103, 3248222580, 3835390401, 4022224774, 264347078, 604807628, 770255983, 1249150122, 1555081692, 1996064986, 2554220882, 2821834349, 2952996808, 3210313671, 3336571891, 3584528711, 113926993, 338241895, 666307205, 773529912, 1294757372, 1396182291, 1695183700, 1986661051, 2177026350, 2456956037, 2730485921, 2820302411, 3259730800, 3345764771, 3516065817, 3600352804, 4094571909, 275423344, 430227734, 506948616, 659060556, 883997877, 958139571, 1322822218, 1537002063, 1747873779, 1955562222, 2024104815, 2227730452, 2361852424, 2428436474, 2756734187, 3204031479, 3329325298] : List Int).getD i 0
def VarsAt (w : World) : Prop := (∀ i, i < 8 → w.cell? ⟨0, i, none⟩ = some (.int .u32 (rootF i))) ∧ (∀ i, i < 64 → w.cell? ⟨1, i, none⟩ = some (.int .u32 (kkF i))) ∧ 1 < w.heap.size
theorem VarsAt.kept {b : Nat} {w w' : World} (h : VarsAt w) (hk : w.grownBy w' (some b)) (hb : 1 < b) : VarsAt w' := by
  refine ⟨fun i hi => ?_, fun i hi => ?_, by have := hk.size; have := h.2.2; omega⟩
  · rw [World.cell?_of_block (a := ⟨0, i, none⟩) (hk.block 0 (by have := h.2.2; omega) (by intro e; injection e with e; omega))]; exact h.1 i hi
  · rw [World.cell?_of_block (a := ⟨1, i, none⟩) (hk.block 1 (by have := h.2.2; omega) (by intro e; injection e with e; omega))]; exact h.2.1 i hi
theorem VarsAt.below {w w' : World} (h : VarsAt w) (hb : Below w.heap.size w w') : VarsAt w' :=
  ⟨fun i hi => (hb.cell (p := ⟨0, i, none⟩) (by show 0 < _; have := h.2.2; omega)).trans (h.1 i hi), fun i hi => (hb.cell (p := ⟨1, i, none⟩) (by show 1 < _; have := h.2.2; omega)).trans (h.2.1 i hi), by have := hb.size; have := h.2.2; omega⟩

theorem hash_congr {b : Nat} {f g blk blk' : Nat → Int} {n : Int} {w : World} (h : HashAt b f blk n w) (hf : ∀ i, i < 8 → f i = g i) (hb : ∀ i, i < 64 → blk i = blk' i) : HashAt b g blk' n w := by
  have e : hcells f blk n = hcells g blk' n := by
    unfold hcells
    have e1 : (List.range 8).map (fun i => Value.int .u32 (f i)) = (List.range 8).map (fun i => Value.int .u32 (g i)) := List.map_congr_left (fun i hi => by rw [hf i (List.mem_range.1 hi)])
    have e2 : (List.range 64).map (fun i => Value.int .u8 (blk i)) = (List.range 64).map (fun i => Value.int .u8 (blk' i)) := List.map_congr_left (fun i hi => by rw [hb i (List.mem_range.1 hi)])
    rw [e1, e2]
  unfold HashAt at h ⊢; rw [← e]; exact h

/-- What mix makes of a state and a block. -/
def compF (f blk : Nat → Int) : Nat → Int := addF f (roundsI kkF (schF blk 48) 64 (stOf f)) 8
theorem mix_ok (b : Nat) (f blk : Nat → Int) (n : Int) (w : World) (hH : HashAt b f blk n w) (hV : VarsAt w) (hB : Bytes8 blk) (hok : (stOf f).Ok) :
    Calls Tryd.prog 19 #[.pointer (some ⟨b, 0, none⟩)] w fun e w' => e = .returned (.tuple #[]) ∧ HashAt b (compF f blk) blk n w' ∧ w.grownBy w' (some b) :=
  mix_any b f blk _ n w (spread_any b f blk n w hH hB) hH kkF hV.2.1 hV.2.2 hok

set_option maxHeartbeats 1000000 in
set_option maxRecDepth 100000 in
theorem begin_some (b : Nat) (f blk : Nat → Int) (n : Int) (w : World) (hH : HashAt b f blk n w) (hn : n ≠ 0) :
    Calls Tryd.prog 18 #[.pointer (some ⟨b, 0, none⟩)] w fun e w' => e = .returned (.tuple #[]) ∧ w = w' := by
  have hl := hH.len
  have hne : (n == 0) = false := by rw [beq_eq_false_iff_ne]; exact hn
  clear hH hn
  go_enter Tryd.func18, Tryd.ntmps18
  go_wp2_with fail
  go_end0
  exact ⟨rfl, rfl⟩

set_option maxHeartbeats 1000000 in
set_option maxRecDepth 100000 in
theorem begin_zero (b : Nat) (f blk : Nat → Int) (w : World) (hH : HashAt b f blk 0 w) (hV : VarsAt w) (hb : 1 < b) :
    Calls Tryd.prog 18 #[.pointer (some ⟨b, 0, none⟩)] w fun e w' => e = .returned (.tuple #[]) ∧ HashAt b rootF blk 0 w' ∧ w.grownBy w' (some b) := by
  have hl := hH.len
  have r0 := hV.1 0 (by omega); have r1 := hV.1 1 (by omega); have r2 := hV.1 2 (by omega); have r3 := hV.1 3 (by omega)
  have r4 := hV.1 4 (by omega); have r5 := hV.1 5 (by omega); have r6 := hV.1 6 (by omega); have r7 := hV.1 7 (by omega)
  have c0 := hH.cell 0 (by omega); have c1 := hH.cell 1 (by omega); have c2 := hH.cell 2 (by omega); have c3 := hH.cell 3 (by omega)
  have c4 := hH.cell 4 (by omega); have c5 := hH.cell 5 (by omega); have c6 := hH.cell 6 (by omega); have c7 := hH.cell 7 (by omega)
  have z0 := hH.free 0; have z1 := hH.free 1; have z2 := hH.free 2; have z3 := hH.free 3; have z4 := hH.free 4; have z5 := hH.free 5; have z6 := hH.free 6; have z7 := hH.free 7
  have HH := Lib.hid hH
  clear hH hV
  go_enter Tryd.func18, Tryd.ntmps18
  go_wp2_with fail
  go_end0
  refine ⟨rfl, ?_, kept_set (kept_set (kept_set (kept_set (kept_set (kept_set (kept_set (kept_set (kept_below (Below.refl _ _)) 0 _) 1 _) 2 _) 3 _) 4 _) 5 _) 6 _) 7 _⟩
  refine hash_congr ((((((((HH.out.set 0 (by omega) _).set 1 (by omega) _).set 2 (by omega) _).set 3 (by omega) _).set 4 (by omega) _).set 5 (by omega) _).set 6 (by omega) _).set 7 (by omega) _) (fun i hi => ?_) (fun _ _ => rfl)
  rcases (show i = 0 ∨ i = 1 ∨ i = 2 ∨ i = 3 ∨ i = 4 ∨ i = 5 ∨ i = 6 ∨ i = 7 by omega) with rfl | rfl | rfl | rfl | rfl | rfl | rfl | rfl <;> rfl
end Go.Proofs.YtodmomhilpheiaaDoor
