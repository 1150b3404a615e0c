/- mix. -/
import Derived.Test.YtodmomhilpheiaaDoorQa
import Derived.Deep.QuietTactic
import Derived.BigQuiet
import Derived.Deep.RegionWith
import Derived.Deep.WholeRow
namespace Go.Proofs.YtodmomhilpheiaaDoor
open Go.RowKit

def SpreadAt (b : Nat) (A : Array Value) (w : World) : Prop := Calls Tryd.prog 23 #[.pointer (some ⟨b, 8, none⟩)] w fun e w' => e = .returned (.agg A) ∧ Below w.heap.size w w'

theorem store64 (A : Array Value) (hA : A.size = 64) (h1 : A.all (·.oneCell') = true) (W : World) (Z : Array Value) (hZ : Z.size = 64) :
    (storeCells ⟨W.heap.size, 0, none⟩ A.toList).run Tryd.prog (W.alloc (.cells Z 50)) = .ok () (W.alloc (.cells A 50)) :=
  run_storeCells_new W 50 Z A (by rw [hA]; kernel_rfl) (by rw [hA, hZ]) h1

def u32s (f : Nat → Int) (n : Nat) : Array Value := ((List.range n).map fun i => Value.int .u32 (f i)).toArray
theorem u32s_size (f : Nat → Int) (n : Nat) : (u32s f n).size = n := by simp [u32s]
theorem u32s_one (f : Nat → Int) (n : Nat) : (u32s f n).all (·.oneCell') = true := by
  rw [Array.all_eq_true]; intro i h; simp [u32s, Value.oneCell']
theorem u32s_get (f : Nat → Int) (n i : Nat) (h : i < n) : (u32s f n)[i]? = some (.int .u32 (f i)) := by simp [u32s, h]

theorem three_6q (x : Int) (w : World) (n y : Nat) (h0 : 0 ≤ x) (h1 : x < 4294967296) :
    Calls Tryd.prog 24 #[.int .u32 x, .int .i64 6, .int .i64 11, .int .i64 25] (w.drewN (n + y)) fun e w'' => e = .returned (.int .u32 (bits .xor .u32 (bits .xor .u32 (rotI 64 67108864 x) (rotI 2048 2097152 x)) (rotI 33554432 128 x))) ∧ ∃ m, w'' = w.drewN (n + m) :=
  (three_6 x (w.drewN (n + y)) h0 h1).mono fun _ _ ⟨a, b⟩ => ⟨a, y, b.symm⟩
theorem three_2q (x : Int) (w : World) (n y : Nat) (h0 : 0 ≤ x) (h1 : x < 4294967296) :
    Calls Tryd.prog 24 #[.int .u32 x, .int .i64 2, .int .i64 13, .int .i64 22] (w.drewN (n + y)) fun e w'' => e = .returned (.int .u32 (bits .xor .u32 (bits .xor .u32 (rotI 4 1073741824 x) (rotI 8192 524288 x)) (rotI 4194304 1024 x))) ∧ ∃ m, w'' = w.drewN (n + m) :=
  (three_2 x (w.drewN (n + y)) h0 h1).mono fun _ _ ⟨a, b⟩ => ⟨a, y, b.symm⟩

structure St where
  a : Int
  b : Int
  c : Int
  d : Int
  e : Int
  f : Int
  g : Int
  h : Int
def In32 (x : Int) : Prop := 0 ≤ x ∧ x < 4294967296
def St.Ok (s : St) : Prop := In32 s.a ∧ In32 s.b ∧ In32 s.c ∧ In32 s.d ∧ In32 s.e ∧ In32 s.f ∧ In32 s.g ∧ In32 s.h
def S1 (x : Int) : Int := bits .xor .u32 (bits .xor .u32 (rotI 64 67108864 x) (rotI 2048 2097152 x)) (rotI 33554432 128 x)
def S0 (x : Int) : Int := bits .xor .u32 (bits .xor .u32 (rotI 4 1073741824 x) (rotI 8192 524288 x)) (rotI 4194304 1024 x)
def chI (e f g : Int) : Int := bits .xor .u32 (bits .and .u32 e f) (bits .and .u32 (bits .xor .u32 IntKind.u32.max e) g)
def majI (a b c : Int) : Int := bits .xor .u32 (bits .xor .u32 (bits .and .u32 a b) (bits .and .u32 a c)) (bits .and .u32 b c)
def tI (K W : Int) (s : St) : Int := (s.h + S1 s.e + chI s.e s.f s.g + K + W) % 4294967296
def uI (s : St) : Int := (S0 s.a + majI s.a s.b s.c) % 4294967296
def stepI (K W : Int) (s : St) : St := ⟨(tI K W s + uI s) % 4294967296, s.a, s.b, s.c, (s.d + tI K W s) % 4294967296, s.e, s.f, s.g⟩
def roundsI (K W : Nat → Int) : Nat → St → St
  | 0, s => s
  | k + 1, s => stepI (K k) (W k) (roundsI K W k s)

def MixSlot (K W : Nat → Int) (s0 : St) (w2 : World) (a b c d e f g h i : Value) (wr : World) : Prop :=
  ∃ (k : Nat) (s : St) (n : Nat), k ≤ 64 ∧ i = .int .i64 k ∧ roundsI K W k s0 = s ∧ s.Ok ∧ a = .int .u32 s.a ∧ b = .int .u32 s.b ∧ c = .int .u32 s.c ∧ d = .int .u32 s.d ∧ e = .int .u32 s.e ∧ f = .int .u32 s.f ∧ g = .int .u32 s.g ∧ h = .int .u32 s.h ∧ wr = w2.drewN n

/-- The cells of a Hasher: eight numbers, 64 bytes, how many bytes there were. -/
def hcells (f blk : Nat → Int) (n : Int) : Array Value :=
  ((List.range 8).map (fun i => Value.int .u32 (f i)) ++ ((List.range 64).map (fun i => Value.int .u8 (blk i)) ++ [Value.int .u64 n])).toArray
def HashAt (b : Nat) (f blk : Nat → Int) (n : Int) (w : World) : Prop := w.heap[b]? = some (.cells (hcells f blk n) 30 (0, 0))

theorem hcells_state (f blk : Nat → Int) (n : Int) (i : Nat) (h : i < 8) : (hcells f blk n)[i]? = some (.int .u32 (f i)) := by
  simp [hcells, List.getElem?_append, h]
theorem hcells_block (f blk : Nat → Int) (n : Int) (i : Nat) (h : i < 64) : (hcells f blk n)[8 + i]? = some (.int .u8 (blk i)) := by
  have h1 : ¬ 8 + i < 8 := by omega
  have h2 : 8 + i - 8 = i := by omega
  simp [hcells, List.getElem?_append, h, h2]
theorem hcells_size (f blk : Nat → Int) (n : Int) : (hcells f blk n)[72]? = some (.int .u64 n) := by
  simp [hcells, List.getElem?_append]
theorem hcells_len (f blk : Nat → Int) (n : Int) : (hcells f blk n).size = 73 := by simp [hcells]
theorem hcells_set (f blk : Nat → Int) (n : Int) (i : Nat) (v : Int) (h : i < 8) : (hcells f blk n).setIfInBounds i (.int .u32 v) = hcells (fun j => if j = i then v else f j) blk n := by
  apply Array.ext_getElem?
  intro j
  rw [Array.getElem?_setIfInBounds]
  by_cases hj : j < 8
  · by_cases e : i = j
    · subst e; rw [if_pos rfl, if_pos (by rw [hcells_len]; omega), hcells_state _ _ _ i hj, if_pos rfl]
    · rw [if_neg e, hcells_state _ _ _ j hj, hcells_state _ _ _ j hj, if_neg (fun h => e h.symm)]
  · rw [if_neg (by omega)]
    simp [hcells, List.getElem?_append, hj]

theorem HashAt.cell {b : Nat} {f blk : Nat → Int} {n : Int} {w : World} (h : HashAt b f blk n w) (i : Nat) (hi : i < 8) : w.cell? ⟨b, i, none⟩ = some (.int .u32 (f i)) := by
  unfold World.cell?; simp only [show w.heap[b]? = _ from h]; exact hcells_state f blk n i hi
theorem HashAt.byte {b : Nat} {f blk : Nat → Int} {n : Int} {w : World} (h : HashAt b f blk n w) (i : Nat) (hi : i < 64) : w.cell? ⟨b, 8 + i, none⟩ = some (.int .u8 (blk i)) := by
  unfold World.cell?; simp only [show w.heap[b]? = _ from h]; exact hcells_block f blk n i hi
theorem HashAt.len {b : Nat} {f blk : Nat → Int} {n : Int} {w : World} (h : HashAt b f blk n w) : w.cell? ⟨b, 72, none⟩ = some (.int .u64 n) := by
  unfold World.cell?; simp only [show w.heap[b]? = _ from h]; exact hcells_size f blk n
theorem HashAt.free {b : Nat} {f blk : Nat → Int} {n : Int} {w : World} (h : HashAt b f blk n w) (i : Nat) : w.frozen? ⟨b, i, none⟩ = false := by
  simp [World.frozen?, show w.heap[b]? = _ from h]
theorem HashAt.lt {b : Nat} {f blk : Nat → Int} {n : Int} {w : World} (h : HashAt b f blk n w) : b < w.heap.size := by
  rcases Nat.lt_or_ge b w.heap.size with h' | h'
  · exact h'
  · have := show w.heap[b]? = _ from h
    rw [Array.getElem?_eq_none h'] at this; cases this
theorem HashAt.below {b : Nat} {f blk : Nat → Int} {n : Int} {w w' : World} (h : HashAt b f blk n w) (hb : Below w.heap.size w w') : HashAt b f blk n w' := (hb.block b h.lt).trans h
theorem HashAt.drewN {b : Nat} {f blk : Nat → Int} {n : Int} {w : World} (h : HashAt b f blk n w) (q : Nat) : HashAt b f blk n (w.drewN q) := by
  unfold HashAt at h ⊢; simpa using h
theorem HashAt.drew {b : Nat} {f blk : Nat → Int} {n : Int} {w : World} (h : HashAt b f blk n w) : HashAt b f blk n w.drew := h
theorem HashAt.set {b : Nat} {f blk : Nat → Int} {n : Int} {w : World} (h : HashAt b f blk n w) (i : Nat) (hi : i < 8) (v : Int) : HashAt b (fun j => if j = i then v else f j) blk n (w.setCell ⟨b, i, none⟩ (.int .u32 v)) := by
  have e : w.heap[b]? = some (.cells (hcells f blk n) 30 (0, 0)) := h
  show (w.heap.modify b _)[b]? = _
  rw [Array.getElem?_modify, if_pos rfl, e]
  simp [hcells_set f blk n i v hi]

theorem kept_below {b : Nat} {w w' : World} (h : Below w.heap.size w w') : w.grownBy w' (some b) := ⟨h.os, h.tape, h.output, h.size, fun k hk _ => h.block k hk⟩
theorem kept_trans {b : Nat} {w w1 w2 : World} (h : w.grownBy w1 (some b)) (k : w1.grownBy w2 (some b)) : w.grownBy w2 (some b) :=
  ⟨k.os.trans h.os, k.tape.trans h.tape, k.output.trans h.output, Nat.le_trans h.size k.size, fun i hi hn => (k.block i (Nat.lt_of_lt_of_le hi h.size) hn).trans (h.block i hi hn)⟩
theorem kept_set {b : Nat} {w w1 : World} (h : w.grownBy w1 (some b)) (i : Nat) (v : Value) : w.grownBy (w1.setCell ⟨b, i, none⟩ v) (some b) :=
  ⟨h.os, h.tape, h.output, by have := h.size; simpa [World.setCell] using this, fun k hk hn => by
    show (w1.heap.modify b _)[k]? = _
    rw [Array.getElem?_modify, if_neg (fun e => hn (by rw [e]))]; exact h.block k hk hn⟩
theorem kept_drew {b : Nat} {w w1 : World} (h : w.grownBy w1 (some b)) : w.grownBy w1.drew (some b) := ⟨h.os, h.tape, h.output, h.size, h.block⟩

def stOf (f : Nat → Int) : St := ⟨f 0, f 1, f 2, f 3, f 4, f 5, f 6, f 7⟩
def stGet (s : St) (i : Nat) : Int := if i = 0 then s.a else if i = 1 then s.b else if i = 2 then s.c else if i = 3 then s.d else if i = 4 then s.e else if i = 5 then s.f else if i = 6 then s.g else s.h
def addF (f : Nat → Int) (s : St) (j : Nat) : Nat → Int := fun i => if i < j then (f i + stGet s i) % 4294967296 else f i
def AddSlot (f blk : Nat → Int) (n : Int) (s : St) (b : Nat) (w : World) (i : Value) (wr : World) : Prop :=
  ∃ j : Nat, j ≤ 8 ∧ i = .int .i64 j ∧ HashAt b (addF f s j) blk n wr ∧ w.grownBy wr (some b)
theorem addF_step (f : Nat → Int) (s : St) (j : Nat) : (fun i => if i = j then (addF f s j j + stGet s j) % 4294967296 else addF f s j i) = addF f s (j + 1) := by
  funext i
  unfold addF
  by_cases h : i = j
  · subst h; simp
  · by_cases h2 : i < j
    · rw [if_neg h, if_pos h2, if_pos (by omega)]
    · rw [if_neg h, if_neg h2, if_neg (by omega)]
theorem addF_here (f : Nat → Int) (s : St) (j : Nat) : addF f s j j = f j := by unfold addF; rw [if_neg (by omega)]

theorem add_step {f blk : Nat → Int} {n : Int} {s : St} {b : Nat} {w wr : World} {j : Nat} (hH : HashAt b (addF f s j) blk n wr) (hG : w.grownBy wr (some b)) (hj : j < 8) (v : Int) (hv : v = (f j + stGet s j) % 4294967296) (i : Int) (hi : i = ((j + 1 : Nat) : Int)) :
    AddSlot f blk n s b w (.int .i64 i) ((wr.setCell ⟨b, j, none⟩ (.int .u32 v)).drew) := by
  refine ⟨j + 1, by omega, by rw [hi], ?_, kept_drew (kept_set hG j _)⟩
  have h := (hH.set j hj v).drew
  have e := addF_step f s j
  rw [addF_here, ← hv] at e
  rw [e] at h
  exact h

set_option maxHeartbeats 1000000 in
set_option maxRecDepth 100000 in
theorem mix_any (b : Nat) (f blk W : Nat → Int) (n : Int) (w : World) (hsp : SpreadAt b (u32s W 64) w) (hH : HashAt b f blk n w) (K : Nat → Int) (hK : ∀ i, i < 64 → w.cell? ⟨1, i, none⟩ = some (.int .u32 (K i))) (h1b : 1 < w.heap.size) (hok : (stOf f).Ok) :
    Calls Tryd.prog 19 #[.pointer (some ⟨b, 0, none⟩)] w fun e w' => e = .returned (.tuple #[]) ∧ HashAt b (addF f (roundsI K W 64 (stOf f)) 8) blk n w' ∧ w.grownBy w' (some b) := by
  have hb := hH.lt
  obtain ⟨s0, q0⟩ : ∃ x, f 0 = x := ⟨_, rfl⟩
  obtain ⟨s1, q1⟩ : ∃ x, f 1 = x := ⟨_, rfl⟩
  obtain ⟨s2, q2⟩ : ∃ x, f 2 = x := ⟨_, rfl⟩
  obtain ⟨s3, q3⟩ : ∃ x, f 3 = x := ⟨_, rfl⟩
  obtain ⟨s4, q4⟩ : ∃ x, f 4 = x := ⟨_, rfl⟩
  obtain ⟨s5, q5⟩ : ∃ x, f 5 = x := ⟨_, rfl⟩
  obtain ⟨s6, q6⟩ : ∃ x, f 6 = x := ⟨_, rfl⟩
  obtain ⟨s7, q7⟩ : ∃ x, f 7 = x := ⟨_, rfl⟩
  have c0 := hH.cell 0 (by omega); have c1 := hH.cell 1 (by omega); have c2 := hH.cell 2 (by omega); have c3 := hH.cell 3 (by omega)
  have c4 := hH.cell 4 (by omega); have c5 := hH.cell 5 (by omega); have c6 := hH.cell 6 (by omega); have c7 := hH.cell 7 (by omega)
  have hst0 : stOf f = ⟨s0, s1, s2, s3, s4, s5, s6, s7⟩ := by unfold stOf; rw [q0, q1, q2, q3, q4, q5, q6, q7]
  rw [q0] at c0; rw [q1] at c1; rw [q2] at c2; rw [q3] at c3; rw [q4] at c4; rw [q5] at c5; rw [q6] at c6; rw [q7] at c7
  rw [hst0] at hok ⊢
  have HH := Lib.hid hH; have HST := Lib.hid hst0
  have Q0 := Lib.hid q0; have Q1 := Lib.hid q1; have Q2 := Lib.hid q2; have Q3 := Lib.hid q3; have Q4 := Lib.hid q4; have Q5 := Lib.hid q5; have Q6 := Lib.hid q6; have Q7 := Lib.hid q7
  clear hH hst0 q0 q1 q2 q3 q4 q5 q6 q7
  have HS := Lib.hid hsp
  obtain ⟨A, hA⟩ : ∃ A, u32s W 64 = A := ⟨_, rfl⟩
  have hst := store64 A (by rw [← hA]; exact u32s_size _ _) (by rw [← hA]; exact u32s_one _ _)
  rw [hA] at HS
  have hA64 : A.size = 64 := by rw [← hA]; exact u32s_size _ _
  have HA := Lib.hid hA
  clear hsp hA
  go_enter Tryd.func19, Tryd.ntmps19
  go_wp2_with fail
  refine (show SpreadAt b A w from HS.out).mono ?_
  rintro e w1 ⟨rfl, hw1⟩
  have d0 := (hw1.cell (p := ⟨b, 0, none⟩) hb).trans c0
  have d1 := (hw1.cell (p := ⟨b, 1, none⟩) hb).trans c1
  have d2 := (hw1.cell (p := ⟨b, 2, none⟩) hb).trans c2
  have d3 := (hw1.cell (p := ⟨b, 3, none⟩) hb).trans c3
  have d4 := (hw1.cell (p := ⟨b, 4, none⟩) hb).trans c4
  have d5 := (hw1.cell (p := ⟨b, 5, none⟩) hb).trans c5
  have d6 := (hw1.cell (p := ⟨b, 6, none⟩) hb).trans c6
  have d7 := (hw1.cell (p := ⟨b, 7, none⟩) hb).trans c7
  clear c0 c1 c2 c3 c4 c5 c6 c7
  have hz1 := hw1.size
  have hlt : b < w1.heap.size := by omega
  have hltn : ¬ b = w1.heap.size := by omega
  go_wp2_with fail
  have HK : Hid (∀ i, i < 64 → w1.cell? ⟨1, i, none⟩ = some (.int .u32 (K i))) := Lib.hid (fun i hi => (hw1.cell (p := ⟨1, i, none⟩) h1b).trans (hK i hi))
  have HOK := Lib.hid hok
  clear hK hok
  go_quiet (fail)
  go_wp2_with fail
  go_loopw [4, 5, 6, 7, 8, 9, 10, 11, 41] (fun a b' c d e f g h i wr => MixSlot K W ⟨s0, s1, s2, s3, s4, s5, s6, s7⟩ ((w1.alloc (.cells A 50)).alloc (.cells #[.int .u32 s0, .int .u32 s1, .int .u32 s2, .int .u32 s3, .int .u32 s4, .int .u32 s5, .int .u32 s6, .int .u32 s7] 26)) a b' c d e f g h i wr) (fun _ _ _ _ _ _ _ _ i _ => 64 - (intOf i).toNat)
  case atStart => exact ⟨0, _, nq, by omega, rfl, rfl, HOK.out, rfl, rfl, rfl, rfl, rfl, rfl, rfl, rfl, rfl⟩
  case round =>
    obtain ⟨k, ⟨xa, xb, xc, xd, xe, xf, xg, xh⟩, m, hk, rfl, hs, hO, rfl, rfl, rfl, rfl, rfl, rfl, rfl, rfl, rfl⟩ := hrel
    obtain ⟨⟨la, ua⟩, ⟨lb, ub⟩, ⟨lc, uc⟩, ⟨ld, ud⟩, ⟨le, ue⟩, ⟨lf, uf⟩, ⟨lg, ug⟩, ⟨lh, uh⟩⟩ := hO
    dsimp only at la ua lb ub lc uc ld ud le ue lf uf lg ug lh uh
    have HR := Lib.hid hs
    clear hs
    by_cases hlt : k < 64
    · have hkk : ((w1.alloc (.cells A 50)).alloc (.cells #[.int .u32 s0, .int .u32 s1, .int .u32 s2, .int .u32 s3, .int .u32 s4, .int .u32 s5, .int .u32 s6, .int .u32 s7] 26)).cell? ⟨1, k, none⟩ = some (.int .u32 (K k)) := by
        have hb1 : Below w1.heap.size w1 ((w1.alloc (.cells A 50)).alloc (.cells #[.int .u32 s0, .int .u32 s1, .int .u32 s2, .int .u32 s3, .int .u32 s4, .int .u32 s5, .int .u32 s6, .int .u32 s7] 26)) := ((Below.refl _ _).alloc (Nat.le_refl _) _).alloc (by simp) _
        exact (hb1.cell (p := ⟨1, k, none⟩) (by show 1 < w1.heap.size; omega)).trans (HK.out k hlt)
      have hkw : ((w1.alloc (.cells A 50)).alloc (.cells #[.int .u32 s0, .int .u32 s1, .int .u32 s2, .int .u32 s3, .int .u32 s4, .int .u32 s5, .int .u32 s6, .int .u32 s7] 26)).cell? ⟨w1.heap.size, k, none⟩ = some (.int .u32 (W k)) := by
        have hb1 : Below (w1.heap.size + 1) (w1.alloc (.cells A 50)) ((w1.alloc (.cells A 50)).alloc (.cells #[.int .u32 s0, .int .u32 s1, .int .u32 s2, .int .u32 s3, .int .u32 s4, .int .u32 s5, .int .u32 s6, .int .u32 s7] 26)) := (Below.refl _ _).alloc (by simp) _
        rw [hb1.cell (p := ⟨w1.heap.size, k, none⟩) (Nat.lt_succ_self _)]
        have e : (w1.alloc (.cells A 50)).heap[w1.heap.size]? = some (.cells A 50 (0, 0)) := heap_alloc_last _ _
        unfold World.cell?
        simp only [e]
        rw [← HA.out]; exact u32s_get _ _ _ hlt
      have hAk : A[k]? = some (.int .u32 (W k)) := by rw [← HA.out]; exact u32s_get _ _ _ hlt
      have hlt2 : (k : Int) < 64 := by omega
      go_wp2_with fail
      go_quiet ((go_at_call 24; exact three_6q _ _ _ _ le ue))
      obtain ⟨t, ht⟩ : ∃ t, tI (K k) (W k) ⟨xa, xb, xc, xd, xe, xf, xg, xh⟩ = t := ⟨_, rfl⟩
      have ht2 : (xh + bits .xor .u32 (bits .xor .u32 (rotI 64 67108864 xe) (rotI 2048 2097152 xe)) (rotI 33554432 128 xe) + bits .xor .u32 (bits .and .u32 xe xf) (bits .and .u32 (bits .xor .u32 IntKind.u32.max xe) xg) + K k + W k) % 4294967296 = t := ht
      go_wp2_with fail
      clear ht2
      refine (three_2 _ _ la ua).mono ?_
      rintro e w' ⟨rfl, rfl⟩
      obtain ⟨u, hu⟩ : ∃ u, uI ⟨xa, xb, xc, xd, xe, xf, xg, xh⟩ = u := ⟨_, rfl⟩
      have hu2 : (bits .xor .u32 (bits .xor .u32 (rotI 4 1073741824 xa) (rotI 8192 524288 xa)) (rotI 4194304 1024 xa) + bits .xor .u32 (bits .xor .u32 (bits .and .u32 xa xb) (bits .and .u32 xa xc)) (bits .and .u32 xb xc)) % 4294967296 = u := hu
      have HT := Lib.hid ht; have HU := Lib.hid hu
      clear ht hu
      have hstep : Hid (MixSlot K W ⟨s0, s1, s2, s3, s4, s5, s6, s7⟩ ((w1.alloc (.cells A 50)).alloc (.cells #[.int .u32 s0, .int .u32 s1, .int .u32 s2, .int .u32 s3, .int .u32 s4, .int .u32 s5, .int .u32 s6, .int .u32 s7] 26)) (.int .u32 ((t + u) % 4294967296)) (.int .u32 xa) (.int .u32 xb) (.int .u32 xc) (.int .u32 ((xd + t) % 4294967296)) (.int .u32 xe) (.int .u32 xf) (.int .u32 xg) (.int .i64 ((k : Int) + 1)) (((w1.alloc (.cells A 50)).alloc (.cells #[.int .u32 s0, .int .u32 s1, .int .u32 s2, .int .u32 s3, .int .u32 s4, .int .u32 s5, .int .u32 s6, .int .u32 s7] 26)).drewN (m + nq))) := Lib.hid
        ⟨k + 1, ⟨(t + u) % 4294967296, xa, xb, xc, (xd + t) % 4294967296, xe, xf, xg⟩, m + nq, by omega, by go_num, by rw [roundsI, HR.out, stepI, HT.out, HU.out],
          ⟨⟨by show 0 ≤ (t + u) % 4294967296; omega, by show (t + u) % 4294967296 < 4294967296; omega⟩, ⟨la, ua⟩, ⟨lb, ub⟩, ⟨lc, uc⟩, ⟨by show 0 ≤ (xd + t) % 4294967296; omega, by show (xd + t) % 4294967296 < 4294967296; omega⟩, ⟨le, ue⟩, ⟨lf, uf⟩, ⟨lg, ug⟩⟩, rfl, rfl, rfl, rfl, rfl, rfl, rfl, rfl, rfl⟩
      go_wp2_with fail
      exact ⟨hstep.out, by simp [intOf]; omega⟩
    · obtain rfl : k = 64 := by omega
      clear hlt hk
      obtain ⟨W2, hW2⟩ : ∃ W2, ((w1.alloc (.cells A 50)).alloc (.cells #[.int .u32 s0, .int .u32 s1, .int .u32 s2, .int .u32 s3, .int .u32 s4, .int .u32 s5, .int .u32 s6, .int .u32 s7] 26)).drewN m = W2 := ⟨_, rfl⟩
      have hH2 : HashAt b f blk n W2 := by
        rw [← hW2]
        exact ((HH.out.below hw1).below (((Below.refl _ _).alloc (Nat.le_refl _) _).alloc (by simp) _)).drewN m
      have hG2 : w.grownBy W2 (some b) := by
        rw [← hW2]
        exact kept_below (below_drewN ((hw1.alloc hz1 _).alloc (by simp; omega) _) m)
      rw [hW2]
      have HH2 := Lib.hid hH2; have HG2 := Lib.hid hG2
      clear hH2 hG2 hW2
      go_wp2_with fail
      go_loopw [101] (fun i wr => AddSlot f blk n ⟨xa, xb, xc, xd, xe, xf, xg, xh⟩ b w i wr) (fun i _ => 8 - (intOf i).toNat)
      case atStart => exact ⟨0, by omega, rfl, HH2.out, HG2.out⟩
      case round =>
        obtain ⟨j, hj, rfl, hHj, hGj⟩ := hrel
        have HHj := Lib.hid hHj; have HGj := Lib.hid hGj
        clear hHj hGj
        by_cases hj8 : j < 8
        · have cj := HHj.out.cell j hj8
          rw [addF_here] at cj
          have fj := HHj.out.free j
          rcases (show j = 0 ∨ j = 1 ∨ j = 2 ∨ j = 3 ∨ j = 4 ∨ j = 5 ∨ j = 6 ∨ j = 7 by omega) with rfl | rfl | rfl | rfl | rfl | rfl | rfl | rfl
          · have hix : ∀ W', (Instr.index 26 (.agg #[.int .u32 xa, .int .u32 xb, .int .u32 xc, .int .u32 xd, .int .u32 xe, .int .u32 xf, .int .u32 xg, .int .u32 xh]) (.int .i64 0)).run Tryd.prog W' = .ok (.int .u32 xa) W' := fun _ => by kernel_rfl
            have hst := Lib.hid (add_step HHj.out HGj.out (by omega) ((f 0 + xa) % 4294967296) rfl 1 rfl)
            go_wp2_with fail
            go_region
            go_wp2_with fail
            exact ⟨hst.out, by simp [intOf]⟩
          · have hix : ∀ W', (Instr.index 26 (.agg #[.int .u32 xa, .int .u32 xb, .int .u32 xc, .int .u32 xd, .int .u32 xe, .int .u32 xf, .int .u32 xg, .int .u32 xh]) (.int .i64 1)).run Tryd.prog W' = .ok (.int .u32 xb) W' := fun _ => by kernel_rfl
            have hst := Lib.hid (add_step HHj.out HGj.out (by omega) ((f 1 + xb) % 4294967296) rfl 2 rfl)
            go_wp2_with fail
            go_region
            go_wp2_with fail
            exact ⟨hst.out, by simp [intOf]⟩
          · have hix : ∀ W', (Instr.index 26 (.agg #[.int .u32 xa, .int .u32 xb, .int .u32 xc, .int .u32 xd, .int .u32 xe, .int .u32 xf, .int .u32 xg, .int .u32 xh]) (.int .i64 2)).run Tryd.prog W' = .ok (.int .u32 xc) W' := fun _ => by kernel_rfl
            have hst := Lib.hid (add_step HHj.out HGj.out (by omega) ((f 2 + xc) % 4294967296) rfl 3 rfl)
            go_wp2_with fail
            go_region
            go_wp2_with fail
            exact ⟨hst.out, by simp [intOf]⟩
          · have hix : ∀ W', (Instr.index 26 (.agg #[.int .u32 xa, .int .u32 xb, .int .u32 xc, .int .u32 xd, .int .u32 xe, .int .u32 xf, .int .u32 xg, .int .u32 xh]) (.int .i64 3)).run Tryd.prog W' = .ok (.int .u32 xd) W' := fun _ => by kernel_rfl
            have hst := Lib.hid (add_step HHj.out HGj.out (by omega) ((f 3 + xd) % 4294967296) rfl 4 rfl)
            go_wp2_with fail
            go_region
            go_wp2_with fail
            exact ⟨hst.out, by simp [intOf]⟩
          · have hix : ∀ W', (Instr.index 26 (.agg #[.int .u32 xa, .int .u32 xb, .int .u32 xc, .int .u32 xd, .int .u32 xe, .int .u32 xf, .int .u32 xg, .int .u32 xh]) (.int .i64 4)).run Tryd.prog W' = .ok (.int .u32 xe) W' := fun _ => by kernel_rfl
            have hst := Lib.hid (add_step HHj.out HGj.out (by omega) ((f 4 + xe) % 4294967296) rfl 5 rfl)
            go_wp2_with fail
            go_region
            go_wp2_with fail
            exact ⟨hst.out, by simp [intOf]⟩
          · have hix : ∀ W', (Instr.index 26 (.agg #[.int .u32 xa, .int .u32 xb, .int .u32 xc, .int .u32 xd, .int .u32 xe, .int .u32 xf, .int .u32 xg, .int .u32 xh]) (.int .i64 5)).run Tryd.prog W' = .ok (.int .u32 xf) W' := fun _ => by kernel_rfl
            have hst := Lib.hid (add_step HHj.out HGj.out (by omega) ((f 5 + xf) % 4294967296) rfl 6 rfl)
            go_wp2_with fail
            go_region
            go_wp2_with fail
            exact ⟨hst.out, by simp [intOf]⟩
          · have hix : ∀ W', (Instr.index 26 (.agg #[.int .u32 xa, .int .u32 xb, .int .u32 xc, .int .u32 xd, .int .u32 xe, .int .u32 xf, .int .u32 xg, .int .u32 xh]) (.int .i64 6)).run Tryd.prog W' = .ok (.int .u32 xg) W' := fun _ => by kernel_rfl
            have hst := Lib.hid (add_step HHj.out HGj.out (by omega) ((f 6 + xg) % 4294967296) rfl 7 rfl)
            go_wp2_with fail
            go_region
            go_wp2_with fail
            exact ⟨hst.out, by simp [intOf]⟩
          · have hix : ∀ W', (Instr.index 26 (.agg #[.int .u32 xa, .int .u32 xb, .int .u32 xc, .int .u32 xd, .int .u32 xe, .int .u32 xf, .int .u32 xg, .int .u32 xh]) (.int .i64 7)).run Tryd.prog W' = .ok (.int .u32 xh) W' := fun _ => by kernel_rfl
            have hst := Lib.hid (add_step HHj.out HGj.out (by omega) ((f 7 + xh) % 4294967296) rfl 8 rfl)
            go_wp2_with fail
            go_region
            go_wp2_with fail
            exact ⟨hst.out, by simp [intOf]⟩
        · obtain rfl : j = 8 := by omega
          go_wp2_with fail
          go_end0
          exact ⟨rfl, by rw [← HR.out] at HHj; exact HHj.out, HGj.out⟩
end Go.Proofs.YtodmomhilpheiaaDoor
