/- spread. -/
import Derived.Test.YtodmomhilpheiaaDoorQb
import Derived.StillTailTactics
namespace Go.Proofs.YtodmomhilpheiaaDoor
open Go.RowKit

theorem heap_two (w : World) (o p : Obj) : ((w.alloc o).alloc p).heap[w.heap.size + 1]? = some p := by
  have := heap_alloc_last (w.alloc o) p
  simpa using this

theorem heap_first (w : World) (o p : Obj) : ((w.alloc o).alloc p).heap[w.heap.size]? = some o := by
  show ((w.heap.push o).push p)[w.heap.size]? = _
  rw [Array.getElem?_push, if_neg (by simp), Array.getElem?_push, if_pos rfl]

/-- A row of 64 numbers in block g. -/
def RowAt (g : Nat) (F : Nat → Int) (w : World) : Prop := w.heap[g]? = some (.cells (u32s F 64) 50 (0, 0))
theorem RowAt.cell {g : Nat} {F : Nat → Int} {w : World} (h : RowAt g F w) (i : Nat) (hi : i < 64) : w.cell? ⟨g, i, none⟩ = some (.int .u32 (F i)) := by
  unfold World.cell?; simp only [show w.heap[g]? = _ from h]; exact u32s_get F 64 i hi
theorem RowAt.free {g : Nat} {F : Nat → Int} {w : World} (h : RowAt g F w) (i : Nat) : w.frozen? ⟨g, i, none⟩ = false := by
  simp [World.frozen?, show w.heap[g]? = _ from h]

theorem u32s_set (F : Nat → Int) (k : Nat) (v : Int) (h : k < 64) : (u32s F 64).setIfInBounds k (.int .u32 v) = u32s (fun j => if j = k then v else F j) 64 := by
  apply Array.ext_getElem?
  intro j
  rw [Array.getElem?_setIfInBounds]
  by_cases hj : j < 64
  · by_cases e : k = j
    · subst e; rw [if_pos rfl, if_pos (by rw [u32s_size]; omega), u32s_get _ _ _ hj, if_pos rfl]
    · rw [if_neg e, u32s_get _ _ _ hj, u32s_get _ _ _ hj, if_neg (fun h => e h.symm)]
  · rw [if_neg (by omega), Array.getElem?_eq_none (by rw [u32s_size]; omega), Array.getElem?_eq_none (by rw [u32s_size]; omega)]
theorem RowAt.set {g : Nat} {F : Nat → Int} {w : World} (h : RowAt g F w) (k : Nat) (hk : k < 64) (v : Int) : RowAt g (fun j => if j = k then v else F j) (w.setCell ⟨g, k, none⟩ (.int .u32 v)) := by
  have e : w.heap[g]? = some (.cells (u32s F 64) 50 (0, 0)) := h
  show (w.heap.modify g _)[g]? = _
  rw [Array.getElem?_modify, if_pos rfl, e]
  simp [u32s_set F k v hk]
theorem RowAt.drew {g : Nat} {F : Nat → Int} {w : World} (h : RowAt g F w) : RowAt g F w.drew := h

/-- Of c bytes from 4 m on the number. -/
def part (blk : Nat → Int) (m : Nat) : Nat → Int
  | 0 => 0
  | c + 1 => part blk m c * 256 + blk (4 * m + c)
def wordF (blk : Nat → Int) (t m : Nat) : Int := part blk m (min 4 (t - 4 * m))
theorem wordF_step (blk : Nat → Int) (t k j : Nat) (ht : t = 4 * k + j) (hj : j < 4) : (fun m => if m = k then wordF blk t k * 256 + blk t else wordF blk t m) = wordF blk (t + 1) := by
  funext m
  unfold wordF
  by_cases h : m = k
  · subst h
    rw [if_pos rfl, show min 4 (t - 4 * m) = j by omega, show min 4 (t + 1 - 4 * m) = j + 1 by omega, part, ht]
  · rw [if_neg h, show min 4 (t + 1 - 4 * m) = min 4 (t - 4 * m) by omega]
def Bytes8 (blk : Nat → Int) : Prop := ∀ i, 0 ≤ blk i ∧ blk i < 256
theorem part_rng (blk : Nat → Int) (h : Bytes8 blk) (m c : Nat) : 0 ≤ part blk m c ∧ part blk m c < 256 ^ c := by
  induction c with
  | zero => simp [part]
  | succ c ih =>
    have := h (4 * m + c)
    rw [part, Int.pow_succ]
    omega
theorem wordF_rng (blk : Nat → Int) (h : Bytes8 blk) (t k j : Nat) (ht : t = 4 * k + j) (hj : j < 4) : 0 ≤ wordF blk t k ∧ wordF blk t k < 16777216 := by
  have := part_rng blk h k j
  unfold wordF
  rw [show min 4 (t - 4 * k) = j by omega]
  rcases (show j = 0 ∨ j = 1 ∨ j = 2 ∨ j = 3 by omega) with rfl | rfl | rfl | rfl <;> simp at this <;> omega

def ZeroAt (g : Nat) (w : World) : Prop := ∃ Z : Array Value, Z.size = 64 ∧ w.heap[g]? = some (.cells Z 50 (0, 0))
theorem ZeroAt.set {g : Nat} {w : World} (h : ZeroAt g w) (k : Nat) (v : Value) : ZeroAt g (w.setCell ⟨g + 1, k, none⟩ v) := by
  obtain ⟨Z, hZ, e⟩ := h
  refine ⟨Z, hZ, ?_⟩
  show (w.heap.modify (g + 1) _)[g]? = _
  rw [Array.getElem?_modify, if_neg (by omega)]; exact e
theorem ZeroAt.drew {g : Nat} {w : World} (h : ZeroAt g w) : ZeroAt g w.drew := h
/-- What all three loops keep: the row, the result's own cells, what lay there before. -/
def SprAt (F : Nat → Int) (w wr : World) : Prop := RowAt (w.heap.size + 1) F wr ∧ ZeroAt w.heap.size wr ∧ Below w.heap.size w wr ∧ w.heap.size ≤ wr.heap.size
theorem SprAt.set {F : Nat → Int} {w wr : World} (h : SprAt F w wr) (k : Nat) (hk : k < 64) (v : Int) : SprAt (fun j => if j = k then v else F j) w (wr.setCell ⟨w.heap.size + 1, k, none⟩ (.int .u32 v)).drew :=
  ⟨(h.1.set k hk v).drew, (h.2.1.set k _).drew, (h.2.2.1.setCell (p := ⟨w.heap.size + 1, k, none⟩) (by show w.heap.size ≤ w.heap.size + 1; omega) _).drew, by have := h.2.2.2; simpa [World.setCell, World.drew] using this⟩
def OutSlot (blk : Nat → Int) (w : World) (i : Value) (wr : World) : Prop := ∃ k : Nat, k ≤ 16 ∧ i = .int .i64 k ∧ SprAt (wordF blk (4 * k)) w wr
def InSlot (blk : Nat → Int) (w : World) (k : Nat) (i : Value) (wr : World) : Prop := ∃ j : Nat, j ≤ 4 ∧ i = .int .i64 j ∧ SprAt (wordF blk (4 * k + j)) w wr
theorem in_step {blk : Nat → Int} {w wr : World} {k j : Nat} (h : SprAt (wordF blk (4 * k + j)) w wr) (hk : k < 16) (hj : j < 4) (v : Int) (hv : v = wordF blk (4 * k + j) k * 256 + blk (4 * k + j)) (i : Int) (hi : i = ((j + 1 : Nat) : Int)) :
    InSlot blk w k (.int .i64 i) (wr.setCell ⟨w.heap.size + 1, k, none⟩ (.int .u32 v)).drew := by
  refine ⟨j + 1, by omega, by rw [hi], ?_⟩
  have h1 := h.set k (by omega) v
  rw [hv, wordF_step blk (4 * k + j) k j rfl hj] at h1
  rw [hv]; exact h1
theorem or_u32 (x c : Int) (h0 : 0 ≤ x) (h1 : x < 16777216) (c0 : 0 ≤ c) (c1 : c < 256) : bits .or .u32 (x * 256) c = x * 256 + c :=
  bits_join .u32 32 (by decide) wraps_u32 8 _ _ (by omega) (by omega) (by omega) (by omega) (by omega) (by omega)

def s0F (x : Int) : Int := bits .xor .u32 (bits .xor .u32 (rotI 128 33554432 x) (rotI 262144 16384 x)) (x / 8)
def s1F (y : Int) : Int := bits .xor .u32 (bits .xor .u32 (rotI 131072 32768 y) (rotI 524288 8192 y)) (y / 1024)
def nextW (F : Nat → Int) (m : Nat) : Int := (F (m - 16) + s0F (F (m - 15)) + F (m - 7) + s1F (F (m - 2))) % 4294967296
/-- The row when all words ahead of word m are made. -/
def schF (blk : Nat → Int) : Nat → Nat → Int
  | 0 => wordF blk 64
  | k + 1 => fun m => if m = 16 + k then nextW (schF blk k) (16 + k) else schF blk k m
theorem wordF_full (blk : Nat → Int) (h : Bytes8 blk) (t m : Nat) : 0 ≤ wordF blk t m ∧ wordF blk t m < 4294967296 := by
  have := part_rng blk h m (min 4 (t - 4 * m))
  unfold wordF
  rcases (show min 4 (t - 4 * m) = 0 ∨ min 4 (t - 4 * m) = 1 ∨ min 4 (t - 4 * m) = 2 ∨ min 4 (t - 4 * m) = 3 ∨ min 4 (t - 4 * m) = 4 by omega) with e | e | e | e | e <;> rw [e] at this ⊢ <;> simp at this <;> omega
theorem schF_rng (blk : Nat → Int) (h : Bytes8 blk) (k m : Nat) : 0 ≤ schF blk k m ∧ schF blk k m < 4294967296 := by
  induction k generalizing m with
  | zero => exact wordF_full blk h 64 m
  | succ k ih =>
    unfold schF
    split
    · unfold nextW; omega
    · exact ih m
def SchSlot (blk : Nat → Int) (w : World) (i : Value) (wr : World) : Prop := ∃ k : Nat, k ≤ 48 ∧ i = .int .i64 ((16 + k : Nat) : Int) ∧ SprAt (schF blk k) w wr

theorem SprAt.drewN {F : Nat → Int} {w wr : World} (h : SprAt F w wr) (q : Nat) : SprAt F w (wr.drewN q) :=
  ⟨by have h1 := h.1; unfold RowAt at h1 ⊢; simpa using h1, by obtain ⟨Z, hZ, e⟩ := h.2.1; exact ⟨Z, hZ, by simpa using e⟩, below_drewN h.2.2.1 q, by simpa using h.2.2.2⟩
theorem SprAt.put {F : Nat → Int} {w wr : World} (h : SprAt F w wr) (k : Nat) (hk : k < 64) (v : Int) : SprAt (fun j => if j = k then v else F j) w (wr.setCell ⟨w.heap.size + 1, k, none⟩ (.int .u32 v)) :=
  ⟨h.1.set k hk v, h.2.1.set k _, h.2.2.1.setCell (p := ⟨w.heap.size + 1, k, none⟩) (by show w.heap.size ≤ w.heap.size + 1; omega) _, by have := h.2.2.2; simpa [World.setCell] using this⟩
theorem sch_step {blk : Nat → Int} {w wr : World} {k : Nat} (h : SprAt (schF blk k) w wr) (hk : k < 48) (q m : Nat) (hm : 16 + k = m) (v : Int) (hv : v = nextW (schF blk k) m) (i : Int) (hi : i = (m : Int) + 1) :
    SchSlot blk w (.int .i64 i) ((wr.drewN q).setCell ⟨w.heap.size + 1, m, none⟩ (.int .u32 v)) := by
  subst hm
  refine ⟨k + 1, by omega, by rw [hi]; congr 1, ?_⟩
  have h1 := (h.drewN q).put (16 + k) (by omega) v
  rw [hv] at h1 ⊢
  exact h1

theorem below_row {w wr : World} (h : Below w.heap.size w wr) (_hz : w.heap.size ≤ wr.heap.size) (A : Array Value) : Below w.heap.size w (wr.setRow w.heap.size A) :=
  ⟨h.os, h.tape, h.output, by have := h.size; simpa [World.setRow] using this, fun k hk => by
    show (wr.heap.modify w.heap.size _)[k]? = _
    rw [Array.getElem?_modify, if_neg (by omega)]; exact h.block k hk⟩

set_option maxHeartbeats 1000000 in
set_option maxRecDepth 100000 in
theorem spread_any (b : Nat) (f blk : Nat → Int) (n : Int) (w : World) (hH : HashAt b f blk n w) (hB8 : Bytes8 blk) :
    Calls Tryd.prog 23 #[.pointer (some ⟨b, 8, none⟩)] w fun e w' => e = .returned (.agg (u32s (schF blk 48) 64)) ∧ Below w.heap.size w w' := by
  have hb := hH.lt
  have HH := Lib.hid hH; have HB8 := Lib.hid hB8
  clear hH hB8
  go_enter Tryd.func23, Tryd.ntmps23
  go_wp2_with fail
  go_loopw [9] (fun i wr => OutSlot blk w i wr) (fun i _ => 16 - (intOf i).toNat)
  case atStart =>
    refine ⟨0, by omega, rfl, ?_, ⟨_, ?_, heap_first _ _ _⟩, ((Below.refl _ _).alloc (Nat.le_refl _) _).alloc (by simp) _, by simp; omega⟩
    · unfold RowAt; rw [heap_two]; rfl
    · rfl
  case round =>
    obtain ⟨k, hk, rfl, hS⟩ := hrel
    have HS := Lib.hid hS
    clear hS
    by_cases hlt : k < 16
    · have hi2 : (k : Int) < 16 := by omega
      go_wp2_with fail
      go_loopw [12] (fun i wr => InSlot blk w k i wr) (fun i _ => 4 - (intOf i).toNat)
      case atStart => exact ⟨0, by omega, rfl, HS.out⟩
      case round =>
        obtain ⟨j, hj, rfl, hI⟩ := hrel
        have HI := Lib.hid hI
        clear hI
        by_cases hj4 : j < 4
        · have hc := HI.out.1.cell k (by omega)
          have hz := HI.out.1.free k
          have hr := wordF_rng blk HB8.out (4 * k + j) k j rfl hj4
          obtain ⟨x, hx⟩ : ∃ x, wordF blk (4 * k + j) k = x := ⟨_, rfl⟩
          rw [hx] at hc hr
          obtain ⟨hr0, hr1⟩ := hr
          have hcb : wr.cell? ⟨b, 8 + (4 * k + j), none⟩ = some (.int .u8 (blk (4 * k + j))) := (HI.out.2.2.1.cell (p := ⟨b, 8 + (4 * k + j), none⟩) hb).trans (HH.out.byte (4 * k + j) (by omega))
          have hcr := HB8.out (4 * k + j)
          obtain ⟨c, hcc⟩ : ∃ c, blk (4 * k + j) = c := ⟨_, rfl⟩
          rw [hcc] at hcb hcr
          obtain ⟨hc0, hc1⟩ := hcr
          have hor := or_u32 x c hr0 hr1 hc0 hc1
          have hlt4 : (4 * (k : Int) + j) < 64 := by omega
          have hge4 : 0 ≤ 4 * (k : Int) + j := by omega
          have htn : (4 * (k : Int) + j).toNat = 4 * k + j := by omega
          have hw1 : IntKind.i64.wrap (4 * (k : Int)) = 4 * (k : Int) := IntWalk.i64_in _ (by omega)
          have hw2 : IntKind.i64.wrap (4 * (k : Int) + j) = 4 * (k : Int) + j := IntWalk.i64_in _ (by omega)
          have hst := Lib.hid (in_step HI.out hlt hj4 (x * 256 + c) (by rw [hx, hcc]) ((j : Int) + 1) (by omega))
          have HX := Lib.hid hx; have HC := Lib.hid hcc
          have hj5 : (j : Int) < 4 := by omega
          clear hx hcc
          go_wp2_with fail
          go_region
          go_wp2_with fail
          exact ⟨hst.out, by simp [intOf]; omega⟩
        · obtain rfl : j = 4 := by omega
          have hst : Hid (OutSlot blk w (.int .i64 ((k : Int) + 1)) wr) := Lib.hid ⟨k + 1, by omega, by go_num, HI.out⟩
          go_wp2_with fail
          exact ⟨hst.out, by simp [intOf]; omega⟩
    · obtain rfl : k = 16 := by omega
      clear hlt hk
      rw [show ((16 : Nat) : Int) = 16 from rfl]
      go_wp2_with fail
      go_loopw [6] (fun i wr => SchSlot blk w i wr) (fun i _ => 64 - (intOf i).toNat)
      case atStart => exact ⟨0, by omega, rfl, HS.out⟩
      case round =>
        obtain ⟨k, hk, rfl, hI⟩ := hrel
        have HI := Lib.hid hI
        clear hI
        by_cases hk48 : k < 48
        · obtain ⟨m, hm⟩ : ∃ m, 16 + k = m := ⟨_, rfl⟩
          have c16 := HI.out.1.cell (m - 16) (by omega)
          have c15 := HI.out.1.cell (m - 15) (by omega)
          have c7 := HI.out.1.cell (m - 7) (by omega)
          have c2 := HI.out.1.cell (m - 2) (by omega)
          have cm := HI.out.1.cell m (by omega)
          have fm := HI.out.1.free m
          have r15 := schF_rng blk HB8.out k (m - 15)
          have r2 := schF_rng blk HB8.out k (m - 2)
          obtain ⟨x16, e16⟩ : ∃ x, schF blk k (m - 16) = x := ⟨_, rfl⟩
          obtain ⟨x15, e15⟩ : ∃ x, schF blk k (m - 15) = x := ⟨_, rfl⟩
          obtain ⟨x7, e7⟩ : ∃ x, schF blk k (m - 7) = x := ⟨_, rfl⟩
          obtain ⟨x2, e2⟩ : ∃ x, schF blk k (m - 2) = x := ⟨_, rfl⟩
          rw [e16] at c16; rw [e15] at c15 r15; rw [e7] at c7; rw [e2] at c2 r2
          obtain ⟨r15a, r15b⟩ := r15
          obtain ⟨r2a, r2b⟩ := r2
          have hm64 : (m : Int) < 64 := by omega
          have g16 : 0 ≤ (m : Int) - 16 := by omega
          have g15 : 0 ≤ (m : Int) - 15 := by omega
          have g7 : 0 ≤ (m : Int) - 7 := by omega
          have g2 : 0 ≤ (m : Int) - 2 := by omega
          have k16 : 16 ≤ (m : Int) := by omega
          have k15 : 15 ≤ (m : Int) := by omega
          have k7 : 7 ≤ (m : Int) := by omega
          have k2 : 2 ≤ (m : Int) := by omega
          have l16 : (m : Int) - 16 < 64 := by omega
          have l15 : (m : Int) - 15 < 64 := by omega
          have l7 : (m : Int) - 7 < 64 := by omega
          have l2 : (m : Int) - 2 < 64 := by omega
          have t16 : ((m : Int) - 16).toNat = m - 16 := by omega
          have t15 : ((m : Int) - 15).toNat = m - 15 := by omega
          have t7 : ((m : Int) - 7).toNat = m - 7 := by omega
          have t2 : ((m : Int) - 2).toNat = m - 2 := by omega
          have w16 : IntKind.i64.wrap ((m : Int) - 16) = (m : Int) - 16 := IntWalk.i64_in _ (by omega)
          have w15 : IntKind.i64.wrap ((m : Int) - 15) = (m : Int) - 15 := IntWalk.i64_in _ (by omega)
          have w7 : IntKind.i64.wrap ((m : Int) - 7) = (m : Int) - 7 := IntWalk.i64_in _ (by omega)
          have w2 : IntKind.i64.wrap ((m : Int) - 2) = (m : Int) - 2 := IntWalk.i64_in _ (by omega)
          have HM := Lib.hid hm
          rw [hm]
          have E16 := Lib.hid e16; have E15 := Lib.hid e15; have E7 := Lib.hid e7; have E2 := Lib.hid e2
          clear hm e16 e15 e7 e2
          go_wp2_with fail
          go_quiet (fail)
          go_wp2_with fail
          refine wp_region_still_tail 29 (by kernel_rfl) (by kernel_rfl) ?_
          change wpStill _ _ (World.drew _) _ _ _
          simp only [List.take_succ_cons, List.take_zero, List.drop_succ_cons, List.drop_zero]
          repeat still_step
          still_call (turn_7s x15 _ r15a r15b)
          repeat still_step
          still_call (turn_18s x15 _ r15a r15b)
          repeat still_step
          still_call (turn_17s x2 _ r2a r2b)
          repeat still_step
          still_call (turn_19s x2 _ r2a r2b)
          repeat still_step
          try refine wpStill_nil ?_
          change wpList _ _ _ _ _ (World.drew _)
          go_wp2_with fail
          have hst : Hid (SchSlot blk w (.int .i64 ((m : Int) + 1)) ((wr.drewN (nq + 1)).setCell ⟨w.heap.size + 1, m, none⟩ (.int .u32 ((x16 + bits .xor .u32 (bits .xor .u32 (rotI 128 33554432 x15) (rotI 262144 16384 x15)) (x15 / 8) + x7 + bits .xor .u32 (bits .xor .u32 (rotI 131072 32768 x2) (rotI 524288 8192 x2)) (x2 / 1024)) % 4294967296)))) :=
            Lib.hid (sch_step HI.out hk48 (nq + 1) m HM.out _ (by rw [nextW, E16.out, E15.out, E7.out, E2.out]; rfl) _ rfl)
          exact ⟨hst.out, by simp [intOf]; omega⟩
        · obtain rfl : k = 48 := by omega
          have hg1 : wr.heap[w.heap.size + 1]? = some (.cells (u32s (schF blk 48) 64) 50 (0, 0)) := HI.out.1
          obtain ⟨Z, hZ, hg2⟩ := HI.out.2.1
          have G1 := Lib.hid hg1; have G2 := Lib.hid hg2
          obtain ⟨A, hA⟩ : ∃ A, u32s (schF blk 48) 64 = A := ⟨_, rfl⟩
          rw [hA] at G1
          have hsz : (Tryd.prog.info? 50).map (·.size) = some A.size := by rw [← hA, u32s_size]; kernel_rfl
          have hone : A.all (·.oneCell') = true := by rw [← hA]; exact u32s_one _ _
          have hAZ : Z.size = A.size := by rw [← hA, u32s_size]; exact hZ
          have HA := Lib.hid hA; have HSZ := Lib.hid hsz; have HON := Lib.hid hone; have HAZ := Lib.hid hAZ
          clear hg1 hg2 hA hsz hone hAZ hZ
          go_wp2_with (first | (refine wpList_load_row rfl 50 _ rfl (w.heap.size + 1) rfl 50 A (0, 0) _ G1.out Tryd.underlying50 rfl HSZ.out ?_) | (refine wpList_store_row rfl 50 _ _ rfl w.heap.size A rfl rfl 50 Z G2.out HSZ.out HAZ.out HON.out ?_))
          have hset : (wr.setRow w.heap.size A).heap[w.heap.size]? = some (.cells A 50 (0, 0)) := by
            show (wr.heap.modify w.heap.size _)[w.heap.size]? = _
            rw [Array.getElem?_modify, if_pos rfl, G2.out]; rfl
          refine bodyPost_ret (v := .agg A) (results_cell_row (p := 2) (ty := 50) (by kernel_rfl) _ _ w.heap.size 50 A (0, 0) _ rfl hset Tryd.underlying50 rfl HSZ.out) rfl ?_
          rw [← HA.out]
          exact ⟨rfl, below_row HI.out.2.2.1 HI.out.2.2.2 _⟩
end Go.Proofs.YtodmomhilpheiaaDoor
