/- The document's Sum: it is the digest of every text. -/
import Derived.Test.YtodmomhilpheiaaDoorQs
import Derived.StillTailTactics
import Derived.Deep.QuietTactic
import Derived.BigQuiet
import Derived.Deep.RegionHeld3
import Derived.Deep.AppendLies
namespace Go.Proofs.YtodmomhilpheiaaDoor
open Go.RowKit

theorem bytes_text (w : World) (s : ByteArray) (F : Nat → Int) (hF : ∀ i, i < s.size → F i = atI s i) (hs : s.size ≤ 3000) : ∃ w3 cap, (convert 9 44 (.string s)).run Tryd.prog w = .ok (.slice (some ⟨w.heap.size, 0, none⟩) s.size cap) w3 ∧ TextAt w3 w.heap.size w.heap.size cap s.size F ∧ Below w.heap.size w w3 ∧ w.heap.size < w3.heap.size := by
  have hcap : s.size ≤ grownCap w s.size 0 5 := grownCap_ge _ _ _ _
  have hcm : grownCap w s.size 0 5 ≤ maxLen := grownCap_le_maxLen _ _ _ _ (by unfold maxLen; omega)
  have hbs : (Lib.bytesCells w 5 s).size = grownCap w s.size 0 5 := by unfold Lib.bytesCells; simp; have : s.data.size = s.size := rfl; omega
  refine ⟨_, _, Lib.run_convert_string_bytes w 9 44 5 s Tryd.underlying9 Tryd.underlying44 Tryd.underlying5, ⟨Nat.le_refl _, by rw [Lib.bytesWorld_size]; omega, hcap, hcm, fun i hi => ?_, fun i hi hic => ⟨?_, ?_⟩⟩, Lib.bytesWorld_below _ _ _, by rw [Lib.bytesWorld_size]; omega⟩
  · rw [Lib.bytesWorld_cell w 5 s i hi, hF i hi]
    have : i < s.data.size := hi
    simp [atI, List.getD, Array.getElem?_eq_getElem this, hi]
  · unfold World.cell?
    simp only [Lib.bytesWorld_at_new]
    rw [Array.getElem?_eq_getElem (by rw [hbs]; exact hic)]
    rfl
  · simp only [World.frozen?, Lib.bytesWorld_at_new]
    simp
    omega

theorem cell_new1 (W : World) (v : Value) (T : TypeId) : (W.alloc (.cells #[v] T)).cell? ⟨W.heap.size, 0, none⟩ = some v := by
  have e : (W.alloc (.cells #[v] T)).heap[W.heap.size]? = some (.cells #[v] T (0, 0)) := heap_alloc_new W _
  unfold World.cell?
  simp only [e]
  rfl
def u32L (F : Nat → Int) (m : Nat) : List Value := (List.range m).map fun i => Value.int .u32 (F i)
theorem u32L_get (F : Nat → Int) (m i : Nat) (h : i < m) : (u32L F m)[i]? = some (.int .u32 (F i)) := by simp [u32L, h]
theorem u32L_snoc (F : Nat → Int) (m : Nat) : u32L F (m + 1) = u32L F m ++ [.int .u32 (F m)] := by unfold u32L; rw [List.range_succ, List.map_append]; rfl
/-- What is known of memory from the third loop on: the text, the table, the state. -/
def R3 (P : Nat → Int) (L gt gk gv : Nat) (f : Nat → Int) (w wr : World) : Prop :=
  (∀ i, i < L → wr.cell? ⟨gt, i, none⟩ = some (.int .u8 (P i))) ∧ (∀ i, i < 64 → wr.cell? ⟨gk, i, none⟩ = some (.int .u32 (kkF i))) ∧ wr.heap[gv]? = some (.cells (u32s f 8) 25 (0, 0)) ∧ Below w.heap.size w wr ∧ gt < gv ∧ gk < gv ∧ w.heap.size ≤ gk ∧ gv < wr.heap.size
theorem R3.keep {P : Nat → Int} {L gt gk gv : Nat} {f : Nat → Int} {w wr w' : World} (h : R3 P L gt gk gv f w wr) {B : Nat} (hb : Below B wr w') (hB : gv < B) : R3 P L gt gk gv f w w' := by
  obtain ⟨h1, h2, h3, h4, h5, h6, h7, h8⟩ := h
  exact ⟨fun i hi => (hb.cell (p := ⟨gt, i, none⟩) (by show gt < B; omega)).trans (h1 i hi), fun i hi => (hb.cell (p := ⟨gk, i, none⟩) (by show gk < B; omega)).trans (h2 i hi), (hb.block gv hB).trans h3, h4.trans (hb.mono (by omega)), h5, h6, h7, Nat.lt_of_lt_of_le h8 hb.size⟩
theorem R3.vcell {P : Nat → Int} {L gt gk gv : Nat} {f : Nat → Int} {w wr : World} (h : R3 P L gt gk gv f w wr) (i : Nat) (hi : i < 8) : wr.cell? ⟨gv, i, none⟩ = some (.int .u32 (f i)) := by
  unfold World.cell?; simp only [h.2.2.1]; exact u32s_get f 8 i hi
theorem R3.vfree {P : Nat → Int} {L gt gk gv : Nat} {f : Nat → Int} {w wr : World} (h : R3 P L gt gk gv f w wr) (i : Nat) : wr.frozen? ⟨gv, i, none⟩ = false := by
  simp [World.frozen?, h.2.2.1]
def BlkSlot (P : Nat → Int) (L N gt gk gv : Nat) (w : World) (i : Value) (wr : World) : Prop := ∃ q : Nat, q ≤ N ∧ i = .int .i64 ((64 * q : Nat) : Int) ∧ R3 P L gt gk gv (stF P q) w wr
theorem own_cells2 {w : World} {B n : Nat} {v : Value} {xs : List Value} {e : TypeId} (h : w.ownsRow B e 1 v n xs) : ∃ a cap, v = .slice a n cap ∧ (n = 0 ∨ ∃ g, a = some ⟨g, 0, none⟩ ∧ (B ≤ g ∧ g < w.heap.size) ∧ ∀ i u, xs[i]? = some u → w.cell? ⟨g, i, none⟩ = some u) := by
  rcases h.2 with ⟨hv, h0⟩ | ⟨g, cap, cur, hv, hB, hg, _⟩
  · exact ⟨none, 0, by rw [hv, h0], Or.inl h0⟩
  · refine ⟨_, cap, hv, Or.inr ⟨g, rfl, ⟨hB, (Array.getElem?_eq_some_iff.1 hg).1⟩, fun i u hu => ?_⟩⟩
    have := h.cells (g := g) (by rw [hv]; rfl) i u hu
    rw [addr_at] at this
    exact this
theorem rturn_7s (x : Int) (w : World) (h0 : 0 ≤ x) (h1 : x < 4294967296) :
    Calls Tryd.prog 17 #[.int .u32 x, .int .u64 7] w fun e w' => e = .returned (.int .u32 (rotI 128 33554432 x)) ∧ w' = w :=
  (rturn_7 x w h0 h1).mono fun _ _ ⟨a, b⟩ => ⟨a, b.symm⟩
theorem rturn_18s (x : Int) (w : World) (h0 : 0 ≤ x) (h1 : x < 4294967296) :
    Calls Tryd.prog 17 #[.int .u32 x, .int .u64 18] w fun e w' => e = .returned (.int .u32 (rotI 262144 16384 x)) ∧ w' = w :=
  (rturn_18 x w h0 h1).mono fun _ _ ⟨a, b⟩ => ⟨a, b.symm⟩
theorem rturn_17s (x : Int) (w : World) (h0 : 0 ≤ x) (h1 : x < 4294967296) :
    Calls Tryd.prog 17 #[.int .u32 x, .int .u64 17] w fun e w' => e = .returned (.int .u32 (rotI 131072 32768 x)) ∧ w' = w :=
  (rturn_17 x w h0 h1).mono fun _ _ ⟨a, b⟩ => ⟨a, b.symm⟩
theorem rturn_19s (x : Int) (w : World) (h0 : 0 ≤ x) (h1 : x < 4294967296) :
    Calls Tryd.prog 17 #[.int .u32 x, .int .u64 19] w fun e w' => e = .returned (.int .u32 (rotI 524288 8192 x)) ∧ w' = w :=
  (rturn_19 x w h0 h1).mono fun _ _ ⟨a, b⟩ => ⟨a, b.symm⟩
theorem rturn_6s (x : Int) (w : World) (h0 : 0 ≤ x) (h1 : x < 4294967296) :
    Calls Tryd.prog 17 #[.int .u32 x, .int .u64 6] w fun e w' => e = .returned (.int .u32 (rotI 64 67108864 x)) ∧ w' = w :=
  (rturn_6 x w h0 h1).mono fun _ _ ⟨a, b⟩ => ⟨a, b.symm⟩
theorem rturn_11s (x : Int) (w : World) (h0 : 0 ≤ x) (h1 : x < 4294967296) :
    Calls Tryd.prog 17 #[.int .u32 x, .int .u64 11] w fun e w' => e = .returned (.int .u32 (rotI 2048 2097152 x)) ∧ w' = w :=
  (rturn_11 x w h0 h1).mono fun _ _ ⟨a, b⟩ => ⟨a, b.symm⟩
theorem rturn_25s (x : Int) (w : World) (h0 : 0 ≤ x) (h1 : x < 4294967296) :
    Calls Tryd.prog 17 #[.int .u32 x, .int .u64 25] w fun e w' => e = .returned (.int .u32 (rotI 33554432 128 x)) ∧ w' = w :=
  (rturn_25 x w h0 h1).mono fun _ _ ⟨a, b⟩ => ⟨a, b.symm⟩
theorem blk_rng {P : Nat → Int} (h : Bytes8 P) (q : Nat) : Bytes8 (fun i => P (64 * q + i)) := fun i => h _
def blkF (P : Nat → Int) (q i : Nat) : Int := P (64 * q + i)
def WSlot (P : Nat → Int) (L gt gk gv : Nat) (f : Nat → Int) (q : Nat) (w : World) (v i : Value) (wr : World) : Prop :=
  ∃ k : Nat, k ≤ 64 ∧ i = .int .i64 k ∧ wr.ownsRow (gv + 1) 25 1 v k (u32L (schF (blkF P q) 48) k) ∧ R3 P L gt gk gv f w wr
theorem part_or (b0 b1 b2 b3 : Int) (x0 : 0 ≤ b0) (y0 : b0 < 256) (x1 : 0 ≤ b1) (y1 : b1 < 256) (x2 : 0 ≤ b2) (y2 : b2 < 256) (x3 : 0 ≤ b3) (y3 : b3 < 256) :
    bits .or .u32 (bits .or .u32 (bits .or .u32 (b0 * 16777216) (b1 * 65536)) (b2 * 256)) b3 = ((b0 * 256 + b1) * 256 + b2) * 256 + b3 := by
  rw [bits_join .u32 32 (by decide) wraps_u32 24 (b0 * 16777216) (b1 * 65536) (by omega) (by omega) (by omega) (by omega) (by omega) (by omega)]
  rw [bits_join .u32 32 (by decide) wraps_u32 16 _ (b2 * 256) (by omega) (by omega) (by omega) (by omega) (by omega) (by omega)]
  rw [bits_join .u32 32 (by decide) wraps_u32 8 _ b3 (by omega) (by omega) (by omega) (by omega) (by omega) (by omega)]
  omega
theorem word_at (P : Nat → Int) (q k : Nat) (hk : k < 16) (pp : Nat) (hp : pp = 64 * q + 4 * k) (hP : Bytes8 P) :
    0 ≤ P pp ∧ P pp < 256 ∧ 0 ≤ P (pp + 1) ∧ P (pp + 1) < 256 ∧ 0 ≤ P (pp + 2) ∧ P (pp + 2) < 256 ∧ 0 ≤ P (pp + 3) ∧ P (pp + 3) < 256 ∧
    bits .or .u32 (bits .or .u32 (bits .or .u32 (P pp * 16777216) (P (pp + 1) * 65536)) (P (pp + 2) * 256)) (P (pp + 3)) = ((P pp * 256 + P (pp + 1)) * 256 + P (pp + 2)) * 256 + P (pp + 3) ∧
    schF (blkF P q) 48 k = ((P pp * 256 + P (pp + 1)) * 256 + P (pp + 2)) * 256 + P (pp + 3) := by
  have h0 := hP pp; have h1 := hP (pp + 1); have h2 := hP (pp + 2); have h3 := hP (pp + 3)
  refine ⟨h0.1, h0.2, h1.1, h1.2, h2.1, h2.2, h3.1, h3.2, part_or _ _ _ _ h0.1 h0.2 h1.1 h1.2 h2.1 h2.2 h3.1 h3.2, ?_⟩
  rw [schF_low (blkF P q) k hk 48]
  unfold wordF
  rw [show min 4 (64 - 4 * k) = 4 by omega]
  have e : ∀ c, 64 * q + (4 * k + c) = pp + c := fun c => by omega
  simp only [part, blkF, e]
  rw [Int.zero_mul, Int.zero_add, Nat.add_zero]
theorem R3.setv {P : Nat → Int} {L gt gk gv : Nat} {f : Nat → Int} {w wr : World} (h : R3 P L gt gk gv f w wr) (j : Nat) (hj : j < 8) (v : Int) : R3 P L gt gk gv (fun i => if i = j then v else f i) w (wr.setCell ⟨gv, j, none⟩ (.int .u32 v)).drew := by
  obtain ⟨h1, h2, h3, h4, h5, h6, h7, h8⟩ := h
  have hb : Below gv wr (wr.setCell ⟨gv, j, none⟩ (.int .u32 v)).drew := ((Below.refl gv wr).setCell (p := ⟨gv, j, none⟩) (Nat.le_refl gv) _).drew
  refine ⟨fun i hi => (hb.cell (p := ⟨gt, i, none⟩) h5).trans (h1 i hi), fun i hi => (hb.cell (p := ⟨gk, i, none⟩) h6).trans (h2 i hi), ?_, h4.trans (hb.mono (by omega)), h5, h6, h7, by have := hb.size; omega⟩
  show (wr.heap.modify gv _)[gv]? = _
  rw [Array.getElem?_modify, if_pos rfl, h3]
  have e : (u32s f 8).setIfInBounds j (.int .u32 v) = u32s (fun i => if i = j then v else f i) 8 := by
    apply Array.ext_getElem?
    intro i
    rw [Array.getElem?_setIfInBounds]
    by_cases hi : i < 8
    · by_cases e : j = i
      · subst e; rw [if_pos rfl, if_pos (by rw [u32s_size]; omega), u32s_get _ _ _ hi, if_pos rfl]
      · rw [if_neg e, u32s_get _ _ _ hi, u32s_get _ _ _ hi, if_neg (fun h => e h.symm)]
    · rw [if_neg (by omega), Array.getElem?_eq_none (by rw [u32s_size]; omega), Array.getElem?_eq_none (by rw [u32s_size]; omega)]
  simp [e]
theorem addF_zero (f : Nat → Int) (s : St) : addF f s 0 = f := by funext i; unfold addF; rw [if_neg (by omega)]
def AddS (P : Nat → Int) (L gt gk gv : Nat) (f : Nat → Int) (s : St) (w : World) (gz : Nat) (i : Value) (wx : World) : Prop :=
  ∃ j : Nat, j ≤ 8 ∧ i = .int .i64 j ∧ R3 P L gt gk gv (addF f s j) w wx ∧ wx.heap[gz]? = some (.cells (u32s (stGet s) 8) 25 (0, 0)) ∧ gv < gz
def OutS (P : Nat → Int) (L gt gk gv : Nat) (F : Nat → Int) (w : World) (v i : Value) (wx : World) : Prop :=
  ∃ k : Nat, k ≤ 8 ∧ i = .int .i64 k ∧ wx.ownsRow (gv + 1) 5 1 v (4 * k) (u8L (beF F) (4 * k)) ∧ R3 P L gt gk gv F w wx
/-- What is known of memory at the heads of the first two loops. -/
def PadInv (w : World) (gk : Nat) (F : Nat → Int) (v : Value) (m : Nat) (wr : World) : Prop :=
  ∃ g cap, v = .slice (some ⟨g, 0, none⟩) m cap ∧ TextAt wr (gk + 1) g cap m F ∧ wr.heap[gk]? = some (.cells (u32s kkF 64) 25 (0, 0)) ∧ Below w.heap.size w wr ∧ w.heap.size ≤ gk
def PadSlot (D : Nat → Int) (n : Nat) (w : World) (gk : Nat) (v : Value) (wr : World) : Prop := ∃ m, n + 1 ≤ m ∧ m ≤ 64 * nblk n - 8 ∧ PadInv w gk (padF D n) v m wr
def TailSlot (D : Nat → Int) (n : Nat) (w : World) (gk : Nat) (v i : Value) (wr : World) : Prop := ∃ p m : Nat, p ≤ 8 ∧ m + p = 64 * nblk n ∧ i = .int .i64 ((p : Int) - 1) ∧ PadInv w gk (padF D n) v m wr
def sliceLen (v : Value) : Nat := match v with | .slice _ m _ => m | _ => 0
theorem pad_next {w : World} {gk g m : Nat} {F : Nat → Int} {wr w' : World} (hk : wr.heap[gk]? = some (.cells (u32s kkF 64) 25 (0, 0))) (hB : Below w.heap.size w wr) (hg : w.heap.size ≤ gk) {g' cap' : Nat} (h0 : gk < g) (h : TextAt w' (gk + 1) g' cap' m F) (hgr : wr.grownBy w' (some g)) : PadInv w gk F (.slice (some ⟨g', 0, none⟩) m cap') m w' := by
  have hlt : gk < wr.heap.size := by
    rcases Nat.lt_or_ge gk wr.heap.size with h' | h'
    · exact h'
    · rw [Array.getElem?_eq_none h'] at hk; cases hk
  exact ⟨g', cap', rfl, h, (hgr.block gk hlt (by intro e; injection e with e; omega)).trans hk, hB.grown hgr hB.size (fun k hk' => by injection hk' with hk'; omega), hg⟩

set_option maxHeartbeats 40000000 in
set_option maxRecDepth 100000 in
theorem RSum_any (s : ByteArray) (w : World) (hs : s.size ≤ 3000) :
    Calls Tryd.prog 9 #[.string s] w fun e w' => e = .returned (.string (shaT s)) ∧ Below w.heap.size w w' := by
  obtain ⟨n, hn⟩ : ∃ n, s.size = n := ⟨_, rfl⟩
  obtain ⟨D, hD⟩ : ∃ D, atI s = D := ⟨_, rfl⟩
  have hBD : Bytes8 D := by rw [← hD]; exact atI_bytes s
  have HBD := Lib.hid hBD
  have hpad : ∀ i, i < s.size → padF D n i = atI s i := fun i hi => by unfold padF; rw [if_pos (by omega), hD]
  have hni : (s.size : Int) = n := by omega
  have hn3 : (n : Int) ≤ 3000 := by omega
  have hnb := nblk_rng n
  have HNB := Lib.hid hnb
  have hfin : shaT s = shaB D n := by unfold shaT; rw [hD, hn]
  rw [hfin]
  obtain ⟨i1, h4, h5, h6, h7⟩ := info_parts wordInfo
  clear hnb hfin
  go_enter Tryd.func9, Tryd.ntmps9
  go_wp2_with fail
  refine (roots_any w).mono ?_
  rintro e w1 ⟨rfl, rfl⟩
  have hk1 : (w.alloc (.cells (u32s kkF 64) 25)).heap[w.heap.size]? = some (.cells (u32s kkF 64) 25 (0, 0)) := heap_alloc_new w _
  have hz1 : (w.alloc (.cells (u32s kkF 64) 25)).heap.size = w.heap.size + 1 := by show (w.heap.push _).size = _; simp
  have hb1 : Below w.heap.size w (w.alloc (.cells (u32s kkF 64) 25)) := (Below.refl _ _).alloc (Nat.le_refl _) _
  obtain ⟨w1, hw1⟩ : ∃ w1, w.alloc (.cells (u32s kkF 64) 25) = w1 := ⟨_, rfl⟩
  rw [hw1] at hk1 hz1 hb1
  rw [hw1]
  obtain ⟨w3, cap, hcv, htx, hb3, hg3⟩ := bytes_text w1 s (padF D n) hpad (by omega)
  rw [hn] at htx hcv
  have hk3 := (hb3.block w.heap.size (by omega)).trans hk1
  have HK3 := Lib.hid hk3; have HT3 := Lib.hid htx; have HB3 := Lib.hid (hb1.trans (hb3.mono hb1.size)); have HZ1 := Lib.hid hz1
  have HN := Lib.hid hn; have HD := Lib.hid hD
  clear hw1 hk1 hb1 hpad hb3 hk3 htx hD hn hBD hz1
  go_wp2_with (at_builtin; refine wpList_append_text w3 rfl _ _ rfl rfl w1.heap.size w1.heap.size cap n (padF D n) HT3.out rfl 128 (padF_one D n) rfl (by omega) ?_)
  intro g4 cap4 w4 ht4 hg4
  have hI : PadInv w w.heap.size (padF D n) (.slice (some ⟨g4, 0, none⟩) (n + 1) cap4) (n + 1) w4 := pad_next (g := w1.heap.size) HK3.out HB3.out (Nat.le_refl _) (by have := HZ1.out; omega) (by rw [← HZ1.out]; exact ht4) hg4
  have HI := Lib.hid hI
  clear hI ht4 hg4 hcv
  go_wp2_with fail
  go_loopw [5] (fun v wr => PadSlot D n w w.heap.size v wr) (fun v _ => 64 * nblk n - sliceLen v)
  case atStart => exact ⟨n + 1, Nat.le_refl _, HNB.out.1, HI.out⟩
  case round =>
    obtain ⟨m, hm1, hm2, g, cp, rfl, htx, hk, hB, hg⟩ := hrel
    have HT := Lib.hid htx; have HK := Lib.hid hk; have HB := Lib.hid hB
    have hat := nblk_at n m hm1 hm2
    obtain ⟨r, hr⟩ : ∃ r, m % 64 = r := ⟨_, rfl⟩
    have htm : (m : Int).tmod 64 = (r : Int) := by rw [Int.tmod_eq_emod_of_nonneg (by omega)]; omega
    have hm6 : m ≤ 10000 := by have := HNB.out.2.2; omega
    have hgz := htx.1
    rw [hr] at hat
    have HM1 := Lib.hid hm1; have HM2 := Lib.hid hm2; have HAT := Lib.hid hat; have HGZ := Lib.hid hgz
    clear htx hk hB hr hat hm1 hm2 hgz
    by_cases h56 : r = 56
    · have hme : m = 64 * nblk n - 8 := HAT.out.1 h56
      have h56i : ((r : Int) == 56) = true := by rw [h56]; rfl
      have h57i : ((r : Int) != 56) = false := by rw [h56]; rfl
      have HME := Lib.hid hme
      clear h56 hme
      go_wp2_with fail
      clear htm h56i h57i hni
      go_loopw [5, 6] (fun v i wr => TailSlot D n w w.heap.size v i wr) (fun _ i _ => (intOf i + 1).toNat)
      case atStart => exact ⟨8, m, by omega, by have := HME.out; have := HNB.out.2.1; omega, rfl, g, cp, rfl, HT.out, HK.out, HB.out, Nat.le_refl _⟩
      case round =>
        obtain ⟨p, m2, hp8, hm2, rfl, g2, cp2, rfl, htx, hk, hB, hg⟩ := hrel
        have HT2 := Lib.hid htx; have HK2 := Lib.hid hk; have HB2 := Lib.hid hB
        have hm26 : m2 ≤ 10000 := by have := HNB.out.2.2; omega
        have HM22 := Lib.hid hm2; have HGZ2 := Lib.hid htx.1
        clear htx hk hB hm2
        rcases (show p = 0 ∨ 0 < p by omega) with hp | hp
        · subst hp
          rw [show ((0 : Nat) : Int) - 1 = -1 from rfl]
          have hM : m2 = 64 * nblk n := by have := HM22.out; have := HNB.out.2.1; omega
          subst hM
          have hR0 : R3 (padF D n) (64 * nblk n) g2 w.heap.size wr.heap.size (stF (padF D n) 0) w (wr.alloc (.cells (u32s rootF 8) 25)) := by
            have hb1 : Below wr.heap.size wr (wr.alloc (.cells (u32s rootF 8) 25)) := (Below.refl _ _).alloc (Nat.le_refl _) _
            have hkl : w.heap.size < wr.heap.size := by
              have := HK2.out
              rcases Nat.lt_or_ge w.heap.size wr.heap.size with h' | h'
              · exact h'
              · rw [Array.getElem?_eq_none h'] at this; cases this
            refine ⟨fun i hi => (hb1.cell (p := ⟨g2, i, none⟩) HT2.out.2.1).trans (HT2.out.2.2.2.2.1 i hi), fun i hi => (hb1.cell (p := ⟨w.heap.size, i, none⟩) hkl).trans ?_, heap_alloc_new wr _, HB2.out.trans (hb1.mono HB2.out.size), HT2.out.2.1, hkl, Nat.le_refl _, by show _ < (wr.heap.push _).size; simp⟩
            unfold World.cell?
            simp only [HK2.out]
            exact u32s_get kkF 64 i hi
          have hroot : u32s rootF 8 = #[.int .u32 1779033703, .int .u32 3144134277, .int .u32 1013904242, .int .u32 2773480762, .int .u32 1359893119, .int .u32 2600822924, .int .u32 528734635, .int .u32 1541459225] := by kernel_rfl
          rw [hroot] at hR0
          have HR0 := Lib.hid hR0
          clear hR0 hroot
          have HLN : Hid (64 * nblk n = 64 * nblk n) := Lib.hid rfl
          obtain ⟨L, hL⟩ : ∃ L, 64 * nblk n = L := ⟨_, rfl⟩
          have HL := Lib.hid hL
          rw [hL] at HR0
          rw [hL]
          have hL1 : (L : Int) ≤ 10000 := by omega
          clear hL HLN
          obtain ⟨gv, hgv⟩ : ∃ gv, wr.heap.size = gv := ⟨_, rfl⟩
          rw [hgv] at HR0
          go_wp2_with fail
          clear hgv hm26
          go_loopw [8] (fun i wr => BlkSlot (padF D n) L (nblk n) g2 w.heap.size gv w i wr) (fun i _ => L - (intOf i).toNat)
          case atStart => exact ⟨0, Nat.zero_le _, rfl, HR0.out⟩
          case round =>
            obtain ⟨q, hq, rfl, hR⟩ := hrel
            have HR := Lib.hid hR; have HQ := Lib.hid hq
            obtain ⟨A, hA⟩ : ∃ A, 64 * q = A := ⟨_, rfl⟩
            have HA := Lib.hid hA
            rw [hA]
            clear hR hq hA
            by_cases hlt : A < L
            · have hlti : (A : Int) < (L : Int) := by omega
              go_wp2_with fail
              go_loopw [9, 10] (fun v i wr => WSlot (padF D n) L g2 w.heap.size gv (stF (padF D n) q) q w v i wr) (fun _ i _ => 64 - (intOf i).toNat)
              case atStart => exact ⟨0, by omega, rfl, World.ownsRow_nil _ _ _ _, HR.out⟩
              case round =>
                obtain ⟨k, hk, rfl, hown, hR⟩ := hrel
                have HO := Lib.hid hown; have HRW := Lib.hid hR
                clear hown hR
                by_cases hk16 : k < 16
                · have hki : (k : Int) < 16 := by omega
                  have hki2 : (k : Int) < 64 := by omega
                  obtain ⟨pp, hpp⟩ : ∃ pp : Nat, A + 4 * k = pp := ⟨_, rfl⟩
                  have hAN : A + 64 ≤ L := by have := HL.out; have := HA.out; have := HQ.out; omega
                  have e1 : (A : Int) + 4 * (k : Int) = (pp : Int) := by omega
                  have c0 := HRW.out.1 pp (by omega)
                  have c1 := HRW.out.1 (pp + 1) (by omega)
                  have c2 := HRW.out.1 (pp + 2) (by omega)
                  have c3 := HRW.out.1 (pp + 3) (by omega)
                  have hw := word_at (padF D n) q k hk16 pp (by rw [HA.out]; omega) (padF_rng D n HBD.out)
                  obtain ⟨b0, hb0⟩ : ∃ b, padF D n pp = b := ⟨_, rfl⟩
                  obtain ⟨b1, hb1⟩ : ∃ b, padF D n (pp + 1) = b := ⟨_, rfl⟩
                  obtain ⟨b2, hb2⟩ : ∃ b, padF D n (pp + 2) = b := ⟨_, rfl⟩
                  obtain ⟨b3, hb3'⟩ : ∃ b, padF D n (pp + 3) = b := ⟨_, rfl⟩
                  rw [hb0] at c0 hw; rw [hb1] at c1 hw; rw [hb2] at c2 hw; rw [hb3'] at c3 hw
                  obtain ⟨x0, y0, x1, y1, x2, y2, x3, y3, hor, hwv⟩ := hw
                  obtain ⟨wv, hwve⟩ : ∃ v, schF (blkF (padF D n) q) 48 k = v := ⟨_, rfl⟩
                  rw [hwve] at hwv
                  have l0 : (pp : Int) < L := by omega
                  have l1 : (pp : Int) + 1 < L := by omega
                  have l2 : (pp : Int) + 2 < L := by omega
                  have l3 : (pp : Int) + 3 < L := by omega
                  have p1 : 0 ≤ (pp : Int) + 1 := by omega
                  have p2 : 0 ≤ (pp : Int) + 2 := by omega
                  have p3 : 0 ≤ (pp : Int) + 3 := by omega
                  have t1 : ((pp : Int) + 1).toNat = pp + 1 := by omega
                  have t2 : ((pp : Int) + 2).toNat = pp + 2 := by omega
                  have t3 : ((pp : Int) + 3).toNat = pp + 3 := by omega
                  have w1' : IntKind.i64.wrap ((pp : Int) + 1) = (pp : Int) + 1 := IntWalk.i64_in _ (by omega)
                  have w2' : IntKind.i64.wrap ((pp : Int) + 2) = (pp : Int) + 2 := IntWalk.i64_in _ (by omega)
                  have w3' : IntKind.i64.wrap ((pp : Int) + 3) = (pp : Int) + 3 := IntWalk.i64_in _ (by omega)
                  have HPP := Lib.hid hpp; have HWV := Lib.hid hwv; have HWE := Lib.hid hwve; have HOR := Lib.hid hor
                  clear hpp hwv hb0 hb1 hb2 hb3' hAN hwve hor
                  have hgt : g2 < gv := HRW.out.2.2.2.2.1
                  have hgv1 : gv + 1 ≤ wr.heap.size := HRW.out.2.2.2.2.2.2.2
                  have hne : u9.ownBlock ≠ some g2 := fun e => by have := (HO.out.lt g2 e).1; omega
                  have hlg : g2 < wr.heap.size := by omega
                  have HGV1 := Lib.hid hgv1
                  clear hgv1
                  have v0 : IntKind.u32.wrap b0 = b0 := wraps_u32 _ (by omega) (by omega)
                  have v1 : IntKind.u32.wrap b1 = b1 := wraps_u32 _ (by omega) (by omega)
                  have v2 : IntKind.u32.wrap b2 = b2 := wraps_u32 _ (by omega) (by omega)
                  have v3 : IntKind.u32.wrap b3 = b3 := wraps_u32 _ (by omega) (by omega)
                  have v4 : IntKind.u32.wrap (b0 * 16777216) = b0 * 16777216 := wraps_u32 _ (by omega) (by omega)
                  have v5 : IntKind.u32.wrap (b1 * 65536) = b1 * 65536 := wraps_u32 _ (by omega) (by omega)
                  have v6 : IntKind.u32.wrap (b2 * 256) = b2 * 256 := wraps_u32 _ (by omega) (by omega)
                  go_wp2_with fail
                  as_aux_lemma =>
                    go_region_held3 (fun w' => w'.cell? ⟨g2, pp, none⟩ = some (.int .u8 b0) ∧ w'.cell? ⟨g2, pp + 1, none⟩ = some (.int .u8 b1) ∧ w'.cell? ⟨g2, pp + 2, none⟩ = some (.int .u8 b2) ∧ w'.cell? ⟨g2, pp + 3, none⟩ = some (.int .u8 b3))
                      (first
                        | go_keep
                        | (go_split_ands
                           refine ⟨?_, ?_, ?_, ?_⟩
                           · (rw [hgrow.cell_far _ (by simp; omega) (Ne.symm hne)]; assumption)
                           · (rw [hgrow.cell_far _ (by simp; omega) (Ne.symm hne)]; assumption)
                           · (rw [hgrow.cell_far _ (by simp; omega) (Ne.symm hne)]; assumption)
                           · (rw [hgrow.cell_far _ (by simp; omega) (Ne.symm hne)]; assumption)))
                      ((refine step_append_lies _ (by rfl) _ _ _ (by rfl) (gv + 1) 25 i1 (.int .u32 0) 1 4 Tryd.underlying42 h4 h5 h6 h7 rfl (by decide) u9 k (u32L (schF (blkF (padF D n) q) 48) k) (by rfl) ((HO.out.alloc _).drew)
                          ⟨wr.heap.size, 0, none⟩ 1 1 [.int .u32 (bits .or .u32 (bits .or .u32 (bits .or .u32 (b0 * 16777216) (b1 * 65536)) (b2 * 256)) b3)] (by rfl) (by rfl) (World.news_of_block (cs := #[.int .u32 (bits .or .u32 (bits .or .u32 (bits .or .u32 (b0 * 16777216) (b1 * 65536)) (b2 * 256)) b3)]) (t := 25) (fr := (0, 0)) (heap_alloc_new wr _)) (by simp [Value.oneCell'])
                          (by decide) (by unfold maxLen; omega) (by omega) (by have := HGV1.out; simp; omega) (wr.heap.size + 1) (by simp) ?_; intro gg cap5 w5 hown1 hgrow hat hlt5))
                    have hbel : Below (gv + 1) wr w5 := (((Below.refl (gv + 1) wr).alloc HGV1.out _).drew).grown hgrow (by have := HGV1.out; simp; omega) (fun g hg => (HO.out.lt g hg).1)
                    have hend : Hid (WSlot (padF D n) L g2 w.heap.size gv (stF (padF D n) q) q w (.slice (some ⟨gg, 0, none⟩) (k + 1) cap5) (.int .i64 ((k : Int) + 1)) w5) := Lib.hid ⟨k + 1, by omega, by rw [Int.natCast_succ], by rw [u32L_snoc, HWE.out, HWV.out, ← HOR.out]; exact hown1, HRW.out.keep hbel (Nat.lt_succ_self gv)⟩
                    clear hown1 hgrow hbel hat hlt5
                    go_wp2_with fail
                    exact ⟨hend.out, by simp [intOf]; omega⟩
                · by_cases hk64 : k < 64
                  · skip
                    as_aux_lemma =>
                      obtain ⟨aw, capw, rfl, hcells⟩ := own_cells2 HO.out
                      obtain ⟨gw, rfl, hgw, hcl⟩ := hcells.resolve_left (by omega)
                      have hWr := fun i => schF_rng (blkF (padF D n) q) (fun j => padF_rng D n HBD.out _) 48 i
                      have hrec := schF_rec (blkF (padF D n) q) (k - 16) (by omega)
                      rw [show 16 + (k - 16) = k by omega] at hrec
                      unfold nextW at hrec
                      obtain ⟨W, hW⟩ : ∃ W, schF (blkF (padF D n) q) 48 = W := ⟨_, rfl⟩
                      rw [hW] at hrec hWr
                      have c16 := hcl (k - 16) (.int .u32 (W (k - 16))) (by rw [hW]; exact u32L_get W k _ (by omega))
                      have c15 := hcl (k - 15) (.int .u32 (W (k - 15))) (by rw [hW]; exact u32L_get W k _ (by omega))
                      have c7 := hcl (k - 7) (.int .u32 (W (k - 7))) (by rw [hW]; exact u32L_get W k _ (by omega))
                      have c2 := hcl (k - 2) (.int .u32 (W (k - 2))) (by rw [hW]; exact u32L_get W k _ (by omega))
                      have r15 := hWr (k - 15); have r2 := hWr (k - 2); have r16 := hWr (k - 16); have r7 := hWr (k - 7)
                      obtain ⟨x16, e16⟩ : ∃ x, W (k - 16) = x := ⟨_, rfl⟩
                      obtain ⟨x15, e15⟩ : ∃ x, W (k - 15) = x := ⟨_, rfl⟩
                      obtain ⟨x7, e7⟩ : ∃ x, W (k - 7) = x := ⟨_, rfl⟩
                      obtain ⟨x2, e2⟩ : ∃ x, W (k - 2) = x := ⟨_, rfl⟩
                      rw [e16] at c16 r16 hrec; rw [e15] at c15 r15 hrec; rw [e7] at c7 r7 hrec; rw [e2] at c2 r2 hrec
                      obtain ⟨r15a, r15b⟩ := r15
                      obtain ⟨r2a, r2b⟩ := r2
                      obtain ⟨r16a, r16b⟩ := r16
                      obtain ⟨r7a, r7b⟩ := r7
                      have k16i : ¬ (k : Int) < 16 := by omega
                      have k64i : (k : Int) < 64 := by omega
                      have k16 : 16 ≤ (k : Int) := by omega
                      have k15 : 15 ≤ (k : Int) := by omega
                      have k7 : 7 ≤ (k : Int) := by omega
                      have k2 : 2 ≤ (k : Int) := by omega
                      have g16' : 0 ≤ (k : Int) - 16 := by omega
                      have g15' : 0 ≤ (k : Int) - 15 := by omega
                      have g7' : 0 ≤ (k : Int) - 7 := by omega
                      have g2' : 0 ≤ (k : Int) - 2 := by omega
                      have l16 : (k : Int) - 16 < k := by omega
                      have l15 : (k : Int) - 15 < k := by omega
                      have l7 : (k : Int) - 7 < k := by omega
                      have l2 : (k : Int) - 2 < k := by omega
                      have t16 : ((k : Int) - 16).toNat = k - 16 := by omega
                      have t15 : ((k : Int) - 15).toNat = k - 15 := by omega
                      have t7 : ((k : Int) - 7).toNat = k - 7 := by omega
                      have t2 : ((k : Int) - 2).toNat = k - 2 := by omega
                      have w16 : IntKind.i64.wrap ((k : Int) - 16) = (k : Int) - 16 := IntWalk.i64_in _ (by omega)
                      have w15 : IntKind.i64.wrap ((k : Int) - 15) = (k : Int) - 15 := IntWalk.i64_in _ (by omega)
                      have w7 : IntKind.i64.wrap ((k : Int) - 7) = (k : Int) - 7 := IntWalk.i64_in _ (by omega)
                      have w2' : IntKind.i64.wrap ((k : Int) - 2) = (k : Int) - 2 := IntWalk.i64_in _ (by omega)
                      have HREC := Lib.hid hrec; have HWW := Lib.hid hW
                      clear hcl hcells hrec hW hWr e16 e15 e7 e2 hk16
                      go_wp2_with fail
                      go_quiet (fail)
                      go_wp2_with fail
                      refine wp_region_still_tail 29 (by kernel_rfl) (by kernel_rfl) ?_
                      change wpStill _ _ (World.drew _) _ _ _
                      simp only [List.take_succ_cons, List.take_zero, List.drop_succ_cons, List.drop_zero]
                      repeat still_step
                      still_call (rturn_7s x15 _ r15a r15b)
                      repeat still_step
                      still_call (rturn_18s x15 _ r15a r15b)
                      repeat still_step
                      still_call (rturn_17s x2 _ r2a r2b)
                      repeat still_step
                      still_call (rturn_19s x2 _ r2a r2b)
                      repeat still_step
                      try refine wpStill_nil ?_
                      change wpList _ _ _ _ _ (World.drew _)
                      have O5 : ((wr.drewN nq).drew).ownsRow (gv + 1) 25 1 (.slice (some ⟨gw, 0, none⟩) k capw) k (u32L (schF (blkF (padF D n) q) 48) k) := HO.out
                      have R5 : R3 (padF D n) L g2 w.heap.size gv (stF (padF D n) q) w ((wr.drewN nq).drew) := HRW.out.keep (below_drewN (Below.refl _ _) nq).drew (Nat.lt_succ_self gv)
                      have HO5 := Lib.hid O5; have HR5 := Lib.hid R5
                      clear O5 R5
                      obtain ⟨wk, hwk⟩ : ∃ x, W k = x := ⟨_, rfl⟩
                      have HWK := Lib.hid hwk
                      have hx := HREC.out
                      rw [hwk] at hx
                      have hx2 : (x16 + x7 + bits .xor .u32 (bits .xor .u32 (rotI 128 33554432 x15) (rotI 262144 16384 x15)) (x15 / 8) + bits .xor .u32 (bits .xor .u32 (rotI 131072 32768 x2) (rotI 524288 8192 x2)) (x2 / 1024)) % 4294967296 = wk := by
                        rw [hx]; unfold s0F s1F; congr 1; omega
                      clear hx hwk
                      have hgv1 : gv + 1 ≤ wr.heap.size := HRW.out.2.2.2.2.2.2.2
                      go_wp2_with (at_builtin; refine wpList_append_own _ rfl _ _ 42 rfl (gv + 1) 25 i1 (.int .u32 0) 1 4 Tryd.underlying42 h4 h5 h6 h7 rfl (by decide) _ _ _ rfl (HO5.out.alloc _) ⟨wr.heap.size, 0, none⟩ 1 1 [.int .u32 wk] rfl rfl ?c1 ?c2 ?c3 ?c4 ?c5 ?_)
                      case c1 =>
                        intro j u hj
                        match j, hj with
                        | 0, hj => simp at hj; subst hj; simp [Addr.add, hx2]; exact cell_new1 (wr.drewN (nq + 1)) _ _
                      case c2 => intro u hu; simp at hu; subst hu; rfl
                      case c3 => unfold maxLen; omega
                      case c4 => omega
                      case c5 => simp; omega
                      intro v1 w5 hown1 hgrow1 _
                      have hbel : Below (gv + 1) wr w5 := (((below_drewN (Below.refl (gv + 1) wr) nq).drew).alloc (by simpa using hgv1) _).grown hgrow1 (by simp; omega) (fun g hg => (HO5.out.lt g hg).1)
                      have hend : Hid (WSlot (padF D n) L g2 w.heap.size gv (stF (padF D n) q) q w v1 (.int .i64 ((k : Int) + 1)) w5) := Lib.hid ⟨k + 1, by omega, by rw [Int.natCast_succ], by rw [u32L_snoc, HWW.out, HWK.out, ← HWW.out]; exact hown1, HRW.out.keep hbel (Nat.lt_succ_self gv)⟩
                      clear hown1 hgrow1 hbel
                      go_wp2_with fail
                      exact ⟨hend.out, by simp [intOf]; omega⟩
                  · skip
                    have hk64' : k = 64 := by omega
                    subst hk64'
                    rw [show ((64 : Nat) : Int) = 64 from rfl]
                    obtain ⟨aw, capw, rfl, hcells⟩ := own_cells2 HO.out
                    obtain ⟨gw, rfl, hgw, hcl⟩ := hcells.resolve_left (by omega)
                    obtain ⟨W, hW⟩ : ∃ W, schF (blkF (padF D n) q) 48 = W := ⟨_, rfl⟩
                    have HCL : Hid (∀ i, i < 64 → wr.cell? ⟨gw, i, none⟩ = some (.int .u32 (W i))) := Lib.hid (fun i hi => hcl i _ (by rw [hW]; exact u32L_get W 64 i hi))
                    have HWW := Lib.hid hW
                    obtain ⟨f, hf⟩ : ∃ f, stF (padF D n) q = f := ⟨_, rfl⟩
                    have hfr := stF_rng (padF D n) q
                    rw [hf] at hfr
                    have HFF := Lib.hid hf
                    have HRF : Hid (R3 (padF D n) L g2 w.heap.size gv f w wr) := Lib.hid (by rw [← hf]; exact HRW.out)
                    have c0 := HRF.out.vcell 0 (by omega); have c1 := HRF.out.vcell 1 (by omega); have c2 := HRF.out.vcell 2 (by omega); have c3 := HRF.out.vcell 3 (by omega)
                    have c4 := HRF.out.vcell 4 (by omega); have c5 := HRF.out.vcell 5 (by omega); have c6 := HRF.out.vcell 6 (by omega); have c7 := HRF.out.vcell 7 (by omega)
                    have hok : (stOf f).Ok := stOf_ok f hfr
                    obtain ⟨s0, q0⟩ : ∃ x, f 0 = x := ⟨_, rfl⟩
                    obtain ⟨s1, q1⟩ : ∃ x, f 1 = x := ⟨_, rfl⟩
                    obtain ⟨s2, q2⟩ : ∃ x, f 2 = x := ⟨_, rfl⟩
                    obtain ⟨s3, q3⟩ : ∃ x, f 3 = x := ⟨_, rfl⟩
                    obtain ⟨s4, q4⟩ : ∃ x, f 4 = x := ⟨_, rfl⟩
                    obtain ⟨s5, q5⟩ : ∃ x, f 5 = x := ⟨_, rfl⟩
                    obtain ⟨s6, q6⟩ : ∃ x, f 6 = x := ⟨_, rfl⟩
                    obtain ⟨s7, q7⟩ : ∃ x, f 7 = x := ⟨_, rfl⟩
                    have hst0 : stOf f = ⟨s0, s1, s2, s3, s4, s5, s6, s7⟩ := by unfold stOf; rw [q0, q1, q2, q3, q4, q5, q6, q7]
                    rw [q0] at c0; rw [q1] at c1; rw [q2] at c2; rw [q3] at c3; rw [q4] at c4; rw [q5] at c5; rw [q6] at c6; rw [q7] at c7
                    rw [hst0] at hok
                    have HOK := Lib.hid hok; have HST0 := Lib.hid hst0
                    clear hcl hcells hW hfr hf hok hst0 q0 q1 q2 q3 q4 q5 q6 q7 hk hk16 hk64
                    go_wp2_with fail
                    go_quiet (fail)
                    go_wp2_with fail
                    clear c0 c1 c2 c3 c4 c5 c6 c7
                    go_loopw [15, 16, 17, 18, 19, 20, 21, 22, 23] (fun a b' c d e f g h i wx => MixSlot kkF W ⟨s0, s1, s2, s3, s4, s5, s6, s7⟩ wr a b' c d e f g h i wx) (fun _ _ _ _ _ _ _ _ i _ => 64 - (intOf i).toNat)
                    case atStart => exact ⟨0, _, nq, by omega, rfl, rfl, HOK.out, rfl, rfl, rfl, rfl, rfl, rfl, rfl, rfl, rfl⟩
                    case round =>
                      obtain ⟨k, ⟨xa, xb, xc, xd, xe, xf, xg, xh⟩, m5, hk, rfl, hs5, hO, rfl, rfl, rfl, rfl, rfl, rfl, rfl, rfl, rfl⟩ := hrel
                      obtain ⟨⟨la, ua⟩, ⟨lb, ub⟩, ⟨lc, uc⟩, ⟨ld, ud⟩, ⟨le, ue⟩, ⟨lf, uf⟩, ⟨lg, ug⟩, ⟨lh, uh⟩⟩ := hO
                      dsimp only at la ua lb ub lc uc ld ud le ue lf uf lg ug lh uh
                      have HR5 := Lib.hid hs5
                      clear hs5
                      by_cases hlt5 : k < 64
                      · skip
                        as_aux_lemma =>
                          have hkk := HRF.out.2.1 k hlt5
                          have hkw := HCL.out k hlt5
                          have hlt2 : (k : Int) < 64 := by omega
                          obtain ⟨t, ht⟩ : ∃ t, tI (kkF k) (W k) ⟨xa, xb, xc, xd, xe, xf, xg, xh⟩ = t := ⟨_, rfl⟩
                          have ht2 : (xh + bits .xor .u32 (bits .xor .u32 (rotI 64 67108864 xe) (rotI 2048 2097152 xe)) (rotI 33554432 128 xe) + bits .xor .u32 (bits .and .u32 xe xf) (bits .and .u32 (bits .xor .u32 IntKind.u32.max xe) xg) + kkF k + W k) % 4294967296 = t := ht
                          have ht3 : IntKind.u32.wrap (IntKind.u32.wrap (IntKind.u32.wrap (IntKind.u32.wrap (xh + bits .xor .u32 (bits .xor .u32 (rotI 64 67108864 xe) (rotI 2048 2097152 xe)) (rotI 33554432 128 xe)) + bits .xor .u32 (bits .and .u32 xe xf) (bits .and .u32 (bits .xor .u32 IntKind.u32.max xe) xg)) + kkF k) + W k) = t := by
                            rw [IntKind.wrap_u32, IntKind.wrap_u32, IntKind.wrap_u32, IntKind.wrap_u32, ← ht2]; omega
                          have HT3' := Lib.hid ht3
                          clear ht2 ht3
                          go_wp2_with fail
                          refine wp_region_still_tail 29 (by kernel_rfl) (by kernel_rfl) ?_
                          change wpStill _ _ (World.drew _) _ _ _
                          simp only [List.take_succ_cons, List.take_zero, List.drop_succ_cons, List.drop_zero]
                          repeat still_step
                          still_call (rturn_6s xe _ le ue)
                          repeat still_step
                          still_call (rturn_11s xe _ le ue)
                          repeat still_step
                          still_call (rturn_25s xe _ le ue)
                          repeat still_step
                          try refine wpStill_nil ?_
                          change wpList _ _ _ _ _ (World.drew _)
                          go_wp2_with fail
                          rw [HT3'.out]
                          refine (rturn_2 _ _ la ua).mono ?_
                          rintro e w' ⟨rfl, rfl⟩
                          go_wp2_with fail
                          refine (rturn_13 _ _ la ua).mono ?_
                          rintro e w' ⟨rfl, rfl⟩
                          go_wp2_with fail
                          refine (rturn_22 _ _ la ua).mono ?_
                          rintro e w' ⟨rfl, rfl⟩
                          obtain ⟨u, hu⟩ : ∃ u, uI ⟨xa, xb, xc, xd, xe, xf, xg, xh⟩ = u := ⟨_, rfl⟩
                          have hu2 : (bits .xor .u32 (bits .xor .u32 (rotI 4 1073741824 xa) (rotI 8192 524288 xa)) (rotI 4194304 1024 xa) + bits .xor .u32 (bits .xor .u32 (bits .and .u32 xa xb) (bits .and .u32 xa xc)) (bits .and .u32 xb xc)) % 4294967296 = u := hu
                          have HT5 := Lib.hid ht; have HU5 := Lib.hid hu
                          clear ht hu
                          have hstep : Hid (MixSlot kkF W ⟨s0, s1, s2, s3, s4, s5, s6, s7⟩ wr (.int .u32 ((t + u) % 4294967296)) (.int .u32 xa) (.int .u32 xb) (.int .u32 xc) (.int .u32 ((xd + t) % 4294967296)) (.int .u32 xe) (.int .u32 xf) (.int .u32 xg) (.int .i64 ((k : Int) + 1)) (wr.drewN (m5 + 1))) := Lib.hid
                            ⟨k + 1, ⟨(t + u) % 4294967296, xa, xb, xc, (xd + t) % 4294967296, xe, xf, xg⟩, m5 + 1, by omega, by rw [Int.natCast_succ], by rw [roundsI, HR5.out, stepI, HT5.out, HU5.out],
                              ⟨⟨by show 0 ≤ (t + u) % 4294967296; omega, by show (t + u) % 4294967296 < 4294967296; omega⟩, ⟨la, ua⟩, ⟨lb, ub⟩, ⟨lc, uc⟩, ⟨by show 0 ≤ (xd + t) % 4294967296; omega, by show (xd + t) % 4294967296 < 4294967296; omega⟩, ⟨le, ue⟩, ⟨lf, uf⟩, ⟨lg, ug⟩⟩, rfl, rfl, rfl, rfl, rfl, rfl, rfl, rfl, rfl⟩
                          go_wp2_with fail
                          exact ⟨hstep.out, by simp [intOf]; omega⟩
                      · skip
                        have hk64'' : k = 64 := by omega
                        subst hk64''
                        clear hlt5 hk
                        obtain ⟨gz, hgz⟩ : ∃ gz, wr.heap.size = gz := ⟨_, rfl⟩
                        have hgvz : gv < gz := by rw [← hgz]; exact HRF.out.2.2.2.2.2.2.2
                        have hbz : Below (gv + 1) wr ((wr.drewN m5).alloc (.cells (u32s (stGet ⟨xa, xb, xc, xd, xe, xf, xg, xh⟩) 8) 25)) := (below_drewN (Below.refl (gv + 1) wr) m5).alloc (by show gv + 1 ≤ wr.heap.size; omega) _
                        have hA0 : Hid (AddS (padF D n) L g2 w.heap.size gv f ⟨xa, xb, xc, xd, xe, xf, xg, xh⟩ w gz (.int .i64 0) ((wr.drewN m5).alloc (.cells (u32s (stGet ⟨xa, xb, xc, xd, xe, xf, xg, xh⟩) 8) 25))) := Lib.hid ⟨0, by omega, rfl, by rw [addF_zero]; exact HRF.out.keep hbz (Nat.lt_succ_self gv), by rw [← hgz]; exact heap_alloc_new (wr.drewN m5) _, hgvz⟩
                        rw [show u32s (stGet ⟨xa, xb, xc, xd, xe, xf, xg, xh⟩) 8 = #[.int .u32 xa, .int .u32 xb, .int .u32 xc, .int .u32 xd, .int .u32 xe, .int .u32 xf, .int .u32 xg, .int .u32 xh] from rfl] at hA0
                        clear hbz la ua lb ub lc uc ld ud le ue lf uf lg ug lh uh
                        go_wp2_with fail
                        clear hgz
                        go_loopw [27] (fun i wx => AddS (padF D n) L g2 w.heap.size gv f ⟨xa, xb, xc, xd, xe, xf, xg, xh⟩ w gz i wx) (fun i _ => 8 - (intOf i).toNat)
                        case atStart => exact hA0.out
                        case round =>
                          obtain ⟨j, hj, rfl, hRj, hz, hgz⟩ := hrel
                          have HRJ := Lib.hid hRj; have HZ := Lib.hid hz
                          clear hRj hz
                          by_cases hj8 : j < 8
                          · have hji : (j : Int) < 8 := by omega
                            have cj := HRJ.out.vcell j hj8
                            rw [addF_here] at cj
                            have fj := HRJ.out.vfree j
                            have dj : wr.cell? ⟨gz, j, none⟩ = some (.int .u32 (stGet ⟨xa, xb, xc, xd, xe, xf, xg, xh⟩ j)) := by
                              unfold World.cell?; simp only [HZ.out]; exact u32s_get _ 8 j hj8
                            obtain ⟨ya, hya⟩ : ∃ y, f j = y := ⟨_, rfl⟩
                            obtain ⟨yb, hyb⟩ : ∃ y, stGet ⟨xa, xb, xc, xd, xe, xf, xg, xh⟩ j = y := ⟨_, rfl⟩
                            rw [hya] at cj
                            rw [hyb] at dj
                            have hstep : Hid (AddS (padF D n) L g2 w.heap.size gv f ⟨xa, xb, xc, xd, xe, xf, xg, xh⟩ w gz (.int .i64 ((j : Int) + 1)) (wr.setCell ⟨gv, j, none⟩ (.int .u32 ((ya + yb) % 4294967296))).drew) := Lib.hid ⟨j + 1, by omega, by rw [Int.natCast_succ], by
                              have h := HRJ.out.setv j hj8 ((ya + yb) % 4294967296)
                              have e := addF_step f ⟨xa, xb, xc, xd, xe, xf, xg, xh⟩ j
                              rw [addF_here, hya, hyb] at e
                              rw [e] at h
                              exact h, (Below.heap_setCell _ _ _ _ (by show gz ≠ gv; omega)).trans HZ.out, hgz⟩
                            clear hya hyb
                            go_wp2_with fail
                            refine wp_region_still_tail 10 (by kernel_rfl) (by kernel_rfl) ?_
                            change wpStill _ _ (World.drew _) _ _ _
                            simp only [List.take_succ_cons, List.take_zero, List.drop_succ_cons, List.drop_zero]
                            repeat still_step
                            try refine wpStill_nil ?_
                            change wpList _ _ _ _ _ (World.drew _)
                            go_wp2_with fail
                            refine ⟨?_, by simp [intOf]; omega⟩
                            iterate 15 (apply Exists.intro)
                            exact ⟨hstep.out, rfl⟩
                          · have hj8' : j = 8 := by omega
                            subst hj8'
                            have hnext : Hid (BlkSlot (padF D n) L (nblk n) g2 w.heap.size gv w (.int .i64 ((A : Int) + 64)) wr) := Lib.hid ⟨q + 1, by have := HL.out; have := HA.out; omega, by have := HA.out; congr 1; omega, by
                              have e : stF (padF D n) (q + 1) = addF f ⟨xa, xb, xc, xd, xe, xf, xg, xh⟩ 8 := by
                                show compF (stF (padF D n) q) (blkF (padF D n) q) = _
                                unfold compF
                                rw [HFF.out, HWW.out, HST0.out, HR5.out]
                              rw [e]; exact HRJ.out⟩
                            have hA10 : (A : Int) ≤ 10000 := by omega
                            go_wp2_with fail
                            exact ⟨hnext.out, by simp [intOf]; omega⟩
            · skip
              as_aux_lemma =>
                have hqN : q = nblk n := by have := HL.out; have := HA.out; have := HQ.out; omega
                have hlti : ¬ (A : Int) < (L : Int) := by omega
                obtain ⟨F, hF⟩ : ∃ F, stF (padF D n) q = F := ⟨_, rfl⟩
                have HFR := Lib.hid (show St32 F by rw [← hF]; exact stF_rng _ _)
                have HRE : Hid (R3 (padF D n) L g2 w.heap.size gv F w wr) := Lib.hid (by rw [← hF]; exact HR.out)
                have HSB : Hid (strOfNums ((List.range 32).map (beF F)) = shaB D n) := Lib.hid (by unfold shaB shaI; rw [← hF, hqN])
                clear hF hlt hqN
                obtain ⟨j1, h8, h9, h10, h11⟩ := info_parts byteInfo
                go_wp2_with fail
                go_loopw [28, 29] (fun v i wx => OutS (padF D n) L g2 w.heap.size gv F w v i wx) (fun _ i _ => 8 - (intOf i).toNat)
                case atStart => exact ⟨0, by omega, rfl, World.ownsRow_nil _ _ _ _, HRE.out⟩
                case round =>
                  obtain ⟨k, hk, rfl, hown, hRk⟩ := hrel
                  have HO := Lib.hid hown; have HRK := Lib.hid hRk
                  clear hown hRk
                  by_cases hk8 : k < 8
                  · have hki : (k : Int) < 8 := by omega
                    have ck := HRK.out.vcell k hk8
                    have hx := HFR.out k
                    have b0 := be_0 F k; have b1 := be_1 F k; have b2 := be_2 F k; have b3 := be_3 F k
                    obtain ⟨x, hxe⟩ : ∃ x, F k = x := ⟨_, rfl⟩
                    rw [hxe] at ck hx b0 b1 b2 b3
                    obtain ⟨hx0, hx1⟩ := hx
                    obtain ⟨y0, hy0⟩ : ∃ y, beF F (4 * k) = y := ⟨_, rfl⟩
                    obtain ⟨y1, hy1⟩ : ∃ y, beF F (4 * k + 1) = y := ⟨_, rfl⟩
                    obtain ⟨y2, hy2⟩ : ∃ y, beF F (4 * k + 2) = y := ⟨_, rfl⟩
                    obtain ⟨y3, hy3⟩ : ∃ y, beF F (4 * k + 3) = y := ⟨_, rfl⟩
                    rw [hy0] at b0; rw [hy1] at b1; rw [hy2] at b2; rw [hy3] at b3
                    have v0 : IntKind.u8.wrap (x / 16777216) = y0 := by rw [IntKind.wrap_u8]; exact b0.symm
                    have v1 : IntKind.u8.wrap (x / 65536) = y1 := by rw [IntKind.wrap_u8]; exact b1.symm
                    have v2 : IntKind.u8.wrap (x / 256) = y2 := by rw [IntKind.wrap_u8]; exact b2.symm
                    have v3 : IntKind.u8.wrap x = y3 := by rw [IntKind.wrap_u8]; exact b3.symm
                    have hlst : u8L (beF F) (4 * k) ++ [.int .u8 y0, .int .u8 y1, .int .u8 y2, .int .u8 y3] = u8L (beF F) (4 * (k + 1)) := by
                      rw [show 4 * (k + 1) = 4 * k + 1 + 1 + 1 + 1 by omega, u8L_snoc, u8L_snoc, u8L_snoc, u8L_snoc, hy0, hy1, hy2, hy3]
                      simp
                    have HLS := Lib.hid hlst
                    have hgv1 : gv + 1 ≤ wr.heap.size := HRK.out.2.2.2.2.2.2.2
                    have HGV1 := Lib.hid hgv1
                    have hne : u28.ownBlock ≠ some gv := fun e => by have := (HO.out.lt gv e).1; omega
                    have hlg : gv < wr.heap.size := by omega
                    clear hlst hgv1 hxe hy0 hy1 hy2 hy3 b0 b1 b2 b3
                    go_wp2_with fail
                    go_region_held3 (fun w' => w'.cell? ⟨gv, k, none⟩ = some (.int .u32 x))
                      (first
                        | go_keep
                        | (rw [hgrow.cell_far _ (by simp; omega) (Ne.symm hne)]; assumption))
                      ((refine step_append_lies _ (by rfl) _ _ _ (by rfl) (gv + 1) 5 j1 (.int .u8 0) 1 1 Tryd.underlying44 h8 h9 h10 h11 rfl (by decide) u28 (4 * k) (u8L (beF F) (4 * k)) (by rfl) ((HO.out.alloc _).drew)
                          ⟨wr.heap.size, 0, none⟩ 4 4 [.int .u8 y0, .int .u8 y1, .int .u8 y2, .int .u8 y3] (by rfl) (by rfl) (World.news_of_block (cs := #[.int .u8 y0, .int .u8 y1, .int .u8 y2, .int .u8 y3]) (t := 5) (fr := (0, 0)) (heap_alloc_new wr _)) (by simp [Value.oneCell'])
                          (by decide) (by unfold maxLen; omega) (by omega) (by have := HGV1.out; simp; omega) (wr.heap.size + 1) (by simp) ?_; intro gg cap5 w5 hown1 hgrow hat hlt5))
                    have hbel : Below (gv + 1) wr w5 := (((Below.refl (gv + 1) wr).alloc HGV1.out _).drew).grown hgrow (by have := HGV1.out; simp; omega) (fun g hg => (HO.out.lt g hg).1)
                    have hend : Hid (OutS (padF D n) L g2 w.heap.size gv F w (.slice (some ⟨gg, 0, none⟩) (4 * k + 4) cap5) (.int .i64 ((k : Int) + 1)) w5) := Lib.hid ⟨k + 1, by omega, by rw [Int.natCast_succ], by rw [← HLS.out]; exact hown1, HRK.out.keep hbel (Nat.lt_succ_self gv)⟩
                    clear hown1 hgrow hbel hat hlt5
                    go_wp2_with fail
                    exact ⟨hend.out, by simp [intOf]; omega⟩
                  · have hk8' : k = 8 := by omega
                    subst hk8'
                    obtain ⟨aw, capw, rfl, hcells⟩ := own_cells2 HO.out
                    obtain ⟨gw, rfl, hgw, hcl⟩ := hcells.resolve_left (by omega)
                    have hconv := run_convert_bytes_arg (P := Tryd.prog) wr 44 5 Tryd.underlying44 Tryd.underlying5 gw 0 32 capw ((List.range 32).map (beF F)) (by simp) (fun i hi => by
                      rw [Nat.zero_add, hcl i (.int .u8 (beF F i)) (u8L_get (beF F) 32 i hi)]
                      simp [hi]) 9 Tryd.underlying9
                    rw [HSB.out] at hconv
                    have HE := Lib.hid HRK.out.2.2.2.1
                    clear hcl hcells hk8 hk
                    go_wp2_with fail
                    go_ret
                    exact ⟨rfl, HE.out⟩
        · obtain ⟨q, rfl⟩ : ∃ q, p = q + 1 := ⟨p - 1, by omega⟩
          rw [show ((q + 1 : Nat) : Int) - 1 = (q : Int) by omega]
          have hq8 : (q : Int) < 8 := by omega
          have hq0 : 0 ≤ (q : Int) := by omega
          have hval : padF D n m2 = (n : Int) * 8 / 2 ^ (8 * q) % 256 := by
            have e : m2 = 64 * nblk n - 8 + (7 - q) := by have := HM22.out; have := HNB.out.2.1; omega
            rw [e, padF_len D n (7 - q) (by omega), lenF_val n (7 - q) (by omega) (by omega), show 7 - (7 - q) = q by omega, Int.mul_comm]
          obtain ⟨c, hc⟩ : ∃ c, (n : Int) * 8 / 2 ^ (8 * q) % 256 = c := ⟨_, rfl⟩
          rw [hc] at hval
          have HV2 := Lib.hid hval
          clear hval hp
          go_wp2_with (at_builtin; refine wpList_append_text wr rfl _ _ rfl rfl (w.heap.size + 1) g2 cp2 m2 (padF D n) HT2.out rfl c HV2.out rfl (by omega) ?_)
          intro g5 cap5 w5 ht5 hg5
          obtain ⟨z1, z2, z3, z4, z5, z6⟩ := pad_next HK2.out HB2.out (Nat.le_refl _) (by have := HGZ2.out; omega) ht5 hg5
          have hend : Hid (TailSlot D n w w.heap.size (.slice (some ⟨g5, 0, none⟩) (m2 + 1) cap5) (.int .i64 ((q : Int) - 1)) w5) := Lib.hid ⟨q, m2 + 1, by omega, by have := HM22.out; omega, rfl, z1, z2, z3, z4, z5, z6⟩
          clear ht5 hg5 z3 z4 z5 z6
          go_wp2_with fail
          exact ⟨hend.out, by simp [intOf]⟩
    · have h56i : ((r : Int) == 56) = false := by rw [beq_eq_false_iff_ne]; omega
      have h57i : ((r : Int) != 56) = true := by rw [bne_iff_ne]; omega
      have hlt : m < 64 * nblk n - 8 := by have := HM2.out; have h : m ≠ 64 * nblk n - 8 := fun e => h56 (HAT.out.2 e); omega
      have hz0 := padF_zero D n m (by have := HM1.out; omega) hlt
      have HLT := Lib.hid hlt; have HZ0 := Lib.hid hz0
      clear hlt hz0 h56
      go_wp2_with (at_builtin; refine wpList_append_text wr rfl _ _ rfl rfl (w.heap.size + 1) g cp m (padF D n) HT.out rfl 0 HZ0.out rfl (by omega) ?_)
      intro g5 cap5 w5 ht5 hg5
      have hend : Hid (PadSlot D n w w.heap.size (.slice (some ⟨g5, 0, none⟩) (m + 1) cap5) w5) := Lib.hid ⟨m + 1, by have := HM1.out; omega, by have := HLT.out; omega, pad_next HK.out HB.out (Nat.le_refl _) (by have := HGZ.out; omega) ht5 hg5⟩
      have hmeas : Hid (64 * nblk n - (m + 1) < 64 * nblk n - m) := Lib.hid (by have := HLT.out; omega)
      clear ht5 hg5
      go_wp2_with fail
      exact ⟨hend.out, hmeas.out⟩
end Go.Proofs.YtodmomhilpheiaaDoor
