/- Merges: bytesOf. -/
import Derived.Test.YtlfjlkmikmajaaaPi
import Derived.Laws.MakeOwn
namespace Go.Proofs.Ytlfjlkmikmajaaa
open Go.RowKit

theorem run_mk (n : Nat) (hn : n ≤ 100000) (w : World) : (Instr.makeSlice 97 (.int .i64 n) (.int .i64 n)).run Try.prog w = .ok (.slice (some ⟨w.heap.size, 0, none⟩) n n) (w.alloc (.cells (madeCells #[.int .i64 0] n) 3)) := by
  obtain ⟨i0, hi, hz0, hz1, hz2⟩ := info_parts (show (Try.prog.info? 3).map (fun i => (i.zero, i.size, i.bytes)) = some (some (.int .i64 0), 1, 8) by kernel_rfl)
  have := run_make (P := Try.prog) w 97 3 i0 (.int .i64 0) Try.underlying97 hi hz0 .i64 .i64 n n (by omega) (by omega) (by rw [hz2]; show (8 : Int) * _ ≤ _; omega) (by omega)
  rw [hz1] at this
  simp only [Int.toNat_natCast, Nat.mul_one] at this
  exact this
theorem run_mk1 (n : Nat) (hn : n ≤ 90000) (w : World) : (Instr.makeSlice 97 (.int .i64 ((n : Int) + 1)) (.int .i64 ((n : Int) + 1))).run Try.prog w = .ok (.slice (some ⟨w.heap.size, 0, none⟩) (n + 1) (n + 1)) (w.alloc (.cells (madeCells #[.int .i64 0] (n + 1)) 3)) := by
  have := run_mk (n + 1) (by omega) w
  rw [Int.natCast_succ] at this
  exact this
theorem offB_bytes (s : ByteArray) {j : Nat} (h : j ≤ s.size) : offB (bytesB s) j = j := by
  unfold offB bytesB catB
  rw [← List.map_take, List.flatMap_map]
  simp
  exact Nat.min_eq_left h
/-- What bytesOf has made, the first a ends and the first b ranks laid. -/
def MkS (a b : Nat) (s : ByteArray) (w wr : World) : Prop :=
  ∃ gf gr, wr.heap[w.heap.size + 1 + 1]? = some (.cells #[.string s, .slice (some ⟨gf, 0, none⟩) (s.size + 1) (s.size + 1), .slice (some ⟨gr, 0, none⟩) s.size s.size] 99 (0, 0)) ∧
    (∃ cur, wr.heap[gf]? = some (.cells cur 3 (0, 0)) ∧ cur.size = s.size + 1 ∧ ∀ j : Nat, j < a → cur[j]? = some (.int .i64 j)) ∧
    (∃ cur, wr.heap[gr]? = some (.cells cur 3 (0, 0)) ∧ cur.size = s.size ∧ ∀ j : Nat, j < b → cur[j]? = some (.int .i64 (-1))) ∧
    gf ≠ gr ∧ w.heap.size ≤ gf ∧ w.heap.size ≤ gr ∧ gf ≠ w.heap.size + 1 + 1 ∧ gr ≠ w.heap.size + 1 + 1 ∧ Below w.heap.size w wr
def MkI (a b : Bool) (n : Nat) (s : ByteArray) (w : World) (i : Value) (wr : World) : Prop :=
  ∃ k : Nat, k ≤ n ∧ i = .int .i64 k ∧ MkS (if a then k else s.size + 1) (if b then k else if a then 0 else s.size) s w wr
theorem mk_set {cur : Array Value} {n k : Nat} {v : Nat → Value} (hz : cur.size = n) (hk : k < n) (hc : ∀ j : Nat, j < k → cur[j]? = some (v j)) : (cur.setIfInBounds k (v k)).size = n ∧ ∀ j : Nat, j < k + 1 → (cur.setIfInBounds k (v k))[j]? = some (v j) := by
  refine ⟨by simp [hz], fun j hj => ?_⟩
  by_cases e : k = j
  · subst e; rw [Array.getElem?_setIfInBounds_self_of_lt (by omega)]
  · rw [Array.getElem?_setIfInBounds_ne e]; exact hc j (by omega)
theorem MkS.setf {a b : Nat} {s : ByteArray} {w wr : World} {gf gr : Nat} (hd : wr.heap[w.heap.size + 1 + 1]? = some (.cells #[.string s, .slice (some ⟨gf, 0, none⟩) (s.size + 1) (s.size + 1), .slice (some ⟨gr, 0, none⟩) s.size s.size] 99 (0, 0)))
    (hf : ∃ cur, wr.heap[gf]? = some (.cells cur 3 (0, 0)) ∧ cur.size = s.size + 1 ∧ ∀ j : Nat, j < a → cur[j]? = some (.int .i64 j))
    (hr : ∃ cur, wr.heap[gr]? = some (.cells cur 3 (0, 0)) ∧ cur.size = s.size ∧ ∀ j : Nat, j < b → cur[j]? = some (.int .i64 (-1)))
    (hx : gf ≠ gr ∧ w.heap.size ≤ gf ∧ w.heap.size ≤ gr ∧ gf ≠ w.heap.size + 1 + 1 ∧ gr ≠ w.heap.size + 1 + 1 ∧ Below w.heap.size w wr) (ha : a < s.size + 1) : MkS (a + 1) b s w (wr.setCell ⟨gf, a, none⟩ (.int .i64 a)) := by
  obtain ⟨c1, f1, f2, f3⟩ := hf
  obtain ⟨c2, r1, r2⟩ := hr
  have h1 := mk_set (v := fun j => .int .i64 j) f2 ha f3
  exact ⟨gf, gr, (Below.heap_setCell wr ⟨gf, a, none⟩ _ _ (Ne.symm hx.2.2.2.1)).trans hd, ⟨_, heap_set _ f1, h1⟩, ⟨c2, (Below.heap_setCell wr ⟨gf, a, none⟩ _ _ (Ne.symm hx.1)).trans r1, r2⟩, hx.1, hx.2.1, hx.2.2.1, hx.2.2.2.1, hx.2.2.2.2.1, hx.2.2.2.2.2.setCell (p := ⟨gf, a, none⟩) hx.2.1 _⟩
theorem MkS.setr {a b : Nat} {s : ByteArray} {w wr : World} {gf gr : Nat} (hd : wr.heap[w.heap.size + 1 + 1]? = some (.cells #[.string s, .slice (some ⟨gf, 0, none⟩) (s.size + 1) (s.size + 1), .slice (some ⟨gr, 0, none⟩) s.size s.size] 99 (0, 0)))
    (hf : ∃ cur, wr.heap[gf]? = some (.cells cur 3 (0, 0)) ∧ cur.size = s.size + 1 ∧ ∀ j : Nat, j < a → cur[j]? = some (.int .i64 j))
    (hr : ∃ cur, wr.heap[gr]? = some (.cells cur 3 (0, 0)) ∧ cur.size = s.size ∧ ∀ j : Nat, j < b → cur[j]? = some (.int .i64 (-1)))
    (hx : gf ≠ gr ∧ w.heap.size ≤ gf ∧ w.heap.size ≤ gr ∧ gf ≠ w.heap.size + 1 + 1 ∧ gr ≠ w.heap.size + 1 + 1 ∧ Below w.heap.size w wr) (hb : b < s.size) : MkS a (b + 1) s w (wr.setCell ⟨gr, b, none⟩ (.int .i64 (-1))) := by
  obtain ⟨c1, f1, f2⟩ := hf
  obtain ⟨c2, r1, r2, r3⟩ := hr
  have h1 := mk_set (v := fun _ => .int .i64 (-1)) r2 hb r3
  exact ⟨gf, gr, (Below.heap_setCell wr ⟨gr, b, none⟩ _ _ (Ne.symm hx.2.2.2.2.1)).trans hd, ⟨c1, (Below.heap_setCell wr ⟨gr, b, none⟩ _ _ hx.1).trans f1, f2⟩, ⟨_, heap_set _ r1, h1⟩, hx.1, hx.2.1, hx.2.2.1, hx.2.2.2.1, hx.2.2.2.2.1, hx.2.2.2.2.2.setCell (p := ⟨gr, b, none⟩) hx.2.2.1 _⟩
theorem cell_in {w : World} {g j : Nat} {cur : Array Value} {t : TypeId} (h : w.heap[g]? = some (.cells cur t (0, 0))) (hj : j < cur.size) : (∃ v, w.cell? ⟨g, j, none⟩ = some v) ∧ w.frozen? ⟨g, j, none⟩ = false := by
  rw [cell_of_row h]
  exact ⟨⟨_, Array.getElem?_eq_getElem hj⟩, by simp [World.frozen?, h]⟩
theorem made0 (s : ByteArray) (w : World) : MkI true false (s.size + 1) s w (.int .i64 0) ((((w.alloc (.cells (madeCells #[.int .i64 0] s.size) 3)).alloc (.cells (madeCells #[.int .i64 0] (s.size + 1)) 3)).alloc (.cells #[.string s, .slice (some ⟨w.heap.size + 1, 0, none⟩) (s.size + 1) (s.size + 1), .slice (some ⟨w.heap.size, 0, none⟩) s.size s.size] 99)).drew) := by
  have h1 : (w.alloc (.cells (madeCells #[.int .i64 0] s.size) 3)).heap[w.heap.size]? = _ := World.alloc_heap_new w _
  have h2 := World.alloc_heap_new (w.alloc (.cells (madeCells #[.int .i64 0] s.size) 3)) (.cells (madeCells #[.int .i64 0] (s.size + 1)) 3)
  have h3 := World.alloc_heap_new ((w.alloc (.cells (madeCells #[.int .i64 0] s.size) 3)).alloc (.cells (madeCells #[.int .i64 0] (s.size + 1)) 3)) (.cells #[.string s, .slice (some ⟨w.heap.size + 1, 0, none⟩) (s.size + 1) (s.size + 1), .slice (some ⟨w.heap.size, 0, none⟩) s.size s.size] 99)
  rw [World.size_alloc] at h2
  rw [World.size_alloc, World.size_alloc] at h3
  refine ⟨0, by omega, rfl, w.heap.size + 1, w.heap.size, h3, ⟨_, (Lib.alloc_old _ _ _ (by simp)).trans h2, size_madeCells _ _, fun j hj => absurd hj (Nat.not_lt_zero _)⟩, ⟨_, (Lib.alloc_old _ _ _ (by simp; omega)).trans ((Lib.alloc_old _ _ _ (by simp)).trans h1), size_madeCells _ _, fun j hj => absurd hj (Nat.not_lt_zero _)⟩, by omega, by omega, by omega, by omega, by omega, ?_⟩
  exact ((((Below.refl _ w).alloc (Nat.le_refl _) _).alloc (by simp) _).alloc (by simp; omega) _).drew
theorem made1 (s : ByteArray) (w : World) : MkI true false (s.size + 1) s w (.int .i64 0) ((((w.alloc (.cells (madeCells #[.int .i64 0] (s.size + 1)) 3)).alloc (.cells (madeCells #[.int .i64 0] s.size) 3)).alloc (.cells #[.string s, .slice (some ⟨w.heap.size, 0, none⟩) (s.size + 1) (s.size + 1), .slice (some ⟨w.heap.size + 1, 0, none⟩) s.size s.size] 99)).drew) := by
  have h1 : (w.alloc (.cells (madeCells #[.int .i64 0] (s.size + 1)) 3)).heap[w.heap.size]? = _ := World.alloc_heap_new w _
  have h2 := World.alloc_heap_new (w.alloc (.cells (madeCells #[.int .i64 0] (s.size + 1)) 3)) (.cells (madeCells #[.int .i64 0] s.size) 3)
  have h3 := World.alloc_heap_new ((w.alloc (.cells (madeCells #[.int .i64 0] (s.size + 1)) 3)).alloc (.cells (madeCells #[.int .i64 0] s.size) 3)) (.cells #[.string s, .slice (some ⟨w.heap.size, 0, none⟩) (s.size + 1) (s.size + 1), .slice (some ⟨w.heap.size + 1, 0, none⟩) s.size s.size] 99)
  rw [World.size_alloc] at h2
  rw [World.size_alloc, World.size_alloc] at h3
  refine ⟨0, by omega, rfl, w.heap.size, w.heap.size + 1, h3, ⟨_, (Lib.alloc_old _ _ _ (by simp; omega)).trans ((Lib.alloc_old _ _ _ (by simp)).trans h1), size_madeCells _ _, fun j hj => absurd hj (Nat.not_lt_zero _)⟩, ⟨_, (Lib.alloc_old _ _ _ (by simp)).trans h2, size_madeCells _ _, fun j hj => absurd hj (Nat.not_lt_zero _)⟩, by omega, by omega, by omega, by omega, by omega, ?_⟩
  exact ((((Below.refl _ w).alloc (Nat.le_refl _) _).alloc (by simp) _).alloc (by simp; omega) _).drew
set_option maxHeartbeats 2000000 in
set_option maxRecDepth 100000 in
theorem bytesOf_any (s : ByteArray) (w : World) (h0 : 0 < s.size) (h1 : s.size ≤ 4096) :
    Calls Try.prog 32 #[.string s] w fun e w' => ∃ g gf gr cf cr, e = .returned (.pointer (some ⟨g, 0, none⟩)) ∧ PtAt g gf gr cf cr s (bytesB s) (fun _ => -1) w' ∧ w.heap.size ≤ g ∧ w.heap.size ≤ gf ∧ w.heap.size ≤ gr ∧ Below w.heap.size w w' := by
  obtain ⟨n, hn⟩ : ∃ n, s.size = n := ⟨_, rfl⟩
  have h2 : (s.size : Int) ≤ 4096 := by omega
  have h3 : (0 : Int) < s.size := by omega
  have hm0 := fun W => run_mk s.size (by omega) W
  have hm1 := fun W => run_mk1 s.size (by omega) W
  have hw1 : IntKind.i64.wrap ((s.size : Int) + 1) = (s.size : Int) + 1 := IntWalk.i64_in _ (by omega)
  have M0 := Lib.hid (made0 s w); have M1 := Lib.hid (made1 s w)
  have HN := Lib.hid hn
  clear hn
  go_enter Try.func32, Try.ntmps32
  go_wp2_with fail
  go_region
  all_goals
    clear hm0 hm1
    first
      | (generalize hW : World.drew _ = W; have MM : Hid (MkI true false (s.size + 1) s w (.int .i64 0) W) := Lib.hid (by rw [← hW]; exact M0.out))
      | (generalize hW : World.drew _ = W; have MM : Hid (MkI true false (s.size + 1) s w (.int .i64 0) W) := Lib.hid (by rw [← hW]; exact M1.out))
    clear hW M0 M1
    have c1 : ∃ gf0, W.cell? ⟨w.heap.size + 1 + 1, 1, none⟩ = some (.slice (some ⟨gf0, 0, none⟩) (s.size + 1) (s.size + 1)) := by
      obtain ⟨_, _, _, gf0, _, hd, _⟩ := MM.out
      exact ⟨gf0, cell_of_row hd⟩
    obtain ⟨gf0, c1⟩ := c1
    go_wp2_with fail
    clear c1
    go_loopw [21] (fun i wr => MkI true false (s.size + 1) s w i wr) (fun i _ => s.size + 1 - (intOf i).toNat)
    case atStart => exact MM.out
    case round =>
      obtain ⟨k, hk, rfl, gf, gr, hd, hf, hr, hx⟩ := hrel
      simp only [if_true] at hf hr
      by_cases hlt : k < s.size + 1
      · have c1 : wr.cell? ⟨w.heap.size + 1 + 1, 1, none⟩ = some (.slice (some ⟨gf, 0, none⟩) (s.size + 1) (s.size + 1)) := cell_of_row hd
        obtain ⟨⟨v0, c2⟩, f2⟩ := (show (∃ v, wr.cell? ⟨gf, k, none⟩ = some v) ∧ wr.frozen? ⟨gf, k, none⟩ = false by
          obtain ⟨cur, hc, hz, _⟩ := hf
          exact cell_in hc (by omega))
        have HN2 := Lib.hid (MkS.setf hd hf hr hx hlt)
        clear hd hf hr hx MM
        have hki : (k : Int) < s.size + 1 := by omega
        go_wp2_with fail
        go_roundw
        case rel => exact ⟨k + 1, by omega, by rw [Int.natCast_succ], HN2.out⟩
        case measure => simp [intOf]; omega
      · have hkn : k = s.size + 1 := by omega
        have MM2 : Hid (MkI false true s.size s w (.int .i64 0) wr) := Lib.hid ⟨0, by omega, rfl, gf, gr, hd, by rw [hkn] at hf; exact hf, by simpa using hr, hx⟩
        have c2 : wr.cell? ⟨w.heap.size + 1 + 1, 2, none⟩ = some (.slice (some ⟨gr, 0, none⟩) s.size s.size) := cell_of_row hd
        clear hd hf hr hx MM
        go_wp2_with fail
        clear c2
        go_loopw [37] (fun i wr => MkI false true s.size s w i wr) (fun i _ => s.size - (intOf i).toNat)
        case atStart => exact MM2.out
        case round =>
          obtain ⟨k, hk, rfl, gf, gr, hd, hf, hr, hx⟩ := hrel
          simp only [if_true] at hf hr
          by_cases hlt : k < s.size
          · have c1 : wr.cell? ⟨w.heap.size + 1 + 1, 2, none⟩ = some (.slice (some ⟨gr, 0, none⟩) s.size s.size) := cell_of_row hd
            obtain ⟨⟨v0, c2⟩, f2⟩ := (show (∃ v, wr.cell? ⟨gr, k, none⟩ = some v) ∧ wr.frozen? ⟨gr, k, none⟩ = false by
              obtain ⟨cur, hc, hz, _⟩ := hr
              exact cell_in hc (by omega))
            have HN2 := Lib.hid (MkS.setr hd hf hr hx hlt)
            clear hd hf hr hx MM2
            go_wp2_with fail
            go_roundw
            case rel => exact ⟨k + 1, by omega, by rw [Int.natCast_succ], HN2.out⟩
            case measure => simp [intOf]; omega
          · have hkn : k = s.size := by omega
            have HE : Hid (PtAt (w.heap.size + 1 + 1) gf gr (s.size + 1) s.size s (bytesB s) (fun _ => -1) wr) := Lib.hid (by
              obtain ⟨cf, f1, f2, f3⟩ := hf
              obtain ⟨cr, r1, r2, r3⟩ := hr
              refine ⟨by rw [bytesB_length]; exact hd, ⟨cf, f1, fun j hj => ?_⟩, ⟨cr, r1, fun j hj => ?_⟩, catB_bytes s, hx.1, by rw [bytesB_length]; omega, by rw [bytesB_length]; omega⟩
              · rw [bytesB_length] at hj
                rw [offB_bytes s hj]
                exact f3 j (by simp; omega)
              · rw [bytesB_length] at hj
                exact r3 j (by omega))
            have HX := Lib.hid hx
            clear hd hf hr hx MM2
            go_wp2_with fail
            go_ret
            exact ⟨_, gf, gr, _, _, rfl, HE.out, by omega, HX.out.2.1, HX.out.2.2.1, HX.out.2.2.2.2.2⟩
end Go.Proofs.Ytlfjlkmikmajaaa
