/- Merges: ranksOf. Merges: bytesOf. Merges: look, least. Merges: least. Merges: a word's parts while a round merges them. Merges: one round over a word's parts, step by step: plain facts. -/
import Derived.Test.YtdpfpdpaamjefaaDoorY2
import Derived.Laws.MakeOwn
namespace Go.Proofs.YtdpfpdpaamjefaaDoor
open Go.RowKit Go.Maps

theorem run_make_hint (n : Nat) (w : World) : (Instr.makeMap 92 (some (.int .i64 n))).run Tryd.prog w = .ok (.map (some w.heap.size)) (w.alloc (.map #[] 0)) := by
  simp [Instr.makeMap, go_sem]
def RoS (w : World) (l : List PairB) (i : Value) (wr : World) : Prop :=
  ∃ k : Nat, k ≤ l.length ∧ i = .int .i64 k ∧ IsRk w.heap.size k (l.take k) wr ∧ Below w.heap.size w wr
theorem mapTurned_below {B b : Nat} {w0 w w' : World} (h : w.mapTurned w' b) (hb : Below B w0 w) (hB : B ≤ b) (hs : B ≤ w.heap.size) : Below B w0 w' :=
  hb.grown h.grown hs (fun k e => by cases e; exact hB)
set_option maxHeartbeats 2000000 in
set_option maxRecDepth 100000 in
theorem ranksOf_any (o : Option Addr) (l : List PairB) (cap : Nat) (w : World) (hl : l.length ≤ 100000) (hp : PrAt w 31 o l) (hok : ∀ p ∈ l, OkP p) :
    Calls Tryd.prog 31 #[.slice o l.length cap] w fun e w' => e = .returned (.map (some w.heap.size)) ∧ IsRk w.heap.size l.length l w' ∧ Below w.heap.size w w' := by
  obtain ⟨n, hn⟩ : ∃ n, l.length = n := ⟨_, rfl⟩
  rw [hn] at hl ⊢
  have hmm := run_make_hint n
  have HN := Lib.hid hn; have HP := Lib.hid hp; have HO := Lib.hid hok
  have H0 : Hid (RoS w l (.int .i64 0) (w.alloc (.map #[] 0))) := Lib.hid ⟨0, Nat.zero_le _, rfl, IsRk.new w, (Below.refl _ w).alloc (Nat.le_refl _) _⟩
  clear hn hp hok
  go_enter Tryd.func31, Tryd.ntmps31
  go_wp2_with fail
  go_loopw [13] (fun i wr => RoS w l i wr) (fun i _ => n - (intOf i).toNat)
  case atStart => exact H0.out
  case round =>
    obtain ⟨k, hk, rfl, ⟨D, hD, hD2⟩, hb⟩ := hrel
    rw [HN.out] at hk
    have HD := Lib.hid hD; have HD2 := Lib.hid hD2; have HB := Lib.hid hb
    clear hD hD2 hb H0 hmm
    by_cases hlt : k < n
    · obtain ⟨q, hq⟩ : ∃ q, l[k]? = some q := ⟨_, List.getElem?_eq_getElem (by rw [HN.out]; exact hlt)⟩
      obtain ⟨g, cur, ho, hg, d0, d1⟩ := (HP.out.below HB.out) k q hq
      subst ho
      have HQO := Lib.hid (HO.out q (List.mem_of_getElem? hq))
      have HT := Lib.hid (show l.take (k + 1) = l.take k ++ [q] by rw [List.take_add_one, hq]; rfl)
      have HK2 := Lib.hid (keyB_of HQO.out)
      obtain ⟨q1, q2⟩ := q
      clear hq hg
      simp only at d0 d1
      have HH := Lib.hid ((HD2.out _ HQO.out).1)
      cases hc : (rankN (l.take k) (q1, q2)).isSome with
      | true =>
        go_wp2_with (at_lookup; refine wpList_lookup_own_ok_int _ rfl _ _ 92 rfl 31 3 .i64 keyedP Tryd.underlying92 Tryd.underlying3 (Tryd.zeroValue3 _) w.heap.size k D rfl (HD.out.alloc _) _ (keyB (q1, q2)) rfl HK2.out ?_; intro c hat hwc; rw [HH.out, hc])
        have hr : Hid (IsRk w.heap.size (k + 1) (l.take (k + 1)) (wr.alloc (.cells #[.string q1, .string q2] 31))) := Lib.hid (by
          rw [HT.out]
          exact IsRk.again (IsRk.keep (w := wr) ⟨D, HD.out, HD2.out⟩ (by exact Lib.alloc_old wr _ _ HD.out.lt)) hc)
        have hb2 := HB.out.alloc HB.out.size (.cells #[.string q1, .string q2] 31)
        go_roundw
        case rel => exact ⟨k + 1, by rw [HN.out]; omega, by rw [Int.natCast_succ], hr.out, hb2⟩
        case measure => simp [intOf]; omega
      | false =>
        have hno : rankN (l.take k) (q1, q2) = none := by
          cases h : rankN (l.take k) (q1, q2) with
          | none => rfl
          | some i => rw [h] at hc; cases hc
        have HNO := Lib.hid hno
        have HLN := Lib.hid (show (l.take k).length = k by rw [List.length_take, HN.out]; omega)
        have hwf : Hid ((Lit.int .i64 (k : Int)).wf = true) := Lib.hid (by simp only [Lit.wf, IntKind.min, IntKind.max, IntKind.signed, IntKind.bits, Bool.and_eq_true, decide_eq_true_eq, if_true]; omega)
        clear hno
        go_wp2_with (first
          | (at_lookup; refine wpList_lookup_own_ok_int _ rfl _ _ 92 rfl 31 3 .i64 keyedP Tryd.underlying92 Tryd.underlying3 (Tryd.zeroValue3 _) w.heap.size k D rfl (HD.out.alloc _) _ (keyB (q1, q2)) rfl HK2.out ?_; intro c hat hwc; rw [HH.out, hc])
          | (at_mapUpdate; refine wpList_mapUpdate_in _ rfl _ _ _ 92 rfl 31 3 keyedP Tryd.underlying92 (plainElem Tryd.prog 3) w.heap.size k D rfl (HD.out.alloc _) (by unfold maxLen; omega) _ _ (keyB (q1, q2)) rfl rfl HK2.out (.lit (.int .i64 k)) [] (plainElem_int Tryd.underlying3 hwf.out) ?_; intro w1 hown1 hturn1))
        have hr : Hid (IsRk w.heap.size (k + 1) (l.take (k + 1)) w1) := Lib.hid (by
          rw [HT.out]
          exact IsRk.put HD.out HD2.out HQO.out HNO.out (by rw [HLN.out]; exact hown1))
        have hb2 := mapTurned_below hturn1 (HB.out.alloc HB.out.size (.cells #[.string q1, .string q2] 31)) (Nat.le_refl _) (by have := HB.out.size; simp; omega)
        go_roundw
        case rel => exact ⟨k + 1, by rw [HN.out]; omega, by rw [Int.natCast_succ], hr.out, hb2⟩
        case measure => simp [intOf]; omega
    · have hkn : k = n := by omega
      have hr : Hid (IsRk w.heap.size n l wr) := Lib.hid (by
        have h1 : IsRk w.heap.size k (l.take k) wr := ⟨D, HD.out, HD2.out⟩
        rw [List.take_of_length_le (by rw [HN.out]; omega), hkn] at h1
        exact h1)
      go_wp2_with fail
      go_ret
      exact ⟨rfl, hr.out, HB.out⟩
end Go.Proofs.YtdpfpdpaamjefaaDoor
namespace Go.Proofs.YtdpfpdpaamjefaaDoor
open Go.RowKit

theorem run_mk (n : Nat) (hn : n ≤ 100000) (w : World) : (Instr.makeSlice 37 (.int .i64 n) (.int .i64 n)).run Tryd.prog w = .ok (.slice (some ⟨w.heap.size, 0, none⟩) n n) (w.alloc (.cells (madeCells #[.int .i64 0] n) 3)) := by
  obtain ⟨i0, hi, hz0, hz1, hz2⟩ := info_parts (show (Tryd.prog.info? 3).map (fun i => (i.zero, i.size, i.bytes)) = some (some (.int .i64 0), 1, 8) by kernel_rfl)
  have := run_make (P := Tryd.prog) w 37 3 i0 (.int .i64 0) Tryd.underlying37 hi hz0 .i64 .i64 n n (by omega) (by omega) (by rw [hz2]; show (8 : Int) * _ ≤ _; omega) (by omega)
  rw [hz1] at this
  simp only [Int.toNat_natCast, Nat.mul_one] at this
  exact this
theorem run_mk1 (n : Nat) (hn : n ≤ 90000) (w : World) : (Instr.makeSlice 37 (.int .i64 ((n : Int) + 1)) (.int .i64 ((n : Int) + 1))).run Tryd.prog w = .ok (.slice (some ⟨w.heap.size, 0, none⟩) (n + 1) (n + 1)) (w.alloc (.cells (madeCells #[.int .i64 0] (n + 1)) 3)) := by
  have := run_mk (n + 1) (by omega) w
  rw [Int.natCast_succ] at this
  exact this
theorem offB_bytes (s : ByteArray) {j : Nat} (h : j ≤ s.size) : offB (bytesB s) j = j := by
  unfold offB bytesB catB
  rw [← List.map_take, List.flatMap_map]
  simp
  exact Nat.min_eq_left h
/-- What bytesOf has made, the first a ends and the first b ranks laid. -/
def MkS (a b : Nat) (s : ByteArray) (w wr : World) : Prop :=
  ∃ gf gr, wr.heap[w.heap.size + 1 + 1]? = some (.cells #[.string s, .slice (some ⟨gf, 0, none⟩) (s.size + 1) (s.size + 1), .slice (some ⟨gr, 0, none⟩) s.size s.size] 107 (0, 0)) ∧
    (∃ cur, wr.heap[gf]? = some (.cells cur 3 (0, 0)) ∧ cur.size = s.size + 1 ∧ ∀ j : Nat, j < a → cur[j]? = some (.int .i64 j)) ∧
    (∃ cur, wr.heap[gr]? = some (.cells cur 3 (0, 0)) ∧ cur.size = s.size ∧ ∀ j : Nat, j < b → cur[j]? = some (.int .i64 (-1))) ∧
    gf ≠ gr ∧ w.heap.size ≤ gf ∧ w.heap.size ≤ gr ∧ gf ≠ w.heap.size + 1 + 1 ∧ gr ≠ w.heap.size + 1 + 1 ∧ Below w.heap.size w wr
def MkI (a b : Bool) (n : Nat) (s : ByteArray) (w : World) (i : Value) (wr : World) : Prop :=
  ∃ k : Nat, k ≤ n ∧ i = .int .i64 k ∧ MkS (if a then k else s.size + 1) (if b then k else if a then 0 else s.size) s w wr
theorem mk_set {cur : Array Value} {n k : Nat} {v : Nat → Value} (hz : cur.size = n) (hk : k < n) (hc : ∀ j : Nat, j < k → cur[j]? = some (v j)) : (cur.setIfInBounds k (v k)).size = n ∧ ∀ j : Nat, j < k + 1 → (cur.setIfInBounds k (v k))[j]? = some (v j) := by
  refine ⟨by simp [hz], fun j hj => ?_⟩
  by_cases e : k = j
  · subst e; rw [Array.getElem?_setIfInBounds_self_of_lt (by omega)]
  · rw [Array.getElem?_setIfInBounds_ne e]; exact hc j (by omega)
theorem MkS.setf {a b : Nat} {s : ByteArray} {w wr : World} {gf gr : Nat} (hd : wr.heap[w.heap.size + 1 + 1]? = some (.cells #[.string s, .slice (some ⟨gf, 0, none⟩) (s.size + 1) (s.size + 1), .slice (some ⟨gr, 0, none⟩) s.size s.size] 107 (0, 0)))
    (hf : ∃ cur, wr.heap[gf]? = some (.cells cur 3 (0, 0)) ∧ cur.size = s.size + 1 ∧ ∀ j : Nat, j < a → cur[j]? = some (.int .i64 j))
    (hr : ∃ cur, wr.heap[gr]? = some (.cells cur 3 (0, 0)) ∧ cur.size = s.size ∧ ∀ j : Nat, j < b → cur[j]? = some (.int .i64 (-1)))
    (hx : gf ≠ gr ∧ w.heap.size ≤ gf ∧ w.heap.size ≤ gr ∧ gf ≠ w.heap.size + 1 + 1 ∧ gr ≠ w.heap.size + 1 + 1 ∧ Below w.heap.size w wr) (ha : a < s.size + 1) : MkS (a + 1) b s w (wr.setCell ⟨gf, a, none⟩ (.int .i64 a)) := by
  obtain ⟨c1, f1, f2, f3⟩ := hf
  obtain ⟨c2, r1, r2⟩ := hr
  have h1 := mk_set (v := fun j => .int .i64 j) f2 ha f3
  exact ⟨gf, gr, (Below.heap_setCell wr ⟨gf, a, none⟩ _ _ (Ne.symm hx.2.2.2.1)).trans hd, ⟨_, heap_set _ f1, h1⟩, ⟨c2, (Below.heap_setCell wr ⟨gf, a, none⟩ _ _ (Ne.symm hx.1)).trans r1, r2⟩, hx.1, hx.2.1, hx.2.2.1, hx.2.2.2.1, hx.2.2.2.2.1, hx.2.2.2.2.2.setCell (p := ⟨gf, a, none⟩) hx.2.1 _⟩
theorem MkS.setr {a b : Nat} {s : ByteArray} {w wr : World} {gf gr : Nat} (hd : wr.heap[w.heap.size + 1 + 1]? = some (.cells #[.string s, .slice (some ⟨gf, 0, none⟩) (s.size + 1) (s.size + 1), .slice (some ⟨gr, 0, none⟩) s.size s.size] 107 (0, 0)))
    (hf : ∃ cur, wr.heap[gf]? = some (.cells cur 3 (0, 0)) ∧ cur.size = s.size + 1 ∧ ∀ j : Nat, j < a → cur[j]? = some (.int .i64 j))
    (hr : ∃ cur, wr.heap[gr]? = some (.cells cur 3 (0, 0)) ∧ cur.size = s.size ∧ ∀ j : Nat, j < b → cur[j]? = some (.int .i64 (-1)))
    (hx : gf ≠ gr ∧ w.heap.size ≤ gf ∧ w.heap.size ≤ gr ∧ gf ≠ w.heap.size + 1 + 1 ∧ gr ≠ w.heap.size + 1 + 1 ∧ Below w.heap.size w wr) (hb : b < s.size) : MkS a (b + 1) s w (wr.setCell ⟨gr, b, none⟩ (.int .i64 (-1))) := by
  obtain ⟨c1, f1, f2⟩ := hf
  obtain ⟨c2, r1, r2, r3⟩ := hr
  have h1 := mk_set (v := fun _ => .int .i64 (-1)) r2 hb r3
  exact ⟨gf, gr, (Below.heap_setCell wr ⟨gr, b, none⟩ _ _ (Ne.symm hx.2.2.2.2.1)).trans hd, ⟨c1, (Below.heap_setCell wr ⟨gr, b, none⟩ _ _ hx.1).trans f1, f2⟩, ⟨_, heap_set _ r1, h1⟩, hx.1, hx.2.1, hx.2.2.1, hx.2.2.2.1, hx.2.2.2.2.1, hx.2.2.2.2.2.setCell (p := ⟨gr, b, none⟩) hx.2.2.1 _⟩
theorem cell_in {w : World} {g j : Nat} {cur : Array Value} {t : TypeId} (h : w.heap[g]? = some (.cells cur t (0, 0))) (hj : j < cur.size) : (∃ v, w.cell? ⟨g, j, none⟩ = some v) ∧ w.frozen? ⟨g, j, none⟩ = false := by
  rw [cell_of_row h]
  exact ⟨⟨_, Array.getElem?_eq_getElem hj⟩, by simp [World.frozen?, h]⟩
theorem made0 (s : ByteArray) (w : World) : MkI true false (s.size + 1) s w (.int .i64 0) ((((w.alloc (.cells (madeCells #[.int .i64 0] s.size) 3)).alloc (.cells (madeCells #[.int .i64 0] (s.size + 1)) 3)).alloc (.cells #[.string s, .slice (some ⟨w.heap.size + 1, 0, none⟩) (s.size + 1) (s.size + 1), .slice (some ⟨w.heap.size, 0, none⟩) s.size s.size] 107)).drew) := by
  have h1 : (w.alloc (.cells (madeCells #[.int .i64 0] s.size) 3)).heap[w.heap.size]? = _ := World.alloc_heap_new w _
  have h2 := World.alloc_heap_new (w.alloc (.cells (madeCells #[.int .i64 0] s.size) 3)) (.cells (madeCells #[.int .i64 0] (s.size + 1)) 3)
  have h3 := World.alloc_heap_new ((w.alloc (.cells (madeCells #[.int .i64 0] s.size) 3)).alloc (.cells (madeCells #[.int .i64 0] (s.size + 1)) 3)) (.cells #[.string s, .slice (some ⟨w.heap.size + 1, 0, none⟩) (s.size + 1) (s.size + 1), .slice (some ⟨w.heap.size, 0, none⟩) s.size s.size] 107)
  rw [World.size_alloc] at h2
  rw [World.size_alloc, World.size_alloc] at h3
  refine ⟨0, by omega, rfl, w.heap.size + 1, w.heap.size, h3, ⟨_, (Lib.alloc_old _ _ _ (by simp)).trans h2, size_madeCells _ _, fun j hj => absurd hj (Nat.not_lt_zero _)⟩, ⟨_, (Lib.alloc_old _ _ _ (by simp; omega)).trans ((Lib.alloc_old _ _ _ (by simp)).trans h1), size_madeCells _ _, fun j hj => absurd hj (Nat.not_lt_zero _)⟩, by omega, by omega, by omega, by omega, by omega, ?_⟩
  exact ((((Below.refl _ w).alloc (Nat.le_refl _) _).alloc (by simp) _).alloc (by simp; omega) _).drew
theorem made1 (s : ByteArray) (w : World) : MkI true false (s.size + 1) s w (.int .i64 0) ((((w.alloc (.cells (madeCells #[.int .i64 0] (s.size + 1)) 3)).alloc (.cells (madeCells #[.int .i64 0] s.size) 3)).alloc (.cells #[.string s, .slice (some ⟨w.heap.size, 0, none⟩) (s.size + 1) (s.size + 1), .slice (some ⟨w.heap.size + 1, 0, none⟩) s.size s.size] 107)).drew) := by
  have h1 : (w.alloc (.cells (madeCells #[.int .i64 0] (s.size + 1)) 3)).heap[w.heap.size]? = _ := World.alloc_heap_new w _
  have h2 := World.alloc_heap_new (w.alloc (.cells (madeCells #[.int .i64 0] (s.size + 1)) 3)) (.cells (madeCells #[.int .i64 0] s.size) 3)
  have h3 := World.alloc_heap_new ((w.alloc (.cells (madeCells #[.int .i64 0] (s.size + 1)) 3)).alloc (.cells (madeCells #[.int .i64 0] s.size) 3)) (.cells #[.string s, .slice (some ⟨w.heap.size, 0, none⟩) (s.size + 1) (s.size + 1), .slice (some ⟨w.heap.size + 1, 0, none⟩) s.size s.size] 107)
  rw [World.size_alloc] at h2
  rw [World.size_alloc, World.size_alloc] at h3
  refine ⟨0, by omega, rfl, w.heap.size, w.heap.size + 1, h3, ⟨_, (Lib.alloc_old _ _ _ (by simp; omega)).trans ((Lib.alloc_old _ _ _ (by simp)).trans h1), size_madeCells _ _, fun j hj => absurd hj (Nat.not_lt_zero _)⟩, ⟨_, (Lib.alloc_old _ _ _ (by simp)).trans h2, size_madeCells _ _, fun j hj => absurd hj (Nat.not_lt_zero _)⟩, by omega, by omega, by omega, by omega, by omega, ?_⟩
  exact ((((Below.refl _ w).alloc (Nat.le_refl _) _).alloc (by simp) _).alloc (by simp; omega) _).drew
set_option maxHeartbeats 2000000 in
set_option maxRecDepth 100000 in
theorem bytesOf_any (s : ByteArray) (w : World) (h0 : 0 < s.size) (h1 : s.size ≤ 4096) :
    Calls Tryd.prog 30 #[.string s] w fun e w' => ∃ g gf gr cf cr, e = .returned (.pointer (some ⟨g, 0, none⟩)) ∧ PtAt g gf gr cf cr s (bytesB s) (fun _ => -1) w' ∧ w.heap.size ≤ g ∧ w.heap.size ≤ gf ∧ w.heap.size ≤ gr ∧ Below w.heap.size w w' := by
  obtain ⟨n, hn⟩ : ∃ n, s.size = n := ⟨_, rfl⟩
  have h2 : (s.size : Int) ≤ 4096 := by omega
  have h3 : (0 : Int) < s.size := by omega
  have hm0 := fun W => run_mk s.size (by omega) W
  have hm1 := fun W => run_mk1 s.size (by omega) W
  have hw1 : IntKind.i64.wrap ((s.size : Int) + 1) = (s.size : Int) + 1 := IntWalk.i64_in _ (by omega)
  have M0 := Lib.hid (made0 s w); have M1 := Lib.hid (made1 s w)
  have HN := Lib.hid hn
  clear hn
  go_enter Tryd.func30, Tryd.ntmps30
  go_wp2_with fail
  go_region
  all_goals
    clear hm0 hm1
    first
      | (generalize hW : World.drew _ = W; have MM : Hid (MkI true false (s.size + 1) s w (.int .i64 0) W) := Lib.hid (by rw [← hW]; exact M0.out))
      | (generalize hW : World.drew _ = W; have MM : Hid (MkI true false (s.size + 1) s w (.int .i64 0) W) := Lib.hid (by rw [← hW]; exact M1.out))
    clear hW M0 M1
    have c1 : ∃ gf0, W.cell? ⟨w.heap.size + 1 + 1, 1, none⟩ = some (.slice (some ⟨gf0, 0, none⟩) (s.size + 1) (s.size + 1)) := by
      obtain ⟨_, _, _, gf0, _, hd, _⟩ := MM.out
      exact ⟨gf0, cell_of_row hd⟩
    obtain ⟨gf0, c1⟩ := c1
    go_wp2_with fail
    clear c1
    go_loopw [21] (fun i wr => MkI true false (s.size + 1) s w i wr) (fun i _ => s.size + 1 - (intOf i).toNat)
    case atStart => exact MM.out
    case round =>
      obtain ⟨k, hk, rfl, gf, gr, hd, hf, hr, hx⟩ := hrel
      simp only [if_true] at hf hr
      by_cases hlt : k < s.size + 1
      · have c1 : wr.cell? ⟨w.heap.size + 1 + 1, 1, none⟩ = some (.slice (some ⟨gf, 0, none⟩) (s.size + 1) (s.size + 1)) := cell_of_row hd
        obtain ⟨⟨v0, c2⟩, f2⟩ := (show (∃ v, wr.cell? ⟨gf, k, none⟩ = some v) ∧ wr.frozen? ⟨gf, k, none⟩ = false by
          obtain ⟨cur, hc, hz, _⟩ := hf
          exact cell_in hc (by omega))
        have HN2 := Lib.hid (MkS.setf hd hf hr hx hlt)
        clear hd hf hr hx MM
        have hki : (k : Int) < s.size + 1 := by omega
        go_wp2_with fail
        go_roundw
        case rel => exact ⟨k + 1, by omega, by rw [Int.natCast_succ], HN2.out⟩
        case measure => simp [intOf]; omega
      · have hkn : k = s.size + 1 := by omega
        have MM2 : Hid (MkI false true s.size s w (.int .i64 0) wr) := Lib.hid ⟨0, by omega, rfl, gf, gr, hd, by rw [hkn] at hf; exact hf, by simpa using hr, hx⟩
        have c2 : wr.cell? ⟨w.heap.size + 1 + 1, 2, none⟩ = some (.slice (some ⟨gr, 0, none⟩) s.size s.size) := cell_of_row hd
        clear hd hf hr hx MM
        go_wp2_with fail
        clear c2
        go_loopw [37] (fun i wr => MkI false true s.size s w i wr) (fun i _ => s.size - (intOf i).toNat)
        case atStart => exact MM2.out
        case round =>
          obtain ⟨k, hk, rfl, gf, gr, hd, hf, hr, hx⟩ := hrel
          simp only [if_true] at hf hr
          by_cases hlt : k < s.size
          · have c1 : wr.cell? ⟨w.heap.size + 1 + 1, 2, none⟩ = some (.slice (some ⟨gr, 0, none⟩) s.size s.size) := cell_of_row hd
            obtain ⟨⟨v0, c2⟩, f2⟩ := (show (∃ v, wr.cell? ⟨gr, k, none⟩ = some v) ∧ wr.frozen? ⟨gr, k, none⟩ = false by
              obtain ⟨cur, hc, hz, _⟩ := hr
              exact cell_in hc (by omega))
            have HN2 := Lib.hid (MkS.setr hd hf hr hx hlt)
            clear hd hf hr hx MM2
            go_wp2_with fail
            go_roundw
            case rel => exact ⟨k + 1, by omega, by rw [Int.natCast_succ], HN2.out⟩
            case measure => simp [intOf]; omega
          · have hkn : k = s.size := by omega
            have HE : Hid (PtAt (w.heap.size + 1 + 1) gf gr (s.size + 1) s.size s (bytesB s) (fun _ => -1) wr) := Lib.hid (by
              obtain ⟨cf, f1, f2, f3⟩ := hf
              obtain ⟨cr, r1, r2, r3⟩ := hr
              refine ⟨by rw [bytesB_length]; exact hd, ⟨cf, f1, fun j hj => ?_⟩, ⟨cr, r1, fun j hj => ?_⟩, catB_bytes s, hx.1, by rw [bytesB_length]; omega, by rw [bytesB_length]; omega⟩
              · rw [bytesB_length] at hj
                rw [offB_bytes s hj]
                exact f3 j (by simp; omega)
              · rw [bytesB_length] at hj
                exact r3 j (by omega))
            have HX := Lib.hid hx
            clear hd hf hr hx MM2
            go_wp2_with fail
            go_ret
            exact ⟨_, gf, gr, _, _, rfl, HE.out, by omega, HX.out.2.1, HX.out.2.2.1, HX.out.2.2.2.2.2⟩
end Go.Proofs.YtdpfpdpaamjefaaDoor
namespace Go.Proofs.YtdpfpdpaamjefaaDoor
open Go.RowKit Go.Maps
variable {g gf gr cf cr : Nat} {word : ByteArray} {P : List ByteArray} {R : Nat → Int} {w w' w'' : World}

def upd (R : Nat → Int) (i : Nat) (v : Int) : Nat → Int := fun j => if j = i then v else R j
theorem PtAt.setr (h : PtAt g gf gr cf cr word P R w) (i : Nat) (v : Int) : PtAt g gf gr cf cr word P (upd R i v) (w.setCell ⟨gr, i, none⟩ (.int .i64 v)) := by
  obtain ⟨a1, a2⟩ := h.apart
  obtain ⟨c1, f1, f2⟩ := h.f
  obtain ⟨c2, r1, r2⟩ := h.r
  refine ⟨(Below.heap_setCell w ⟨gr, i, none⟩ _ _ a2).trans h.d, ⟨c1, (Below.heap_setCell w ⟨gr, i, none⟩ _ _ h.ne).trans f1, f2⟩, ⟨_, heap_set _ r1, fun j hj => ?_⟩, h.cat, h.ne, h.cf, h.cr⟩
  have hs := r2 j hj
  have hlt := (Array.getElem?_eq_some_iff.1 hs).1
  unfold upd
  by_cases e : j = i
  · subst e; rw [Array.getElem?_setIfInBounds_self_of_lt hlt, if_pos rfl]
  · rw [Array.getElem?_setIfInBounds_ne (Ne.symm e), if_neg e]; exact hs
/-- The ranks that are known are right. -/
def RkOk (l : List PairB) (P : List ByteArray) (R : Nat → Int) : Prop := ∀ k a b, P[k]? = some a → P[k + 1]? = some b → R k = -1 ∨ R k = rkI l (a, b)
theorem RkOk.upd {l : List PairB} {i : Nat} {p q : ByteArray} (h : RkOk l P R) (hp : P[i]? = some p) (hq : P[i + 1]? = some q) : RkOk l P (upd R i (rkI l (p, q))) := by
  intro k a b ha hb
  unfold Go.Proofs.YtdpfpdpaamjefaaDoor.upd
  by_cases e : k = i
  · subst e
    rw [if_pos rfl]
    rw [hp] at ha; rw [hq] at hb
    injection ha with ha; injection hb with hb
    subst ha; subst hb
    exact .inr rfl
  · rw [if_neg e]; exact h k a b ha hb
theorem IsRk.fr {b n : Nat} {l : List PairB} (h : IsRk b n l w) (hf : FrP g gf gr w w') (h1 : b ≠ g) (h2 : b ≠ gf) (h3 : b ≠ gr) : IsRk b n l w' := h.keep (hf.block b h.lt h1 h2 h3)
theorem part_ok {P : List ByteArray} {k : Nat} {p s : ByteArray} (hs : catB P = s.data.toList) (h : P[k]? = some p) : p.size ≤ s.size := by
  have h1 := offB_succ h
  have h2 := offB_le P (k + 1)
  rw [hs, size_len] at h2
  omega
set_option maxHeartbeats 2000000 in
set_option maxRecDepth 100000 in
theorem look_any (h : PtAt g gf gr cf cr word P R w) (hw : word.size ≤ 4096) (hP : P.length ≤ 4096) {b n : Nat} {l : List PairB} (hr : IsRk b n l w) (_ : b ≠ g) (_ : b ≠ gf) (_ : b ≠ gr) (i : Nat) (p q : ByteArray) (hi : P[i]? = some p) (hj : P[i + 1]? = some q) :
    Calls Tryd.prog 42 #[.pointer (some ⟨g, 0, none⟩), .map (some b), .int .i64 i] w fun e w' => e = .returned (.int .i64 (rkI l (p, q))) ∧ PtAt g gf gr cf cr word P (upd R i (rkI l (p, q))) w' ∧ FrP g gf gr w w' := by
  have hil := (List.getElem?_eq_some_iff.1 hj).1
  have hok : OkP (p, q) := ⟨by show p.size ≤ maxLen; have := part_ok h.cat hi; unfold maxLen; omega, by show q.size ≤ maxLen; have := part_ok h.cat hj; unfold maxLen; omega⟩
  have H2 := Lib.hid (two_any h hw hP i p q hi hj)
  have HK := Lib.hid (keyB_of hok)
  obtain ⟨D, hD, hD2⟩ := hr
  have HD := Lib.hid hD; have HD2 := Lib.hid (hD2 _ hok); have HT := Lib.hid h
  have hl0 := h.lt
  obtain ⟨m, hm⟩ : ∃ m, P.length = m := ⟨_, rfl⟩
  rw [hm] at hil hP
  have HM := Lib.hid hm
  clear h hi hj hD hD2 hm
  go_enter Tryd.func42, Tryd.ntmps42
  go_wp2_with (go_at_call 44; refine H2.out.mono ?_)
  first | rintro e w1 rfl hb1 | rintro e w1 ⟨rfl, hb1⟩
  have HT1 := Lib.hid (HT.out.below hb1)
  have HD1 : Hid (w1.ownsMap Tryd.prog 31 (plainElem Tryd.prog 3) b n D) := Lib.hid (by
    obtain ⟨es, clock, e1, e2⟩ := HD.out
    exact ⟨es, clock, (hb1.block b (lt_of_some e1)).trans e1, e2⟩)
  have HB1 := Lib.hid hb1
  have c2 : w1.cell? ⟨g, 2, none⟩ = some (.slice (some ⟨gr, 0, none⟩) m cr) := by have := HT1.out.c2; rwa [HM.out] at this
  have c3 := HT1.out.cr' (j := i) (by rw [HM.out]; omega)
  have c4 := HT1.out.fr_r i
  clear hb1
  cases hc : rankN l (p, q) with
  | none =>
    have hh : has D (keyB (p, q)) = false := by rw [HD2.out.1, hc]; rfl
    have HE := Lib.hid (show rkI l (p, q) = 9223372036854775807 by unfold rkI; rw [hc]; rfl)
    have HH := Lib.hid hh
    clear hh hc
    go_wp2_with (at_lookup; refine wpList_lookup_own_ok_int _ rfl _ _ 92 rfl 31 3 .i64 keyedP Tryd.underlying92 Tryd.underlying3 (Tryd.zeroValue3 _) b n D rfl HD1.out _ (keyB (p, q)) rfl HK.out ?_; intro c hat hwc; rw [HH.out]; clear hat)
    go_ret
    exact ⟨ret_int HE.out.symm, by rw [HE.out]; exact HT1.out.setr i _, (FrP.of_below HB1.out).trans (FrP.set _ _ _ _ (.inr (.inr rfl)))⟩
  | some r =>
    have hh : has D (keyB (p, q)) = true := by rw [HD2.out.1, hc]; rfl
    have hat0 : Hid (D.atKey (keyB (p, q)) (.lit (.int .i64 0)) = .lit (.int .i64 (r : Nat))) := Lib.hid (HD2.out.2 r hc)
    have HE := Lib.hid (show rkI l (p, q) = r by unfold rkI; rw [hc])
    have HH := Lib.hid hh
    clear hh hc
    go_wp2_with (at_lookup; refine wpList_lookup_own_ok_int _ rfl _ _ 92 rfl 31 3 .i64 keyedP Tryd.underlying92 Tryd.underlying3 (Tryd.zeroValue3 _) b n D rfl HD1.out _ (keyB (p, q)) rfl HK.out ?_; intro c hat hwc; rw [HH.out]; rw [hat0.out] at hat; have hcr : c = (r : Int) := (by injection hat with hat; injection hat with _ hat; exact hat.symm); clear hat; subst hcr)
    go_ret
    exact ⟨ret_int HE.out.symm, by rw [HE.out]; exact HT1.out.setr i _, (FrP.of_below HB1.out).trans (FrP.set _ _ _ _ (.inr (.inr rfl)))⟩
end Go.Proofs.YtdpfpdpaamjefaaDoor
namespace Go.Proofs.YtdpfpdpaamjefaaDoor
open Go.RowKit Go.Maps
variable {g gf gr cf cr : Nat} {word : ByteArray} {P : List ByteArray} {R : Nat → Int} {w w' w'' : World}

theorem bestI_snoc (l : List PairB) (hl : l.length ≤ 100000) (a b : ByteArray) : ∀ Q : List ByteArray, bestI l (Q ++ [a, b]) = min (bestI l (Q ++ [a])) (rkI l (a, b))
  | [] => by
    have := rkI_bd l (a, b) hl
    show min (rkI l (a, b)) noR = min noR (rkI l (a, b))
    omega
  | [x] => by
    show min (rkI l (x, a)) (min (rkI l (a, b)) noR) = min (min (rkI l (x, a)) noR) (rkI l (a, b))
    omega
  | x :: y :: Q => by
    have ih := bestI_snoc l hl a b (y :: Q)
    show min (rkI l (x, y)) (bestI l ((y :: Q) ++ [a, b])) = min (min (rkI l (x, y)) (bestI l ((y :: Q) ++ [a]))) (rkI l (a, b))
    rw [ih]
    omega
theorem bestI_to {l : List PairB} (hl : l.length ≤ 100000) {k : Nat} {a b : ByteArray} (h1 : P[k]? = some a) (h2 : P[k + 1]? = some b) : bestI l (P.take (k + 2)) = min (bestI l (P.take (k + 1))) (rkI l (a, b)) := by
  have e1 : P.take (k + 1) = P.take k ++ [a] := by rw [List.take_add_one, h1]; rfl
  have e2 : P.take (k + 2) = P.take k ++ [a, b] := by rw [List.take_add_one, h2, e1, List.append_assoc]; rfl
  rw [e1, e2]
  exact bestI_snoc l hl a b _
theorem bestI_one (l : List PairB) (P : List ByteArray) : bestI l (P.take 1) = noR := by
  cases P with
  | nil => rfl
  | cons a r => rfl
def LeS (g gf gr cf cr : Nat) (word : ByteArray) (P : List ByteArray) (l : List PairB) (w : World) (m : Nat) (le i : Value) (wr : World) : Prop :=
  ∃ (k : Nat) (R : Nat → Int) (x : Int), k ≤ m ∧ i = .int .i64 k ∧ le = .int .i64 x ∧ x = bestI l (P.take (k + 1)) ∧ PtAt g gf gr cf cr word P R wr ∧ RkOk l P R ∧ FrP g gf gr w wr
set_option maxHeartbeats 2000000 in
set_option maxRecDepth 100000 in
theorem least_any (h : PtAt g gf gr cf cr word P R w) (hw : word.size ≤ 4096) (hP : P.length ≤ 4096) (hP0 : P ≠ []) {b n : Nat} {l : List PairB} (hl : l.length ≤ 100000) (hr : IsRk b n l w) (h1 : b ≠ g) (h2 : b ≠ gf) (h3 : b ≠ gr) (hk : RkOk l P R) :
    Calls Tryd.prog 32 #[.pointer (some ⟨g, 0, none⟩), .map (some b)] w fun e w' => e = .returned (.int .i64 (bestI l P)) ∧ ∃ R', PtAt g gf gr cf cr word P R' w' ∧ RkOk l P R' ∧ FrP g gf gr w w' := by
  have hm0 : 0 < P.length := List.length_pos_iff.2 hP0
  obtain ⟨m, hm⟩ : ∃ m, P.length = m + 1 := ⟨P.length - 1, by omega⟩
  have c2 : w.cell? ⟨g, 2, none⟩ = some (.slice (some ⟨gr, 0, none⟩) (m + 1) cr) := by have := h.c2; rwa [hm] at this
  have hcr : m + 1 ≤ cr := by have := h.cr; omega
  have HM := Lib.hid hm
  have H0 : Hid (LeS g gf gr cf cr word P l w m (.int .i64 9223372036854775807) (.int .i64 0) w) := Lib.hid ⟨0, R, _, Nat.zero_le _, rfl, rfl, (bestI_one l P).symm, h, hk, FrP.refl _ _ _ _⟩
  have HR := Lib.hid hr
  have hm4 : m + 1 ≤ 4096 := by omega
  have hw1 : IntKind.i64.wrap (((m + 1 : Nat) : Int) - 1) = ((m : Nat) : Int) := by rw [IntKind.wrap_i64]; omega
  clear h hk hr hm hm0 hP0 hP
  go_enter Tryd.func32, Tryd.ntmps32
  go_wp2_with fail
  go_quiet (fail)
  rename_i nq
  have H1 : Hid (LeS g gf gr cf cr word P l w m (.int .i64 9223372036854775807) (.int .i64 0) (w.drewN nq)) := Lib.hid (by
    obtain ⟨k, R', x, a1, a2, a3, a4, a5, a6, a7⟩ := H0.out
    exact ⟨k, R', x, a1, a2, a3, a4, a5.drewN nq, a6, a7.drewN nq⟩)
  clear H0 c2
  go_wp2_with fail
  go_loopw [20, 5] (fun i le wr => LeS g gf gr cf cr word P l w m le i wr) (fun i _ _ => m - (intOf i).toNat)
  case atStart => exact H1.out
  case round =>
    obtain ⟨k, R', x, hk, rfl, rfl, hx, hT, hok, hfr⟩ := hrel
    have HX := Lib.hid hx; have HT := Lib.hid hT; have HK := Lib.hid hok; have HF := Lib.hid hfr
    clear hx hT hok hfr H1
    by_cases hlt : k < m
    · obtain ⟨p, hp⟩ : ∃ p, P[k]? = some p := ⟨_, List.getElem?_eq_getElem (by rw [HM.out]; omega)⟩
      obtain ⟨q, hq⟩ : ∃ q, P[k + 1]? = some q := ⟨_, List.getElem?_eq_getElem (by rw [HM.out]; omega)⟩
      have c3 := HT.out.cr' (j := k) (by rw [HM.out]; omega)
      have HST := Lib.hid (bestI_to hl hp hq)
      have hlk := look_any HT.out hw (by rw [HM.out]; omega) (HR.out.fr HF.out h1 h2 h3) h1 h2 h3 k p q hp hq
      have HL := Lib.hid hlk
      have hbd := rkI_bd l (p, q) hl
      have HU := Lib.hid (HK.out.upd hp hq)
      have hkn := HK.out k p q hp hq
      obtain ⟨y, hy⟩ : ∃ y, rkI l (p, q) = y := ⟨_, rfl⟩
      rw [hy] at HST HL hbd HU hkn
      obtain ⟨r0, hr0⟩ : ∃ r0, R' k = r0 := ⟨_, rfl⟩
      rw [hr0] at c3 hkn
      have hy0 : 0 ≤ y := hbd.1
      clear hlk hp hq hbd hy hr0
      by_cases hun : r0 = -1
      · subst hun
        go_wp2_with (go_at_call 42; refine HL.out.mono ?_)
        first | rintro e w1 rfl hT1 hf1 | rintro e w1 ⟨rfl, hT1, hf1⟩
        have HT1 := Lib.hid hT1; have HF1 := Lib.hid (HF.out.trans hf1)
        clear hT1 hf1
        go_wp2_with fail
        go_roundw
        case rel => exact ⟨k + 1, _, _, by omega, by rw [Int.natCast_succ], rfl, by rw [HST.out, HX.out], HT1.out, HU.out, HF1.out⟩
        case measure => simp [intOf]; omega
      · have hun2 : (r0 == (-1 : Int)) = false := by simpa using hun
        have hry : r0 = y := by rcases hkn with h | h; exact absurd h hun; exact h
        subst hry
        clear hkn
        go_wp2_with fail
        go_roundw
        case rel => exact ⟨k + 1, _, _, by omega, by rw [Int.natCast_succ], rfl, by rw [HST.out, HX.out], HT.out, HK.out, HF.out⟩
        case measure => simp [intOf]; omega
    · have hkm : k = m := by omega
      have HE := Lib.hid (show bestI l P = x by rw [HX.out, hkm, List.take_of_length_le (by rw [HM.out]; omega)])
      go_wp2_with fail
      go_ret
      exact ⟨ret_int HE.out.symm, R', HT.out, HK.out, HF.out⟩
end Go.Proofs.YtdpfpdpaamjefaaDoor
namespace Go.Proofs.YtdpfpdpaamjefaaDoor
open Go.RowKit Go.Maps
variable {g gf gr cf cr m : Nat} {word : ByteArray} {P : List ByteArray} {F : Nat → Nat} {R : Nat → Int} {w w' w'' : World}

structure MxAt (g gf gr cf cr m : Nat) (word : ByteArray) (F : Nat → Nat) (R : Nat → Int) (w : World) : Prop where
  d : w.heap[g]? = some (.cells #[.string word, .slice (some ⟨gf, 0, none⟩) (m + 1) cf, .slice (some ⟨gr, 0, none⟩) m cr] 107 (0, 0))
  f : ∃ cur, w.heap[gf]? = some (.cells cur 3 (0, 0)) ∧ ∀ j, j ≤ m → cur[j]? = some (.int .i64 (F j : Nat))
  r : ∃ cur, w.heap[gr]? = some (.cells cur 3 (0, 0)) ∧ ∀ j, j < m → cur[j]? = some (.int .i64 (R j))
  ne : gf ≠ gr
  cf : m + 1 ≤ cf
  cr : m ≤ cr
theorem PtAt.mx (h : PtAt g gf gr cf cr word P R w) : MxAt g gf gr cf cr P.length word (offB P) R w := ⟨h.d, h.f, h.r, h.ne, h.cf, h.cr⟩
theorem MxAt.c0 (h : MxAt g gf gr cf cr m word F R w) : w.cell? ⟨g, 0, none⟩ = some (.string word) := cell_of_row h.d
theorem MxAt.c1 (h : MxAt g gf gr cf cr m word F R w) : w.cell? ⟨g, 1, none⟩ = some (.slice (some ⟨gf, 0, none⟩) (m + 1) cf) := cell_of_row h.d
theorem MxAt.c2 (h : MxAt g gf gr cf cr m word F R w) : w.cell? ⟨g, 2, none⟩ = some (.slice (some ⟨gr, 0, none⟩) m cr) := cell_of_row h.d
theorem MxAt.cf' (h : MxAt g gf gr cf cr m word F R w) {j : Nat} (hj : j ≤ m) : w.cell? ⟨gf, j, none⟩ = some (.int .i64 (F j : Nat)) := by
  obtain ⟨cur, hg, hc⟩ := h.f
  rw [cell_of_row hg]; exact hc j hj
theorem MxAt.cr' (h : MxAt g gf gr cf cr m word F R w) {j : Nat} (hj : j < m) : w.cell? ⟨gr, j, none⟩ = some (.int .i64 (R j)) := by
  obtain ⟨cur, hg, hc⟩ := h.r
  rw [cell_of_row hg]; exact hc j hj
theorem MxAt.fr_f (h : MxAt g gf gr cf cr m word F R w) (j : Nat) : w.frozen? ⟨gf, j, none⟩ = false := by
  obtain ⟨cur, hg, _⟩ := h.f
  simp [World.frozen?, hg]
theorem MxAt.fr_r (h : MxAt g gf gr cf cr m word F R w) (j : Nat) : w.frozen? ⟨gr, j, none⟩ = false := by
  obtain ⟨cur, hg, _⟩ := h.r
  simp [World.frozen?, hg]
theorem MxAt.fr_g (h : MxAt g gf gr cf cr m word F R w) (j : Nat) : w.frozen? ⟨g, j, none⟩ = false := by simp [World.frozen?, h.d]
theorem MxAt.lt (h : MxAt g gf gr cf cr m word F R w) : g < w.heap.size ∧ gf < w.heap.size ∧ gr < w.heap.size := by
  obtain ⟨_, hf, _⟩ := h.f
  obtain ⟨_, hr, _⟩ := h.r
  exact ⟨lt_of_some h.d, lt_of_some hf, lt_of_some hr⟩
theorem MxAt.apart (h : MxAt g gf gr cf cr m word F R w) : g ≠ gf ∧ g ≠ gr := by
  obtain ⟨_, hf, _⟩ := h.f
  obtain ⟨_, hr, _⟩ := h.r
  have hd := h.d
  constructor
  · rintro rfl; rw [hd] at hf; injection hf with hf; injection hf with _ h3; exact absurd h3 (by decide)
  · rintro rfl; rw [hd] at hr; injection hr with hr; injection hr with _ h3; exact absurd h3 (by decide)
theorem MxAt.keep (h : MxAt g gf gr cf cr m word F R w) (hb : ∀ k, k < w.heap.size → w'.heap[k]? = w.heap[k]?) : MxAt g gf gr cf cr m word F R w' := by
  obtain ⟨l1, l2, l3⟩ := h.lt
  obtain ⟨c1, f1, f2⟩ := h.f
  obtain ⟨c2, r1, r2⟩ := h.r
  exact ⟨(hb g l1).trans h.d, ⟨c1, (hb gf l2).trans f1, f2⟩, ⟨c2, (hb gr l3).trans r1, r2⟩, h.ne, h.cf, h.cr⟩
theorem MxAt.below (h : MxAt g gf gr cf cr m word F R w) (hb : Below w.heap.size w w') : MxAt g gf gr cf cr m word F R w' := h.keep fun k hk => hb.block k hk
theorem MxAt.drewN (h : MxAt g gf gr cf cr m word F R w) (q : Nat) : MxAt g gf gr cf cr m word F R (w.drewN q) := h.keep fun _ _ => rfl
theorem MxAt.setr (h : MxAt g gf gr cf cr m word F R w) (i : Nat) (v : Int) : MxAt g gf gr cf cr m word F (upd R i v) (w.setCell ⟨gr, i, none⟩ (.int .i64 v)) := by
  obtain ⟨a1, a2⟩ := h.apart
  obtain ⟨c1, f1, f2⟩ := h.f
  obtain ⟨c2, r1, r2⟩ := h.r
  refine ⟨(Below.heap_setCell w ⟨gr, i, none⟩ _ _ a2).trans h.d, ⟨c1, (Below.heap_setCell w ⟨gr, i, none⟩ _ _ h.ne).trans f1, f2⟩, ⟨_, heap_set _ r1, fun j hj => ?_⟩, h.ne, h.cf, h.cr⟩
  have hs := r2 j hj
  have hlt := (Array.getElem?_eq_some_iff.1 hs).1
  unfold upd
  by_cases e : j = i
  · subst e; rw [Array.getElem?_setIfInBounds_self_of_lt hlt, if_pos rfl]
  · rw [Array.getElem?_setIfInBounds_ne (Ne.symm e), if_neg e]; exact hs
def updN (F : Nat → Nat) (i v : Nat) : Nat → Nat := fun j => if j = i then v else F j
theorem MxAt.setf (h : MxAt g gf gr cf cr m word F R w) (i v : Nat) : MxAt g gf gr cf cr m word (updN F i v) R (w.setCell ⟨gf, i, none⟩ (.int .i64 (v : Nat))) := by
  obtain ⟨a1, a2⟩ := h.apart
  obtain ⟨c1, f1, f2⟩ := h.f
  obtain ⟨c2, r1, r2⟩ := h.r
  refine ⟨(Below.heap_setCell w ⟨gf, i, none⟩ _ _ a1).trans h.d, ⟨_, heap_set _ f1, fun j hj => ?_⟩, ⟨c2, (Below.heap_setCell w ⟨gf, i, none⟩ _ _ (Ne.symm h.ne)).trans r1, r2⟩, h.ne, h.cf, h.cr⟩
  have hs := f2 j hj
  have hlt := (Array.getElem?_eq_some_iff.1 hs).1
  unfold updN
  by_cases e : j = i
  · subst e; rw [Array.getElem?_setIfInBounds_self_of_lt hlt, if_pos rfl]
  · rw [Array.getElem?_setIfInBounds_ne (Ne.symm e), if_neg e]; exact hs
set_option maxHeartbeats 1000000 in
set_option maxRecDepth 100000 in
theorem text_mx (h : MxAt g gf gr cf cr m word F R w) (_ : word.size ≤ 4096) (hm : m ≤ 4096) (i : Nat) (hi : i < m) (h1 : F i ≤ F (i + 1)) (h2 : F (i + 1) ≤ word.size) :
    Calls Tryd.prog 43 #[.pointer (some ⟨g, 0, none⟩), .int .i64 i] w fun e w' => e = .returned (.string (word.extract (F i) (F (i + 1)))) ∧ ∃ m, w' = w.drewN m := by
  have c0 := h.c0; have c1 := h.c1
  have d0 := h.cf' (j := i) (by omega)
  have d1 := h.cf' (j := i + 1) (by omega)
  obtain ⟨x, hx⟩ : ∃ x, F i = x := ⟨_, rfl⟩
  obtain ⟨y, hy⟩ : ∃ y, F (i + 1) = y := ⟨_, rfl⟩
  rw [hx] at d0 h1 ⊢; rw [hy] at d1 h1 h2 ⊢
  clear hx hy h
  go_enter Tryd.func43, Tryd.ntmps43
  go_wp2_with fail
  go_quiet (fail)
  go_wp2_with fail
  go_ret
  exact ⟨rfl, _, rfl⟩
set_option maxHeartbeats 1000000 in
set_option maxRecDepth 100000 in
theorem two_mx (h : MxAt g gf gr cf cr m word F R w) (hw : word.size ≤ 4096) (hm : m ≤ 4096) (i : Nat) (hi : i + 1 < m) (h1 : F i ≤ F (i + 1)) (h2 : F (i + 1) ≤ F (i + 2)) (h3 : F (i + 2) ≤ word.size) (p q : ByteArray) (hp : word.extract (F i) (F (i + 1)) = p) (hq : word.extract (F (i + 1)) (F (i + 2)) = q) :
    Calls Tryd.prog 44 #[.pointer (some ⟨g, 0, none⟩), .int .i64 i] w fun e w' => e = .returned (.agg #[.string p, .string q]) ∧ Below w.heap.size w w' := by
  have hi3 : (i : Int) ≤ 4096 := by omega
  have HA : ∀ W, Below w.heap.size w W → Calls Tryd.prog 43 #[.pointer (some ⟨g, 0, none⟩), .int .i64 i] W fun e w' => e = .returned (.string p) ∧ ∃ m, w' = W.drewN m := fun W hb => hp ▸ text_mx (h.below hb) hw hm i (by omega) h1 (by omega)
  have HB : ∀ W, Below w.heap.size w W → Calls Tryd.prog 43 #[.pointer (some ⟨g, 0, none⟩), .int .i64 ((i : Int) + 1)] W fun e w' => e = .returned (.string q) ∧ ∃ m, w' = W.drewN m := fun W hb => hq ▸ text_mx (h.below hb) hw hm (i + 1) (by omega) h2 h3
  have HA := Lib.hid HA; have HB := Lib.hid HB
  clear h hi hp hq h1 h2 h3
  go_enter Tryd.func44, Tryd.ntmps44
  go_wp2_with fail
  have hb0 : Below w.heap.size w (w.alloc (.cells #[.string ⟨#[]⟩, .string ⟨#[]⟩] 31)) := (Below.refl _ _).alloc (Nat.le_refl _) _
  refine (HA.out _ hb0).mono ?_
  rintro e w1 ⟨rfl, m1, rfl⟩
  have hb1 := below_drewN hb0 m1
  go_wp2_with fail
  refine (HB.out _ hb1).mono ?_
  rintro e w2 ⟨rfl, m2, rfl⟩
  go_wp2_with fail
  have hb2 := below_drewN hb1 m2
  refine bodyPost_ret (v := .agg #[.string p, .string q]) (by simp [results, Tryd.results44, go_sem]) rfl ⟨rfl, ?_⟩
  first
    | exact (hb2.setCell (p := ⟨w.heap.size, 0, none⟩) (Nat.le_refl _) _).setCell (p := ⟨w.heap.size, 1, none⟩) (Nat.le_refl _) _
    | (simp only [World.drewN_drewN] at hb2 ⊢; exact (hb2.setCell (p := ⟨w.heap.size, 0, none⟩) (Nat.le_refl _) _).setCell (p := ⟨w.heap.size, 1, none⟩) (Nat.le_refl _) _)
theorem under_mp : Tryd.prog.underlying 31 = some (.struct (Tryd.prog.fieldsOf 31)) := by kernel_rfl
theorem held_mp : Tryd.prog.stoodInHeld 31 = false := by kernel_rfl
theorem run_eq_mp (a b c d : ByteArray) (w : World) : (binOp .eql 31 (.agg #[.string a, .string b]) (.agg #[.string c, .string d])).run Tryd.prog w = .ok (.bool (decide ((a, b) = (c, d)))) w := by
  rw [run_eql_struct, run_equalIn_agg _ _ _ _ _ under_mp held_mp]
  have e1 : (decide ((a, b) = (c, d)) : Bool) = (decide (a = c) && decide (b = d)) := by
    rw [Bool.eq_iff_iff]; simp
  rw [e1]
  simp [Op.eqFields, Program.fieldsOf, Tryd.underlying31, part, go_sem, Tryd.underlying9, ba_beq]
  by_cases h1 : a = c <;> by_cases h2 : b = d <;> simp [h1, h2]
end Go.Proofs.YtdpfpdpaamjefaaDoor
namespace Go.Proofs.YtdpfpdpaamjefaaDoor
open Go.RowKit

structure ApS (a b : ByteArray) (l : List PairB) (P Q : List ByteArray) (i : Nat) (F : Nat → Nat) (R : Nat → Int) : Prop where
  mg : Q ++ mergeL a b (P.drop i) = mergeL a b P
  le : Q.length ≤ i
  il : i ≤ P.length
  cat : catB Q = catB (P.take i)
  f1 : ∀ j, j < Q.length → F j = offB Q j
  f2 : ∀ j, i ≤ j → j ≤ P.length → F j = offB P j
  r1 : ∀ j x y, Q[j]? = some x → Q[j + 1]? = some y → R j = -1 ∨ R j = rkI l (x, y)
  r2 : ∀ x y, 0 < Q.length → Q[Q.length - 1]? = some x → P[i]? = some y → R (Q.length - 1) = -1 ∨ R (Q.length - 1) = rkI l (x, y)
  r3 : ∀ j x y, i ≤ j → P[j]? = some x → P[j + 1]? = some y → R j = -1 ∨ R j = rkI l (x, y)
variable {a b : ByteArray} {l : List PairB} {P Q : List ByteArray} {i : Nat} {F : Nat → Nat} {R : Nat → Int}
theorem ApS.start (a b : ByteArray) (h : RkOk l P R) : ApS a b l P [] 0 (offB P) R :=
  ⟨rfl, Nat.le_refl _, Nat.zero_le _, rfl, fun j hj => absurd hj (Nat.not_lt_zero _), fun _ _ _ => rfl, fun j x y hx => by simp at hx, fun x y h0 => absurd h0 (Nat.not_lt_zero _), fun j x y _ => h j x y⟩
theorem mergeL_no {p : ByteArray} {r : List ByteArray} (h : ∀ q, r.head? = some q → ¬ (p = a ∧ q = b)) : mergeL a b (p :: r) = p :: mergeL a b r := by
  cases r with
  | nil => rfl
  | cons q r =>
    conv => lhs; unfold mergeL
    rw [if_neg (h q rfl)]
theorem ApS.off (h : ApS a b l P Q i F R) : offB Q Q.length = offB P i := by
  unfold offB
  rw [List.take_length, h.cat]
theorem take_cat {p : ByteArray} (hp : P[i]? = some p) : catB (P.take (i + 1)) = catB (P.take i) ++ p.data.toList := by
  rw [List.take_add_one, hp, catB_append]
  simp [catB]
theorem off_snoc (Q : List ByteArray) (p : ByteArray) (j : Nat) (hj : j ≤ Q.length) : offB (Q ++ [p]) j = offB Q j := by
  unfold offB
  rw [List.take_append_of_le_length hj]
theorem get_snoc {Q : List ByteArray} {p x : ByteArray} {j : Nat} (h : (Q ++ [p])[j]? = some x) : j < Q.length ∧ Q[j]? = some x ∨ j = Q.length ∧ x = p := by
  by_cases hj : j < Q.length
  · rw [List.getElem?_append_left hj] at h; exact .inl ⟨hj, h⟩
  · rw [List.getElem?_append_right (by omega)] at h
    have h1 : j - Q.length < 1 := by have := (List.getElem?_eq_some_iff.1 h).1; simpa using this
    have : j - Q.length = 0 := by omega
    rw [this] at h
    exact .inr ⟨by omega, by simpa using h.symm⟩
theorem ApS.no (h : ApS a b l P Q i F R) {p : ByteArray} (hp : P[i]? = some p) (hn : ∀ q, P[i + 1]? = some q → ¬ (p = a ∧ q = b)) :
    ApS a b l P (Q ++ [p]) (i + 1) (updN F Q.length (offB P i)) (upd R Q.length (R i)) := by
  have hil := (List.getElem?_eq_some_iff.1 hp).1
  have hle := h.le
  have hd : P.drop i = p :: P.drop (i + 1) := by rw [List.drop_eq_getElem_cons hil, (List.getElem?_eq_some_iff.1 hp).2]
  have hl1 : (Q ++ [p]).length = Q.length + 1 := by simp
  refine ⟨?_, by omega, by omega, ?_, ?_, ?_, ?_, ?_, ?_⟩
  · rw [← h.mg, hd, mergeL_no (fun q hq => hn q (by rwa [List.head?_drop] at hq)), List.append_assoc]; rfl
  · rw [catB_append, h.cat, take_cat hp]; simp [catB]
  · intro j hj
    rw [hl1] at hj
    unfold updN
    by_cases e : j = Q.length
    · rw [if_pos e, e, off_snoc Q p _ (Nat.le_refl _), h.off]
    · rw [if_neg e, off_snoc Q p _ (by omega)]; exact h.f1 j (by omega)
  · intro j h1 h2
    unfold updN
    rw [if_neg (by omega)]; exact h.f2 j (by omega) h2
  · intro j x y hx hy
    unfold upd
    rcases get_snoc hx with ⟨g1, g2⟩ | ⟨g1, _⟩
    · rw [if_neg (by omega)]
      rcases get_snoc hy with ⟨g3, g4⟩ | ⟨g3, g4⟩
      · exact h.r1 j x y g2 g4
      · subst g4
        have ej : j = Q.length - 1 := by omega
        subst ej
        exact h.r2 x y (by omega) g2 hp
    · have := (List.getElem?_eq_some_iff.1 hy).1
      rw [hl1] at this; omega
  · intro x y _ hx hy
    have e1 : (Q ++ [p]).length - 1 = Q.length := by omega
    rw [e1] at hx ⊢
    unfold upd
    rw [if_pos rfl]
    rw [List.getElem?_append_right (Nat.le_refl _), Nat.sub_self] at hx
    have : x = p := by simpa using hx.symm
    subst this
    exact h.r3 i x y (Nat.le_refl _) hp hy
  · intro j x y hj hx hy
    unfold upd
    rw [if_neg (by omega)]
    exact h.r3 j x y (by omega) hx hy
theorem ApS.yes (h : ApS a b l P Q i F R) (hp : P[i]? = some a) (hq : P[i + 1]? = some b) :
    ApS a b l P (Q ++ [a ++ b]) (i + 2) (updN F Q.length (offB P i)) (upd (upd (upd R (i + 1) (-1)) (Q.length - 1) (-1)) Q.length (-1)) := by
  have hil := (List.getElem?_eq_some_iff.1 hq).1
  have hle := h.le
  have hd : P.drop i = a :: b :: P.drop (i + 2) := by
    rw [List.drop_eq_getElem_cons (by omega), (List.getElem?_eq_some_iff.1 hp).2, List.drop_eq_getElem_cons hil, (List.getElem?_eq_some_iff.1 hq).2]
  have hl1 : (Q ++ [a ++ b]).length = Q.length + 1 := by simp
  have hneg : ∀ j, (j = i + 1 ∨ j = Q.length - 1 ∨ j = Q.length) → upd (upd (upd R (i + 1) (-1)) (Q.length - 1) (-1)) Q.length (-1) j = -1 := by
    intro j hj
    unfold upd
    by_cases e1 : j = Q.length
    · rw [if_pos e1]
    · rw [if_neg e1]
      by_cases e2 : j = Q.length - 1
      · rw [if_pos e2]
      · rw [if_neg e2, if_pos (by omega)]
  have hsame : ∀ j, j ≠ i + 1 → j ≠ Q.length - 1 → j ≠ Q.length → upd (upd (upd R (i + 1) (-1)) (Q.length - 1) (-1)) Q.length (-1) j = R j := by
    intro j h1 h2 h3
    unfold upd
    rw [if_neg h3, if_neg h2, if_neg h1]
  refine ⟨?_, by omega, by omega, ?_, ?_, ?_, ?_, ?_, ?_⟩
  · rw [← h.mg, hd]
    have : mergeL a b (a :: b :: P.drop (i + 2)) = (a ++ b) :: mergeL a b (P.drop (i + 2)) := by
      conv => lhs; unfold mergeL
      rw [if_pos ⟨rfl, rfl⟩]
    rw [this, List.append_assoc]; rfl
  · rw [catB_append, h.cat, show i + 2 = (i + 1) + 1 from rfl, take_cat hq, take_cat hp]; simp [catB]
  · intro j hj
    rw [hl1] at hj
    unfold updN
    by_cases e : j = Q.length
    · rw [if_pos e, e, off_snoc Q _ _ (Nat.le_refl _), h.off]
    · rw [if_neg e, off_snoc Q _ _ (by omega)]; exact h.f1 j (by omega)
  · intro j h1 h2
    unfold updN
    rw [if_neg (by omega)]; exact h.f2 j (by omega) h2
  · intro j x y hx hy
    rcases get_snoc hx with ⟨g1, g2⟩ | ⟨g1, _⟩
    · rcases get_snoc hy with ⟨g3, g4⟩ | ⟨g3, g4⟩
      · rw [hsame j (by omega) (by omega) (by omega)]
        exact h.r1 j x y g2 g4
      · exact .inl (hneg j (by omega))
    · have := (List.getElem?_eq_some_iff.1 hy).1
      rw [hl1] at this; omega
  · intro x y _ hx hy
    exact .inl (hneg _ (by omega))
  · intro j x y hj hx hy
    rw [hsame j (by omega) (by omega) (by omega)]
    exact h.r3 j x y (by omega) hx hy
theorem ApS.done (h : ApS a b l P Q P.length F R) : mergeL a b P = Q ∧ RkOk l Q R ∧ ∀ j, j ≤ Q.length → updN F Q.length (catB P).length j = offB Q j := by
  have h1 : mergeL a b P = Q := by rw [← h.mg, List.drop_length]; unfold mergeL; simp
  refine ⟨h1, fun k x y hx hy => h.r1 k x y hx hy, fun j hj => ?_⟩
  unfold updN
  by_cases e : j = Q.length
  · rw [if_pos e, e, h.off, offB_all (Nat.le_refl _)]
  · rw [if_neg e]; exact h.f1 j (by omega)
end Go.Proofs.YtdpfpdpaamjefaaDoor
