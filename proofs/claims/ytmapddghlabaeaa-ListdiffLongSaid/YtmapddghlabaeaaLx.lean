/- Lists' edits: the law on long lists. -/
import Derived.Test.YtmapddghlabaeaaLt
set_option linter.unusedVariables false
set_option linter.unusedSimpArgs false
namespace Go.Proofs.Ytmapddghlabaeaa
open Go.RowKit
variable {w w' : World}

theorem tag_get' {op k : Nat} {a : List ByteArray} (h : k < a.length) : ((tagL op a).map edZ)[k]? = some ((op : Int), itB a k) := by
  unfold tagL; rw [List.map_map, List.getElem?_map, it_get h]; rfl
theorem tag_len' (op : Nat) (a : List ByteArray) : (tagL op a).length = a.length := by unfold tagL; rw [List.length_map]
theorem and_15 (x : Int) : bits .and .i64 x 15 = x % 16 := by
  have h1 : (BitVec.ofInt 64 15).toNat = 2 ^ 4 - 1 := by decide
  have key : (BitVec.ofInt 64 x &&& BitVec.ofInt 64 15).toNat = (x % ((2 ^ 64 : Nat) : Int)).toNat % 2 ^ 4 := by
    rw [BitVec.toNat_and, BitVec.toNat_ofInt, h1, Nat.and_two_pow_sub_one_eq_mod]
  show IntKind.i64.wrap ((BitVec.ofInt 64 x &&& BitVec.ofInt 64 15).toNat : Nat) = _
  rw [key, IntKind.wrap_i64]
  omega
theorem run_mks (n : Nat) (hn : n ≤ 100000) (w : World) : (Instr.makeSlice 22 (.int .i64 n) (.int .i64 n)).run Try.prog w = .ok (.slice (some ⟨w.heap.size, 0, none⟩) n n) (w.alloc (.cells (madeCells #[.string ⟨#[]⟩] n) 9)) := by
  obtain ⟨i0, hi, hz0, hz1, hz2⟩ := info_parts info_s
  have := run_make (P := Try.prog) w 22 9 i0 (.string ⟨#[]⟩) Try.underlying22 hi hz0 .i64 .i64 n n (by omega) (by omega) (by rw [hz2]; show (16 : Int) * _ ≤ _; omega) (by omega)
  rw [hz1] at this
  simp only [Int.toNat_natCast, Nat.mul_one] at this
  exact this
theorem tx_made (c : Nat) (W : World) : TxAt (W.alloc (.cells (madeCells #[.string ⟨#[]⟩] c) 9)) (some ⟨W.heap.size, 0, none⟩) (List.replicate c ⟨#[]⟩) := fun k hk => by
  rw [List.length_replicate] at hk
  have e : itB (List.replicate c (⟨#[]⟩ : ByteArray)) k = ⟨#[]⟩ := by unfold itB; rw [List.getD_eq_getElem?_getD, List.getElem?_replicate, if_pos hk]; rfl
  rw [e]
  exact ⟨by show 0 ≤ _; omega, _, 0, rfl, by rw [Nat.zero_add]; exact made_cell hk⟩
theorem tx_one (W : World) (x : ByteArray) (hx : x.size ≤ maxLen) : TxAt (W.alloc (.cells #[.string x] 9)) (some ⟨W.heap.size, 0, none⟩) [x] := fun k hk => by
  have hg : (W.alloc (.cells #[.string x] 9)).heap[W.heap.size]? = some (.cells #[.string x] 9 (0, 0)) := World.alloc_heap_new W _
  match k, hk with
  | 0, _ => exact ⟨hx, _, 0, rfl, by rw [cell_of_row hg]; rfl⟩
theorem long_apart {l : List ByteArray} (hl : ∀ i, i < l.length → itB l i = ⟨#[]⟩) : (diffL l [⟨#[120]⟩]).length = l.length + 1 ∧ (diffL [⟨#[120]⟩] l).length = l.length + 1 := by
  have h1 : ∀ i j, i < l.length → j < [(⟨#[120]⟩ : ByteArray)].length → eqB l [⟨#[120]⟩] i j = false := fun i j hi hj => by
    have : j = 0 := by simp at hj; omega
    subst this
    unfold eqB; rw [hl i hi]; decide
  have h2 : ∀ i j, i < [(⟨#[120]⟩ : ByteArray)].length → j < l.length → eqB [⟨#[120]⟩] l i j = false := fun i j hi hj => by
    have : i = 0 := by simp at hi; omega
    subst this
    unfold eqB; rw [hl j hj]; decide
  unfold diffL
  rw [List.length_map, List.length_map, edI_apart _ _ h1 _ 0 0 (Nat.zero_le _) (Nat.zero_le _) (Nat.le_refl _), edI_apart _ _ h2 _ 0 0 (Nat.zero_le _) (Nat.zero_le _) (Nat.le_refl _)]
  simp; omega
set_option maxHeartbeats 8000000 in
set_option maxRecDepth 100000 in
theorem LLong_any (x : Int) (_ : (Lit.int .i64 x).wf = true) (turn : Bool) (w : World) :
    Calls Try.prog 6 #[.int .i64 x, .bool turn] w fun e w' => e = .returned (.bool true) ∧ Below w.heap.size w w' := by
  have HS := Lib.hid (speaks_any w)
  have hand := and_15 x
  obtain ⟨r, hr⟩ : ∃ r, x % 16 = r := ⟨_, rfl⟩
  rw [hr] at hand
  have hr0 : 0 ≤ r := by omega
  have hr7 : r ≤ 15 := by omega
  obtain ⟨c, hc⟩ : ∃ c : Nat, 4090 + r = (c : Int) := ⟨(4090 + r).toNat, by omega⟩
  have hc1 : 4090 ≤ c := by omega
  have hc2 : c ≤ 4105 := by omega
  have hmk := fun W => run_mks c (by omega) W
  obtain ⟨l, hl⟩ : ∃ l, List.replicate c (⟨#[]⟩ : ByteArray) = l := ⟨_, rfl⟩
  have hll : l.length = c := by rw [← hl, List.length_replicate]
  have hli : ∀ i, i < l.length → itB l i = ⟨#[]⟩ := fun i hi => by rw [hll] at hi; rw [← hl]; unfold itB; rw [List.getD_eq_getElem?_getD, List.getElem?_replicate, if_pos hi]; rfl
  have HAP := Lib.hid (long_apart hli)
  have HTM := Lib.hid (fun W => tx_made c W)
  rw [hl] at HTM
  have HLL := Lib.hid hll
  have hci : (c : Int) ≤ 4105 := by omega
  have hc0 : (4090 : Int) ≤ c := by omega
  clear hr hl hll hli
  go_enter Try.func6, Try.ntmps6
  go_wp2_with (go_at_call 8; refine HS.out.mono ?_)
  rintro e w1 ⟨rfl, hb1⟩
  have hB2 : Below w1.heap.size w1 ((w1.alloc (.cells (madeCells #[.string ⟨#[]⟩] c) 9)).alloc (.cells #[.string ⟨#[120]⟩] 9)) := ((Below.refl _ w1).alloc (Nat.le_refl _) _).alloc (by simp) _
  have HB2 := Lib.hid (hb1.trans (hB2.mono hb1.size))
  have hs1 : (w1.alloc (.cells (madeCells #[.string ⟨#[]⟩] c) 9)).heap.size = w1.heap.size + 1 := by simp
  have tl : TxAt ((w1.alloc (.cells (madeCells #[.string ⟨#[]⟩] c) 9)).alloc (.cells #[.string ⟨#[120]⟩] 9)) (some ⟨w1.heap.size, 0, none⟩) l := (HTM.out w1).below ((Below.refl _ _).alloc (Nat.le_refl _) _)
  have to : TxAt ((w1.alloc (.cells (madeCells #[.string ⟨#[]⟩] c) 9)).alloc (.cells #[.string ⟨#[120]⟩] 9)) (some ⟨w1.heap.size + 1, 0, none⟩) [⟨#[120]⟩] := by
    have h := tx_one (w1.alloc (.cells (madeCells #[.string ⟨#[]⟩] c) 9)) ⟨#[120]⟩ (by decide)
    rw [hs1] at h
    exact h
  have TL := Lib.hid tl; have TO := Lib.hid to
  clear hb1 hB2 hs1 tl to HS HTM
  obtain ⟨ol, hol⟩ : ∃ o, o = (some ⟨w1.heap.size, 0, none⟩ : Option Addr) := ⟨_, rfl⟩
  obtain ⟨oo, hoo⟩ : ∃ o, o = (some ⟨w1.heap.size + 1, 0, none⟩ : Option Addr) := ⟨_, rfl⟩
  rw [← hol] at TL
  rw [← hoo] at TO
  have HOL := Lib.hid hol; have HOO := Lib.hid hoo
  clear hol hoo
  by_cases hbig : 4096 < c
  · have hbi : (4096 : Int) < c := by omega
    cases turn
    · go_wp2_with fail
      rw [← HOL.out, ← HOO.out]
      generalize ((w1.alloc (.cells (madeCells #[.string ⟨#[]⟩] c) 9)).alloc (.cells #[.string ⟨#[120]⟩] 9)) = W at HB2 TL TO ⊢
      have H3 := Lib.hid (Diff_long ol oo c 1 c 1 W (by unfold maxLen; omega) (by unfold maxLen; omega) (by omega))
      go_wp2_with (go_at_call 10; refine H3.out.mono ?_)
      rintro e w3 ⟨rfl, hb3⟩
      have HB3 := Lib.hid (HB2.out.trans (hb3.mono HB2.out.size))
      clear hb3 H3
      have H4 := Lib.hid (Match_long ol oo c 1 c 1 w3 (by unfold maxLen; omega) (by unfold maxLen; omega) (by omega))
      go_wp2_with (go_at_call 12; refine H4.out.mono ?_)
      rintro e w4 ⟨rfl, hb4⟩
      have HB4 := Lib.hid (HB3.out.trans (hb4.mono HB3.out.size))
      clear hb4 H4
      go_wp2_with fail
      go_ret
      exact ⟨rfl, HB4.out⟩
    · go_wp2_with fail
      rw [← HOL.out, ← HOO.out]
      generalize ((w1.alloc (.cells (madeCells #[.string ⟨#[]⟩] c) 9)).alloc (.cells #[.string ⟨#[120]⟩] 9)) = W at HB2 TL TO ⊢
      have H3 := Lib.hid (Diff_long oo ol 1 c 1 c W (by unfold maxLen; omega) (by unfold maxLen; omega) (by omega))
      go_wp2_with (go_at_call 10; refine H3.out.mono ?_)
      rintro e w3 ⟨rfl, hb3⟩
      have HB3 := Lib.hid (HB2.out.trans (hb3.mono HB2.out.size))
      clear hb3 H3
      have H4 := Lib.hid (Match_long oo ol 1 c 1 c w3 (by unfold maxLen; omega) (by unfold maxLen; omega) (by omega))
      go_wp2_with (go_at_call 12; refine H4.out.mono ?_)
      rintro e w4 ⟨rfl, hb4⟩
      have HB4 := Lib.hid (HB3.out.trans (hb4.mono HB3.out.size))
      clear hb4 H4
      go_wp2_with fail
      go_ret
      exact ⟨rfl, HB4.out⟩
  · have hbi : ¬ (4096 : Int) < c := by omega
    cases turn
    · go_wp2_with fail
      rw [← HOL.out, ← HOO.out]
      generalize ((w1.alloc (.cells (madeCells #[.string ⟨#[]⟩] c) 9)).alloc (.cells #[.string ⟨#[120]⟩] 9)) = W at HB2 TL TO ⊢
      have H3 := Lib.hid (Diff_at ol oo l [⟨#[120]⟩] c 1 W (by rw [HLL.out]; omega) (by simp) TL.out TO.out)
      rw [HAP.out.1, HLL.out] at H3
      go_wp2_with (go_at_call 10; refine H3.out.mono ?_)
      rintro e w3 ⟨o3, c3, rfl, _, hb3⟩
      have HB3 := Lib.hid (HB2.out.trans (hb3.mono HB2.out.size)); have TL3 := Lib.hid (TL.out.below hb3); have TO3 := Lib.hid (TO.out.below hb3)
      clear hb3 H3
      have H4 := Lib.hid (Match_at ol oo l [⟨#[120]⟩] c 1 w3 (by rw [HLL.out]; omega) (by simp) TL3.out TO3.out)
      rw [match_len l [⟨#[120]⟩], HLL.out] at H4
      go_wp2_with (go_at_call 12; refine H4.out.mono ?_)
      rintro e w4 ⟨o4, c4, rfl, _, hb4⟩
      have HB4 := Lib.hid (HB3.out.trans (hb4.mono HB3.out.size)); have TL4 := Lib.hid (TL3.out.below hb4)
      clear hb4 H4
      have H5 := Lib.hid (Diff_at ol ol l l c c w4 (by rw [HLL.out]; omega) (by rw [HLL.out]; omega) TL4.out TL4.out)
      rw [diff_self, tag_len', HLL.out] at H5
      go_wp2_with (go_at_call 10; refine H5.out.mono ?_)
      rintro e w5 ⟨o5, c5, rfl, e5, hb5⟩
      have HB5 := Lib.hid (HB4.out.trans (hb5.mono HB4.out.size))
      obtain ⟨b0, i0, ho5, d0, _⟩ := e5 0 _ (tag_get' (op := 0) (a := l) (k := 0) (by rw [HLL.out]; omega))
      subst ho5
      have d0' : w5.cell? ⟨b0, i0, none⟩ = some (.int .i64 0) := d0
      clear hb5 H5 e5 d0
      go_wp2_with fail
      go_ret
      exact ⟨rfl, HB5.out⟩
    · go_wp2_with fail
      rw [← HOL.out, ← HOO.out]
      generalize ((w1.alloc (.cells (madeCells #[.string ⟨#[]⟩] c) 9)).alloc (.cells #[.string ⟨#[120]⟩] 9)) = W at HB2 TL TO ⊢
      have H3 := Lib.hid (Diff_at oo ol [⟨#[120]⟩] l 1 c W (by simp) (by rw [HLL.out]; omega) TO.out TL.out)
      rw [HAP.out.2, HLL.out] at H3
      go_wp2_with (go_at_call 10; refine H3.out.mono ?_)
      rintro e w3 ⟨o3, c3, rfl, _, hb3⟩
      have HB3 := Lib.hid (HB2.out.trans (hb3.mono HB2.out.size)); have TL3 := Lib.hid (TL.out.below hb3); have TO3 := Lib.hid (TO.out.below hb3)
      clear hb3 H3
      have H4 := Lib.hid (Match_at oo ol [⟨#[120]⟩] l 1 c w3 (by simp) (by rw [HLL.out]; omega) TO3.out TL3.out)
      rw [match_len [⟨#[120]⟩] l] at H4
      have H4 := Lib.hid (show Calls Try.prog 12 #[.slice oo 1 1, .slice ol l.length c] w3 (fun e w' => ∃ o c, e = .returned (.tuple #[.slice o 1 c, .int .i64 0]) ∧ NmAt w' o (matchL [⟨#[120]⟩] l) ∧ Below w3.heap.size w3 w') from H4.out)
      rw [HLL.out] at H4
      go_wp2_with (go_at_call 12; refine H4.out.mono ?_)
      rintro e w4 ⟨o4, c4, rfl, _, hb4⟩
      have HB4 := Lib.hid (HB3.out.trans (hb4.mono HB3.out.size)); have TL4 := Lib.hid (TL3.out.below hb4)
      clear hb4 H4
      have H5 := Lib.hid (Diff_at ol ol l l c c w4 (by rw [HLL.out]; omega) (by rw [HLL.out]; omega) TL4.out TL4.out)
      rw [diff_self, tag_len', HLL.out] at H5
      go_wp2_with (go_at_call 10; refine H5.out.mono ?_)
      rintro e w5 ⟨o5, c5, rfl, e5, hb5⟩
      have HB5 := Lib.hid (HB4.out.trans (hb5.mono HB4.out.size))
      obtain ⟨b0, i0, ho5, d0, _⟩ := e5 0 _ (tag_get' (op := 0) (a := l) (k := 0) (by rw [HLL.out]; omega))
      subst ho5
      have d0' : w5.cell? ⟨b0, i0, none⟩ = some (.int .i64 0) := d0
      clear hb5 H5 e5 d0
      go_wp2_with fail
      go_ret
      exact ⟨rfl, HB5.out⟩
end Go.Proofs.Ytmapddghlabaeaa
