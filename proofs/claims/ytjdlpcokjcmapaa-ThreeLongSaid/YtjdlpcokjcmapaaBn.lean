/- Three lists: lists that are too long. -/
import Derived.Test.YtjdlpcokjcmapaaBm
set_option linter.unusedVariables false
set_option linter.unusedSimpArgs false
namespace Go.Proofs.Ytjdlpcokjcmapaa
open Go.RowKit Go.Maps Go.WideShapes
variable {w w' : World}

set_option maxHeartbeats 2000000 in
set_option maxRecDepth 100000 in
theorem Lists_long (oB oO oT : Option Addr) (B O T : List ByteArray) (cB cO cT : Nat) (w : World) (hlB : B.length ≤ 1000000) (hlO : O.length ≤ 1000000) (hlT : T.length ≤ 1000000) (hB : TxAt w oB B) (hO : TxAt w oO O) (hT : TxAt w oT T) (h : 4096 < B.length ∨ 4096 < O.length ∨ 4096 < T.length) :
    Calls Try.prog 10 #[.slice oB B.length cB, .slice oO O.length cO, .slice oT T.length cT] w fun e w' => e = .returned (.tuple #[.slice none 0 0, .slice none 0 0, .int .i64 6]) ∧ Below w.heap.size w w' := by
  have h1 := anyL3 w cB cO cT hlB hlO hlT hB hO hT
  rw [decide_eq_true h] at h1
  obtain ⟨nB, hnB⟩ : ∃ n, B.length = n := ⟨_, rfl⟩
  obtain ⟨nO, hnO⟩ : ∃ n, O.length = n := ⟨_, rfl⟩
  obtain ⟨nT, hnT⟩ : ∃ n, T.length = n := ⟨_, rfl⟩
  rw [hnB, hnO, hnT] at h1 ⊢
  have H1 := Lib.hid h1
  clear h1 h hnB hnO hnT hlB hlO hlT hB hO hT
  go_enter Try.func10, Try.ntmps10
  go_wp2_with (go_at_call 17; (with_reducible refine H1.out.mono ?_); rintro e w2 ⟨rfl, hb⟩; have HB2 := Lib.hid hb; clear hb H1)
  refine bodyPost_ret (v := .tuple #[.slice none 0 0, .slice none 0 0, .int .i64 6]) (by simp [results, Try.results10, go_sem]) rfl ⟨rfl, HB2.out⟩
set_option maxHeartbeats 2000000 in
set_option maxRecDepth 100000 in
theorem Lines_long (oB oO oT : Option Addr) (B O T : List ByteArray) (cB cO cT : Nat) (w : World) (hlB : B.length ≤ 1000000) (hlO : O.length ≤ 1000000) (hlT : T.length ≤ 1000000) (hB : TxAt w oB B) (hO : TxAt w oO O) (hT : TxAt w oT T) (h : 4096 < B.length ∨ 4096 < O.length ∨ 4096 < T.length) :
    Calls Try.prog 13 #[.slice oB B.length cB, .slice oO O.length cO, .slice oT T.length cT] w fun e w' => e = .returned (.tuple #[.slice none 0 0, .slice none 0 0, .int .i64 6]) ∧ Below w.heap.size w w' := by
  by_cases h1 : 4096 < B.length ∨ 4096 < O.length
  · have H1 := Lib.hid (Match_long oB oO B.length O.length cB cO w (by unfold maxLen; omega) (by unfold maxLen; omega) h1)
    obtain ⟨nB, hnB⟩ : ∃ n, B.length = n := ⟨_, rfl⟩
    obtain ⟨nO, hnO⟩ : ∃ n, O.length = n := ⟨_, rfl⟩
    obtain ⟨nT, hnT⟩ : ∃ n, T.length = n := ⟨_, rfl⟩
    rw [hnB, hnO] at H1
    rw [hnB, hnO, hnT]
    clear h1 h hnB hnO hnT hlB hlO hlT hB hO hT
    go_enter Try.func13, Try.ntmps13
    go_wp2_with (go_at_call 26; (with_reducible refine H1.out.mono ?_); rintro e w2 ⟨rfl, hb⟩; have HB2 := Lib.hid hb; clear hb H1)
    refine bodyPost_ret (v := .tuple #[.slice none 0 0, .slice none 0 0, .int .i64 6]) (by simp [results, Try.results13, go_sem]) rfl ⟨rfl, HB2.out⟩
  · have H1 := Lib.hid (Match_at oB oO B O cB cO w (by omega) (by omega) hB hO)
    have H2 := Lib.hid (fun W => Match_long oB oT B.length T.length cB cT W (by unfold maxLen; omega) (by unfold maxLen; omega) (by omega))
    obtain ⟨nM, hnM⟩ : ∃ n, (matchL B O).length = n := ⟨_, rfl⟩
    obtain ⟨nB, hnB⟩ : ∃ n, B.length = n := ⟨_, rfl⟩
    obtain ⟨nO, hnO⟩ : ∃ n, O.length = n := ⟨_, rfl⟩
    obtain ⟨nT, hnT⟩ : ∃ n, T.length = n := ⟨_, rfl⟩
    rw [hnB, hnO, hnM] at H1
    rw [hnB, hnT] at H2
    rw [hnB, hnO, hnT]
    have FIRST : Hid (1 = 1) := Lib.hid rfl
    clear h1 h hnB hnO hnT hnM hlB hlO hlT hB hO hT
    go_enter Try.func13, Try.ntmps13
    go_wp2_with (first
      | (clear FIRST; go_at_call 26; (with_reducible refine H1.out.mono ?_); rintro e w2 ⟨op, cp, rfl, _, hb⟩; have HB2 := Lib.hid hb; clear hb H1)
      | (go_at_call 26; (with_reducible refine (H2.out _).mono ?_); rintro e w3 ⟨rfl, hb⟩; have HB3 := Lib.hid (HB2.out.trans (hb.mono HB2.out.size)); clear hb H2))
    refine bodyPost_ret (v := .tuple #[.slice none 0 0, .slice none 0 0, .int .i64 6]) (by simp [results, Try.results13, go_sem]) rfl ⟨rfl, HB3.out⟩
theorem and_3 (x : Int) : bits .and .i64 x 3 = x % 4 := by
  have h1 : (BitVec.ofInt 64 3).toNat = 2 ^ 2 - 1 := by decide
  have key : (BitVec.ofInt 64 x &&& BitVec.ofInt 64 3).toNat = (x % ((2 ^ 64 : Nat) : Int)).toNat % 2 ^ 2 := by
    rw [BitVec.toNat_and, BitVec.toNat_ofInt, h1, Nat.and_two_pow_sub_one_eq_mod]
  show IntKind.i64.wrap ((BitVec.ofInt 64 x &&& BitVec.ofInt 64 3).toNat : Nat) = _
  rw [key, IntKind.wrap_i64]
  omega
theorem run_mks (n : Nat) (hn : n ≤ 100000) (w : World) : (Instr.makeSlice 22 (.int .i64 n) (.int .i64 n)).run Try.prog w = .ok (.slice (some ⟨w.heap.size, 0, none⟩) n n) (w.alloc (.cells (madeCells #[.string ⟨#[]⟩] n) 9)) := by
  obtain ⟨i0, hi, hz0, hz1, hz2⟩ := info_parts info_s
  have := run_make (P := Try.prog) w 22 9 i0 (.string ⟨#[]⟩) Try.underlying22 hi hz0 .i64 .i64 n n (by omega) (by omega) (by rw [hz2]; show (16 : Int) * _ ≤ _; omega) (by omega)
  rw [hz1] at this
  simp only [Int.toNat_natCast, Nat.mul_one] at this
  exact this
theorem tx_made (c : Nat) (W : World) : TxAt (W.alloc (.cells (madeCells #[.string ⟨#[]⟩] c) 9)) (some ⟨W.heap.size, 0, none⟩) (List.replicate c ⟨#[]⟩) := fun k hk => by
  rw [List.length_replicate] at hk
  have e : itB (List.replicate c (⟨#[]⟩ : ByteArray)) k = ⟨#[]⟩ := by unfold itB; rw [List.getD_eq_getElem?_getD, List.getElem?_replicate, if_pos hk]; rfl
  rw [e]
  exact ⟨by show 0 ≤ _; omega, _, 0, rfl, by rw [Nat.zero_add]; exact made_cell hk⟩
/-- Both answers for three lists: too long, or one item twice. -/
def lgE (c : Nat) : Int × Int := if 4096 < c then (6, 6) else (0, 10)
theorem long_lists (oB oO oT : Option Addr) (B O T : List ByteArray) (cB cO cT c : Nat) (w : World) (hlB : B.length ≤ 10000) (hlO : O.length ≤ 10000) (hlT : T.length ≤ 10000) (hB : TxAt w oB B) (hO : TxAt w oO O) (hT : TxAt w oT T) (hc : 4096 < c ↔ (4096 < B.length ∨ 4096 < O.length ∨ 4096 < T.length)) (hd : ¬ (B.Nodup ∧ O.Nodup ∧ T.Nodup)) :
    Calls Try.prog 10 #[.slice oB B.length cB, .slice oO O.length cO, .slice oT T.length cT] w fun e w' => ∃ v1 v2, e = .returned (.tuple #[v1, v2, .int .i64 (lgE c).2]) ∧ Below w.heap.size w w' := by
  by_cases h : 4096 < c
  · refine (Lists_long oB oO oT B O T cB cO cT w (by omega) (by omega) (by omega) hB hO hT (hc.1 h)).mono ?_
    rintro e w' ⟨rfl, hb⟩
    exact ⟨_, _, by unfold lgE; rw [if_pos h], hb⟩
  · have h2 : ¬ (4096 < B.length ∨ 4096 < O.length ∨ 4096 < T.length) := fun x => h (hc.2 x)
    refine (Lists_any oB oO oT B O T cB cO cT w (by omega) (by omega) (by omega) hB hO hT).mono ?_
    rintro e w' ⟨v1, v2, rfl, _, _, hb⟩
    exact ⟨v1, v2, by unfold lgE listsL; rw [if_neg h, if_pos hd], hb⟩
theorem long_lines (oB oO oT : Option Addr) (B O T : List ByteArray) (cB cO cT c : Nat) (w : World) (hlB : B.length ≤ 10000) (hlO : O.length ≤ 10000) (hlT : T.length ≤ 10000) (hcB : B.length ≤ cB) (hcO : O.length ≤ cO) (hcT : T.length ≤ cT) (hB : TxAt w oB B) (hO : TxAt w oO O) (hT : TxAt w oT T) (hc : 4096 < c ↔ (4096 < B.length ∨ 4096 < O.length ∨ 4096 < T.length)) :
    Calls Try.prog 13 #[.slice oB B.length cB, .slice oO O.length cO, .slice oT T.length cT] w fun e w' => ∃ v1 v2, e = .returned (.tuple #[v1, v2, .int .i64 (lgE c).1]) ∧ Below w.heap.size w w' := by
  by_cases h : 4096 < c
  · refine (Lines_long oB oO oT B O T cB cO cT w (by omega) (by omega) (by omega) hB hO hT (hc.1 h)).mono ?_
    rintro e w' ⟨rfl, hb⟩
    exact ⟨_, _, by unfold lgE; rw [if_pos h], hb⟩
  · have h2 : ¬ (4096 < B.length ∨ 4096 < O.length ∨ 4096 < T.length) := fun x => h (hc.2 x)
    refine (Lines_any oB oO oT B O T cB cO cT w (by omega) (by omega) (by omega) hcB hcO hcT hB hO hT).mono ?_
    rintro e w' ⟨v1, a, d, rfl, _, hb⟩
    exact ⟨v1, _, by unfold lgE; rw [if_neg h], hb⟩
theorem rep_twice {c : Nat} (h : 2 ≤ c) : ¬ (List.replicate c (⟨#[]⟩ : ByteArray)).Nodup := by
  obtain ⟨k, rfl⟩ : ∃ k, c = k + 2 := ⟨c - 2, by omega⟩
  rw [List.replicate_succ, List.replicate_succ]
  intro hn
  exact (List.nodup_cons.1 hn).1 (by simp)
set_option maxHeartbeats 8000000 in
set_option maxRecDepth 100000 in
theorem LLong_any (x : Int) (_ : (Lit.int .i64 x).wf = true) (y : Int) (_ : (Lit.int .i64 y).wf = true) (w : World) :
    Calls Try.prog 6 #[.int .i64 x, .int .i64 y] w fun e w' => e = .returned (.bool true) ∧ Below w.heap.size w w' := by
  have HS := Lib.hid (speaks_any w)
  have hand := and_3 x
  obtain ⟨r, hr⟩ : ∃ r, x % 4 = r := ⟨_, rfl⟩
  rw [hr] at hand
  have hr0 : 0 ≤ r := by omega
  have hr3 : r ≤ 3 := by omega
  obtain ⟨c, hc⟩ : ∃ c : Nat, 4094 + r = (c : Int) := ⟨(4094 + r).toNat, by omega⟩
  have hc1 : 4094 ≤ c := by omega
  have hc2 : c ≤ 4097 := by omega
  have hmk := fun W => run_mks c (by omega) W
  obtain ⟨p, hp⟩ : ∃ p, Int.tmod y 3 = p := ⟨_, rfl⟩
  have hp1 : -3 < p := by rw [← hp]; exact Int.lt_tmod_of_pos y (by decide)
  have hp2 : p < 3 := by rw [← hp]; exact Int.tmod_lt_of_pos y (by decide)
  have hw1 : IntKind.i64.wrap p = p := by rw [IntWalk.i64_in _ (by omega)]
  have hw2 : IntKind.i64.wrap (p + 3) = p + 3 := by rw [IntWalk.i64_in _ (by omega)]
  obtain ⟨k, hk3, hk⟩ : ∃ k : Nat, k < 3 ∧ Int.tmod (p + 3) 3 = (k : Int) := by
    rw [Int.tmod_eq_emod_of_nonneg (by omega)]
    exact ⟨((p + 3) % 3).toNat, by omega, by omega⟩
  clear hr
  go_enter Try.func6, Try.ntmps6
  go_wp2_with (go_at_call 8; refine HS.out.mono ?_)
  rintro e w1 ⟨rfl, hb1⟩
  go_upto_region 5 with fail
  have hki : (k : Int) < 3 := by omega
  have hk0 : (0 : Int) ≤ k := by omega
  go_upto_region 6 with fail
  have hs1 : (w1.alloc (.cells ([Value.slice none 0 0, .slice none 0 0, .slice none 0 0].set k (.slice (some ⟨w1.heap.size + 1, 0, none⟩) c c)).toArray 22)).heap.size = w1.heap.size + 1 := by simp
  have hg1 := World.alloc_heap_new w1 (.cells ([Value.slice none 0 0, .slice none 0 0, .slice none 0 0].set k (.slice (some ⟨w1.heap.size + 1, 0, none⟩) c c)).toArray 22)
  have hbw1 : Below w1.heap.size w1 (w1.alloc (.cells ([Value.slice none 0 0, .slice none 0 0, .slice none 0 0].set k (.slice (some ⟨w1.heap.size + 1, 0, none⟩) c c)).toArray 22)) := (Below.refl _ w1).alloc (Nat.le_refl _) _
  generalize w1.alloc (.cells ([Value.slice none 0 0, .slice none 0 0, .slice none 0 0].set k (.slice (some ⟨w1.heap.size + 1, 0, none⟩) c c)).toArray 22) = w2 at hs1 hg1 hbw1 ⊢
  have ht6 := tx_made c w2
  rw [hs1] at ht6
  have hbw2 : Below w2.heap.size w2 (w2.alloc (.cells (madeCells #[.string ⟨#[]⟩] c) 9)) := (Below.refl _ w2).alloc (Nat.le_refl _) _
  have hg6 := (hbw2.block w1.heap.size (by omega)).trans hg1
  generalize w2.alloc (.cells (madeCells #[.string ⟨#[]⟩] c) 9) = W6 at ht6 hbw2 hg6 ⊢
  have HB6 := Lib.hid (hb1.trans ((hbw1.trans (hbw2.mono (by omega))).mono hb1.size))
  obtain ⟨l, hl⟩ : ∃ l, List.replicate c (⟨#[]⟩ : ByteArray) = l := ⟨_, rfl⟩
  have hll : l.length = c := by rw [← hl, List.length_replicate]
  have hdup : ¬ l.Nodup := by rw [← hl]; exact rep_twice (by omega)
  rw [hl] at ht6
  obtain ⟨g, hgg⟩ : ∃ g, w1.heap.size = g := ⟨_, rfl⟩
  obtain ⟨g1, hgg1⟩ : ∃ g, w1.heap.size + 1 = g := ⟨_, rfl⟩
  rw [hgg1] at ht6 hg6 ⊢
  rw [hgg] at hg6 ⊢
  have HLL := Lib.hid hll; have HDUP := Lib.hid hdup; have HT6 := Lib.hid ht6
  obtain ⟨e1, he1⟩ : ∃ e, (lgE c).1 = e := ⟨_, rfl⟩
  obtain ⟨e2, he2⟩ : ∃ e, (lgE c).2 = e := ⟨_, rfl⟩
  have hee : (4096 < c ∧ e1 = 6 ∧ e2 = 6) ∨ (¬ 4096 < c ∧ e1 = 0 ∧ e2 = 10) := by
    rw [← he1, ← he2]; unfold lgE
    by_cases h : 4096 < c
    · rw [if_pos h]; exact Or.inl ⟨h, rfl, rfl⟩
    · rw [if_neg h]; exact Or.inr ⟨h, rfl, rfl⟩
  have HE1 := Lib.hid he1; have HE2 := Lib.hid he2; have HEE := Lib.hid hee
  clear hs1 hg1 hbw1 hbw2 hb1 hl hll hdup ht6 hgg hgg1 he1 he2 hee hki hk0 hk hw1 hw2 hp hp1 hp2 hand hmk hc hr0 hr3 HS
  rcases (show k = 0 ∨ k = 1 ∨ k = 2 by omega) with rfl | rfl | rfl
  · have q0 : W6.cell? ⟨g, 0, none⟩ = some (.slice (some ⟨g1, 0, none⟩) c c) := by rw [cell_of_row hg6]; rfl
    have q1 : W6.cell? ⟨g, 1, none⟩ = some (.slice none 0 0) := by rw [cell_of_row hg6]; rfl
    have q2 : W6.cell? ⟨g, 2, none⟩ = some (.slice none 0 0) := by rw [cell_of_row hg6]; rfl
    have HLN : Hid (∀ W, Below W6.heap.size W6 W → Calls Try.prog 13 #[.slice (some ⟨g1, 0, none⟩) c c, .slice none 0 0, .slice none 0 0] W fun e w' => ∃ v1 v2, e = .returned (.tuple #[v1, v2, .int .i64 e1]) ∧ Below W.heap.size W w') := Lib.hid (fun W hW => by
      have h := long_lines (some ⟨g1, 0, none⟩) none none l [] [] c 0 0 c W (by rw [HLL.out]; omega) (by simp) (by simp) (by rw [HLL.out]; exact Nat.le_refl _) (Nat.zero_le _) (Nat.zero_le _) ((HT6.out.below hW)) (tx_none none) (tx_none none) (by rw [HLL.out]; simp)
      rw [HLL.out, HE1.out] at h
      exact h)
    have HLS : Hid (∀ W, Below W6.heap.size W6 W → Calls Try.prog 10 #[.slice (some ⟨g1, 0, none⟩) c c, .slice none 0 0, .slice none 0 0] W fun e w' => ∃ v1 v2, e = .returned (.tuple #[v1, v2, .int .i64 e2]) ∧ Below W.heap.size W w') := Lib.hid (fun W hW => by
      have h := long_lists (some ⟨g1, 0, none⟩) none none l [] [] c 0 0 c W (by rw [HLL.out]; omega) (by simp) (by simp) ((HT6.out.below hW)) (tx_none none) (tx_none none) (by rw [HLL.out]; simp) (fun h => HDUP.out h.1)
      rw [HLL.out, HE2.out] at h
      exact h)
    have HKP : Hid (∀ V : World, Below W6.heap.size W6 V → V.cell? ⟨g, 0, none⟩ = some (.slice (some ⟨g1, 0, none⟩) c c) ∧ V.cell? ⟨g, 1, none⟩ = some (.slice none 0 0) ∧ V.cell? ⟨g, 2, none⟩ = some (.slice none 0 0)) := Lib.hid fun V hV => ⟨(hV.cell (World.block_lt_of_cell? _ _ q0)).trans q0, (hV.cell (World.block_lt_of_cell? _ _ q1)).trans q1, (hV.cell (World.block_lt_of_cell? _ _ q2)).trans q2⟩
    have hV0 : Below W6.heap.size W6 W6.drew := (Below.refl _ _).drew
    clear hg6
    go_region_held3 (fun w' => Below W6.heap.size W6 w' ∧ w'.cell? ⟨g, 0, none⟩ = some (.slice (some ⟨g1, 0, none⟩) c c) ∧ w'.cell? ⟨g, 1, none⟩ = some (.slice none 0 0) ∧ w'.cell? ⟨g, 2, none⟩ = some (.slice none 0 0)) (first | exact ⟨hV0, HKP.out _ hV0⟩ | exact ⟨hV7, HKP.out _ hV7⟩) ((go_at_call 13; refine (HLN.out _ hV0).mono ?_; rintro e w7 ⟨a7, d7, rfl, hb7⟩; have hV7 : Below W6.heap.size W6 w7 := hV0.trans (hb7.mono hV0.size)))
    obtain ⟨q0, q1, q2⟩ := HKP.out _ hV7
    have HB7 := Lib.hid (HB6.out.trans (hV7.mono HB6.out.size))
    go_upto_region 7 with fail
    have hV8 : Below W6.heap.size W6 w7.drew := hV7.drew
    go_region_held3 (fun w' => Below W6.heap.size W6 w' ∧ w'.cell? ⟨g, 0, none⟩ = some (.slice (some ⟨g1, 0, none⟩) c c) ∧ w'.cell? ⟨g, 1, none⟩ = some (.slice none 0 0) ∧ w'.cell? ⟨g, 2, none⟩ = some (.slice none 0 0)) (first | exact ⟨hV8, HKP.out _ hV8⟩ | exact ⟨hV9, HKP.out _ hV9⟩) ((go_at_call 10; refine (HLS.out _ hV8).mono ?_; rintro e w9 ⟨a9, d9, rfl, hb9⟩; have hV9 : Below W6.heap.size W6 w9 := hV8.trans (hb9.mono hV8.size)))
    have HB9 := Lib.hid (HB6.out.trans (hV9.mono HB6.out.size))
    clear hV0 hV7 hV8 hV9 hb7 hb9 q0 q1 q2 HLN HLS HKP
    rcases HEE.out with ⟨h1, rfl, rfl⟩ | ⟨h1, rfl, rfl⟩
    · have h1i : (4096 : Int) < c := by omega
      go_wp2_with fail
      go_ret
      exact ⟨rfl, HB9.out⟩
    · have h1i : ¬ (4096 : Int) < c := by omega
      go_wp2_with fail
      go_ret
      exact ⟨rfl, HB9.out⟩
  · have q0 : W6.cell? ⟨g, 0, none⟩ = some (.slice none 0 0) := by rw [cell_of_row hg6]; rfl
    have q1 : W6.cell? ⟨g, 1, none⟩ = some (.slice (some ⟨g1, 0, none⟩) c c) := by rw [cell_of_row hg6]; rfl
    have q2 : W6.cell? ⟨g, 2, none⟩ = some (.slice none 0 0) := by rw [cell_of_row hg6]; rfl
    have HLN : Hid (∀ W, Below W6.heap.size W6 W → Calls Try.prog 13 #[.slice none 0 0, .slice (some ⟨g1, 0, none⟩) c c, .slice none 0 0] W fun e w' => ∃ v1 v2, e = .returned (.tuple #[v1, v2, .int .i64 e1]) ∧ Below W.heap.size W w') := Lib.hid (fun W hW => by
      have h := long_lines none (some ⟨g1, 0, none⟩) none [] l [] 0 c 0 c W (by simp) (by rw [HLL.out]; omega) (by simp) (Nat.zero_le _) (by rw [HLL.out]; exact Nat.le_refl _) (Nat.zero_le _) (tx_none none) ((HT6.out.below hW)) (tx_none none) (by rw [HLL.out]; simp)
      rw [HLL.out, HE1.out] at h
      exact h)
    have HLS : Hid (∀ W, Below W6.heap.size W6 W → Calls Try.prog 10 #[.slice none 0 0, .slice (some ⟨g1, 0, none⟩) c c, .slice none 0 0] W fun e w' => ∃ v1 v2, e = .returned (.tuple #[v1, v2, .int .i64 e2]) ∧ Below W.heap.size W w') := Lib.hid (fun W hW => by
      have h := long_lists none (some ⟨g1, 0, none⟩) none [] l [] 0 c 0 c W (by simp) (by rw [HLL.out]; omega) (by simp) (tx_none none) ((HT6.out.below hW)) (tx_none none) (by rw [HLL.out]; simp) (fun h => HDUP.out h.2.1)
      rw [HLL.out, HE2.out] at h
      exact h)
    have HKP : Hid (∀ V : World, Below W6.heap.size W6 V → V.cell? ⟨g, 0, none⟩ = some (.slice none 0 0) ∧ V.cell? ⟨g, 1, none⟩ = some (.slice (some ⟨g1, 0, none⟩) c c) ∧ V.cell? ⟨g, 2, none⟩ = some (.slice none 0 0)) := Lib.hid fun V hV => ⟨(hV.cell (World.block_lt_of_cell? _ _ q0)).trans q0, (hV.cell (World.block_lt_of_cell? _ _ q1)).trans q1, (hV.cell (World.block_lt_of_cell? _ _ q2)).trans q2⟩
    have hV0 : Below W6.heap.size W6 W6.drew := (Below.refl _ _).drew
    clear hg6
    go_region_held3 (fun w' => Below W6.heap.size W6 w' ∧ w'.cell? ⟨g, 0, none⟩ = some (.slice none 0 0) ∧ w'.cell? ⟨g, 1, none⟩ = some (.slice (some ⟨g1, 0, none⟩) c c) ∧ w'.cell? ⟨g, 2, none⟩ = some (.slice none 0 0)) (first | exact ⟨hV0, HKP.out _ hV0⟩ | exact ⟨hV7, HKP.out _ hV7⟩) ((go_at_call 13; refine (HLN.out _ hV0).mono ?_; rintro e w7 ⟨a7, d7, rfl, hb7⟩; have hV7 : Below W6.heap.size W6 w7 := hV0.trans (hb7.mono hV0.size)))
    obtain ⟨q0, q1, q2⟩ := HKP.out _ hV7
    have HB7 := Lib.hid (HB6.out.trans (hV7.mono HB6.out.size))
    go_upto_region 7 with fail
    have hV8 : Below W6.heap.size W6 w7.drew := hV7.drew
    go_region_held3 (fun w' => Below W6.heap.size W6 w' ∧ w'.cell? ⟨g, 0, none⟩ = some (.slice none 0 0) ∧ w'.cell? ⟨g, 1, none⟩ = some (.slice (some ⟨g1, 0, none⟩) c c) ∧ w'.cell? ⟨g, 2, none⟩ = some (.slice none 0 0)) (first | exact ⟨hV8, HKP.out _ hV8⟩ | exact ⟨hV9, HKP.out _ hV9⟩) ((go_at_call 10; refine (HLS.out _ hV8).mono ?_; rintro e w9 ⟨a9, d9, rfl, hb9⟩; have hV9 : Below W6.heap.size W6 w9 := hV8.trans (hb9.mono hV8.size)))
    have HB9 := Lib.hid (HB6.out.trans (hV9.mono HB6.out.size))
    clear hV0 hV7 hV8 hV9 hb7 hb9 q0 q1 q2 HLN HLS HKP
    rcases HEE.out with ⟨h1, rfl, rfl⟩ | ⟨h1, rfl, rfl⟩
    · have h1i : (4096 : Int) < c := by omega
      go_wp2_with fail
      go_ret
      exact ⟨rfl, HB9.out⟩
    · have h1i : ¬ (4096 : Int) < c := by omega
      go_wp2_with fail
      go_ret
      exact ⟨rfl, HB9.out⟩
  · have q0 : W6.cell? ⟨g, 0, none⟩ = some (.slice none 0 0) := by rw [cell_of_row hg6]; rfl
    have q1 : W6.cell? ⟨g, 1, none⟩ = some (.slice none 0 0) := by rw [cell_of_row hg6]; rfl
    have q2 : W6.cell? ⟨g, 2, none⟩ = some (.slice (some ⟨g1, 0, none⟩) c c) := by rw [cell_of_row hg6]; rfl
    have HLN : Hid (∀ W, Below W6.heap.size W6 W → Calls Try.prog 13 #[.slice none 0 0, .slice none 0 0, .slice (some ⟨g1, 0, none⟩) c c] W fun e w' => ∃ v1 v2, e = .returned (.tuple #[v1, v2, .int .i64 e1]) ∧ Below W.heap.size W w') := Lib.hid (fun W hW => by
      have h := long_lines none none (some ⟨g1, 0, none⟩) [] [] l 0 0 c c W (by simp) (by simp) (by rw [HLL.out]; omega) (Nat.zero_le _) (Nat.zero_le _) (by rw [HLL.out]; exact Nat.le_refl _) (tx_none none) (tx_none none) ((HT6.out.below hW)) (by rw [HLL.out]; simp)
      rw [HLL.out, HE1.out] at h
      exact h)
    have HLS : Hid (∀ W, Below W6.heap.size W6 W → Calls Try.prog 10 #[.slice none 0 0, .slice none 0 0, .slice (some ⟨g1, 0, none⟩) c c] W fun e w' => ∃ v1 v2, e = .returned (.tuple #[v1, v2, .int .i64 e2]) ∧ Below W.heap.size W w') := Lib.hid (fun W hW => by
      have h := long_lists none none (some ⟨g1, 0, none⟩) [] [] l 0 0 c c W (by simp) (by simp) (by rw [HLL.out]; omega) (tx_none none) (tx_none none) ((HT6.out.below hW)) (by rw [HLL.out]; simp) (fun h => HDUP.out h.2.2)
      rw [HLL.out, HE2.out] at h
      exact h)
    have HKP : Hid (∀ V : World, Below W6.heap.size W6 V → V.cell? ⟨g, 0, none⟩ = some (.slice none 0 0) ∧ V.cell? ⟨g, 1, none⟩ = some (.slice none 0 0) ∧ V.cell? ⟨g, 2, none⟩ = some (.slice (some ⟨g1, 0, none⟩) c c)) := Lib.hid fun V hV => ⟨(hV.cell (World.block_lt_of_cell? _ _ q0)).trans q0, (hV.cell (World.block_lt_of_cell? _ _ q1)).trans q1, (hV.cell (World.block_lt_of_cell? _ _ q2)).trans q2⟩
    have hV0 : Below W6.heap.size W6 W6.drew := (Below.refl _ _).drew
    clear hg6
    go_region_held3 (fun w' => Below W6.heap.size W6 w' ∧ w'.cell? ⟨g, 0, none⟩ = some (.slice none 0 0) ∧ w'.cell? ⟨g, 1, none⟩ = some (.slice none 0 0) ∧ w'.cell? ⟨g, 2, none⟩ = some (.slice (some ⟨g1, 0, none⟩) c c)) (first | exact ⟨hV0, HKP.out _ hV0⟩ | exact ⟨hV7, HKP.out _ hV7⟩) ((go_at_call 13; refine (HLN.out _ hV0).mono ?_; rintro e w7 ⟨a7, d7, rfl, hb7⟩; have hV7 : Below W6.heap.size W6 w7 := hV0.trans (hb7.mono hV0.size)))
    obtain ⟨q0, q1, q2⟩ := HKP.out _ hV7
    have HB7 := Lib.hid (HB6.out.trans (hV7.mono HB6.out.size))
    go_upto_region 7 with fail
    have hV8 : Below W6.heap.size W6 w7.drew := hV7.drew
    go_region_held3 (fun w' => Below W6.heap.size W6 w' ∧ w'.cell? ⟨g, 0, none⟩ = some (.slice none 0 0) ∧ w'.cell? ⟨g, 1, none⟩ = some (.slice none 0 0) ∧ w'.cell? ⟨g, 2, none⟩ = some (.slice (some ⟨g1, 0, none⟩) c c)) (first | exact ⟨hV8, HKP.out _ hV8⟩ | exact ⟨hV9, HKP.out _ hV9⟩) ((go_at_call 10; refine (HLS.out _ hV8).mono ?_; rintro e w9 ⟨a9, d9, rfl, hb9⟩; have hV9 : Below W6.heap.size W6 w9 := hV8.trans (hb9.mono hV8.size)))
    have HB9 := Lib.hid (HB6.out.trans (hV9.mono HB6.out.size))
    clear hV0 hV7 hV8 hV9 hb7 hb9 q0 q1 q2 HLN HLS HKP
    rcases HEE.out with ⟨h1, rfl, rfl⟩ | ⟨h1, rfl, rfl⟩
    · have h1i : (4096 : Int) < c := by omega
      go_wp2_with fail
      go_ret
      exact ⟨rfl, HB9.out⟩
    · have h1i : ¬ (4096 : Int) < c := by omega
      go_wp2_with fail
      go_ret
      exact ⟨rfl, HB9.out⟩
end Go.Proofs.Ytjdlpcokjcmapaa
