/- Keyed lists: the law of changes that are applied. -/
import Derived.Test.YthkcmdlfdaggmaaHz
import Derived.Test.YthkcmdlfdaggmaaHy
import Derived.BigQuiet
set_option linter.unusedVariables false
set_option linter.unusedSimpArgs false
namespace Go.Proofs.Ythkcmdlfdaggmaa
open Go.RowKit
variable {w w' : World}

/-- The law's change as the program's. -/
def toCh (p : LcB) : ChB := (p.1, (p.2.1, p.2.2.2.1), (p.2.2.1, p.2.2.2.2))
def ordF (A : List KvB) (C : List ChB) : Bool := !(decide (RightK A ∧ Asc (ksC C)))
theorem ord_nil (A : List KvB) : ordF A [] = !(decide (RightK A)) := by
  unfold ordF; simp [ksC, Asc]
theorem asc_snoc {l : List ByteArray} {x y : ByteArray} (hy : l.getLast? = some y) : Asc (l ++ [x]) ↔ Asc l ∧ ltB y x := by
  unfold Asc
  rw [List.pairwise_append]
  constructor
  · rintro ⟨h, _, h2⟩
    exact ⟨h, h2 y (List.mem_of_getLast? hy) x (by simp)⟩
  · rintro ⟨h, h2⟩
    refine ⟨h, by simp, fun a ha b hb => ?_⟩
    simp at hb; subst hb
    obtain ⟨l', rfl⟩ : ∃ l', l = l' ++ [y] := by
      rw [List.getLast?_eq_some_iff] at hy
      exact hy
    rcases List.mem_append.1 ha with h3 | h3
    · exact ltB_trans ((List.pairwise_append.1 h).2.2 a h3 y (by simp)) h2
    · simp at h3; subst h3; exact h2
theorem ord_first {A : List KvB} {C : List ChB} {p : ChB} (hp : C[0]? = some p) : ordF A (C.take (0 + 1)) = ordF A (C.take 0) := by
  rw [take_get hp]
  unfold ordF; simp [ksC, Asc]
theorem ord_next {A : List KvB} {C : List ChB} {k : Nat} {p q : ChB} (hq : C[k]? = some q) (hp : C[k + 1]? = some p) : ordF A (C.take (k + 1 + 1)) = (ordF A (C.take (k + 1)) || !(Op.bytesLess q.1.toList p.1.toList)) := by
  rw [take_get hp]
  have hl : (ksC (C.take (k + 1))).getLast? = some q.1 := by
    rw [take_get hq]; unfold ksC; rw [List.map_append]; simp
  unfold ordF
  have he : Asc (ksC (C.take (k + 1) ++ [p])) ↔ Asc (ksC (C.take (k + 1))) ∧ ltB q.1 p.1 := by
    unfold ksC; rw [List.map_append]
    exact asc_snoc hl
  cases hb : Op.bytesLess q.1.toList p.1.toList with
  | true =>
    have h2 : ltB q.1 p.1 := hb
    have : (RightK A ∧ Asc (ksC (C.take (k + 1) ++ [p]))) ↔ (RightK A ∧ Asc (ksC (C.take (k + 1)))) := by rw [he]; simp [h2]
    rw [show decide (RightK A ∧ Asc (ksC (C.take (k + 1) ++ [p]))) = decide (RightK A ∧ Asc (ksC (C.take (k + 1)))) from decide_eq_decide.2 this]; simp
  | false =>
    have h2 : ¬ ltB q.1 p.1 := by unfold ltB; rw [hb]; simp
    have : ¬ (RightK A ∧ Asc (ksC (C.take (k + 1) ++ [p]))) := by rw [he]; simp [h2]
    rw [decide_eq_false this]; simp
theorem any_snoc {C : List ChB} {k : Nat} {p : ChB} (f : ChB → Bool) (hp : C[k]? = some p) : (C.take (k + 1)).any f = ((C.take k).any f || f p) := by
  rw [take_get hp, List.any_append]; simp
/-- Between two of the law's rounds over its changes. -/
def AcS (A : List KvB) (C : List ChB) (w0 : World) (v o f s i : Value) (wr : World) : Prop :=
  ∃ k : Nat, k ≤ C.length ∧ i = .int .i64 k ∧ o = .bool (ordF A (C.take k)) ∧ f = .bool ((C.take k).any wrongC) ∧ s = .bool ((C.take k).any (staleC A)) ∧ wr.ownsRow w0.heap.size 41 5 v k (flatC (C.take k)) ∧ Below w0.heap.size w0 wr
theorem new_pos {A : List KvB} {C : List ChB} (hf : C.any wrongC = false) (s : ByteArray) : (newU A C s).2 = false → (newU A C s).1 = noB := by
  induction C with
  | nil => exact say_possible A s
  | cons p C ih =>
    rw [List.any_cons, Bool.or_eq_false_iff] at hf
    rw [new_cons]
    by_cases h : p.1 = s
    · rw [if_pos h]
      have h2 := hf.1
      unfold wrongC at h2
      rw [Bool.or_eq_false_iff] at h2
      have h3 : posB2 p.2.2 = true := by have := h2.2; simpa using this
      exact (pos_iff _).1 h3
    · rw [if_neg h]; exact ih hf.2
theorem good_say {A : List KvB} {C : List ChB} (hf : C.any wrongC = false) (s : ByteArray) : sayK (itemK (keyL (ksK A ++ ksC C)) (newU A C)) s = newU A C s := by
  by_cases hs : s ∈ keyL (ksK A ++ ksC C)
  · exact item_say (asc_keyL _) (new_pos hf) hs
  · rw [item_say_not hs]
    rw [mem_keyL, List.mem_append, not_or] at hs
    rw [new_not hs.2, say_not hs.1]
theorem item_len2 (ks : List ByteArray) (U : ByteArray → SdB) : (itemK ks U).length ≤ ks.length := by unfold itemK; rw [List.length_map]; exact List.length_filter_le _ _
/-- Between two rounds of the loop that copies what came. -/
def YlS (G : List KvB) (w0 : World) (v i : Value) (wr : World) : Prop :=
  ∃ k : Nat, k ≤ G.length ∧ i = .int .i64 k ∧ wr.ownsRow w0.heap.size 50 2 v k (flatK (G.take k)) ∧ Below w0.heap.size w0 wr
/-- Between two rounds of the loop that looks a key up in the changes. -/
def WnS (A : List KvB) (C : List ChB) (s : ByteArray) (gs : Nat) (w0 : World) (i : Value) (wr : World) : Prop :=
  ∃ k : Nat, k ≤ C.length ∧ i = .int .i64 k ∧ wr.heap[gs]? = some (.cells #[.string (newU A (C.take k) s).1, .bool (newU A (C.take k) s).2] 37 (0, 0)) ∧ Below w0.heap.size w0 wr
/-- Between two of the law's rounds over the lists' keys. -/
def KzS (KS : List ByteArray) (w0 : World) (i : Value) (wr : World) : Prop :=
  ∃ k : Nat, k ≤ KS.length ∧ i = .int .i64 k ∧ Below w0.heap.size w0 wr
/-- Between two of the law's rounds over the changes. -/
def CyS (C : List ChB) (w0 : World) (i : Value) (wr : World) : Prop :=
  ∃ k : Nat, k ≤ C.length ∧ i = .int .i64 k ∧ Below w0.heap.size w0 wr
theorem lc_get {o : Option Addr} {l : List LcB} {k : Nat} {p : LcB} (h : LcAt w o l) (hk : l[k]? = some p) : ∃ b i, o = some ⟨b, i, none⟩ ∧ w.cell? ⟨b, i + k * 5, none⟩ = some (.string p.1) ∧ w.cell? ⟨b, i + k * 5 + 1, none⟩ = some (.string p.2.1) ∧ w.cell? ⟨b, i + k * 5 + 2, none⟩ = some (.string p.2.2.1) ∧ w.cell? ⟨b, i + k * 5 + 3, none⟩ = some (.bool p.2.2.2.1) ∧ w.cell? ⟨b, i + k * 5 + 4, none⟩ = some (.bool p.2.2.2.2) := (h k p hk).2
theorem leq_not (a b : ByteArray) : (Op.bytesLess a.toList b.toList || a.toList == b.toList) = !(Op.bytesLess b.toList a.toList) := by
  by_cases h : a = b
  · subst h
    have h2 : Op.bytesLess a.toList a.toList = false := by
      cases h3 : Op.bytesLess a.toList a.toList with
      | false => rfl
      | true => exact absurd h3 (ltB_irrefl a)
    rw [h2]; simp
  · have hne : (a.toList == b.toList) = false := by rw [beq_eq_false_iff_ne]; exact fun e => h (toL_inj e)
    rw [hne, Bool.or_false]
    cases h3 : Op.bytesLess b.toList a.toList with
    | true =>
      cases h4 : Op.bytesLess a.toList b.toList with
      | false => rfl
      | true => exact absurd (ltB_trans (a := a) h4 h3) (ltB_irrefl a)
    | false =>
      have h5 : ltB a b := ltB_tri (fun (h6 : ltB b a) => by unfold ltB at h6; rw [h3] at h6; cases h6) (fun e => h e.symm)
      exact h5
theorem set_row {w : World} {g j : Nat} {cur : Array Value} {t : TypeId} (v : Value) (h : w.heap[g]? = some (.cells cur t (0, 0))) : (w.setCell ⟨g, j, none⟩ v).heap[g]? = some (.cells (cur.setIfInBounds j v) t (0, 0)) := by
  obtain ⟨hlt, hk⟩ := Array.getElem?_eq_some_iff.1 h
  show (w.heap.modify g _)[g]? = _
  rw [Array.getElem?_eq_getElem (by rw [Array.size_modify]; exact hlt), Array.getElem_modify_self, hk]
  rfl
theorem set_grow (w : World) (g j : Nat) (x : Value) : w.grownBy (w.setCell ⟨g, j, none⟩ x) (some g) := by
  refine ⟨rfl, rfl, rfl, (KeepsWalks.setCell w ⟨g, j, none⟩ x).size, fun k _ hk => ?_⟩
  have hne : k ≠ g := fun e => hk (by rw [e])
  rw [Below.heap_setCell _ ⟨g, j, none⟩ x k hne]
theorem grow_trans {a b c : World} {g : Nat} (h : a.grownBy b (some g)) (k : b.grownBy c (some g)) : a.grownBy c (some g) :=
  ⟨k.os.trans h.os, k.tape.trans h.tape, k.output.trans h.output, Nat.le_trans h.size k.size, fun i hi hn => (k.block i (Nat.lt_of_lt_of_le hi h.size) hn).trans (h.block i hi hn)⟩
theorem five_set (w : World) (g : Nat) (a b c d e : Value) : w.grownBy (((((w.setCell ⟨g, 0, none⟩ a).setCell ⟨g, 1, none⟩ b).setCell ⟨g, 2, none⟩ c).setCell ⟨g, 3, none⟩ d).setCell ⟨g, 4, none⟩ e) (some g) :=
  grow_trans (grow_trans (grow_trans (grow_trans (set_grow _ _ _ _) (set_grow _ _ _ _)) (set_grow _ _ _ _)) (set_grow _ _ _ _)) (set_grow _ _ _ _)
theorem five_cells {w : World} {g : Nat} {a b c d e : Value} {t : TypeId} (h : w.heap[g]? = some (.cells #[a, b, c, d, e] t (0, 0))) (a' b' c' d' e' : Value) : (((((w.setCell ⟨g, 0, none⟩ a').setCell ⟨g, 1, none⟩ b').setCell ⟨g, 2, none⟩ c').setCell ⟨g, 3, none⟩ d').setCell ⟨g, 4, none⟩ e').heap[g]? = some (.cells #[a', b', c', d', e'] t (0, 0)) :=
  set_row e' (set_row d' (set_row c' (set_row b' (set_row a' h))))
set_option maxHeartbeats 16000000 in
set_option maxRecDepth 100000 in
theorem LApplies_any (o0 : Option Addr) (a : List KvB) (c0 : Nat) (o1 : Option Addr) (l : List LcB) (c1 : Nat) (w : World) (hla : a.length ≤ maxLen) (ha : KvAt w o0 a) (hll : l.length ≤ maxLen) (hl : LcAt w o1 l) :
    Calls Try.prog 4 #[.slice o0 a.length c0, .slice o1 l.length c1] w fun e w' => e = .returned (.bool true) ∧ Below w.heap.size w w' := by
  have HSP := Lib.hid (fun W => speaks_any W)
  have hI1 := fun (W : World) (hW : Below w.heap.size w W) => items_at o0 a c0 W hla (ha.below hW)
  obtain ⟨la, hla2⟩ : ∃ n, a.length = n := ⟨_, rfl⟩
  obtain ⟨ll, hll2⟩ : ∃ n, l.length = n := ⟨_, rfl⟩
  rw [hla2] at hI1 ⊢
  rw [hll2] at hll ⊢
  have hA40 := take40 a
  obtain ⟨A, hA⟩ : ∃ A, a.take 40 = A := ⟨_, rfl⟩
  rw [hA] at hI1 hA40
  obtain ⟨na, hna⟩ : ∃ n, A.length = n := ⟨_, rfl⟩
  rw [hna] at hI1 hA40
  -- the changes: the first forty
  obtain ⟨C, hC⟩ : ∃ C, (l.take 40).map toCh = C := ⟨_, rfl⟩
  obtain ⟨nc, hnc⟩ : ∃ n, C.length = n := ⟨_, rfl⟩
  have hncl : nc = min 40 ll := by rw [← hnc, ← hC, List.length_map, List.length_take, hll2]
  have hnc40 : nc ≤ 40 := by omega
  have hncll : nc ≤ ll := by omega
  have HCK : Hid (∀ k p, l[k]? = some p → k < 40 → C[k]? = some (toCh p)) := Lib.hid fun k p hk h40 => by
    rw [← hC, List.getElem?_map, List.getElem?_take, if_pos h40, hk]; rfl
  have HSZ : Hid (∀ p ∈ C, p.1.size ≤ maxLen ∧ p.2.2.1.size ≤ maxLen) := Lib.hid fun p hp => by
    rw [← hC] at hp
    obtain ⟨q, hq, rfl⟩ := List.mem_map.1 hp
    obtain ⟨j, hj⟩ := List.getElem?_of_mem (List.mem_of_mem_take hq)
    have := (hl j q hj).1
    exact ⟨this.1, this.2.2⟩
  have HLL := Lib.hid hll2; have HNC := Lib.hid hnc; have HNA := Lib.hid hna; have HNL := Lib.hid hncl
  have HI1' := Lib.hid hI1; have HLC := Lib.hid hl; have HLM := Lib.hid hll
  have hll140 : ll ≤ 9223372036854775807 := by unfold maxLen at hll; omega
  obtain ⟨i1, hi1, hz0, hz1, hz2⟩ := info_parts info_ch
  have HI1 := Lib.hid hi1; have HZ0 := Lib.hid hz0; have HZ1 := Lib.hid hz1; have HZ2 := Lib.hid hz2
  clear hi1 hz0 hz1 hz2
  clear hI1 hA hC hna hnc ha hl hla hla2 hll hll2 hncl
  go_enter Try.func4, Try.ntmps4
  go_wp2_with (first
    | (go_at_call 8; refine (HSP.out _).mono ?_; rintro e w1 ⟨rfl, hb1⟩; have HB1 := Lib.hid hb1; clear hb1 HSP)
    | (go_at_call 9; (with_reducible refine (HI1'.out _ HB1.out).mono ?_)))
  rintro e w2 ⟨oa, ca, ob, cb, rfl, x1, v1, hb2⟩
  have HB2 := Lib.hid (HB1.out.trans (hb2.mono HB1.out.size)); have HX2 := Lib.hid x1; have HV2 := Lib.hid v1
  clear x1 v1 hb2 HI1'
  have hR2 := RRight_any ob A cb w2 (by rw [HNA.out]; omega) HV2.out
  rw [HNA.out] at hR2
  obtain ⟨rA, hrA⟩ : ∃ x, decide (RightK A) = x := ⟨_, rfl⟩
  rw [hrA] at hR2
  have HR2 := Lib.hid hR2; have HRA := Lib.hid hrA
  clear hR2 hrA
  go_wp2_with (go_at_call 12; (with_reducible refine HR2.out.mono ?_); rintro e w3 ⟨rfl, q, hq⟩; have HB3 := Lib.hid (show Below w2.heap.size w2 w3 by rw [hq]; exact below_drewN (Below.refl _ _) q); clear hq HR2)
  have hB3 := HB2.out.trans (HB3.out.mono HB2.out.size)
  have HBW := Lib.hid hB3; have HX3 := Lib.hid (HX2.out.below HB3.out); have HV3 := Lib.hid (HV2.out.below HB3.out)
  have HLC3 := Lib.hid (HLC.out.below hB3)
  have H0 : Hid (AcS A C w3 (.slice none 0 0) (.bool (!rA)) (.bool false) (.bool false) (.int .i64 0) w3) := Lib.hid ⟨0, Nat.zero_le _, rfl, by rw [List.take_zero, ord_nil, HRA.out], by rw [List.take_zero]; rfl, by rw [List.take_zero]; rfl, by rw [List.take_zero]; exact World.ownsRow_nil _ _ _ _, Below.refl _ _⟩
  clear hB3 HB3 HB2 HX2 HV2 HLC HB1
  go_wp2_with fail
  go_loopw [7, 8, 9, 10, 11] (fun v o f s i wr => AcS A C w3 v o f s i wr) (fun _ _ _ _ i _ => nc - (intOf i).toNat)
  case atStart => first | exact H0.out | (cases rA <;> exact H0.out)
  case round =>
    obtain ⟨k, hk, rfl, rfl, rfl, rfl, hrow, hb⟩ := hrel
    rw [HNC.out] at hk
    have HBB := Lib.hid hb; have HROW := Lib.hid hrow
    clear hb hrow H0
    obtain ⟨fo, hfo⟩ : ∃ b, ordF A (C.take k) = b := ⟨_, rfl⟩
    obtain ⟨ff, hff⟩ : ∃ b, (C.take k).any wrongC = b := ⟨_, rfl⟩
    obtain ⟨fs, hfs⟩ : ∃ b, (C.take k).any (staleC A) = b := ⟨_, rfl⟩
    rw [hfo, hff, hfs]
    have HFO := Lib.hid hfo; have HFF := Lib.hid hff; have HFS := Lib.hid hfs
    clear hfo hff hfs
    by_cases hlt : k < nc
    · have hkl : k < ll := by omega
      have hk40 : k < 40 := by omega
      obtain ⟨p, hp⟩ : ∃ p, l[k]? = some p := ⟨_, List.getElem?_eq_getElem (by rw [HLL.out]; exact hkl)⟩
      obtain ⟨b0, i0, ho, y0, y1, y2, y3, y4⟩ := lc_get (HLC3.out.below HBB.out) hp
      have hcp := HCK.out k p hp hk40
      obtain ⟨s, x1, x2, t1, t2⟩ := p
      subst ho
      dsimp only at y0 y1 y2 y3 y4
      rw [show toCh (s, x1, x2, t1, t2) = (s, (x1, t1), (x2, t2)) from rfl] at hcp
      have HCP := Lib.hid hcp; have HP := Lib.hid hp
      clear hcp hp
      have hki : (k : Int) < ll := by omega
      have hki40 : (k : Int) < 40 := by omega
      have HYS : Hid (∀ W, Below w3.heap.size w3 W → W.cell? ⟨b0, i0 + k * 5, none⟩ = some (.string s) ∧ W.cell? ⟨b0, i0 + k * 5 + 1, none⟩ = some (.string x1) ∧ W.cell? ⟨b0, i0 + k * 5 + 2, none⟩ = some (.string x2) ∧ W.cell? ⟨b0, i0 + k * 5 + 3, none⟩ = some (.bool t1) ∧ W.cell? ⟨b0, i0 + k * 5 + 4, none⟩ = some (.bool t2)) := Lib.hid fun W hW => by
        obtain ⟨b', i', h', z0, z1, z2, z3, z4⟩ := lc_get (HLC3.out.below hW) HP.out
        cases h'
        exact ⟨z0, z1, z2, z3, z4⟩
      have HLT := Lib.hid hlt
      clear hlt
      go_wp2_with fail
      refine wp_region_held_drew (S := fun w' => w'.cell? ⟨b0, i0 + k * 5, none⟩ = some (.string s) ∧ w'.cell? ⟨b0, i0 + k * 5 + 1, none⟩ = some (.string x1) ∧ w'.cell? ⟨b0, i0 + k * 5 + 2, none⟩ = some (.string x2) ∧ w'.cell? ⟨b0, i0 + k * 5 + 3, none⟩ = some (.bool t1) ∧ w'.cell? ⟨b0, i0 + k * 5 + 4, none⟩ = some (.bool t2)) (by kernel_rfl) ⟨y0, y1, y2, y3, y4⟩ (fun _ => ?_)
      refine wpAnyH_take (i := 0) (v := ?_) rfl (by kernel_rfl) (by kernel_rfl) (by kernel_rfl) (fun _ _ _ h => h) (Or.inl ⟨by rfl, ?_⟩) ⟨y0, y1, y2, y3, y4⟩ ?_
      rotate_left
      · intro wq hSw; (try dsimp only at hSw); go_split_ands; go_simp; try with_reducible rfl
      try simp only [Act.put, List.setIfInBounds_toArray, List.set_cons_zero, List.set_cons_succ, List.getElem_toArray, List.getElem_cons_zero, List.getElem_cons_succ]
      refine wpAnyH_take (i := 1) (v := ?_) rfl (by kernel_rfl) (by kernel_rfl) (by kernel_rfl) (fun _ _ _ h => h) (Or.inl ⟨by rfl, ?_⟩) ⟨y0, y1, y2, y3, y4⟩ ?_
      rotate_left
      · intro wq hSw; (try dsimp only at hSw); go_split_ands; go_simp; try with_reducible rfl
      try simp only [Act.put, List.setIfInBounds_toArray, List.set_cons_zero, List.set_cons_succ, List.getElem_toArray, List.getElem_cons_zero, List.getElem_cons_succ]
      refine wpAnyH_take (i := 2) (v := ?_) rfl (by kernel_rfl) (by kernel_rfl) (by kernel_rfl) (fun _ _ _ h => h) (Or.inl ⟨by rfl, ?_⟩) ⟨y0, y1, y2, y3, y4⟩ ?_
      rotate_left
      · intro wq hSw; (try dsimp only at hSw); go_split_ands; go_simp; try with_reducible rfl
      try simp only [Act.put, List.setIfInBounds_toArray, List.set_cons_zero, List.set_cons_succ, List.getElem_toArray, List.getElem_cons_zero, List.getElem_cons_succ]
      refine wpAnyH_take (i := 3) (v := ?_) rfl (by kernel_rfl) (by kernel_rfl) (by kernel_rfl) (fun _ _ _ h => h) (Or.inl ⟨by rfl, ?_⟩) ⟨y0, y1, y2, y3, y4⟩ ?_
      rotate_left
      · intro wq hSw; (try dsimp only at hSw); go_split_ands; go_simp; try with_reducible rfl
      try simp only [Act.put, List.setIfInBounds_toArray, List.set_cons_zero, List.set_cons_succ, List.getElem_toArray, List.getElem_cons_zero, List.getElem_cons_succ]
      refine wpAnyH_take (i := 4) (v := ?_) rfl (by kernel_rfl) (by kernel_rfl) (by kernel_rfl) (fun _ _ _ h => h) (Or.inl ⟨by rfl, ?_⟩) ⟨y0, y1, y2, y3, y4⟩ ?_
      rotate_left
      · intro wq hSw; (try dsimp only at hSw); go_split_ands; go_simp; try with_reducible rfl
      try simp only [Act.put, List.setIfInBounds_toArray, List.set_cons_zero, List.set_cons_succ, List.getElem_toArray, List.getElem_cons_zero, List.getElem_cons_succ]
      refine wpAnyH_take (i := 5) (v := ?_) rfl (by kernel_rfl) (by kernel_rfl) (by kernel_rfl) (fun _ _ _ h => h) (Or.inl ⟨by rfl, ?_⟩) ⟨y0, y1, y2, y3, y4⟩ ?_
      rotate_left
      · intro wq hSw; (try dsimp only at hSw); go_split_ands; go_simp; try with_reducible rfl
      try simp only [Act.put, List.setIfInBounds_toArray, List.set_cons_zero, List.set_cons_succ, List.getElem_toArray, List.getElem_cons_zero, List.getElem_cons_succ]
      refine wpAnyH_take (i := 6) (v := ?_) rfl (by kernel_rfl) (by kernel_rfl) (by kernel_rfl) (fun _ _ _ h => h) (Or.inl ⟨by rfl, ?_⟩) ⟨y0, y1, y2, y3, y4⟩ ?_
      rotate_left
      · intro wq hSw; (try dsimp only at hSw); go_split_ands; go_simp; try with_reducible rfl
      try simp only [Act.put, List.setIfInBounds_toArray, List.set_cons_zero, List.set_cons_succ, List.getElem_toArray, List.getElem_cons_zero, List.getElem_cons_succ]
      refine wpAnyH_take (i := 7) (v := ?_) rfl (by kernel_rfl) (by kernel_rfl) (by kernel_rfl) (fun _ _ _ h => h) (Or.inl ⟨by rfl, ?_⟩) ⟨y0, y1, y2, y3, y4⟩ ?_
      rotate_left
      · intro wq hSw; (try dsimp only at hSw); go_split_ands; go_simp; try with_reducible rfl
      try simp only [Act.put, List.setIfInBounds_toArray, List.set_cons_zero, List.set_cons_succ, List.getElem_toArray, List.getElem_cons_zero, List.getElem_cons_succ]
      refine wpAnyH_take (i := 8) (v := ?_) rfl (by kernel_rfl) (by kernel_rfl) (by kernel_rfl) (fun _ _ _ h => h) (Or.inl ⟨by rfl, ?_⟩) ⟨y0, y1, y2, y3, y4⟩ ?_
      rotate_left
      · intro wq hSw; (try dsimp only at hSw); go_split_ands; go_simp; try with_reducible rfl
      try simp only [Act.put, List.setIfInBounds_toArray, List.set_cons_zero, List.set_cons_succ, List.getElem_toArray, List.getElem_cons_zero, List.getElem_cons_succ]
      refine wpAnyH_take (i := 9) (v := ?_) rfl (by kernel_rfl) (by kernel_rfl) (by kernel_rfl) (fun _ _ _ h => h) (Or.inl ⟨by rfl, ?_⟩) ⟨y0, y1, y2, y3, y4⟩ ?_
      rotate_left
      · intro wq hSw; (try dsimp only at hSw); go_split_ands; go_simp; try with_reducible rfl
      try simp only [Act.put, List.setIfInBounds_toArray, List.set_cons_zero, List.set_cons_succ, List.getElem_toArray, List.getElem_cons_zero, List.getElem_cons_succ]
      refine wpAnyH_take (i := 10) (v := ?_) rfl (by kernel_rfl) (by kernel_rfl) (by kernel_rfl) (fun _ _ _ h => h) (Or.inl ⟨by rfl, ?_⟩) ⟨y0, y1, y2, y3, y4⟩ ?_
      rotate_left
      · intro wq hSw; (try dsimp only at hSw); go_split_ands; go_simp; try with_reducible rfl
      try simp only [Act.put, List.setIfInBounds_toArray, List.set_cons_zero, List.set_cons_succ, List.getElem_toArray, List.getElem_cons_zero, List.getElem_cons_succ]
      refine wpAnyH_take (i := 11) (v := ?_) rfl (by kernel_rfl) (by kernel_rfl) (by kernel_rfl) (fun _ _ _ h => h) (Or.inl ⟨by rfl, ?_⟩) ⟨y0, y1, y2, y3, y4⟩ ?_
      rotate_left
      · intro wq hSw; (try dsimp only at hSw); go_split_ands; go_simp; try with_reducible rfl
      try simp only [Act.put, List.setIfInBounds_toArray, List.set_cons_zero, List.set_cons_succ, List.getElem_toArray, List.getElem_cons_zero, List.getElem_cons_succ]
      refine wpAnyH_take (i := 12) (v := ?_) rfl (by kernel_rfl) (by kernel_rfl) (by kernel_rfl) (fun _ _ _ h => h) (Or.inl ⟨by rfl, ?_⟩) ⟨y0, y1, y2, y3, y4⟩ ?_
      rotate_left
      · intro wq hSw; (try dsimp only at hSw); go_split_ands; go_simp; try with_reducible rfl
      try simp only [Act.put, List.setIfInBounds_toArray, List.set_cons_zero, List.set_cons_succ, List.getElem_toArray, List.getElem_cons_zero, List.getElem_cons_succ]
      refine wpAnyH_take (i := 13) (v := ?_) rfl (by kernel_rfl) (by kernel_rfl) (by kernel_rfl) (fun _ _ _ h => h) (Or.inl ⟨by rfl, ?_⟩) ⟨y0, y1, y2, y3, y4⟩ ?_
      rotate_left
      · intro wq hSw; (try dsimp only at hSw); go_split_ands; go_simp; try with_reducible rfl
      try simp only [Act.put, List.setIfInBounds_toArray, List.set_cons_zero, List.set_cons_succ, List.getElem_toArray, List.getElem_cons_zero, List.getElem_cons_succ]
      refine wpAnyH_take (i := 14) (v := ?_) rfl (by kernel_rfl) (by kernel_rfl) (by kernel_rfl) (fun _ _ _ h => h) (Or.inl ⟨by rfl, ?_⟩) ⟨y0, y1, y2, y3, y4⟩ ?_
      rotate_left
      · intro wq hSw; (try dsimp only at hSw); go_split_ands; go_simp; try with_reducible rfl
      try simp only [Act.put, List.setIfInBounds_toArray, List.set_cons_zero, List.set_cons_succ, List.getElem_toArray, List.getElem_cons_zero, List.getElem_cons_succ]
      refine wpAnyH_take (i := 15) (v := ?_) rfl (by kernel_rfl) (by kernel_rfl) (by kernel_rfl) (fun _ _ _ h => h) (Or.inl ⟨by rfl, ?_⟩) ⟨y0, y1, y2, y3, y4⟩ ?_
      rotate_left
      · intro wq hSw; (try dsimp only at hSw); go_split_ands; go_simp; try with_reducible rfl
      try simp only [Act.put, List.setIfInBounds_toArray, List.set_cons_zero, List.set_cons_succ, List.getElem_toArray, List.getElem_cons_zero, List.getElem_cons_succ]
      refine wpAnyH_take (i := 16) (v := ?_) rfl (by kernel_rfl) (by kernel_rfl) (by kernel_rfl) (fun _ _ _ h => h) (Or.inl ⟨by rfl, ?_⟩) ⟨y0, y1, y2, y3, y4⟩ ?_
      rotate_left
      · intro wq hSw; (try dsimp only at hSw); go_split_ands; go_simp; try with_reducible rfl
      try simp only [Act.put, List.setIfInBounds_toArray, List.set_cons_zero, List.set_cons_succ, List.getElem_toArray, List.getElem_cons_zero, List.getElem_cons_succ]
      refine wpAnyH_take (i := 17) (v := ?_) rfl (by kernel_rfl) (by kernel_rfl) (by kernel_rfl) (fun _ _ _ h => h) (Or.inl ⟨by rfl, ?_⟩) ⟨y0, y1, y2, y3, y4⟩ ?_
      rotate_left
      · intro wq hSw; (try dsimp only at hSw); go_split_ands; go_simp; try with_reducible rfl
      try simp only [Act.put, List.setIfInBounds_toArray, List.set_cons_zero, List.set_cons_succ, List.getElem_toArray, List.getElem_cons_zero, List.getElem_cons_succ]
      refine wpAnyH_take (i := 18) (v := ?_) rfl (by kernel_rfl) (by kernel_rfl) (by kernel_rfl) (fun _ _ _ h => h) (Or.inl ⟨by rfl, ?_⟩) ⟨y0, y1, y2, y3, y4⟩ ?_
      rotate_left
      · intro wq hSw; (try dsimp only at hSw); go_split_ands; go_simp; try with_reducible rfl
      try simp only [Act.put, List.setIfInBounds_toArray, List.set_cons_zero, List.set_cons_succ, List.getElem_toArray, List.getElem_cons_zero, List.getElem_cons_succ]
      refine wpAnyH_take (i := 19) (v := ?_) rfl (by kernel_rfl) (by kernel_rfl) (by kernel_rfl) (fun _ _ _ h => h) (Or.inl ⟨by rfl, ?_⟩) ⟨y0, y1, y2, y3, y4⟩ ?_
      rotate_left
      · intro wq hSw; (try dsimp only at hSw); go_split_ands; go_simp; try with_reducible rfl
      try simp only [Act.put, List.setIfInBounds_toArray, List.set_cons_zero, List.set_cons_succ, List.getElem_toArray, List.getElem_cons_zero, List.getElem_cons_succ]
      refine wpAnyH_take (i := 20) (v := ?_) rfl (by kernel_rfl) (by kernel_rfl) (by kernel_rfl) (fun _ _ _ h => h) (Or.inl ⟨by rfl, ?_⟩) ⟨y0, y1, y2, y3, y4⟩ ?_
      rotate_left
      · intro wq hSw; (try dsimp only at hSw); go_split_ands; go_simp; try with_reducible rfl
      try simp only [Act.put, List.setIfInBounds_toArray, List.set_cons_zero, List.set_cons_succ, List.getElem_toArray, List.getElem_cons_zero, List.getElem_cons_succ]
      refine wpAnyH_take (i := 21) (v := ?_) rfl (by kernel_rfl) (by kernel_rfl) (by kernel_rfl) (fun _ _ _ h => h) (Or.inl ⟨by rfl, ?_⟩) ⟨y0, y1, y2, y3, y4⟩ ?_
      rotate_left
      · intro wq hSw; (try dsimp only at hSw); go_split_ands; go_simp; try with_reducible rfl
      try simp only [Act.put, List.setIfInBounds_toArray, List.set_cons_zero, List.set_cons_succ, List.getElem_toArray, List.getElem_cons_zero, List.getElem_cons_succ]
      refine wpAnyH_take (i := 22) (v := ?_) rfl (by kernel_rfl) (by kernel_rfl) (by kernel_rfl) (fun _ _ _ h => h) (Or.inl ⟨by rfl, ?_⟩) ⟨y0, y1, y2, y3, y4⟩ ?_
      rotate_left
      · intro wq hSw; (try dsimp only at hSw); go_split_ands; go_simp; try with_reducible rfl
      try simp only [Act.put, List.setIfInBounds_toArray, List.set_cons_zero, List.set_cons_succ, List.getElem_toArray, List.getElem_cons_zero, List.getElem_cons_succ]
      refine wpAnyH_take (i := 23) (v := ?_) rfl (by kernel_rfl) (by kernel_rfl) (by kernel_rfl) (fun _ _ _ h => h) (Or.inl ⟨by rfl, ?_⟩) ⟨y0, y1, y2, y3, y4⟩ ?_
      rotate_left
      · intro wq hSw; (try dsimp only at hSw); go_split_ands; go_simp; try with_reducible rfl
      try simp only [Act.put, List.setIfInBounds_toArray, List.set_cons_zero, List.set_cons_succ, List.getElem_toArray, List.getElem_cons_zero, List.getElem_cons_succ]
      refine wpAnyH_take (i := 24) (v := ?_) rfl (by kernel_rfl) (by kernel_rfl) (by kernel_rfl) (fun _ _ _ h => h) (Or.inl ⟨by rfl, ?_⟩) ⟨y0, y1, y2, y3, y4⟩ ?_
      rotate_left
      · intro wq hSw; (try dsimp only at hSw); go_split_ands; go_simp; try with_reducible rfl
      try simp only [Act.put, List.setIfInBounds_toArray, List.set_cons_zero, List.set_cons_succ, List.getElem_toArray, List.getElem_cons_zero, List.getElem_cons_succ]
      refine wpAnyH_take (i := 25) (v := ?_) rfl (by kernel_rfl) (by kernel_rfl) (by kernel_rfl) (fun _ _ _ h => h) (Or.inl ⟨by rfl, ?_⟩) ⟨y0, y1, y2, y3, y4⟩ ?_
      rotate_left
      · intro wq hSw; (try dsimp only at hSw); go_split_ands; go_simp; try with_reducible rfl
      try simp only [Act.put, List.setIfInBounds_toArray, List.set_cons_zero, List.set_cons_succ, List.getElem_toArray, List.getElem_cons_zero, List.getElem_cons_succ]
      refine wpAnyH_take (i := 26) (v := ?_) rfl (by kernel_rfl) (by kernel_rfl) (by kernel_rfl) (fun _ _ _ h => h) (Or.inl ⟨by rfl, ?_⟩) ⟨y0, y1, y2, y3, y4⟩ ?_
      rotate_left
      · intro wq hSw; (try dsimp only at hSw); go_split_ands; go_simp; try with_reducible rfl
      try simp only [Act.put, List.setIfInBounds_toArray, List.set_cons_zero, List.set_cons_succ, List.getElem_toArray, List.getElem_cons_zero, List.getElem_cons_succ]
      refine wpAnyH_take (i := 27) (v := ?_) rfl (by kernel_rfl) (by kernel_rfl) (by kernel_rfl) (fun _ _ _ h => h) (Or.inl ⟨by rfl, ?_⟩) ⟨y0, y1, y2, y3, y4⟩ ?_
      rotate_left
      · intro wq hSw; (try dsimp only at hSw); go_split_ands; go_simp; try with_reducible rfl
      try simp only [Act.put, List.setIfInBounds_toArray, List.set_cons_zero, List.set_cons_succ, List.getElem_toArray, List.getElem_cons_zero, List.getElem_cons_succ]
      refine wpAnyH_ready (rs := [28]) (by kernel_rfl) (by simp) ?_
      refine AllReadyH.cons (o := _) rfl (fun K hK => ?_) AllReadyH.nil
      go_simp
      have hV1 : Below wr.heap.size wr ((wr.alloc (.cells #[.string ⟨#[]⟩, .string ⟨#[]⟩, .bool false, .string ⟨#[]⟩, .bool false] 41)).drew) := ((Below.refl _ _).alloc (Nat.le_refl _) _).drew
      have hn1 : ((wr.alloc (.cells #[.string ⟨#[]⟩, .string ⟨#[]⟩, .bool false, .string ⟨#[]⟩, .bool false] 41)).drew).heap[wr.heap.size]? = some (.cells #[.string ⟨#[]⟩, .string ⟨#[]⟩, .bool false, .string ⟨#[]⟩, .bool false] 41 (0, 0)) := World.alloc_heap_new wr _
      generalize ((wr.alloc (.cells #[.string ⟨#[]⟩, .string ⟨#[]⟩, .bool false, .string ⟨#[]⟩, .bool false] 41)).drew) = V1 at hV1 hn1 ⊢
      obtain ⟨gb, hgb⟩ : ∃ g, wr.heap.size = g := ⟨_, rfl⟩
      have HGB : Hid (wr.heap.size ≤ gb) := Lib.hid (by omega)
      have HV1 := Lib.hid hV1
      have HY1 := Lib.hid (HYS.out _ (HBB.out.trans (hV1.mono HBB.out.size)))
      have z0 : V1.cell? ⟨gb, 0, none⟩ = some (.string ⟨#[]⟩) := by rw [← hgb, cell_of_row hn1]; rfl
      have z1 : V1.cell? ⟨gb, 1, none⟩ = some (.string ⟨#[]⟩) := by rw [← hgb, cell_of_row hn1]; rfl
      have z2 : V1.cell? ⟨gb, 2, none⟩ = some (.bool false) := by rw [← hgb, cell_of_row hn1]; rfl
      have z3 : V1.cell? ⟨gb, 3, none⟩ = some (.string ⟨#[]⟩) := by rw [← hgb, cell_of_row hn1]; rfl
      have z4 : V1.cell? ⟨gb, 4, none⟩ = some (.bool false) := by rw [← hgb, cell_of_row hn1]; rfl
      have f0 : V1.frozen? ⟨gb, 0, none⟩ = false := by rw [← hgb]; simp [World.frozen?, hn1]
      have f1 : V1.frozen? ⟨gb, 1, none⟩ = false := by rw [← hgb]; simp [World.frozen?, hn1]
      have f2 : V1.frozen? ⟨gb, 2, none⟩ = false := by rw [← hgb]; simp [World.frozen?, hn1]
      have f3 : V1.frozen? ⟨gb, 3, none⟩ = false := by rw [← hgb]; simp [World.frozen?, hn1]
      have f4 : V1.frozen? ⟨gb, 4, none⟩ = false := by rw [← hgb]; simp [World.frozen?, hn1]
      refine hK.out _ _ ?_ (fun hHeld => ?_)
      · exact HY1.out
      rw [hgb] at hn1 ⊢
      have HN1 := Lib.hid hn1
      clear hgb hn1 hV1 hHeld y0 y1 y2 y3 y4
      refine wpAnyH_ready (rs := [29]) (by kernel_rfl) (by simp) ?_
      refine AllReadyH.cons (o := _) rfl (fun K hK => ?_) AllReadyH.nil
      go_simp
      have hb4 : Below wr.heap.size wr (((((V1.setCell ⟨gb, 0, none⟩ (.string s)).setCell ⟨gb, 1, none⟩ (.string x1)).setCell ⟨gb, 2, none⟩ (.bool t1)).setCell ⟨gb, 3, none⟩ (.string x2)).setCell ⟨gb, 4, none⟩ (.bool t2)) := HV1.out.grown (five_set V1 gb _ _ _ _ _) HV1.out.size (fun j hj => by injection hj with hj; subst hj; exact HGB.out)
      have hn4 := five_cells HN1.out (.string s) (.string x1) (.bool t1) (.string x2) (.bool t2)
      generalize (((((V1.setCell ⟨gb, 0, none⟩ (.string s)).setCell ⟨gb, 1, none⟩ (.string x1)).setCell ⟨gb, 2, none⟩ (.bool t1)).setCell ⟨gb, 3, none⟩ (.string x2)).setCell ⟨gb, 4, none⟩ (.bool t2)) = w4 at hb4 hn4 ⊢
      have HB4 := Lib.hid hb4; have HN4 := Lib.hid hn4
      have HBW4 := Lib.hid (HBB.out.trans (hb4.mono HBB.out.size))
      have HR4 := Lib.hid (own_below HROW.out hb4)
      have hy4 := HYS.out w4 HBW4.out
      refine hK.out _ _ ?_ (fun hHeld => ?_)
      · exact hy4
      clear hb4 hn4 hHeld z0 z1 z2 z3 z4 f0 f1 f2 f3 f4 HY1 HN1 HV1
      refine wpAnyH_done (by kernel_rfl) ?_ _
      obtain ⟨y0, y1, y2, y3, y4⟩ := hy4
      go_wp2_with fail
      -- the order
      obtain ⟨fo2, hfo2⟩ : ∃ b, ordF A (C.take (k + 1)) = b := ⟨_, rfl⟩
      have HFO2 := Lib.hid hfo2
      clear hfo2
      go_cut [8] from 71 to 89 (fun ov wx => ov = .bool fo2 ∧ ∃ n, wx = w4.drewN n)
      case first =>
        rcases Nat.eq_zero_or_pos k with hk0 | hkp
        · subst hk0
          obtain rfl : fo2 = fo := by rw [← HFO2.out, ← HFO.out]; exact ord_first HCP.out
          cases fo2 with
          | true =>
            go_quiet (fail)
            (first | (have _h : Nat := nq; clear _h) | rename_i nq)
            go_wp2_with fail
            go_meet
            exact ⟨rfl, _, rfl⟩
          | false =>
            go_quiet (fail)
            (first | (have _h : Nat := nq; clear _h) | rename_i nq)
            go_wp2_with fail
            go_meet
            exact ⟨rfl, _, rfl⟩
        · obtain ⟨j, hj⟩ : ∃ j, k = j + 1 := ⟨k - 1, by omega⟩
          obtain ⟨q, hq⟩ : ∃ q, l[j]? = some q := ⟨_, List.getElem?_eq_getElem (by rw [HLL.out]; omega)⟩
          obtain ⟨b', i', h', v0, _⟩ := lc_get (HLC3.out.below HBW4.out) hq
          injection h' with h'
          injection h' with e1 e2 _
          subst e1 e2
          have hon := ord_next (A := A) (HCK.out j q hq (by omega)) (by rw [← hj]; exact HCP.out)
          rw [← hj, HFO.out, HFO2.out] at hon
          obtain ⟨s0, q2⟩ := q
          dsimp only [toCh] at hon v0
          have hw1 : IntKind.i64.wrap ((k : Int) - 1) = (j : Int) := by rw [IntWalk.i64_in _ (by omega)]; omega
          have hjl : (j : Int) < ll := by omega
          have hj0 : (0 : Int) ≤ j := by omega
          have hkp2 : (0 : Int) < k := by omega
          cases hbl : Op.bytesLess s0.toList s.toList with
          | true =>
            rw [hbl] at hon
            obtain rfl : fo2 = fo := by rw [hon]; cases fo <;> rfl
            clear hon hq hj
            have hd1 : decide ((0 : Int) < (k : Int)) = true := decide_eq_true hkp2
            cases fo2 with
            | true =>
              clear hw1 hjl hj0 hkp2 hkp hd1 hbl v0
              go_quiet (fail)
              (first | (have _h : Nat := nq; clear _h) | rename_i nq)
              go_wp2_with fail
              go_meet
              exact ⟨rfl, _, rfl⟩
            | false =>
              have HBL := Lib.hid hbl
              go_quiet (fail)
              (first | (have _h : Nat := nq; clear _h) | rename_i nq)
              go_wp2_with fail
              go_meet
              exact ⟨by rw [leq_not, HBL.out]; rfl, _, rfl⟩
          | false =>
            rw [hbl] at hon
            obtain rfl : fo2 = true := by rw [hon]; cases fo <;> rfl
            clear hon hq hj
            have hd1 : decide ((0 : Int) < (k : Int)) = true := decide_eq_true hkp2
            cases fo with
            | true =>
              clear hw1 hjl hj0 hkp2 hkp hd1 hbl v0
              go_quiet (fail)
              (first | (have _h : Nat := nq; clear _h) | rename_i nq)
              go_wp2_with fail
              go_meet
              exact ⟨rfl, _, rfl⟩
            | false =>
              have HBL := Lib.hid hbl
              go_quiet (fail)
              (first | (have _h : Nat := nq; clear _h) | rename_i nq)
              go_wp2_with fail
              go_meet
              exact ⟨by rw [leq_not, HBL.out]; rfl, _, rfl⟩
      case rest =>
        obtain ⟨rfl, n5, rfl⟩ := hcut
        have hb5 : Below wr.heap.size wr (w4.drewN n5) := below_drewN HB4.out n5
        have hn5 : (w4.drewN n5).heap[gb]? = some (.cells #[.string s, .string x1, .bool t1, .string x2, .bool t2] 41 (0, 0)) := HN4.out
        have hr5 : (w4.drewN n5).ownsRow w3.heap.size 41 5 u7 k (flatC (C.take k)) := HR4.out
        generalize w4.drewN n5 = w5 at hb5 hn5 hr5 ⊢
        have HB5 := Lib.hid hb5; have HN5 := Lib.hid hn5; have HR5 := Lib.hid hr5
        have HBW5 := Lib.hid (HBB.out.trans (hb5.mono HBB.out.size))
        obtain ⟨y0, y1, y2, y3, y4⟩ := HYS.out w5 HBW5.out
        clear hb5 hn5 hr5 HB4 HN4 HR4 HBW4
        -- the form
        obtain ⟨ff2, hff2⟩ : ∃ b, (C.take (k + 1)).any wrongC = b := ⟨_, rfl⟩
        have hffs := any_snoc wrongC HCP.out
        rw [HFF.out, hff2] at hffs
        have HFF2 := Lib.hid hff2
        have HFS2 : Hid (ff2 = (ff || ((!t1 && !x1.toList.isEmpty) || (!t2 && !x2.toList.isEmpty)))) := Lib.hid (by
          rw [hffs]; unfold wrongC posB2; simp)
        clear hff2 hffs
        go_upto_region 11 with fail
        go_cut [9] from 90 to 122 (fun ov wx => ov = .bool ff2 ∧ wx = w5)
        case first =>
          cases ff with
          | true =>
            obtain rfl : ff2 = true := by rw [HFS2.out]; rfl
            go_wp2_with fail
            go_meet
            exact ⟨rfl, rfl⟩
          | false =>
            cases t1 <;> cases he1 : x1.toList.isEmpty <;> cases t2 <;> cases he2 : x2.toList.isEmpty <;> (rw [he1, he2] at HFS2)
            all_goals
              obtain rfl := HFS2.out
              clear HFS2
              go_wp2_with fail
              go_meet
              exact ⟨rfl, rfl⟩
        case rest =>
          obtain ⟨rfl, rfl⟩ := hcut
          obtain ⟨w5, hw5⟩ : ∃ w, w = wc := ⟨_, rfl⟩
          subst hw5
          go_upto_region 12 with fail
          have hS1 := fun (W : World) (hW : Below wr.heap.size wr W) => Says_any ob A cb s W (by rw [HNA.out]; omega) (HV3.out.below (HBB.out.trans (hW.mono HBB.out.size)))
          rw [HNA.out] at hS1
          obtain ⟨u, hu⟩ : ∃ u, sayK A s = u := ⟨_, rfl⟩
          rw [hu] at hS1
          obtain ⟨fs2, hfs2⟩ : ∃ b, (C.take (k + 1)).any (staleC A) = b := ⟨_, rfl⟩
          have hfss := any_snoc (staleC A) HCP.out
          rw [HFS.out, hfs2] at hfss
          have HSF2 := Lib.hid hfs2
          have HSS2 : Hid (fs2 = (fs || !(decide (u = (x1, t1))))) := Lib.hid (by rw [hfss]; unfold staleC; rw [hu])
          obtain ⟨u1, u2⟩ := u
          have HS1 := Lib.hid hS1
          have hne := run_ne_sd (u1, u2) (x1, t1)
          (try dsimp only at hne)
          clear hS1 hu hfs2 hfss
          have q1 : w5.cell? ⟨gb, 1, none⟩ = some (.string x1) := by rw [cell_of_row HN5.out]; rfl
          have q2 : w5.cell? ⟨gb, 2, none⟩ = some (.bool t1) := by rw [cell_of_row HN5.out]; rfl
          have HBd := Lib.hid (show Below wr.heap.size wr w5.drew from HB5.out.drew)
          go_cut [10] from 123 to 135 (fun ov wx => ov = .bool fs2 ∧ Below w5.heap.size w5 wx)
          case first =>
            cases fs with
            | true =>
              obtain rfl : fs2 = true := by rw [HSS2.out]; rfl
              clear hne
              go_quiet (fail)
              (first | (have _h : Nat := nq; clear _h) | rename_i nq)
              go_wp2_with fail
              go_meet
              exact ⟨rfl, below_drewN (Below.refl _ _) _⟩
            | false =>
              have hfe : fs2 = !(decide ((u1, u2) = (x1, t1))) := by rw [HSS2.out]; rfl
              rw [← hfe] at hne
              clear hfe
              have HKP : Hid (∀ V : World, Below w5.heap.size w5 V → V.cell? ⟨b0, i0 + k * 5, none⟩ = some (.string s) ∧ V.cell? ⟨gb, 1, none⟩ = some (.string x1) ∧ V.cell? ⟨gb, 2, none⟩ = some (.bool t1)) := Lib.hid fun V hV => ⟨(hV.cell (World.block_lt_of_cell? _ _ y0)).trans y0, (hV.cell (World.block_lt_of_cell? _ _ q1)).trans q1, (hV.cell (World.block_lt_of_cell? _ _ q2)).trans q2⟩
              have HBV : Hid (∀ V : World, Below w5.heap.size w5 V → Below wr.heap.size wr V) := Lib.hid fun V hV => HB5.out.trans (hV.mono HB5.out.size)
              have hV0 : Below w5.heap.size w5 w5.drew := (Below.refl _ _).drew
              go_region_held3 (fun w' => Below w5.heap.size w5 w' ∧ w'.cell? ⟨b0, i0 + k * 5, none⟩ = some (.string s) ∧ w'.cell? ⟨gb, 1, none⟩ = some (.string x1) ∧ w'.cell? ⟨gb, 2, none⟩ = some (.bool t1)) (first | exact ⟨hV0, HKP.out _ hV0⟩ | exact ⟨hV6, HKP.out _ hV6⟩) ((go_at_call 14; refine (HS1.out _ (HBV.out _ hV0)).mono ?_; rintro e w6 ⟨rfl, hb6⟩; have hV6 : Below w5.heap.size w5 w6 := hV0.trans (hb6.mono hV0.size)))
              go_wp2_with fail
              go_meet
              exact ⟨rfl, hV6⟩
          case rest =>
            obtain ⟨rfl, hb6⟩ := hcut
            obtain ⟨w6, hw6⟩ : ∃ w, w = wc := ⟨_, rfl⟩
            subst hw6
            have HB6 := Lib.hid (HB5.out.trans (hb6.mono HB5.out.size))
            have hn6 := (hb6.block gb (lt_of_some HN5.out)).trans HN5.out
            have HR6 := Lib.hid (own_below HR5.out hb6)
            have HBX6 := Lib.hid (HBB.out.trans (HB6.out.mono HBB.out.size))
            have p0 : w6.cell? ⟨gb, 0, none⟩ = some (.string s) := by rw [cell_of_row hn6]; rfl
            have p1 : w6.cell? ⟨gb, 1, none⟩ = some (.string x1) := by rw [cell_of_row hn6]; rfl
            have p2 : w6.cell? ⟨gb, 2, none⟩ = some (.bool t1) := by rw [cell_of_row hn6]; rfl
            have p3 : w6.cell? ⟨gb, 3, none⟩ = some (.string x2) := by rw [cell_of_row hn6]; rfl
            have p4 : w6.cell? ⟨gb, 4, none⟩ = some (.bool t2) := by rw [cell_of_row hn6]; rfl
            clear hn6 hb6 y0 y1 y2 y3 y4 q1 q2 hne
            go_wp2_with (at_builtin; (refine wpList_append_own _ rfl _ _ 28 rfl w3.heap.size 41 i1 (.agg #[.string ⟨#[]⟩, .string ⟨#[]⟩, .bool false, .string ⟨#[]⟩, .bool false]) 5 64 Try.underlying28 HI1.out HZ0.out HZ1.out HZ2.out rfl (by decide) _ _ _ rfl (HR6.out.alloc _) ⟨w6.heap.size, 0, none⟩ 1 1 (cells5 (s, (x1, t1), (x2, t2))) rfl rfl (by simpa [cells5] using cell_five_new w6 41 (.string s) (.string x1) (.bool t1) (.string x2) (.bool t2)) mem5 (by unfold maxLen; omega) (by omega) (by have := HBX6.out.size; simp; omega) ?_); intro v' w7 hown hgrow _; have HO7 := Lib.hid hown; have HG7 := Lib.hid hgrow; clear hown hgrow)
            go_roundw
            case rel => exact ⟨k + 1, by rw [HNC.out]; exact HLT.out, by go_num, by rw [HFO2.out], by rw [HFF2.out], by rw [HSF2.out], by rw [take_get HCP.out, flatC_snoc]; exact HO7.out, (HBX6.out.alloc HBX6.out.size _).grown HG7.out (by have := HBX6.out.size; simp at this ⊢; omega) (own_base HR6.out)⟩
            case measure => simp [intOf]; have := HLT.out; omega
    · obtain rfl : k = nc := by omega
      have hCF : C.take k = C := List.take_of_length_le (by rw [HNC.out]; exact Nat.le_refl _)
      have hrow := HROW.out
      rw [hCF] at HFO HFF HFS hrow
      have hrow2 : wr.ownsRow w3.heap.size 41 5 u7 C.length (flatC C) := by rw [HNC.out]; exact hrow
      obtain ⟨oc, cc, rfl, hch, _⟩ := own_chs hrow2
      have HCH := Lib.hid hch
      have hAp := Apply_at oa oc A C ca cc wr (by rw [HNA.out]; omega) (by rw [HNC.out]; omega) (HX3.out.below HBB.out) hch (fun p hp => (HSZ.out p hp).1) (fun p hp => (HSZ.out p hp).2)
      rw [HNA.out, HNC.out] at hAp
      rw [HNC.out]
      have HAP := Lib.hid hAp
      have HBWR := Lib.hid (HBW.out.trans (HBB.out.mono HBW.out.size))
      clear hAp hrow hrow2 hch hCF hlt HROW
      have hex : (¬ ((k : Int) < ll)) ∨ ((k : Int) < ll ∧ ¬ ((k : Int) < 40)) := by have := HNL.out; omega
      rcases hex with hx | hx
      case inl =>
        cases fo with
        | true =>
          have hE : applyK A C = ([], 12) := by
            unfold applyK; rw [if_pos]
            have h := HFO.out; unfold ordF at h
            rw [Bool.not_eq_true'] at h; exact of_decide_eq_false h
          rw [hE] at HAP
          go_wp2_with (go_at_call 15; (with_reducible refine HAP.out.mono ?_); rintro e w8 ⟨oo, co, rfl, hkv, hb8⟩; have HB8 := Lib.hid (HBWR.out.trans (hb8.mono HBWR.out.size)); clear hkv hb8 HAP)
          go_ret
          exact ⟨rfl, HB8.out⟩
        | false =>
          have HOK : Hid (RightK A ∧ Asc (ksC C)) := Lib.hid (by
            have h := HFO.out; unfold ordF at h
            simpa using h)
          cases ff with
          | true =>
            have hE : applyK A C = ([], 2) := by
              unfold applyK; rw [if_neg (fun h => h HOK.out), if_pos HFF.out]
            rw [hE] at HAP
            go_wp2_with (go_at_call 15; (with_reducible refine HAP.out.mono ?_); rintro e w8 ⟨oo, co, rfl, hkv, hb8⟩; have HB8 := Lib.hid (HBWR.out.trans (hb8.mono HBWR.out.size)); clear hkv hb8 HAP)
            go_ret
            exact ⟨rfl, HB8.out⟩
          | false =>
            cases fs with
            | true =>
              have hE : applyK A C = ([], 13) := by
                unfold applyK; rw [if_neg (fun h => h HOK.out), if_neg (by rw [HFF.out]; simp), if_pos HFS.out]
              rw [hE] at HAP
              go_wp2_with (go_at_call 15; (with_reducible refine HAP.out.mono ?_); rintro e w8 ⟨oo, co, rfl, hkv, hb8⟩; have HB8 := Lib.hid (HBWR.out.trans (hb8.mono HBWR.out.size)); clear hkv hb8 HAP)
              go_ret
              exact ⟨rfl, HB8.out⟩
            | false =>
              have hE : applyK A C = (itemK (keyL (ksK A ++ ksC C)) (newU A C), 0) := by
                unfold applyK; rw [if_neg (fun h => h HOK.out), if_neg (by rw [HFF.out]; simp), if_neg (by rw [HFS.out]; simp)]
              obtain ⟨G, hG⟩ : ∃ G, itemK (keyL (ksK A ++ ksC C)) (newU A C) = G := ⟨_, rfl⟩
              rw [hG] at hE
              rw [hE] at HAP
              have HG := Lib.hid hG
              clear hE hG
              dsimp only at HAP
              have hng : G.length ≤ 80 := by
                have h1 := item_len2 (keyL (ksK A ++ ksC C)) (newU A C)
                have h2 := keyL_len (ksK A ++ ksC C)
                rw [HG.out] at h1
                rw [List.length_append, List.length_map, List.length_map, HNA.out, HNC.out] at h2
                omega
              have HGR : Hid (RightK G) := Lib.hid (by rw [← HG.out]; exact item_right _ (asc_keyL _))
              have HGS : Hid (∀ s, sayK G s = newU A C s) := Lib.hid fun s => by rw [← HG.out]; exact good_say HFF.out s
              obtain ⟨ng, hn⟩ : ∃ n, G.length = n := ⟨_, rfl⟩
              rw [hn] at HAP hng
              have HNG := Lib.hid hn
              clear hn HG HFO HFS HSZ
              go_wp2_with (go_at_call 15; (with_reducible refine HAP.out.mono ?_); rintro e w8 ⟨og, cg, rfl, hkv, hb8⟩)
              have HB8 := Lib.hid (HBWR.out.trans (hb8.mono HBWR.out.size)); have HG8 := Lib.hid hkv
              have HC8 := Lib.hid (HCH.out.below hb8)
              have HV8 := Lib.hid (HV3.out.below (HBB.out.trans (hb8.mono HBB.out.size)))
              clear hkv hb8 HAP HCH HX3 HV3 HBB HBW HBWR
              have hR8 := Right_any og G cg w8 (by rw [HNG.out]; omega) HG8.out
              rw [HNG.out, decide_eq_true HGR.out] at hR8
              have HR8 := Lib.hid hR8
              clear hR8
              go_wp2_with (go_at_call 11; (with_reducible refine HR8.out.mono ?_); rintro e w9 ⟨rfl, hb9⟩; have HB9 := Lib.hid (HB8.out.trans (hb9.mono HB8.out.size)); have HG9 := Lib.hid (HG8.out.below hb9); have HC9 := Lib.hid (HC8.out.below hb9); have HV9 := Lib.hid (HV8.out.below hb9); have hI9 := items20_any none [] 0 w9 (by simp) (kv_nil _ _); have HI9 := Lib.hid (show Calls Try.prog 9 #[.slice none 0 0] w9 _ from hI9); clear hb9 HR8 hI9)
              (with_reducible refine HI9.out.mono ?_)
              rintro e w10 ⟨va, vb, rfl, hva, hvb, hb10⟩
              have HRY := Lib.hid (show w10.ownsRow w9.heap.size 50 2 vb 0 (flatK []) from hvb)
              have HBY0 := Lib.hid hb10
              clear hva hvb hb10 HI9 HB8 HG8 HC8 HV8
              obtain ⟨i2, hi2, hy0, hy1, hy2⟩ := info_parts info_ri
              have HI2 := Lib.hid hi2; have HY0 := Lib.hid hy0; have HY1 := Lib.hid hy1; have HY2 := Lib.hid hy2
              have H2 : Hid (YlS G w9 vb (.int .i64 0) w10) := Lib.hid ⟨0, Nat.zero_le _, rfl, HRY.out, HBY0.out⟩
              clear hi2 hy0 hy1 hy2 HRY HBY0
              go_wp2_with fail
              go_loopw [16, 17] (fun v i wr => YlS G w9 v i wr) (fun _ i _ => ng - (intOf i).toNat)
              case atStart => exact H2.out
              case round =>
                obtain ⟨j, hj, rfl, hrow, hb⟩ := hrel
                rw [HNG.out] at hj
                have HROW := Lib.hid hrow; have HBB := Lib.hid hb
                clear hrow hb H2
                by_cases hlt : j < ng
                · obtain ⟨p, hp⟩ : ∃ p, G[j]? = some p := ⟨_, List.getElem?_eq_getElem (by rw [HNG.out]; exact hlt)⟩
                  obtain ⟨_, _, b0, i0, ho, c0', c1'⟩ := (HG9.out.below HBB.out) j p hp
                  subst ho
                  have HP := Lib.hid hp
                  have HLT := Lib.hid hlt
                  have hji : (j : Int) < ng := by omega
                  obtain ⟨p1, p2⟩ := p
                  dsimp only at c0' c1'
                  clear hp hlt
                  go_wp2_with (at_builtin; (refine wpList_append_own _ rfl _ _ 25 rfl w9.heap.size 50 i2 (.agg #[.string ⟨#[]⟩, .string ⟨#[]⟩]) 2 32 Try.underlying25 HI2.out HY0.out HY1.out HY2.out rfl (by decide) _ _ _ rfl (HROW.out.alloc _) ⟨wr.heap.size, 0, none⟩ 1 1 [.string p1, .string p2] rfl rfl (by simpa using cell_two_new wr 50 (.string p1) (.string p2)) two_memK (by unfold maxLen; omega) (by omega) (by have := HBB.out.size; simp; omega) ?_); intro v' w12 hown hgrow _; have HO := Lib.hid hown; have HGW := Lib.hid hgrow; clear hown hgrow)
                  go_roundw
                  case rel => exact ⟨j + 1, by rw [HNG.out]; exact HLT.out, by go_num, by rw [take_get HP.out, flatK_snoc]; exact HO.out, (HBB.out.alloc HBB.out.size _).grown HGW.out (by have := HBB.out.size; simp at this ⊢; omega) (own_base HROW.out)⟩
                  case measure => simp [intOf]; have := HLT.out; omega
                · obtain rfl : j = ng := by omega
                  have hrow2 : wr.ownsRow w9.heap.size 50 2 u16 G.length (flatK G) := by
                    have h := HROW.out
                    rw [List.take_of_length_le (by rw [HNG.out]; exact Nat.le_refl _)] at h
                    rw [HNG.out]; exact h
                  obtain ⟨oy, cy, rfl, hky, _⟩ := own_kvs hrow2 HG9.out.sizes
                  rw [HNG.out]
                  have HY := Lib.hid hky; have HC := Lib.hid (HC9.out.below HBB.out); have HV := Lib.hid (HV9.out.below HBB.out)
                  have HBW := Lib.hid (HB9.out.trans (HBB.out.mono HB9.out.size))
                  have hK := Keys_at ob oy none A G [] cb cy 0 wr (by rw [HNA.out]; omega) (by rw [HNG.out]; omega) (by simp) HV.out hky (kv_nil _ _) _ rfl
                  rw [HNA.out, HNG.out] at hK
                  obtain ⟨KS, hKS⟩ : ∃ KS, ks3 A G [] = KS := ⟨_, rfl⟩
                  rw [hKS] at hK
                  change Calls _ _ #[.slice ob na cb, .slice oy j cy, .slice none 0 0] _ _ at hK
                  have HK := Lib.hid hK
                  have hkn : KS.length ≤ 1000 := by
                    have h := keyL_len (ksK A ++ ksK G)
                    have h2 : ks3 A G [] = keyL (ksK A ++ ksK G) := by unfold ks3; rw [show ksK ([] : List KvB) = [] from rfl, List.append_nil]
                    rw [← hKS, h2]; rw [List.length_append, List.length_map, List.length_map, HNA.out, HNG.out] at h; omega
                  obtain ⟨nk, hnk⟩ : ∃ n, KS.length = n := ⟨_, rfl⟩
                  rw [hnk] at hK hkn HK
                  have HNK := Lib.hid hnk
                  clear hK hKS hnk hky hrow2 hlt HROW HG9 HC9 HV9 HB9
                  go_wp2_with (go_at_call 13; (with_reducible refine HK.out.mono ?_); rintro e w11 ⟨ok, ck, rfl, htx, hb11⟩)
                  have HB11 := Lib.hid (HBW.out.trans (hb11.mono HBW.out.size)); have HY11 := Lib.hid (HY.out.below hb11); have HC11 := Lib.hid (HC.out.below hb11); have HV11 := Lib.hid (HV.out.below hb11); have HT := Lib.hid htx
                  have H3 : Hid (KzS KS w11 (.int .i64 0) w11) := Lib.hid ⟨0, Nat.zero_le _, rfl, Below.refl _ _⟩
                  clear htx hb11 HY HC HV HBW HK HBB HI2 HY0 HY1 HY2
                  (try go_wp2_with fail)
                  go_loopw [19] (fun i wr => KzS KS w11 i wr) (fun i _ => nk - (intOf i).toNat)
                  case atStart => exact H3.out
                  case round =>
                    obtain ⟨m, hm, rfl, hb⟩ := hrel
                    rw [HNK.out] at hm
                    have HBB3 := Lib.hid hb
                    clear hb H3
                    by_cases hlt : m < nk
                    · obtain ⟨s, hs⟩ : ∃ s, KS[m]? = some s := ⟨_, List.getElem?_eq_getElem (by rw [HNK.out]; exact hlt)⟩
                      obtain ⟨hss, b0, i0, ho, c0'⟩ := tx_get (HT.out.below HBB3.out) hs
                      subst ho
                      have hS1 := fun (W : World) (hW : Below wr.heap.size wr W) => Says_any ob A cb s W (by rw [HNA.out]; omega) (HV11.out.below (HBB3.out.trans (hW.mono HBB3.out.size)))
                      have hS2 := fun (W : World) (hW : Below wr.heap.size wr W) => Says_any oy G cy s W (by rw [HNG.out]; omega) (HY11.out.below (HBB3.out.trans (hW.mono HBB3.out.size)))
                      rw [HNA.out] at hS1
                      rw [HNG.out, HGS.out] at hS2
                      obtain ⟨u, hu⟩ : ∃ u, sayK A s = u := ⟨_, rfl⟩
                      obtain ⟨z, hz⟩ : ∃ u, newU A C s = u := ⟨_, rfl⟩
                      rw [hu] at hS1
                      rw [hz] at hS2
                      have HU := Lib.hid hu; have HZ := Lib.hid hz
                      obtain ⟨u1, u2⟩ := u
                      obtain ⟨z1, z2⟩ := z
                      have HS1 := Lib.hid hS1; have HS2 := Lib.hid hS2; have HLT := Lib.hid hlt
                      have HSV : Hid (∀ V : World, Below wr.heap.size wr V → V.cell? ⟨b0, i0 + m, none⟩ = some (.string s)) := Lib.hid fun V hV => (hV.cell (World.block_lt_of_cell? wr _ c0')).trans c0'
                      have hmi : (m : Int) < nk := by omega
                      clear hS1 hS2 hu hz hs hss hlt
                      go_wp2_with (go_at_call 14; refine (HS1.out _ (Below.refl _ _)).mono ?_; rintro e w12 ⟨rfl, hb12⟩; have HB12 := Lib.hid hb12; clear hb12 HS1)
                      have hb13 := HB12.out.alloc HB12.out.size (.cells #[.string u1, .bool u2] 37)
                      have hn13 := World.alloc_heap_new w12 (.cells #[.string u1, .bool u2] 37)
                      generalize w12.alloc (.cells #[.string u1, .bool u2] 37) = w13 at hb13 hn13 ⊢
                      obtain ⟨gs, hgs⟩ : ∃ g, w12.heap.size = g := ⟨_, rfl⟩
                      rw [hgs] at hn13 ⊢
                      have HGE : Hid (wr.heap.size ≤ gs) := Lib.hid (by rw [← hgs]; exact HB12.out.size)
                      obtain ⟨wo, hwo⟩ : ∃ wo, wo = wr := ⟨_, rfl⟩
                      subst hwo
                      have H4 : Hid (WnS A C s gs wo (.int .i64 0) w13) := Lib.hid ⟨0, Nat.zero_le _, rfl, by rw [List.take_zero, new_nil, HU.out]; exact hn13, hb13⟩
                      clear hb13 hn13 hgs HB12 c0'
                      go_loopw [21] (fun i wx => WnS A C s gs wo i wx) (fun i _ => k - (intOf i).toNat)
                      case atStart => exact H4.out
                      case round =>
                        obtain ⟨t, ht, rfl, hbox, hb⟩ := hrel
                        rw [HNC.out] at ht
                        obtain ⟨y, hy⟩ : ∃ y, newU A (C.take t) s = y := ⟨_, rfl⟩
                        rw [hy] at hbox
                        have HYT := Lib.hid hy; have HBX := Lib.hid hbox; have HBB4 := Lib.hid hb
                        obtain ⟨y1, y2⟩ := y
                        dsimp only at HBX
                        clear hy hbox hb H4
                        have e0 : wr.cell? ⟨b0, i0 + m, none⟩ = some (.string s) := HSV.out _ HBB4.out
                        by_cases hlt : t < k
                        · obtain ⟨q, hq⟩ : ∃ q, C[t]? = some q := ⟨_, List.getElem?_eq_getElem (by rw [HNC.out]; exact hlt)⟩
                          obtain ⟨bc, ic, hoc, d0', _, _, d3', d4'⟩ := (HC11.out.below (HBB3.out.trans (HBB4.out.mono HBB3.out.size))) t q hq
                          subst hoc
                          have hnew : newU A (C.take (t + 1)) s = if q.1 = s then q.2.2 else (y1, y2) := by rw [take_get hq, new_snoc (asc_fresh HOK.out.2 hq), HYT.out]
                          obtain ⟨kq, ⟨a1, a2⟩, z1', z2'⟩ := q
                          dsimp only at hnew
                          have d0 : wr.cell? ⟨bc, ic + t * 5, none⟩ = some (.string kq) := d0'
                          have d3 : wr.cell? ⟨bc, ic + t * 5 + 3, none⟩ = some (.string z1') := d3'
                          have d4 : wr.cell? ⟨bc, ic + t * 5 + 4, none⟩ = some (.bool z2') := d4'
                          have HNEW := Lib.hid hnew; have HLT4 := Lib.hid hlt
                          have hti : (t : Int) < k := by omega
                          clear d0' d3' d4' hq hnew hlt
                          by_cases he : kq = s
                          · subst he
                            have HNW : Hid (newU A (C.take (t + 1)) kq = (z1', z2')) := Lib.hid (by rw [HNEW.out, if_pos rfl])
                            clear HNEW
                            go_wp2_with fail
                            go_quiet (fail)
                            (first | (have _h : Nat := nq; clear _h) | rename_i nq)
                            have d3d : (wr.drewN nq).cell? ⟨bc, ic + t * 5 + 3, none⟩ = some (.string z1') := d3
                            have d4d : (wr.drewN nq).cell? ⟨bc, ic + t * 5 + 4, none⟩ = some (.bool z2') := d4
                            have hbx : (wr.drewN nq).heap[gs]? = some (.cells #[.string y1, .bool y2] 37 (0, 0)) := HBX.out
                            have hbd : Below wo.heap.size wo (wr.drewN nq) := below_drewN HBB4.out nq
                            generalize wr.drewN nq = wd at d3d d4d hbx hbd ⊢
                            have s0 : wd.cell? ⟨gs, 0, none⟩ = some (.string y1) := by rw [cell_of_row hbx]; rfl
                            have s1 : wd.cell? ⟨gs, 1, none⟩ = some (.bool y2) := by rw [cell_of_row hbx]; rfl
                            have f0 : wd.frozen? ⟨gs, 0, none⟩ = false := by simp [World.frozen?, hbx]
                            have f1 : wd.frozen? ⟨gs, 1, none⟩ = false := by simp [World.frozen?, hbx]
                            have HBD := Lib.hid hbd; have HBXD := Lib.hid hbx
                            clear hbx hbd d0 d3 d4 e0
                            go_wp2_with fail
                            go_roundw
                            case rel => exact ⟨t + 1, by rw [HNC.out]; exact HLT4.out, by go_num, by rw [HNW.out]; exact two_cells HBXD.out _ _, HBD.out.grown (two_set wd gs _ _) HBD.out.size (fun j hj => by injection hj with hj; subst hj; exact HGE.out)⟩
                            case measure => simp [intOf]; have := HLT4.out; omega
                          · have HNW : Hid (newU A (C.take (t + 1)) s = (y1, y2)) := Lib.hid (by rw [HNEW.out, if_neg he])
                            have hne : (kq.toList == s.toList) = false := by rw [beq_eq_false_iff_ne]; exact fun e => he (toL_inj e)
                            clear HNEW he
                            go_wp2_with fail
                            go_quiet (fail)
                            (first | (have _h : Nat := nq; clear _h) | rename_i nq)
                            go_wp2_with fail
                            go_roundw
                            case rel => exact ⟨t + 1, by rw [HNC.out]; exact HLT4.out, by go_num, by rw [HNW.out]; exact HBX.out, below_drewN HBB4.out _⟩
                            case measure => simp [intOf]; have := HLT4.out; omega
                        · obtain rfl : t = k := by omega
                          have hyz : (y1, y2) = (z1, z2) := by rw [← HYT.out, ← HZ.out, List.take_of_length_le (by rw [HNC.out]; exact Nat.le_refl _)]
                          injection hyz with hyz1 hyz2
                          subst hyz1 hyz2
                          have q0 : wr.cell? ⟨gs, 0, none⟩ = some (.string y1) := by rw [cell_of_row HBX.out]; rfl
                          have q1 : wr.cell? ⟨gs, 1, none⟩ = some (.bool y2) := by rw [cell_of_row HBX.out]; rfl
                          have hne : ∀ V : World, (binOp .neq 37 (sdV (y1, y2)) (sdV (y1, y2))).run Try.prog V = .ok (.bool false) V := fun V => by rw [run_ne_rs, decide_eq_true rfl]; rfl
                          (try dsimp only at hne)
                          have HKP : Hid (∀ V : World, Below wr.heap.size wr V → V.cell? ⟨b0, i0 + m, none⟩ = some (.string s) ∧ V.cell? ⟨gs, 0, none⟩ = some (.string y1) ∧ V.cell? ⟨gs, 1, none⟩ = some (.bool y2)) := Lib.hid fun V hV => ⟨(hV.cell (World.block_lt_of_cell? _ _ e0)).trans e0, (hV.cell (World.block_lt_of_cell? _ _ q0)).trans q0, (hV.cell (World.block_lt_of_cell? _ _ q1)).trans q1⟩
                          have HBV : Hid (∀ V : World, Below wr.heap.size wr V → Below wo.heap.size wo V) := Lib.hid fun V hV => HBB4.out.trans (hV.mono HBB4.out.size)
                          clear hlt
                          go_wp2_with fail
                          have hV0 : Below wr.heap.size wr wr.drew := (Below.refl _ _).drew
                          go_region_held3 (fun w' => Below wr.heap.size wr w' ∧ w'.cell? ⟨b0, i0 + m, none⟩ = some (.string s) ∧ w'.cell? ⟨gs, 0, none⟩ = some (.string y1) ∧ w'.cell? ⟨gs, 1, none⟩ = some (.bool y2)) (first | exact ⟨hV0, HKP.out _ hV0⟩ | exact ⟨hV6, HKP.out _ hV6⟩) ((go_at_call 14; refine (HS2.out _ (HBV.out _ hV0)).mono ?_; rintro e w6 ⟨rfl, hb6⟩; have hV6 : Below wr.heap.size wr w6 := hV0.trans (hb6.mono hV0.size)))
                          have HBZ := Lib.hid (HBB3.out.trans ((HBV.out _ hV6).mono HBB3.out.size))
                          clear hV0 hV6 hb6 hne q0 q1 e0
                          go_wp2_with fail
                          go_roundw
                          case rel => exact ⟨m + 1, by rw [HNK.out]; exact HLT.out, by go_num, HBZ.out⟩
                          case measure => simp [intOf]; have := HLT.out; omega
                    · obtain rfl : m = nk := by omega
                      obtain ⟨wz, hwz⟩ : ∃ wz, wz = wr := ⟨_, rfl⟩
                      subst hwz
                      have HBQ := Lib.hid (HB11.out.trans (HBB3.out.mono HB11.out.size)); have HC5 := Lib.hid (HC11.out.below HBB3.out); have HY5 := Lib.hid (HY11.out.below HBB3.out)
                      have H5 : Hid (CyS C wz (.int .i64 0) wz) := Lib.hid ⟨0, Nat.zero_le _, rfl, Below.refl _ _⟩
                      clear HC11 HY11 HV11 HT HB11 HBB3 hlt
                      go_wp2_with fail
                      go_loopw [22] (fun i wx => CyS C wz i wx) (fun i _ => k - (intOf i).toNat)
                      case atStart => exact H5.out
                      case round =>
                        obtain ⟨t, ht, rfl, hb⟩ := hrel
                        rw [HNC.out] at ht
                        have HBB5 := Lib.hid hb
                        clear hb H5
                        by_cases hlt : t < k
                        · obtain ⟨q, hq⟩ : ∃ q, C[t]? = some q := ⟨_, List.getElem?_eq_getElem (by rw [HNC.out]; exact hlt)⟩
                          obtain ⟨bc, ic, hoc, d0', _, _, d3', d4'⟩ := (HC5.out.below HBB5.out) t q hq
                          subst hoc
                          have hsq : sayK G q.1 = q.2.2 := by rw [HGS.out]; exact new_mem HOK.out.2 (List.mem_of_getElem? hq)
                          have hS2 := fun (W : World) (hW : Below wr.heap.size wr W) => Says_any oy G cy q.1 W (by rw [HNG.out]; omega) (HY5.out.below (HBB5.out.trans (hW.mono HBB5.out.size)))
                          rw [HNG.out, hsq] at hS2
                          obtain ⟨kq, ⟨a1, a2⟩, z1', z2'⟩ := q
                          have d0 : wr.cell? ⟨bc, ic + t * 5, none⟩ = some (.string kq) := d0'
                          have d3 : wr.cell? ⟨bc, ic + t * 5 + 3, none⟩ = some (.string z1') := d3'
                          have d4 : wr.cell? ⟨bc, ic + t * 5 + 4, none⟩ = some (.bool z2') := d4'
                          dsimp only at hS2
                          have HS2 := Lib.hid hS2; have HLT5 := Lib.hid hlt
                          have hti : (t : Int) < k := by omega
                          have hne : ∀ V : World, (binOp .neq 37 (sdV (z1', z2')) (sdV (z1', z2'))).run Try.prog V = .ok (.bool false) V := fun V => by rw [run_ne_rs, decide_eq_true rfl]; rfl
                          (try dsimp only at hne)
                          have HKP : Hid (∀ V : World, Below wr.heap.size wr V → V.cell? ⟨bc, ic + t * 5, none⟩ = some (.string kq) ∧ V.cell? ⟨bc, ic + t * 5 + 3, none⟩ = some (.string z1') ∧ V.cell? ⟨bc, ic + t * 5 + 4, none⟩ = some (.bool z2')) := Lib.hid fun V hV => ⟨(hV.cell (World.block_lt_of_cell? _ _ d0)).trans d0, (hV.cell (World.block_lt_of_cell? _ _ d3)).trans d3, (hV.cell (World.block_lt_of_cell? _ _ d4)).trans d4⟩
                          clear d0' d3' d4' hq hsq hS2 hlt
                          go_wp2_with fail
                          have hV0 : Below wr.heap.size wr wr.drew := (Below.refl _ _).drew
                          go_region_held3 (fun w' => Below wr.heap.size wr w' ∧ w'.cell? ⟨bc, ic + t * 5, none⟩ = some (.string kq) ∧ w'.cell? ⟨bc, ic + t * 5 + 3, none⟩ = some (.string z1') ∧ w'.cell? ⟨bc, ic + t * 5 + 4, none⟩ = some (.bool z2')) (first | exact ⟨hV0, HKP.out _ hV0⟩ | exact ⟨hV6, HKP.out _ hV6⟩) ((go_at_call 14; refine (HS2.out _ hV0).mono ?_; rintro e w6 ⟨rfl, hb6⟩; have hV6 : Below wr.heap.size wr w6 := hV0.trans (hb6.mono hV0.size)))
                          have HBZ := Lib.hid (HBB5.out.trans (hV6.mono HBB5.out.size))
                          clear hV0 hV6 hb6 hne d0 d3 d4
                          go_wp2_with fail
                          go_roundw
                          case rel => exact ⟨t + 1, by rw [HNC.out]; exact HLT5.out, by go_num, HBZ.out⟩
                          case measure => simp [intOf]; have := HLT5.out; omega
                        · obtain rfl : t = k := by omega
                          have HBE := Lib.hid (HBQ.out.trans (HBB5.out.mono HBQ.out.size))
                          clear hlt
                          go_wp2_with fail
                          go_ret
                          exact ⟨rfl, HBE.out⟩
      case inr =>
        obtain ⟨hx, hx2⟩ := hx
        cases fo with
        | true =>
          have hE : applyK A C = ([], 12) := by
            unfold applyK; rw [if_pos]
            have h := HFO.out; unfold ordF at h
            rw [Bool.not_eq_true'] at h; exact of_decide_eq_false h
          rw [hE] at HAP
          go_wp2_with (go_at_call 15; (with_reducible refine HAP.out.mono ?_); rintro e w8 ⟨oo, co, rfl, hkv, hb8⟩; have HB8 := Lib.hid (HBWR.out.trans (hb8.mono HBWR.out.size)); clear hkv hb8 HAP)
          go_ret
          exact ⟨rfl, HB8.out⟩
        | false =>
          have HOK : Hid (RightK A ∧ Asc (ksC C)) := Lib.hid (by
            have h := HFO.out; unfold ordF at h
            simpa using h)
          cases ff with
          | true =>
            have hE : applyK A C = ([], 2) := by
              unfold applyK; rw [if_neg (fun h => h HOK.out), if_pos HFF.out]
            rw [hE] at HAP
            go_wp2_with (go_at_call 15; (with_reducible refine HAP.out.mono ?_); rintro e w8 ⟨oo, co, rfl, hkv, hb8⟩; have HB8 := Lib.hid (HBWR.out.trans (hb8.mono HBWR.out.size)); clear hkv hb8 HAP)
            go_ret
            exact ⟨rfl, HB8.out⟩
          | false =>
            cases fs with
            | true =>
              have hE : applyK A C = ([], 13) := by
                unfold applyK; rw [if_neg (fun h => h HOK.out), if_neg (by rw [HFF.out]; simp), if_pos HFS.out]
              rw [hE] at HAP
              go_wp2_with (go_at_call 15; (with_reducible refine HAP.out.mono ?_); rintro e w8 ⟨oo, co, rfl, hkv, hb8⟩; have HB8 := Lib.hid (HBWR.out.trans (hb8.mono HBWR.out.size)); clear hkv hb8 HAP)
              go_ret
              exact ⟨rfl, HB8.out⟩
            | false =>
              have hE : applyK A C = (itemK (keyL (ksK A ++ ksC C)) (newU A C), 0) := by
                unfold applyK; rw [if_neg (fun h => h HOK.out), if_neg (by rw [HFF.out]; simp), if_neg (by rw [HFS.out]; simp)]
              obtain ⟨G, hG⟩ : ∃ G, itemK (keyL (ksK A ++ ksC C)) (newU A C) = G := ⟨_, rfl⟩
              rw [hG] at hE
              rw [hE] at HAP
              have HG := Lib.hid hG
              clear hE hG
              dsimp only at HAP
              have hng : G.length ≤ 80 := by
                have h1 := item_len2 (keyL (ksK A ++ ksC C)) (newU A C)
                have h2 := keyL_len (ksK A ++ ksC C)
                rw [HG.out] at h1
                rw [List.length_append, List.length_map, List.length_map, HNA.out, HNC.out] at h2
                omega
              have HGR : Hid (RightK G) := Lib.hid (by rw [← HG.out]; exact item_right _ (asc_keyL _))
              have HGS : Hid (∀ s, sayK G s = newU A C s) := Lib.hid fun s => by rw [← HG.out]; exact good_say HFF.out s
              obtain ⟨ng, hn⟩ : ∃ n, G.length = n := ⟨_, rfl⟩
              rw [hn] at HAP hng
              have HNG := Lib.hid hn
              clear hn HG HFO HFS HSZ
              go_wp2_with (go_at_call 15; (with_reducible refine HAP.out.mono ?_); rintro e w8 ⟨og, cg, rfl, hkv, hb8⟩)
              have HB8 := Lib.hid (HBWR.out.trans (hb8.mono HBWR.out.size)); have HG8 := Lib.hid hkv
              have HC8 := Lib.hid (HCH.out.below hb8)
              have HV8 := Lib.hid (HV3.out.below (HBB.out.trans (hb8.mono HBB.out.size)))
              clear hkv hb8 HAP HCH HX3 HV3 HBB HBW HBWR
              have hR8 := Right_any og G cg w8 (by rw [HNG.out]; omega) HG8.out
              rw [HNG.out, decide_eq_true HGR.out] at hR8
              have HR8 := Lib.hid hR8
              clear hR8
              go_wp2_with (go_at_call 11; (with_reducible refine HR8.out.mono ?_); rintro e w9 ⟨rfl, hb9⟩; have HB9 := Lib.hid (HB8.out.trans (hb9.mono HB8.out.size)); have HG9 := Lib.hid (HG8.out.below hb9); have HC9 := Lib.hid (HC8.out.below hb9); have HV9 := Lib.hid (HV8.out.below hb9); have hI9 := items20_any none [] 0 w9 (by simp) (kv_nil _ _); have HI9 := Lib.hid (show Calls Try.prog 9 #[.slice none 0 0] w9 _ from hI9); clear hb9 HR8 hI9)
              (with_reducible refine HI9.out.mono ?_)
              rintro e w10 ⟨va, vb, rfl, hva, hvb, hb10⟩
              have HRY := Lib.hid (show w10.ownsRow w9.heap.size 50 2 vb 0 (flatK []) from hvb)
              have HBY0 := Lib.hid hb10
              clear hva hvb hb10 HI9 HB8 HG8 HC8 HV8
              obtain ⟨i2, hi2, hy0, hy1, hy2⟩ := info_parts info_ri
              have HI2 := Lib.hid hi2; have HY0 := Lib.hid hy0; have HY1 := Lib.hid hy1; have HY2 := Lib.hid hy2
              have H2 : Hid (YlS G w9 vb (.int .i64 0) w10) := Lib.hid ⟨0, Nat.zero_le _, rfl, HRY.out, HBY0.out⟩
              clear hi2 hy0 hy1 hy2 HRY HBY0
              go_wp2_with fail
              go_loopw [16, 17] (fun v i wr => YlS G w9 v i wr) (fun _ i _ => ng - (intOf i).toNat)
              case atStart => exact H2.out
              case round =>
                obtain ⟨j, hj, rfl, hrow, hb⟩ := hrel
                rw [HNG.out] at hj
                have HROW := Lib.hid hrow; have HBB := Lib.hid hb
                clear hrow hb H2
                by_cases hlt : j < ng
                · obtain ⟨p, hp⟩ : ∃ p, G[j]? = some p := ⟨_, List.getElem?_eq_getElem (by rw [HNG.out]; exact hlt)⟩
                  obtain ⟨_, _, b0, i0, ho, c0', c1'⟩ := (HG9.out.below HBB.out) j p hp
                  subst ho
                  have HP := Lib.hid hp
                  have HLT := Lib.hid hlt
                  have hji : (j : Int) < ng := by omega
                  obtain ⟨p1, p2⟩ := p
                  dsimp only at c0' c1'
                  clear hp hlt
                  go_wp2_with (at_builtin; (refine wpList_append_own _ rfl _ _ 25 rfl w9.heap.size 50 i2 (.agg #[.string ⟨#[]⟩, .string ⟨#[]⟩]) 2 32 Try.underlying25 HI2.out HY0.out HY1.out HY2.out rfl (by decide) _ _ _ rfl (HROW.out.alloc _) ⟨wr.heap.size, 0, none⟩ 1 1 [.string p1, .string p2] rfl rfl (by simpa using cell_two_new wr 50 (.string p1) (.string p2)) two_memK (by unfold maxLen; omega) (by omega) (by have := HBB.out.size; simp; omega) ?_); intro v' w12 hown hgrow _; have HO := Lib.hid hown; have HGW := Lib.hid hgrow; clear hown hgrow)
                  go_roundw
                  case rel => exact ⟨j + 1, by rw [HNG.out]; exact HLT.out, by go_num, by rw [take_get HP.out, flatK_snoc]; exact HO.out, (HBB.out.alloc HBB.out.size _).grown HGW.out (by have := HBB.out.size; simp at this ⊢; omega) (own_base HROW.out)⟩
                  case measure => simp [intOf]; have := HLT.out; omega
                · obtain rfl : j = ng := by omega
                  have hrow2 : wr.ownsRow w9.heap.size 50 2 u16 G.length (flatK G) := by
                    have h := HROW.out
                    rw [List.take_of_length_le (by rw [HNG.out]; exact Nat.le_refl _)] at h
                    rw [HNG.out]; exact h
                  obtain ⟨oy, cy, rfl, hky, _⟩ := own_kvs hrow2 HG9.out.sizes
                  rw [HNG.out]
                  have HY := Lib.hid hky; have HC := Lib.hid (HC9.out.below HBB.out); have HV := Lib.hid (HV9.out.below HBB.out)
                  have HBW := Lib.hid (HB9.out.trans (HBB.out.mono HB9.out.size))
                  have hK := Keys_at ob oy none A G [] cb cy 0 wr (by rw [HNA.out]; omega) (by rw [HNG.out]; omega) (by simp) HV.out hky (kv_nil _ _) _ rfl
                  rw [HNA.out, HNG.out] at hK
                  obtain ⟨KS, hKS⟩ : ∃ KS, ks3 A G [] = KS := ⟨_, rfl⟩
                  rw [hKS] at hK
                  change Calls _ _ #[.slice ob na cb, .slice oy j cy, .slice none 0 0] _ _ at hK
                  have HK := Lib.hid hK
                  have hkn : KS.length ≤ 1000 := by
                    have h := keyL_len (ksK A ++ ksK G)
                    have h2 : ks3 A G [] = keyL (ksK A ++ ksK G) := by unfold ks3; rw [show ksK ([] : List KvB) = [] from rfl, List.append_nil]
                    rw [← hKS, h2]; rw [List.length_append, List.length_map, List.length_map, HNA.out, HNG.out] at h; omega
                  obtain ⟨nk, hnk⟩ : ∃ n, KS.length = n := ⟨_, rfl⟩
                  rw [hnk] at hK hkn HK
                  have HNK := Lib.hid hnk
                  clear hK hKS hnk hky hrow2 hlt HROW HG9 HC9 HV9 HB9
                  go_wp2_with (go_at_call 13; (with_reducible refine HK.out.mono ?_); rintro e w11 ⟨ok, ck, rfl, htx, hb11⟩)
                  have HB11 := Lib.hid (HBW.out.trans (hb11.mono HBW.out.size)); have HY11 := Lib.hid (HY.out.below hb11); have HC11 := Lib.hid (HC.out.below hb11); have HV11 := Lib.hid (HV.out.below hb11); have HT := Lib.hid htx
                  have H3 : Hid (KzS KS w11 (.int .i64 0) w11) := Lib.hid ⟨0, Nat.zero_le _, rfl, Below.refl _ _⟩
                  clear htx hb11 HY HC HV HBW HK HBB HI2 HY0 HY1 HY2
                  (try go_wp2_with fail)
                  go_loopw [19] (fun i wr => KzS KS w11 i wr) (fun i _ => nk - (intOf i).toNat)
                  case atStart => exact H3.out
                  case round =>
                    obtain ⟨m, hm, rfl, hb⟩ := hrel
                    rw [HNK.out] at hm
                    have HBB3 := Lib.hid hb
                    clear hb H3
                    by_cases hlt : m < nk
                    · obtain ⟨s, hs⟩ : ∃ s, KS[m]? = some s := ⟨_, List.getElem?_eq_getElem (by rw [HNK.out]; exact hlt)⟩
                      obtain ⟨hss, b0, i0, ho, c0'⟩ := tx_get (HT.out.below HBB3.out) hs
                      subst ho
                      have hS1 := fun (W : World) (hW : Below wr.heap.size wr W) => Says_any ob A cb s W (by rw [HNA.out]; omega) (HV11.out.below (HBB3.out.trans (hW.mono HBB3.out.size)))
                      have hS2 := fun (W : World) (hW : Below wr.heap.size wr W) => Says_any oy G cy s W (by rw [HNG.out]; omega) (HY11.out.below (HBB3.out.trans (hW.mono HBB3.out.size)))
                      rw [HNA.out] at hS1
                      rw [HNG.out, HGS.out] at hS2
                      obtain ⟨u, hu⟩ : ∃ u, sayK A s = u := ⟨_, rfl⟩
                      obtain ⟨z, hz⟩ : ∃ u, newU A C s = u := ⟨_, rfl⟩
                      rw [hu] at hS1
                      rw [hz] at hS2
                      have HU := Lib.hid hu; have HZ := Lib.hid hz
                      obtain ⟨u1, u2⟩ := u
                      obtain ⟨z1, z2⟩ := z
                      have HS1 := Lib.hid hS1; have HS2 := Lib.hid hS2; have HLT := Lib.hid hlt
                      have HSV : Hid (∀ V : World, Below wr.heap.size wr V → V.cell? ⟨b0, i0 + m, none⟩ = some (.string s)) := Lib.hid fun V hV => (hV.cell (World.block_lt_of_cell? wr _ c0')).trans c0'
                      have hmi : (m : Int) < nk := by omega
                      clear hS1 hS2 hu hz hs hss hlt
                      go_wp2_with (go_at_call 14; refine (HS1.out _ (Below.refl _ _)).mono ?_; rintro e w12 ⟨rfl, hb12⟩; have HB12 := Lib.hid hb12; clear hb12 HS1)
                      have hb13 := HB12.out.alloc HB12.out.size (.cells #[.string u1, .bool u2] 37)
                      have hn13 := World.alloc_heap_new w12 (.cells #[.string u1, .bool u2] 37)
                      generalize w12.alloc (.cells #[.string u1, .bool u2] 37) = w13 at hb13 hn13 ⊢
                      obtain ⟨gs, hgs⟩ : ∃ g, w12.heap.size = g := ⟨_, rfl⟩
                      rw [hgs] at hn13 ⊢
                      have HGE : Hid (wr.heap.size ≤ gs) := Lib.hid (by rw [← hgs]; exact HB12.out.size)
                      obtain ⟨wo, hwo⟩ : ∃ wo, wo = wr := ⟨_, rfl⟩
                      subst hwo
                      have H4 : Hid (WnS A C s gs wo (.int .i64 0) w13) := Lib.hid ⟨0, Nat.zero_le _, rfl, by rw [List.take_zero, new_nil, HU.out]; exact hn13, hb13⟩
                      clear hb13 hn13 hgs HB12 c0'
                      go_loopw [21] (fun i wx => WnS A C s gs wo i wx) (fun i _ => k - (intOf i).toNat)
                      case atStart => exact H4.out
                      case round =>
                        obtain ⟨t, ht, rfl, hbox, hb⟩ := hrel
                        rw [HNC.out] at ht
                        obtain ⟨y, hy⟩ : ∃ y, newU A (C.take t) s = y := ⟨_, rfl⟩
                        rw [hy] at hbox
                        have HYT := Lib.hid hy; have HBX := Lib.hid hbox; have HBB4 := Lib.hid hb
                        obtain ⟨y1, y2⟩ := y
                        dsimp only at HBX
                        clear hy hbox hb H4
                        have e0 : wr.cell? ⟨b0, i0 + m, none⟩ = some (.string s) := HSV.out _ HBB4.out
                        by_cases hlt : t < k
                        · obtain ⟨q, hq⟩ : ∃ q, C[t]? = some q := ⟨_, List.getElem?_eq_getElem (by rw [HNC.out]; exact hlt)⟩
                          obtain ⟨bc, ic, hoc, d0', _, _, d3', d4'⟩ := (HC11.out.below (HBB3.out.trans (HBB4.out.mono HBB3.out.size))) t q hq
                          subst hoc
                          have hnew : newU A (C.take (t + 1)) s = if q.1 = s then q.2.2 else (y1, y2) := by rw [take_get hq, new_snoc (asc_fresh HOK.out.2 hq), HYT.out]
                          obtain ⟨kq, ⟨a1, a2⟩, z1', z2'⟩ := q
                          dsimp only at hnew
                          have d0 : wr.cell? ⟨bc, ic + t * 5, none⟩ = some (.string kq) := d0'
                          have d3 : wr.cell? ⟨bc, ic + t * 5 + 3, none⟩ = some (.string z1') := d3'
                          have d4 : wr.cell? ⟨bc, ic + t * 5 + 4, none⟩ = some (.bool z2') := d4'
                          have HNEW := Lib.hid hnew; have HLT4 := Lib.hid hlt
                          have hti : (t : Int) < k := by omega
                          clear d0' d3' d4' hq hnew hlt
                          by_cases he : kq = s
                          · subst he
                            have HNW : Hid (newU A (C.take (t + 1)) kq = (z1', z2')) := Lib.hid (by rw [HNEW.out, if_pos rfl])
                            clear HNEW
                            go_wp2_with fail
                            go_quiet (fail)
                            (first | (have _h : Nat := nq; clear _h) | rename_i nq)
                            have d3d : (wr.drewN nq).cell? ⟨bc, ic + t * 5 + 3, none⟩ = some (.string z1') := d3
                            have d4d : (wr.drewN nq).cell? ⟨bc, ic + t * 5 + 4, none⟩ = some (.bool z2') := d4
                            have hbx : (wr.drewN nq).heap[gs]? = some (.cells #[.string y1, .bool y2] 37 (0, 0)) := HBX.out
                            have hbd : Below wo.heap.size wo (wr.drewN nq) := below_drewN HBB4.out nq
                            generalize wr.drewN nq = wd at d3d d4d hbx hbd ⊢
                            have s0 : wd.cell? ⟨gs, 0, none⟩ = some (.string y1) := by rw [cell_of_row hbx]; rfl
                            have s1 : wd.cell? ⟨gs, 1, none⟩ = some (.bool y2) := by rw [cell_of_row hbx]; rfl
                            have f0 : wd.frozen? ⟨gs, 0, none⟩ = false := by simp [World.frozen?, hbx]
                            have f1 : wd.frozen? ⟨gs, 1, none⟩ = false := by simp [World.frozen?, hbx]
                            have HBD := Lib.hid hbd; have HBXD := Lib.hid hbx
                            clear hbx hbd d0 d3 d4 e0
                            go_wp2_with fail
                            go_roundw
                            case rel => exact ⟨t + 1, by rw [HNC.out]; exact HLT4.out, by go_num, by rw [HNW.out]; exact two_cells HBXD.out _ _, HBD.out.grown (two_set wd gs _ _) HBD.out.size (fun j hj => by injection hj with hj; subst hj; exact HGE.out)⟩
                            case measure => simp [intOf]; have := HLT4.out; omega
                          · have HNW : Hid (newU A (C.take (t + 1)) s = (y1, y2)) := Lib.hid (by rw [HNEW.out, if_neg he])
                            have hne : (kq.toList == s.toList) = false := by rw [beq_eq_false_iff_ne]; exact fun e => he (toL_inj e)
                            clear HNEW he
                            go_wp2_with fail
                            go_quiet (fail)
                            (first | (have _h : Nat := nq; clear _h) | rename_i nq)
                            go_wp2_with fail
                            go_roundw
                            case rel => exact ⟨t + 1, by rw [HNC.out]; exact HLT4.out, by go_num, by rw [HNW.out]; exact HBX.out, below_drewN HBB4.out _⟩
                            case measure => simp [intOf]; have := HLT4.out; omega
                        · obtain rfl : t = k := by omega
                          have hyz : (y1, y2) = (z1, z2) := by rw [← HYT.out, ← HZ.out, List.take_of_length_le (by rw [HNC.out]; exact Nat.le_refl _)]
                          injection hyz with hyz1 hyz2
                          subst hyz1 hyz2
                          have q0 : wr.cell? ⟨gs, 0, none⟩ = some (.string y1) := by rw [cell_of_row HBX.out]; rfl
                          have q1 : wr.cell? ⟨gs, 1, none⟩ = some (.bool y2) := by rw [cell_of_row HBX.out]; rfl
                          have hne : ∀ V : World, (binOp .neq 37 (sdV (y1, y2)) (sdV (y1, y2))).run Try.prog V = .ok (.bool false) V := fun V => by rw [run_ne_rs, decide_eq_true rfl]; rfl
                          (try dsimp only at hne)
                          have HKP : Hid (∀ V : World, Below wr.heap.size wr V → V.cell? ⟨b0, i0 + m, none⟩ = some (.string s) ∧ V.cell? ⟨gs, 0, none⟩ = some (.string y1) ∧ V.cell? ⟨gs, 1, none⟩ = some (.bool y2)) := Lib.hid fun V hV => ⟨(hV.cell (World.block_lt_of_cell? _ _ e0)).trans e0, (hV.cell (World.block_lt_of_cell? _ _ q0)).trans q0, (hV.cell (World.block_lt_of_cell? _ _ q1)).trans q1⟩
                          have HBV : Hid (∀ V : World, Below wr.heap.size wr V → Below wo.heap.size wo V) := Lib.hid fun V hV => HBB4.out.trans (hV.mono HBB4.out.size)
                          clear hlt
                          go_wp2_with fail
                          have hV0 : Below wr.heap.size wr wr.drew := (Below.refl _ _).drew
                          go_region_held3 (fun w' => Below wr.heap.size wr w' ∧ w'.cell? ⟨b0, i0 + m, none⟩ = some (.string s) ∧ w'.cell? ⟨gs, 0, none⟩ = some (.string y1) ∧ w'.cell? ⟨gs, 1, none⟩ = some (.bool y2)) (first | exact ⟨hV0, HKP.out _ hV0⟩ | exact ⟨hV6, HKP.out _ hV6⟩) ((go_at_call 14; refine (HS2.out _ (HBV.out _ hV0)).mono ?_; rintro e w6 ⟨rfl, hb6⟩; have hV6 : Below wr.heap.size wr w6 := hV0.trans (hb6.mono hV0.size)))
                          have HBZ := Lib.hid (HBB3.out.trans ((HBV.out _ hV6).mono HBB3.out.size))
                          clear hV0 hV6 hb6 hne q0 q1 e0
                          go_wp2_with fail
                          go_roundw
                          case rel => exact ⟨m + 1, by rw [HNK.out]; exact HLT.out, by go_num, HBZ.out⟩
                          case measure => simp [intOf]; have := HLT.out; omega
                    · obtain rfl : m = nk := by omega
                      obtain ⟨wz, hwz⟩ : ∃ wz, wz = wr := ⟨_, rfl⟩
                      subst hwz
                      have HBQ := Lib.hid (HB11.out.trans (HBB3.out.mono HB11.out.size)); have HC5 := Lib.hid (HC11.out.below HBB3.out); have HY5 := Lib.hid (HY11.out.below HBB3.out)
                      have H5 : Hid (CyS C wz (.int .i64 0) wz) := Lib.hid ⟨0, Nat.zero_le _, rfl, Below.refl _ _⟩
                      clear HC11 HY11 HV11 HT HB11 HBB3 hlt
                      go_wp2_with fail
                      go_loopw [22] (fun i wx => CyS C wz i wx) (fun i _ => k - (intOf i).toNat)
                      case atStart => exact H5.out
                      case round =>
                        obtain ⟨t, ht, rfl, hb⟩ := hrel
                        rw [HNC.out] at ht
                        have HBB5 := Lib.hid hb
                        clear hb H5
                        by_cases hlt : t < k
                        · obtain ⟨q, hq⟩ : ∃ q, C[t]? = some q := ⟨_, List.getElem?_eq_getElem (by rw [HNC.out]; exact hlt)⟩
                          obtain ⟨bc, ic, hoc, d0', _, _, d3', d4'⟩ := (HC5.out.below HBB5.out) t q hq
                          subst hoc
                          have hsq : sayK G q.1 = q.2.2 := by rw [HGS.out]; exact new_mem HOK.out.2 (List.mem_of_getElem? hq)
                          have hS2 := fun (W : World) (hW : Below wr.heap.size wr W) => Says_any oy G cy q.1 W (by rw [HNG.out]; omega) (HY5.out.below (HBB5.out.trans (hW.mono HBB5.out.size)))
                          rw [HNG.out, hsq] at hS2
                          obtain ⟨kq, ⟨a1, a2⟩, z1', z2'⟩ := q
                          have d0 : wr.cell? ⟨bc, ic + t * 5, none⟩ = some (.string kq) := d0'
                          have d3 : wr.cell? ⟨bc, ic + t * 5 + 3, none⟩ = some (.string z1') := d3'
                          have d4 : wr.cell? ⟨bc, ic + t * 5 + 4, none⟩ = some (.bool z2') := d4'
                          dsimp only at hS2
                          have HS2 := Lib.hid hS2; have HLT5 := Lib.hid hlt
                          have hti : (t : Int) < k := by omega
                          have hne : ∀ V : World, (binOp .neq 37 (sdV (z1', z2')) (sdV (z1', z2'))).run Try.prog V = .ok (.bool false) V := fun V => by rw [run_ne_rs, decide_eq_true rfl]; rfl
                          (try dsimp only at hne)
                          have HKP : Hid (∀ V : World, Below wr.heap.size wr V → V.cell? ⟨bc, ic + t * 5, none⟩ = some (.string kq) ∧ V.cell? ⟨bc, ic + t * 5 + 3, none⟩ = some (.string z1') ∧ V.cell? ⟨bc, ic + t * 5 + 4, none⟩ = some (.bool z2')) := Lib.hid fun V hV => ⟨(hV.cell (World.block_lt_of_cell? _ _ d0)).trans d0, (hV.cell (World.block_lt_of_cell? _ _ d3)).trans d3, (hV.cell (World.block_lt_of_cell? _ _ d4)).trans d4⟩
                          clear d0' d3' d4' hq hsq hS2 hlt
                          go_wp2_with fail
                          have hV0 : Below wr.heap.size wr wr.drew := (Below.refl _ _).drew
                          go_region_held3 (fun w' => Below wr.heap.size wr w' ∧ w'.cell? ⟨bc, ic + t * 5, none⟩ = some (.string kq) ∧ w'.cell? ⟨bc, ic + t * 5 + 3, none⟩ = some (.string z1') ∧ w'.cell? ⟨bc, ic + t * 5 + 4, none⟩ = some (.bool z2')) (first | exact ⟨hV0, HKP.out _ hV0⟩ | exact ⟨hV6, HKP.out _ hV6⟩) ((go_at_call 14; refine (HS2.out _ hV0).mono ?_; rintro e w6 ⟨rfl, hb6⟩; have hV6 : Below wr.heap.size wr w6 := hV0.trans (hb6.mono hV0.size)))
                          have HBZ := Lib.hid (HBB5.out.trans (hV6.mono HBB5.out.size))
                          clear hV0 hV6 hb6 hne d0 d3 d4
                          go_wp2_with fail
                          go_roundw
                          case rel => exact ⟨t + 1, by rw [HNC.out]; exact HLT5.out, by go_num, HBZ.out⟩
                          case measure => simp [intOf]; have := HLT5.out; omega
                        · obtain rfl : t = k := by omega
                          have HBE := Lib.hid (HBQ.out.trans (HBB5.out.mono HBQ.out.size))
                          clear hlt
                          go_wp2_with fail
                          go_ret
                          exact ⟨rfl, HBE.out⟩
end Go.Proofs.Ythkcmdlfdaggmaa
