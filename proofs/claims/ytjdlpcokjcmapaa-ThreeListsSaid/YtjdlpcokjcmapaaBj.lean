/- Three texts: a piece of them. -/
import Derived.Test.YtjdlpcokjcmapaaBi
set_option linter.unusedVariables false
set_option linter.unusedSimpArgs false
namespace Go.Proofs.Ytjdlpcokjcmapaa
open Go.RowKit Go.Maps Go.WideShapes
variable {w w' : World}

theorem row_apart {w : World} {B B' : Nat} {t t' : TypeId} {v v' : Value} {n n' s s' : Nat} {xs ys : List Value} (h : w.ownsRow B t s v n xs) (h' : w.ownsRow B' t' s' v' n' ys) (hne : t ≠ t') : ∀ g, v.ownBlock = some g → v'.ownBlock ≠ some g := fun g hg => by
  rcases h.2 with ⟨h1, _⟩ | ⟨g1, cap, cur, h1, _, hg1, _⟩
  · subst h1; cases hg
  · subst h1
    rcases h'.2 with ⟨h2, _⟩ | ⟨g', cap', cur', h2, _, hg', _⟩
    · subst h2; simp [Value.ownBlock]
    · subst h2
      intro e
      have e1 : g1 = g := by simpa [Value.ownBlock] using hg
      have e2 : g' = g := by simpa [Value.ownBlock] using e
      subst e1; subst e2
      rw [hg1] at hg'
      injection hg' with hg'; injection hg' with _ h3
      exact hne h3
/-- What a piece makes of what was made, and of the number of hunks. -/
def pcO (out S X Y : List ByteArray) : List ByteArray := if X = Y ∨ Y = S then out ++ X else if X = S then out ++ Y else out
def pcN (n : Nat) (S X Y : List ByteArray) : Nat := if X = Y ∨ Y = S then n else if X = S then n else n + 1
/-- The two boxes: of what is made, and of the hunks. -/
structure LnI (B0 B1 bm bh : Nat) (out : List ByteArray) (nb : Nat) (w : World) : Prop where
  le1 : B0 ≤ bm ∧ B0 ≤ bh
  lt1 : bm < B1 ∧ bh < B1
  size : B1 ≤ w.heap.size
  ne1 : bm ≠ bh
  box : ∃ v, w.heap[bm]? = some (.cells #[v] 22 (0, 0)) ∧ w.ownsRow B1 9 1 v out.length (strV out)
  boxh : ∃ u hs, w.heap[bh]? = some (.cells #[u] 32 (0, 0)) ∧ w.ownsRow B1 39 3 u nb hs
theorem LnI.below {B0 B1 bm bh nb : Nat} {out : List ByteArray} (h : LnI B0 B1 bm bh out nb w) (hb : Below w.heap.size w w') : LnI B0 B1 bm bh out nb w' := by
  obtain ⟨h1, h2, h3, h4, ⟨v, h5, h6⟩, u, hs, h7, h8⟩ := h
  exact ⟨h1, h2, Nat.le_trans h3 hb.size, h4, ⟨v, (hb.block bm (by omega)).trans h5, own_below h6 hb⟩, u, hs, (hb.block bh (by omega)).trans h7, own_below h8 hb⟩
theorem LnI.setM {B0 B1 bm bh nb n' : Nat} {out out' : List ByteArray} {v v' : Value} {w1 : World} (h : LnI B0 B1 bm bh out nb w) (hbm : w.heap[bm]? = some (.cells #[v] 22 (0, 0))) (hown : w.ownsRow B1 9 1 v out.length (strV out)) (hg : w.grownBy w1 v.ownBlock) (hown1 : w1.ownsRow B1 9 1 v' n' (strV out')) (hn : n' = out'.length) :
    LnI B0 B1 bm bh out' nb (w1.setCell ⟨bm, 0, none⟩ v') ∧ Below B0 w (w1.setCell ⟨bm, 0, none⟩ v') := by
  subst hn
  have hb := h.size
  obtain ⟨l1, l2⟩ := h.lt1
  obtain ⟨m1, m2⟩ := h.le1
  have n1 := h.ne1
  obtain ⟨u, hs, k1, k2⟩ := h.boxh
  have h7 : ∀ k, v.ownBlock = some k → B1 ≤ k := fun k hk => (hown.lt k hk).1
  have hk1 : ∀ k, k < B1 → w1.heap[k]? = w.heap[k]? := fun k hk => hg.block k (by omega) (fun e => by have := h7 k e.symm; omega)
  have hss := set_grow w1 bm 0 v'
  have hB0 : B0 ≤ w.heap.size := by omega
  have hbel : Below B0 w (w1.setCell ⟨bm, 0, none⟩ v') := ((Below.refl B0 w).grown hg hB0 (fun k e => by have := h7 k e; omega)).grown hss (by have := hg.size; omega) (fun k e => by injection e with e; omega)
  have hap := row_apart k2 hown (by decide)
  refine ⟨⟨h.le1, h.lt1, ?_, h.ne1, ⟨v', set_row v' ((hk1 bm l1).trans hbm), own_grown hown1 hss (fun g e => by injection e with e; omega)⟩, u, hs, ?_, ?_⟩, hbel⟩
  · have := hbel.size; omega
  · exact (hss.block bh (by have := hg.size; omega) (fun e => by injection e with e; exact n1 e.symm)).trans ((hk1 bh l2).trans k1)
  · refine own_grown (own_keep k2 fun k hk => ?_) hss (fun g e => by injection e with e; omega)
    exact hg.block k (k2.lt k hk).2 (fun e => hap k hk e.symm)
theorem LnI.setH {B0 B1 bm bh nb : Nat} {out : List ByteArray} {u u' : Value} {w1 : World} {hs hs' : List Value} (h : LnI B0 B1 bm bh out nb w) (hbh : w.heap[bh]? = some (.cells #[u] 32 (0, 0))) (hown : w.ownsRow B1 39 3 u nb hs) (hg : w.grownBy w1 u.ownBlock) (hown1 : w1.ownsRow B1 39 3 u' (nb + 1) hs') :
    LnI B0 B1 bm bh out (nb + 1) (w1.setCell ⟨bh, 0, none⟩ u') ∧ Below B0 w (w1.setCell ⟨bh, 0, none⟩ u') := by
  have hb := h.size
  obtain ⟨l1, l2⟩ := h.lt1
  obtain ⟨m1, m2⟩ := h.le1
  have n1 := h.ne1
  obtain ⟨v, k1, k2⟩ := h.box
  have h7 : ∀ k, u.ownBlock = some k → B1 ≤ k := fun k hk => (hown.lt k hk).1
  have hk1 : ∀ k, k < B1 → w1.heap[k]? = w.heap[k]? := fun k hk => hg.block k (by omega) (fun e => by have := h7 k e.symm; omega)
  have hss := set_grow w1 bh 0 u'
  have hB0 : B0 ≤ w.heap.size := by omega
  have hbel : Below B0 w (w1.setCell ⟨bh, 0, none⟩ u') := ((Below.refl B0 w).grown hg hB0 (fun k e => by have := h7 k e; omega)).grown hss (by have := hg.size; omega) (fun k e => by injection e with e; omega)
  have hap := row_apart k2 hown (by decide)
  refine ⟨⟨h.le1, h.lt1, ?_, h.ne1, ⟨v, ?_, ?_⟩, u', hs', set_row u' ((hk1 bh l2).trans hbh), own_grown hown1 hss (fun g e => by injection e with e; omega)⟩, hbel⟩
  · have := hbel.size; omega
  · exact (hss.block bm (by have := hg.size; omega) (fun e => by injection e with e; exact n1 e)).trans ((hk1 bm l1).trans k1)
  · refine own_grown (own_keep k2 fun k hk => ?_) hss (fun g e => by injection e with e; omega)
    exact hg.block k (k2.lt k hk).2 (fun e => hap k hk e.symm)
theorem info_hk : (Try.prog.info? 39).map (fun i => (i.zero, i.size, i.bytes)) = some (some (.agg #[.slice none 0 0, .slice none 0 0, .slice none 0 0]), 3, 72) := by kernel_rfl
theorem cell_three_hk (w : World) (t : TypeId) (a b c : Value) : ∀ (j : Nat) (u : Value), [a, b, c][j]? = some u → (w.alloc (.cells #[a, b, c] t)).cell? ((⟨w.heap.size, 0, none⟩ : Addr).add j) = some u := fun j u h => by
  rw [addr_at, cell_of_row (World.alloc_heap_new w _)]
  match j, h with
  | 0, h => exact h
  | 1, h => exact h
  | 2, h => exact h
set_option maxHeartbeats 4000000 in
set_option maxRecDepth 100000 in
theorem piece_any (B0 B1 bm bh nb : Nat) (out S X Y : List ByteArray) (oS oX oY : Option Addr) (cS cX cY : Nat) (w : World) (hlS : S.length ≤ 100000) (hlX : X.length ≤ 100000) (hlY : Y.length ≤ 100000) (hS : TxAt w oS S) (hX : TxAt w oX X) (hY : TxAt w oY Y) (hlo : out.length ≤ 1000000) (hln : nb ≤ 1000000) (h : LnI B0 B1 bm bh out nb w) :
    Calls Try.prog 27 #[.slice oS S.length cS, .slice oX X.length cX, .slice oY Y.length cY, ptr bm, ptr bh] w fun e w' => e = .returned (.tuple #[]) ∧ LnI B0 B1 bm bh (pcO out S X Y) (pcN nb S X Y) w' ∧ Below B0 w w' := by
  have h3 := settled_any oS oX oY S X Y cS cX cY w (by unfold maxLen; omega) (by unfold maxLen; omega) (by unfold maxLen; omega) hS hX hY
  have HH := Lib.hid h
  have HB0 : Hid (B0 ≤ w.heap.size) := Lib.hid (by have h1 := h.size; have h2 := h.le1; have h4 := h.lt1; omega)
  obtain ⟨nS, hnS⟩ : ∃ n, S.length = n := ⟨_, rfl⟩
  obtain ⟨nX, hnX⟩ : ∃ n, X.length = n := ⟨_, rfl⟩
  obtain ⟨nY, hnY⟩ : ∃ n, Y.length = n := ⟨_, rfl⟩
  have HNX := Lib.hid hnX; have HNY := Lib.hid hnY
  have HXA : Hid (∀ q, TxAt (w.drewN q) oX X) := Lib.hid (fun q => hX.below (below_drewN (Below.refl _ _) q))
  have HYA : Hid (∀ q, TxAt (w.drewN q) oY Y) := Lib.hid (fun q => hY.below (below_drewN (Below.refl _ _) q))
  have HCS : Hid (∀ W, Below w.heap.size w W → Calls Try.prog 21 #[.slice oS nS cS] W fun e w' => ∃ a c, e = .returned (.slice a nS c) ∧ Below W.heap.size W w') := Lib.hid (fun W hW => by
    have h := Clone_at oS S cS W (by omega) (hS.below hW)
    rw [hnS] at h
    refine h.mono ?_
    rintro e w' ⟨v, rfl, hr, hb⟩
    obtain ⟨a, c, rfl, _⟩ := own_at hr
    exact ⟨a, c, rfl, hb⟩)
  have HCX : Hid (∀ W, Below w.heap.size w W → Calls Try.prog 21 #[.slice oX nX cX] W fun e w' => ∃ a c, e = .returned (.slice a nX c) ∧ Below W.heap.size W w') := Lib.hid (fun W hW => by
    have h := Clone_at oX X cX W (by omega) (hX.below hW)
    rw [hnX] at h
    refine h.mono ?_
    rintro e w' ⟨v, rfl, hr, hb⟩
    obtain ⟨a, c, rfl, _⟩ := own_at hr
    exact ⟨a, c, rfl, hb⟩)
  have HCY : Hid (∀ W, Below w.heap.size w W → Calls Try.prog 21 #[.slice oY nY cY] W fun e w' => ∃ a c, e = .returned (.slice a nY c) ∧ Below W.heap.size W w') := Lib.hid (fun W hW => by
    have h := Clone_at oY Y cY W (by omega) (hY.below hW)
    rw [hnY] at h
    refine h.mono ?_
    rintro e w' ⟨v, rfl, hr, hb⟩
    obtain ⟨a, c, rfl, _⟩ := own_at hr
    exact ⟨a, c, rfl, hb⟩)
  rw [hnX] at hlX; rw [hnY] at hlY
  rw [hnS, hnX, hnY] at h3 ⊢
  have H3 := Lib.hid h3
  clear h3 h hS hX hY hnS hnX hnY hlS
  by_cases hs1 : X = Y ∨ Y = S
  · have HO : Hid (pcO out S X Y = out ++ X) := Lib.hid (by unfold pcO; rw [if_pos hs1])
    have HNN : Hid (pcN nb S X Y = nb) := Lib.hid (by unfold pcN; rw [if_pos hs1])
    have hsv : setV S X Y (.slice oX nX cX) (.slice oY nY cY) = .tuple #[.slice oX nX cX, .bool true] := by unfold setV; rw [if_pos hs1]
    rw [hsv] at H3
    clear hsv hs1
    go_enter Try.func27, Try.ntmps27
    go_upto_region 2 with (go_at_call 20; (with_reducible refine H3.out.mono ?_); rintro e w2 ⟨rfl, q, hq⟩; have HQ := Lib.hid hq; clear hq H3)
    have HQ2 := HQ.out
    subst HQ2
    have hI2 := HH.out.below (below_drewN (Below.refl _ _) q)
    have hbw : Below w.heap.size w (w.drewN q) := below_drewN (Below.refl _ _) q
    have hZ := HXA.out q
    generalize w.drewN q = w2 at hI2 hbw hZ ⊢
    obtain ⟨v, hbm, hown⟩ := hI2.box
    obtain ⟨v', w1, hr, hrow, hg, _⟩ := app_row cX hown hZ (by omega) (by rw [HNX.out]; omega) hI2.size
    obtain ⟨av, cv, hvv, _⟩ := own_at hrow
    subst hvv
    rw [HNX.out] at hr hrow
    have hbm1 : w1.heap[bm]? = some (.cells #[v] 22 (0, 0)) := (hg.block bm (lt_of_some hbm) (fun e => by have h1 := (hown.lt bm e.symm).1; have h2 := HH.out.lt1; omega)).trans hbm
    have cm2 : w2.cell? ⟨bm, 0, none⟩ = some v := by rw [cell_of_row hbm]; rfl
    have cm1 : w1.cell? ⟨bm, 0, none⟩ = some v := by rw [cell_of_row hbm1]; rfl
    have fm1 : w1.frozen? ⟨bm, 0, none⟩ = false := by simp [World.frozen?, hbm1]
    obtain ⟨hE1, hE2⟩ := hI2.setM hbm hown hg (out' := out ++ X) (by unfold strV; rw [List.map_append]; exact hrow) (by rw [List.length_append, HNX.out])
    have HE1 := Lib.hid hE1
    have HE2 := Lib.hid ((hbw.mono HB0.out).trans hE2)
    have HR := Lib.hid hr
    clear hE1 hE2 hr hrow hg hbm hown hbm1 hI2 hbw hZ
    go_wp2_with (at_builtin; refine Lib.wpList_append_run _ rfl _ _ _ _ rfl _ _ rfl rfl _ _ (HR.out _) ?_)
    go_end0
    exact ⟨rfl, by rw [HO.out, HNN.out]; exact HE1.out, HE2.out⟩
  · by_cases hs2 : X = S
    · have HO : Hid (pcO out S X Y = out ++ Y) := Lib.hid (by unfold pcO; rw [if_neg hs1, if_pos hs2])
      have HNN : Hid (pcN nb S X Y = nb) := Lib.hid (by unfold pcN; rw [if_neg hs1, if_pos hs2])
      have hsv : setV S X Y (.slice oX nX cX) (.slice oY nY cY) = .tuple #[.slice oY nY cY, .bool true] := by unfold setV; rw [if_neg hs1, if_pos hs2]
      rw [hsv] at H3
      clear hsv hs1 hs2
      go_enter Try.func27, Try.ntmps27
      go_upto_region 2 with (go_at_call 20; (with_reducible refine H3.out.mono ?_); rintro e w2 ⟨rfl, q, hq⟩; have HQ := Lib.hid hq; clear hq H3)
      have HQ2 := HQ.out
      subst HQ2
      have hI2 := HH.out.below (below_drewN (Below.refl _ _) q)
      have hbw : Below w.heap.size w (w.drewN q) := below_drewN (Below.refl _ _) q
      have hZ := HYA.out q
      generalize w.drewN q = w2 at hI2 hbw hZ ⊢
      obtain ⟨v, hbm, hown⟩ := hI2.box
      obtain ⟨v', w1, hr, hrow, hg, _⟩ := app_row cY hown hZ (by omega) (by rw [HNY.out]; omega) hI2.size
      obtain ⟨av, cv, hvv, _⟩ := own_at hrow
      subst hvv
      rw [HNY.out] at hr hrow
      have hbm1 : w1.heap[bm]? = some (.cells #[v] 22 (0, 0)) := (hg.block bm (lt_of_some hbm) (fun e => by have h1 := (hown.lt bm e.symm).1; have h2 := HH.out.lt1; omega)).trans hbm
      have cm2 : w2.cell? ⟨bm, 0, none⟩ = some v := by rw [cell_of_row hbm]; rfl
      have cm1 : w1.cell? ⟨bm, 0, none⟩ = some v := by rw [cell_of_row hbm1]; rfl
      have fm1 : w1.frozen? ⟨bm, 0, none⟩ = false := by simp [World.frozen?, hbm1]
      obtain ⟨hE1, hE2⟩ := hI2.setM hbm hown hg (out' := out ++ Y) (by unfold strV; rw [List.map_append]; exact hrow) (by rw [List.length_append, HNY.out])
      have HE1 := Lib.hid hE1
      have HE2 := Lib.hid ((hbw.mono HB0.out).trans hE2)
      have HR := Lib.hid hr
      clear hE1 hE2 hr hrow hg hbm hown hbm1 hI2 hbw hZ
      go_wp2_with (at_builtin; refine Lib.wpList_append_run _ rfl _ _ _ _ rfl _ _ rfl rfl _ _ (HR.out _) ?_)
      go_end0
      exact ⟨rfl, by rw [HO.out, HNN.out]; exact HE1.out, HE2.out⟩
    · have HO : Hid (pcO out S X Y = out) := Lib.hid (by unfold pcO; rw [if_neg hs1, if_neg hs2])
      have HNN : Hid (pcN nb S X Y = nb + 1) := Lib.hid (by unfold pcN; rw [if_neg hs1, if_neg hs2])
      have hsv : setV S X Y (.slice oX nX cX) (.slice oY nY cY) = .tuple #[.slice none 0 0, .bool false] := by unfold setV; rw [if_neg hs1, if_neg hs2]
      rw [hsv] at H3
      obtain ⟨i2, hi2, hy0, hy1, hy2⟩ := info_parts info_hk
      have HI2 := Lib.hid hi2; have HY0 := Lib.hid hy0; have HY1 := Lib.hid hy1; have HY2 := Lib.hid hy2
      clear hsv hs1 hs2 hi2 hy0 hy1 hy2
      go_enter Try.func27, Try.ntmps27
      go_upto_region 3 with (go_at_call 20; (with_reducible refine H3.out.mono ?_); rintro e w2 ⟨rfl, q, hq⟩; have HQ := Lib.hid hq; clear hq H3)
      have HQ2 := HQ.out
      subst HQ2
      have hI2 := HH.out.below (below_drewN (Below.refl _ _) q)
      have hbw : Below w.heap.size w (w.drewN q) := below_drewN (Below.refl _ _) q
      generalize w.drewN q = w2 at hI2 hbw ⊢
      obtain ⟨u, hs, hbh, hown⟩ := hI2.boxh
      have ch2 : w2.cell? ⟨bh, 0, none⟩ = some u := by rw [cell_of_row hbh]; rfl
      have HKC : Hid (∀ V : World, Below w2.heap.size w2 V → V.cell? ⟨bh, 0, none⟩ = some u) := Lib.hid fun V hV => (hV.cell (World.block_lt_of_cell? _ _ ch2)).trans ch2
      have HBW := Lib.hid hbw
      have HBV : Hid (∀ V : World, Below w2.heap.size w2 V → Below w.heap.size w V) := Lib.hid fun V hV => hbw.trans (hV.mono hbw.size)
      have hV0 : Below w2.heap.size w2 w2.drew := (Below.refl _ _).drew

      refine wp_region_held_drew (S := fun w' => True) (by kernel_rfl) trivial (fun _ => ?_)
      refine wpAnyH_take (i := 1) (v := ?_) rfl (by kernel_rfl) (by kernel_rfl) (by kernel_rfl) (fun _ _ _ h => h) (Or.inl ⟨by rfl, ?_⟩) trivial ?_
      rotate_left
      · intro wq hSw; (try dsimp only at hSw); go_split_ands; go_simp; try with_reducible rfl
      try simp only [Act.put, List.setIfInBounds_toArray, List.set_cons_zero, List.set_cons_succ, List.getElem_toArray, List.getElem_cons_zero, List.getElem_cons_succ]
      refine wpAnyH_take (i := 3) (v := ?_) rfl (by kernel_rfl) (by kernel_rfl) (by kernel_rfl) (fun _ _ _ h => h) (Or.inl ⟨by rfl, ?_⟩) trivial ?_
      rotate_left
      · intro wq hSw; (try dsimp only at hSw); go_split_ands; go_simp; try with_reducible rfl
      try simp only [Act.put, List.setIfInBounds_toArray, List.set_cons_zero, List.set_cons_succ, List.getElem_toArray, List.getElem_cons_zero, List.getElem_cons_succ]
      refine wpAnyH_take (i := 5) (v := ?_) rfl (by kernel_rfl) (by kernel_rfl) (by kernel_rfl) (fun _ _ _ h => h) (Or.inl ⟨by rfl, ?_⟩) trivial ?_
      rotate_left
      · intro wq hSw; (try dsimp only at hSw); go_split_ands; go_simp; try with_reducible rfl
      try simp only [Act.put, List.setIfInBounds_toArray, List.set_cons_zero, List.set_cons_succ, List.getElem_toArray, List.getElem_cons_zero, List.getElem_cons_succ]
      refine wpAnyH_ready (rs := [0, 2]) (by kernel_rfl) (by simp) ?_
      refine AllReadyH.cons (o := _) rfl (fun K hK => ?_) (AllReadyH.cons (o := _) rfl (fun K hK => ?_) AllReadyH.nil)
      · have ch := HKC.out _ hV0
        go_simp
        refine hK.out _ _ trivial (fun _ => ?_)
        refine wpAnyH_ready (rs := [2]) (by kernel_rfl) (by simp) ?_
        refine AllReadyH.cons (o := _) rfl (fun K hK => ?_) AllReadyH.nil
        go_simp
        refine (HCS.out _ (HBV.out _ hV0)).mono ?_
        rintro e w3 ⟨aw3, cw3, rfl, hbw3⟩
        have hV3 : Below w2.heap.size w2 w3 := hV0.trans (hbw3.mono hV0.size)
        refine hK.out _ _ trivial (fun _ => ?_)
        refine wpAnyH_ready (rs := [4]) (by kernel_rfl) (by simp) ?_
        refine AllReadyH.cons (o := _) rfl (fun K hK => ?_) AllReadyH.nil
        go_simp
        refine (HCX.out _ (HBV.out _ hV3)).mono ?_
        rintro e w4 ⟨aw4, cw4, rfl, hbw4⟩
        have hV4 : Below w2.heap.size w2 w4 := hV3.trans (hbw4.mono hV3.size)
        refine hK.out _ _ trivial (fun _ => ?_)
        refine wpAnyH_ready (rs := [6]) (by kernel_rfl) (by simp) ?_
        refine AllReadyH.cons (o := _) rfl (fun K hK => ?_) AllReadyH.nil
        go_simp
        refine (HCY.out _ (HBV.out _ hV4)).mono ?_
        rintro e w5 ⟨aw5, cw5, rfl, hbw5⟩
        have hV5 : Below w2.heap.size w2 w5 := hV4.trans (hbw5.mono hV4.size)
        refine hK.out _ _ trivial (fun _ => ?_)
        refine wpAnyH_take (i := 7) (v := ?_) rfl (by kernel_rfl) (by kernel_rfl) (by kernel_rfl) (fun _ _ _ h => h) (Or.inl ⟨by rfl, ?_⟩) trivial ?_
        rotate_left
        · intro wq hSw; (try dsimp only at hSw); go_split_ands; go_simp; try with_reducible rfl
        try simp only [Act.put, List.setIfInBounds_toArray, List.set_cons_zero, List.set_cons_succ, List.getElem_toArray, List.getElem_cons_zero, List.getElem_cons_succ]
        refine wpAnyH_ready (rs := [8]) (by kernel_rfl) (by simp) ?_
        refine AllReadyH.cons (o := _) rfl (fun K hK => ?_) AllReadyH.nil
        go_simp
        have hV6 := hV5.alloc hV5.size (.cells #[.slice aw3 nS cw3, .slice aw4 nX cw4, .slice aw5 nY cw5] 39)
        have hn6 := World.alloc_heap_new w5 (.cells #[.slice aw3 nS cw3, .slice aw4 nX cw4, .slice aw5 nY cw5] 39)
        have hnews := cell_three_hk w5 39 (.slice aw3 nS cw3) (.slice aw4 nX cw4) (.slice aw5 nY cw5)
        generalize w5.alloc (.cells #[.slice aw3 nS cw3, .slice aw4 nX cw4, .slice aw5 nY cw5] 39) = w6 at hV6 hn6 hnews ⊢
        refine hK.out _ _ trivial (fun _ => ?_)
        refine wpAnyH_ready (rs := [9]) (by kernel_rfl) (by simp) ?_
        refine AllReadyH.cons (o := _) rfl (fun K hK => ?_) AllReadyH.nil
        refine step_append_lies _ rfl (.tmp 21) (.tmp 29) 32 rfl B1 39 i2 _ 3 72 Try.underlying32 HI2.out HY0.out HY1.out HY2.out rfl (by decide) u nb hs (by simp [Act.eval, Act.put]) (own_below hown hV6) ⟨w5.heap.size, 0, none⟩ 1 1 [.slice aw3 nS cw3, .slice aw4 nX cw4, .slice aw5 nY cw5] (by simp [Act.eval, Act.put]) rfl hnews (by intro x hx; simp at hx; rcases hx with rfl | rfl | rfl <;> rfl) (by decide) (by unfold maxLen; omega) (by omega) (Nat.le_trans hI2.size hV6.size) w6.heap.size rfl ?_; intro gB cB w7 hown7 hgrow7 hat7 hlt7
        have hbh6 : w6.heap[bh]? = some (.cells #[u] 32 (0, 0)) := (hV6.block bh (lt_of_some hbh)).trans hbh
        have hbh7 : w7.heap[bh]? = some (.cells #[u] 32 (0, 0)) := (hgrow7.block bh (lt_of_some hbh6) (fun e => by have h1 := (hown.lt bh e.symm).1; have h2 := HH.out.lt1; omega)).trans hbh6
        have ch7 : w7.cell? ⟨bh, 0, none⟩ = some u := by rw [cell_of_row hbh7]; rfl
        have fh7 : w7.frozen? ⟨bh, 0, none⟩ = false := by simp [World.frozen?, hbh7]
        obtain ⟨hE1, hE2⟩ := (hI2.below hV6).setH hbh6 (own_below hown hV6) hgrow7 hown7
        have HE1 := Lib.hid hE1
        have HE2 := Lib.hid (((HBV.out _ hV6).mono HB0.out).trans hE2)
        clear hE1 hE2 hown7 hgrow7 hat7 hlt7
        refine hK.out _ _ trivial (fun _ => ?_)
        refine wpAnyH_ready (rs := [10]) (by kernel_rfl) (by simp) ?_
        refine AllReadyH.cons (o := _) rfl (fun K hK => ?_) AllReadyH.nil
        go_simp
        refine hK.out _ _ trivial (fun _ => ?_)
        refine wpAnyH_done (by kernel_rfl) ?_ _
        go_end0
        exact ⟨rfl, by rw [HO.out, HNN.out]; exact HE1.out, HE2.out⟩
      · go_simp
        refine (HCS.out _ (HBV.out _ hV0)).mono ?_
        rintro e w3 ⟨aw3, cw3, rfl, hbw3⟩
        have hV3 : Below w2.heap.size w2 w3 := hV0.trans (hbw3.mono hV0.size)
        refine hK.out _ _ trivial (fun _ => ?_)
        refine wpAnyH_ready (rs := [0, 4]) (by kernel_rfl) (by simp) ?_
        refine AllReadyH.cons (o := _) rfl (fun K hK => ?_) (AllReadyH.cons (o := _) rfl (fun K hK => ?_) AllReadyH.nil)
        · have ch := HKC.out _ hV3
          go_simp
          refine hK.out _ _ trivial (fun _ => ?_)
          refine wpAnyH_ready (rs := [4]) (by kernel_rfl) (by simp) ?_
          refine AllReadyH.cons (o := _) rfl (fun K hK => ?_) AllReadyH.nil
          go_simp
          refine (HCX.out _ (HBV.out _ hV3)).mono ?_
          rintro e w4 ⟨aw4, cw4, rfl, hbw4⟩
          have hV4 : Below w2.heap.size w2 w4 := hV3.trans (hbw4.mono hV3.size)
          refine hK.out _ _ trivial (fun _ => ?_)
          refine wpAnyH_ready (rs := [6]) (by kernel_rfl) (by simp) ?_
          refine AllReadyH.cons (o := _) rfl (fun K hK => ?_) AllReadyH.nil
          go_simp
          refine (HCY.out _ (HBV.out _ hV4)).mono ?_
          rintro e w5 ⟨aw5, cw5, rfl, hbw5⟩
          have hV5 : Below w2.heap.size w2 w5 := hV4.trans (hbw5.mono hV4.size)
          refine hK.out _ _ trivial (fun _ => ?_)
          refine wpAnyH_take (i := 7) (v := ?_) rfl (by kernel_rfl) (by kernel_rfl) (by kernel_rfl) (fun _ _ _ h => h) (Or.inl ⟨by rfl, ?_⟩) trivial ?_
          rotate_left
          · intro wq hSw; (try dsimp only at hSw); go_split_ands; go_simp; try with_reducible rfl
          try simp only [Act.put, List.setIfInBounds_toArray, List.set_cons_zero, List.set_cons_succ, List.getElem_toArray, List.getElem_cons_zero, List.getElem_cons_succ]
          refine wpAnyH_ready (rs := [8]) (by kernel_rfl) (by simp) ?_
          refine AllReadyH.cons (o := _) rfl (fun K hK => ?_) AllReadyH.nil
          go_simp
          have hV6 := hV5.alloc hV5.size (.cells #[.slice aw3 nS cw3, .slice aw4 nX cw4, .slice aw5 nY cw5] 39)
          have hn6 := World.alloc_heap_new w5 (.cells #[.slice aw3 nS cw3, .slice aw4 nX cw4, .slice aw5 nY cw5] 39)
          have hnews := cell_three_hk w5 39 (.slice aw3 nS cw3) (.slice aw4 nX cw4) (.slice aw5 nY cw5)
          generalize w5.alloc (.cells #[.slice aw3 nS cw3, .slice aw4 nX cw4, .slice aw5 nY cw5] 39) = w6 at hV6 hn6 hnews ⊢
          refine hK.out _ _ trivial (fun _ => ?_)
          refine wpAnyH_ready (rs := [9]) (by kernel_rfl) (by simp) ?_
          refine AllReadyH.cons (o := _) rfl (fun K hK => ?_) AllReadyH.nil
          refine step_append_lies _ rfl (.tmp 21) (.tmp 29) 32 rfl B1 39 i2 _ 3 72 Try.underlying32 HI2.out HY0.out HY1.out HY2.out rfl (by decide) u nb hs (by simp [Act.eval, Act.put]) (own_below hown hV6) ⟨w5.heap.size, 0, none⟩ 1 1 [.slice aw3 nS cw3, .slice aw4 nX cw4, .slice aw5 nY cw5] (by simp [Act.eval, Act.put]) rfl hnews (by intro x hx; simp at hx; rcases hx with rfl | rfl | rfl <;> rfl) (by decide) (by unfold maxLen; omega) (by omega) (Nat.le_trans hI2.size hV6.size) w6.heap.size rfl ?_; intro gB cB w7 hown7 hgrow7 hat7 hlt7
          have hbh6 : w6.heap[bh]? = some (.cells #[u] 32 (0, 0)) := (hV6.block bh (lt_of_some hbh)).trans hbh
          have hbh7 : w7.heap[bh]? = some (.cells #[u] 32 (0, 0)) := (hgrow7.block bh (lt_of_some hbh6) (fun e => by have h1 := (hown.lt bh e.symm).1; have h2 := HH.out.lt1; omega)).trans hbh6
          have ch7 : w7.cell? ⟨bh, 0, none⟩ = some u := by rw [cell_of_row hbh7]; rfl
          have fh7 : w7.frozen? ⟨bh, 0, none⟩ = false := by simp [World.frozen?, hbh7]
          obtain ⟨hE1, hE2⟩ := (hI2.below hV6).setH hbh6 (own_below hown hV6) hgrow7 hown7
          have HE1 := Lib.hid hE1
          have HE2 := Lib.hid (((HBV.out _ hV6).mono HB0.out).trans hE2)
          clear hE1 hE2 hown7 hgrow7 hat7 hlt7
          refine hK.out _ _ trivial (fun _ => ?_)
          refine wpAnyH_ready (rs := [10]) (by kernel_rfl) (by simp) ?_
          refine AllReadyH.cons (o := _) rfl (fun K hK => ?_) AllReadyH.nil
          go_simp
          refine hK.out _ _ trivial (fun _ => ?_)
          refine wpAnyH_done (by kernel_rfl) ?_ _
          go_end0
          exact ⟨rfl, by rw [HO.out, HNN.out]; exact HE1.out, HE2.out⟩
        · go_simp
          refine (HCX.out _ (HBV.out _ hV3)).mono ?_
          rintro e w4 ⟨aw4, cw4, rfl, hbw4⟩
          have hV4 : Below w2.heap.size w2 w4 := hV3.trans (hbw4.mono hV3.size)
          refine hK.out _ _ trivial (fun _ => ?_)
          refine wpAnyH_ready (rs := [0, 6]) (by kernel_rfl) (by simp) ?_
          refine AllReadyH.cons (o := _) rfl (fun K hK => ?_) (AllReadyH.cons (o := _) rfl (fun K hK => ?_) AllReadyH.nil)
          · have ch := HKC.out _ hV4
            go_simp
            refine hK.out _ _ trivial (fun _ => ?_)
            refine wpAnyH_ready (rs := [6]) (by kernel_rfl) (by simp) ?_
            refine AllReadyH.cons (o := _) rfl (fun K hK => ?_) AllReadyH.nil
            go_simp
            refine (HCY.out _ (HBV.out _ hV4)).mono ?_
            rintro e w5 ⟨aw5, cw5, rfl, hbw5⟩
            have hV5 : Below w2.heap.size w2 w5 := hV4.trans (hbw5.mono hV4.size)
            refine hK.out _ _ trivial (fun _ => ?_)
            refine wpAnyH_take (i := 7) (v := ?_) rfl (by kernel_rfl) (by kernel_rfl) (by kernel_rfl) (fun _ _ _ h => h) (Or.inl ⟨by rfl, ?_⟩) trivial ?_
            rotate_left
            · intro wq hSw; (try dsimp only at hSw); go_split_ands; go_simp; try with_reducible rfl
            try simp only [Act.put, List.setIfInBounds_toArray, List.set_cons_zero, List.set_cons_succ, List.getElem_toArray, List.getElem_cons_zero, List.getElem_cons_succ]
            refine wpAnyH_ready (rs := [8]) (by kernel_rfl) (by simp) ?_
            refine AllReadyH.cons (o := _) rfl (fun K hK => ?_) AllReadyH.nil
            go_simp
            have hV6 := hV5.alloc hV5.size (.cells #[.slice aw3 nS cw3, .slice aw4 nX cw4, .slice aw5 nY cw5] 39)
            have hn6 := World.alloc_heap_new w5 (.cells #[.slice aw3 nS cw3, .slice aw4 nX cw4, .slice aw5 nY cw5] 39)
            have hnews := cell_three_hk w5 39 (.slice aw3 nS cw3) (.slice aw4 nX cw4) (.slice aw5 nY cw5)
            generalize w5.alloc (.cells #[.slice aw3 nS cw3, .slice aw4 nX cw4, .slice aw5 nY cw5] 39) = w6 at hV6 hn6 hnews ⊢
            refine hK.out _ _ trivial (fun _ => ?_)
            refine wpAnyH_ready (rs := [9]) (by kernel_rfl) (by simp) ?_
            refine AllReadyH.cons (o := _) rfl (fun K hK => ?_) AllReadyH.nil
            refine step_append_lies _ rfl (.tmp 21) (.tmp 29) 32 rfl B1 39 i2 _ 3 72 Try.underlying32 HI2.out HY0.out HY1.out HY2.out rfl (by decide) u nb hs (by simp [Act.eval, Act.put]) (own_below hown hV6) ⟨w5.heap.size, 0, none⟩ 1 1 [.slice aw3 nS cw3, .slice aw4 nX cw4, .slice aw5 nY cw5] (by simp [Act.eval, Act.put]) rfl hnews (by intro x hx; simp at hx; rcases hx with rfl | rfl | rfl <;> rfl) (by decide) (by unfold maxLen; omega) (by omega) (Nat.le_trans hI2.size hV6.size) w6.heap.size rfl ?_; intro gB cB w7 hown7 hgrow7 hat7 hlt7
            have hbh6 : w6.heap[bh]? = some (.cells #[u] 32 (0, 0)) := (hV6.block bh (lt_of_some hbh)).trans hbh
            have hbh7 : w7.heap[bh]? = some (.cells #[u] 32 (0, 0)) := (hgrow7.block bh (lt_of_some hbh6) (fun e => by have h1 := (hown.lt bh e.symm).1; have h2 := HH.out.lt1; omega)).trans hbh6
            have ch7 : w7.cell? ⟨bh, 0, none⟩ = some u := by rw [cell_of_row hbh7]; rfl
            have fh7 : w7.frozen? ⟨bh, 0, none⟩ = false := by simp [World.frozen?, hbh7]
            obtain ⟨hE1, hE2⟩ := (hI2.below hV6).setH hbh6 (own_below hown hV6) hgrow7 hown7
            have HE1 := Lib.hid hE1
            have HE2 := Lib.hid (((HBV.out _ hV6).mono HB0.out).trans hE2)
            clear hE1 hE2 hown7 hgrow7 hat7 hlt7
            refine hK.out _ _ trivial (fun _ => ?_)
            refine wpAnyH_ready (rs := [10]) (by kernel_rfl) (by simp) ?_
            refine AllReadyH.cons (o := _) rfl (fun K hK => ?_) AllReadyH.nil
            go_simp
            refine hK.out _ _ trivial (fun _ => ?_)
            refine wpAnyH_done (by kernel_rfl) ?_ _
            go_end0
            exact ⟨rfl, by rw [HO.out, HNN.out]; exact HE1.out, HE2.out⟩
          · go_simp
            refine (HCY.out _ (HBV.out _ hV4)).mono ?_
            rintro e w5 ⟨aw5, cw5, rfl, hbw5⟩
            have hV5 : Below w2.heap.size w2 w5 := hV4.trans (hbw5.mono hV4.size)
            refine hK.out _ _ trivial (fun _ => ?_)
            refine wpAnyH_take (i := 7) (v := ?_) rfl (by kernel_rfl) (by kernel_rfl) (by kernel_rfl) (fun _ _ _ h => h) (Or.inl ⟨by rfl, ?_⟩) trivial ?_
            rotate_left
            · intro wq hSw; (try dsimp only at hSw); go_split_ands; go_simp; try with_reducible rfl
            try simp only [Act.put, List.setIfInBounds_toArray, List.set_cons_zero, List.set_cons_succ, List.getElem_toArray, List.getElem_cons_zero, List.getElem_cons_succ]
            refine wpAnyH_ready (rs := [0, 8]) (by kernel_rfl) (by simp) ?_
            refine AllReadyH.cons (o := _) rfl (fun K hK => ?_) (AllReadyH.cons (o := _) rfl (fun K hK => ?_) AllReadyH.nil)
            · have ch := HKC.out _ hV5
              go_simp
              refine hK.out _ _ trivial (fun _ => ?_)
              refine wpAnyH_ready (rs := [8]) (by kernel_rfl) (by simp) ?_
              refine AllReadyH.cons (o := _) rfl (fun K hK => ?_) AllReadyH.nil
              go_simp
              have hV6 := hV5.alloc hV5.size (.cells #[.slice aw3 nS cw3, .slice aw4 nX cw4, .slice aw5 nY cw5] 39)
              have hn6 := World.alloc_heap_new w5 (.cells #[.slice aw3 nS cw3, .slice aw4 nX cw4, .slice aw5 nY cw5] 39)
              have hnews := cell_three_hk w5 39 (.slice aw3 nS cw3) (.slice aw4 nX cw4) (.slice aw5 nY cw5)
              generalize w5.alloc (.cells #[.slice aw3 nS cw3, .slice aw4 nX cw4, .slice aw5 nY cw5] 39) = w6 at hV6 hn6 hnews ⊢
              refine hK.out _ _ trivial (fun _ => ?_)
              refine wpAnyH_ready (rs := [9]) (by kernel_rfl) (by simp) ?_
              refine AllReadyH.cons (o := _) rfl (fun K hK => ?_) AllReadyH.nil
              refine step_append_lies _ rfl (.tmp 21) (.tmp 29) 32 rfl B1 39 i2 _ 3 72 Try.underlying32 HI2.out HY0.out HY1.out HY2.out rfl (by decide) u nb hs (by simp [Act.eval, Act.put]) (own_below hown hV6) ⟨w5.heap.size, 0, none⟩ 1 1 [.slice aw3 nS cw3, .slice aw4 nX cw4, .slice aw5 nY cw5] (by simp [Act.eval, Act.put]) rfl hnews (by intro x hx; simp at hx; rcases hx with rfl | rfl | rfl <;> rfl) (by decide) (by unfold maxLen; omega) (by omega) (Nat.le_trans hI2.size hV6.size) w6.heap.size rfl ?_; intro gB cB w7 hown7 hgrow7 hat7 hlt7
              have hbh6 : w6.heap[bh]? = some (.cells #[u] 32 (0, 0)) := (hV6.block bh (lt_of_some hbh)).trans hbh
              have hbh7 : w7.heap[bh]? = some (.cells #[u] 32 (0, 0)) := (hgrow7.block bh (lt_of_some hbh6) (fun e => by have h1 := (hown.lt bh e.symm).1; have h2 := HH.out.lt1; omega)).trans hbh6
              have ch7 : w7.cell? ⟨bh, 0, none⟩ = some u := by rw [cell_of_row hbh7]; rfl
              have fh7 : w7.frozen? ⟨bh, 0, none⟩ = false := by simp [World.frozen?, hbh7]
              obtain ⟨hE1, hE2⟩ := (hI2.below hV6).setH hbh6 (own_below hown hV6) hgrow7 hown7
              have HE1 := Lib.hid hE1
              have HE2 := Lib.hid (((HBV.out _ hV6).mono HB0.out).trans hE2)
              clear hE1 hE2 hown7 hgrow7 hat7 hlt7
              refine hK.out _ _ trivial (fun _ => ?_)
              refine wpAnyH_ready (rs := [10]) (by kernel_rfl) (by simp) ?_
              refine AllReadyH.cons (o := _) rfl (fun K hK => ?_) AllReadyH.nil
              go_simp
              refine hK.out _ _ trivial (fun _ => ?_)
              refine wpAnyH_done (by kernel_rfl) ?_ _
              go_end0
              exact ⟨rfl, by rw [HO.out, HNN.out]; exact HE1.out, HE2.out⟩
            · go_simp
              have hV6 := hV5.alloc hV5.size (.cells #[.slice aw3 nS cw3, .slice aw4 nX cw4, .slice aw5 nY cw5] 39)
              have hn6 := World.alloc_heap_new w5 (.cells #[.slice aw3 nS cw3, .slice aw4 nX cw4, .slice aw5 nY cw5] 39)
              have hnews := cell_three_hk w5 39 (.slice aw3 nS cw3) (.slice aw4 nX cw4) (.slice aw5 nY cw5)
              generalize w5.alloc (.cells #[.slice aw3 nS cw3, .slice aw4 nX cw4, .slice aw5 nY cw5] 39) = w6 at hV6 hn6 hnews ⊢
              refine hK.out _ _ trivial (fun _ => ?_)
              refine wpAnyH_ready (rs := [0]) (by kernel_rfl) (by simp) ?_
              refine AllReadyH.cons (o := _) rfl (fun K hK => ?_) AllReadyH.nil
              have ch := HKC.out _ hV6
              go_simp
              refine hK.out _ _ trivial (fun _ => ?_)
              refine wpAnyH_ready (rs := [9]) (by kernel_rfl) (by simp) ?_
              refine AllReadyH.cons (o := _) rfl (fun K hK => ?_) AllReadyH.nil
              refine step_append_lies _ rfl (.tmp 21) (.tmp 29) 32 rfl B1 39 i2 _ 3 72 Try.underlying32 HI2.out HY0.out HY1.out HY2.out rfl (by decide) u nb hs (by simp [Act.eval, Act.put]) (own_below hown hV6) ⟨w5.heap.size, 0, none⟩ 1 1 [.slice aw3 nS cw3, .slice aw4 nX cw4, .slice aw5 nY cw5] (by simp [Act.eval, Act.put]) rfl hnews (by intro x hx; simp at hx; rcases hx with rfl | rfl | rfl <;> rfl) (by decide) (by unfold maxLen; omega) (by omega) (Nat.le_trans hI2.size hV6.size) w6.heap.size rfl ?_; intro gB cB w7 hown7 hgrow7 hat7 hlt7
              have hbh6 : w6.heap[bh]? = some (.cells #[u] 32 (0, 0)) := (hV6.block bh (lt_of_some hbh)).trans hbh
              have hbh7 : w7.heap[bh]? = some (.cells #[u] 32 (0, 0)) := (hgrow7.block bh (lt_of_some hbh6) (fun e => by have h1 := (hown.lt bh e.symm).1; have h2 := HH.out.lt1; omega)).trans hbh6
              have ch7 : w7.cell? ⟨bh, 0, none⟩ = some u := by rw [cell_of_row hbh7]; rfl
              have fh7 : w7.frozen? ⟨bh, 0, none⟩ = false := by simp [World.frozen?, hbh7]
              obtain ⟨hE1, hE2⟩ := (hI2.below hV6).setH hbh6 (own_below hown hV6) hgrow7 hown7
              have HE1 := Lib.hid hE1
              have HE2 := Lib.hid (((HBV.out _ hV6).mono HB0.out).trans hE2)
              clear hE1 hE2 hown7 hgrow7 hat7 hlt7
              refine hK.out _ _ trivial (fun _ => ?_)
              refine wpAnyH_ready (rs := [10]) (by kernel_rfl) (by simp) ?_
              refine AllReadyH.cons (o := _) rfl (fun K hK => ?_) AllReadyH.nil
              go_simp
              refine hK.out _ _ trivial (fun _ => ?_)
              refine wpAnyH_done (by kernel_rfl) ?_ _
              go_end0
              exact ⟨rfl, by rw [HO.out, HNN.out]; exact HE1.out, HE2.out⟩
end Go.Proofs.Ytjdlpcokjcmapaa
