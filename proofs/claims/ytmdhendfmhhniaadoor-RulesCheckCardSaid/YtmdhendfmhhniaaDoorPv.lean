/- Merges: lines.Parse. -/
import Derived.Test.YtmdhendfmhhniaaDoorPu
import Derived.Maps.AppendAt
namespace Go.Proofs.YtmdhendfmhhniaaDoor
open Go.RowKit Go.Shelf
attribute [local go_sem] Oper.semAt_some

theorem lineR_err {out : List PairB} {S : ByteArray} {k : Nat} {e : Int} (h : lineR out S k = .inr e) : e = 6 ∨ e = 2 ∨ e = 10 := by
  unfold lineR rdM at h
  split at h
  · injection h with h; exact .inl h.symm
  · split at h
    · injection h with h; exact .inr (.inl h.symm)
    · split at h
      · split at h
        · injection h with h; exact .inr (.inr h.symm)
        · cases h
      · injection h with h; exact .inr (.inl h.symm)
theorem lineR_ok {out : List PairB} {S : ByteArray} {k : Nat} {p : PairB} (h : lineR out S k = .inl p) (hk : k < S.size) : out.length < 4096 ∧ endAt S k = nlAt S k + 1 := by
  unfold lineR at h
  split at h
  · cases h
  · split at h
    · cases h
    · have := nlAt_le (s := S) (k := k) (by omega)
      exact ⟨by omega, by unfold endAt; rw [if_pos (by omega)]⟩
structure LpI (bk bm D : Nat) (S : ByteArray) (w : World) (out : List PairB) (k : Nat) (W : World) : Prop where
  b3 : Boxed W w.heap.size 168 (.func (.func 88) #[] #[.pointer (some ⟨bk, 0, none⟩)])
  b4 : Boxed W (w.heap.size + 1) 25 (.slice none 0 0)
  b5 : Boxed W (w.heap.size + 1 + 1) 3 (.int .i64 0)
  b6 : Boxed W (w.heap.size + 1 + 1 + 1) 58 (.int .i64 0)
  b7 : ∃ v, Boxed W (w.heap.size + 1 + 1 + 1 + 1) 25 v ∧ W.ownsRow (D + 2) 48 2 v out.length (flatP out)
  set : IsSet bm out.length out W
  fr : FrM bm w W
  rest : restF rdM S 0 [] = restF rdM S k out
  len : out.length ≤ 4096
def LpX (bm : Nat) (S : ByteArray) (w : World) (_ : Code) (W : World) : Prop :=
  ∃ n e, restF rdM S 0 [] = ([], n, e) ∧ Boxed W (w.heap.size + 1) 25 (.slice none 0 0) ∧ Boxed W (w.heap.size + 1 + 1) 3 (.int .i64 n) ∧ Boxed W (w.heap.size + 1 + 1 + 1) 58 (.int .i64 e) ∧ FrM bm w W
theorem boxed_same {W W' : World} {b : Nat} {t : TypeId} {v : Value} (h : Boxed W b t v) (e : W'.heap[b]? = W.heap[b]?) : Boxed W' b t v := e.trans h
theorem FrM.more {bm : Nat} {w W W' : World} (h : FrM bm w W) (hl : Below 0 W W') (hs : W.heap.size ≤ W'.heap.size) (hb : ∀ k, k < w.heap.size → k ≠ bm → W'.heap[k]? = W.heap[k]?) : FrM bm w W' :=
  ⟨h.low.trans hl, Nat.le_trans h.size hs, fun k hk hkb => (hb k hk hkb).trans (h.block k hk hkb)⟩
theorem LpI.stab {bk bm D : Nat} {S : ByteArray} {w : World} {k : Nat} (hD : D = w.heap.size + 6) (hm : bm < w.heap.size) : Stab (w.heap.size + 1 + 1 + 1 + 1 + 1) D (fun W => ∃ out, LpI bk bm D S w out k W) := by
  rintro W W' ⟨out, h⟩ hl hs hb
  have e : ∀ j, j < W.heap.size → j < w.heap.size + 5 → W'.heap[j]? = W.heap[j]? := fun j h1 h2 => hb j h1 (by omega) (by omega) (by omega)
  obtain ⟨v, hv, hr⟩ := h.b7
  refine ⟨out, boxed_same h.b3 (e _ h.b3.lt (by omega)), boxed_same h.b4 (e _ h.b4.lt (by omega)), boxed_same h.b5 (e _ h.b5.lt (by omega)), boxed_same h.b6 (e _ h.b6.lt (by omega)), ⟨v, boxed_same hv (e _ hv.lt (by omega)), ?_⟩, h.set.keep (e _ h.set.lt (by omega)), h.fr.more hl hs (fun k hk hkb => e k (Nat.lt_of_lt_of_le hk h.fr.size) (by omega)), h.rest, h.len⟩
  refine ⟨hr.1, ?_⟩
  rcases hr.2 with h1 | ⟨g, cap, cur, h1, h2, h3, h4⟩
  · exact .inl h1
  · exact .inr ⟨g, cap, cur, h1, h2, (hb g (lt_of_some h3) (by omega) (by omega) (by omega)).trans h3, h4⟩
theorem LpX.stab {bm D : Nat} {S : ByteArray} {w : World} (hD : D = w.heap.size + 6) (c : Code) : Stab (w.heap.size + 1 + 1 + 1 + 1 + 1) D (LpX bm S w c) := by
  rintro W W' ⟨n, x, h1, h2, h3, h4, h5⟩ hl hs hb
  have e : ∀ j, j < W.heap.size → j < w.heap.size + 5 → W'.heap[j]? = W.heap[j]? := fun j h1 h2 => hb j h1 (by omega) (by omega) (by omega)
  exact ⟨n, x, h1, boxed_same h2 (e _ h2.lt (by omega)), boxed_same h3 (e _ h3.lt (by omega)), boxed_same h4 (e _ h4.lt (by omega)), h5.more hl hs (fun k hk hkb => e k (Nat.lt_of_lt_of_le hk h5.size) (by omega))⟩
theorem lp_start {bk bm : Nat} {S : ByteArray} {w : World} (hset : IsSet bm 0 [] w) :
    (∀ W, W = (((((w.alloc (.cells #[.func (.func 88) #[] #[.pointer (some ⟨bk, 0, none⟩)]] 168)).alloc (.cells #[.slice none 0 0] 25)).alloc (.cells #[.int .i64 0] 3)).alloc (.cells #[.int .i64 0] 58)).alloc (.cells #[.slice none 0 0] 25)).alloc (.cells #[.string S] 9) →
      LpI bk bm W.heap.size S w [] 0 W ∧ W.heap.size = w.heap.size + 6 ∧ W.cell? ⟨w.heap.size + 1 + 1 + 1 + 1 + 1, 0, none⟩ = some (.string S) ∧ W.frozen? ⟨w.heap.size + 1 + 1 + 1 + 1 + 1, 0, none⟩ = false) := by
  rintro W rfl
  have x1 := Boxed.new w 168 (.func (.func 88) #[] #[.pointer (some ⟨bk, 0, none⟩)])
  obtain ⟨w1, h1⟩ : ∃ w1, w.alloc (.cells #[.func (.func 88) #[] #[.pointer (some ⟨bk, 0, none⟩)]] 168) = w1 := ⟨_, rfl⟩
  have s1 : w1.heap.size = w.heap.size + 1 := by rw [← h1]; simp
  have b1 : Below w.heap.size w w1 := by rw [← h1]; exact (Below.refl _ w).alloc (Nat.le_refl _) _
  rw [h1] at x1 ⊢
  have x2 := Boxed.new w1 25 (.slice none 0 0)
  obtain ⟨w2, h2⟩ : ∃ w2, w1.alloc (.cells #[.slice none 0 0] 25) = w2 := ⟨_, rfl⟩
  have s2 : w2.heap.size = w.heap.size + 1 + 1 := by rw [← h2]; simp [s1]
  have b2 : Below w1.heap.size w1 w2 := by rw [← h2]; exact (Below.refl _ w1).alloc (Nat.le_refl _) _
  rw [h2] at x2 ⊢
  have x3 := Boxed.new w2 3 (.int .i64 0)
  obtain ⟨w3, h3⟩ : ∃ w3, w2.alloc (.cells #[.int .i64 0] 3) = w3 := ⟨_, rfl⟩
  have s3 : w3.heap.size = w.heap.size + 1 + 1 + 1 := by rw [← h3]; simp [s2]
  have b3 : Below w2.heap.size w2 w3 := by rw [← h3]; exact (Below.refl _ w2).alloc (Nat.le_refl _) _
  rw [h3] at x3 ⊢
  have x4 := Boxed.new w3 58 (.int .i64 0)
  obtain ⟨w4, h4⟩ : ∃ w4, w3.alloc (.cells #[.int .i64 0] 58) = w4 := ⟨_, rfl⟩
  have s4 : w4.heap.size = w.heap.size + 1 + 1 + 1 + 1 := by rw [← h4]; simp [s3]
  have b4 : Below w3.heap.size w3 w4 := by rw [← h4]; exact (Below.refl _ w3).alloc (Nat.le_refl _) _
  rw [h4] at x4 ⊢
  have x5 := Boxed.new w4 25 (.slice none 0 0)
  obtain ⟨w5, h5⟩ : ∃ w5, w4.alloc (.cells #[.slice none 0 0] 25) = w5 := ⟨_, rfl⟩
  have s5 : w5.heap.size = w.heap.size + 1 + 1 + 1 + 1 + 1 := by rw [← h5]; simp [s4]
  have b5 : Below w4.heap.size w4 w5 := by rw [← h5]; exact (Below.refl _ w4).alloc (Nat.le_refl _) _
  rw [h5] at x5 ⊢
  have x6 := Boxed.new w5 9 (.string S)
  obtain ⟨w6, h6⟩ : ∃ w6, w5.alloc (.cells #[.string S] 9) = w6 := ⟨_, rfl⟩
  have s6 : w6.heap.size = w.heap.size + 6 := by rw [← h6]; simp [s5]
  have b6 : Below w5.heap.size w5 w6 := by rw [← h6]; exact (Below.refl _ w5).alloc (Nat.le_refl _) _
  rw [h6] at x6 ⊢
  rw [s1] at x2; rw [s2] at x3; rw [s3] at x4; rw [s4] at x5; rw [s5] at x6
  have e6 : ∀ j, j < w5.heap.size → w6.heap[j]? = w5.heap[j]? := fun j h => b6.block j h
  have e5 : ∀ j, j < w4.heap.size → w6.heap[j]? = w4.heap[j]? := fun j h => (e6 j (by omega)).trans (b5.block j h)
  have e4 : ∀ j, j < w3.heap.size → w6.heap[j]? = w3.heap[j]? := fun j h => (e5 j (by omega)).trans (b4.block j h)
  have e3 : ∀ j, j < w2.heap.size → w6.heap[j]? = w2.heap[j]? := fun j h => (e4 j (by omega)).trans (b3.block j h)
  have e2 : ∀ j, j < w1.heap.size → w6.heap[j]? = w1.heap[j]? := fun j h => (e3 j (by omega)).trans (b2.block j h)
  have e1 : Below w.heap.size w w6 := ((((b1.trans (b2.mono (by omega))).trans (b3.mono (by omega))).trans (b4.mono (by omega))).trans (b5.mono (by omega))).trans (b6.mono (by omega))
  exact ⟨⟨boxed_same x1 (e2 _ x1.lt), boxed_same x2 (e3 _ x2.lt), boxed_same x3 (e4 _ x3.lt), boxed_same x4 (e5 _ x4.lt), ⟨_, boxed_same x5 (e6 _ x5.lt), World.ownsRow_nil _ _ _ _⟩, hset.below e1, FrM.of_below e1, rfl, by decide⟩, s6, x6.cell, x6.frozen⟩
/-- What stays and what is laid where a line is wrong. -/
theorem lp_err {bk bm D : Nat} {S : ByteArray} {w W W3 : World} {out : List PairB} {k : Nat} {n e : Int} (hD : D = w.heap.size + 6) (hm : bm < w.heap.size) (hL : LpI bk bm D S w out k W) (hDW : D + 1 < W.heap.size) (hf : FrM bm W W3) (hr : restF rdM S 0 [] = ([], n, e)) :
    ∀ Wf, Wf = ((W3.setCell ⟨w.heap.size + 1, 0, none⟩ (.slice none 0 0)).setCell ⟨w.heap.size + 1 + 1, 0, none⟩ (.int .i64 n)).setCell ⟨w.heap.size + 1 + 1 + 1, 0, none⟩ (.int .i64 e) →
      (∀ j, j = w.heap.size + 1 + 1 + 1 + 1 + 1 ∨ j = D ∨ j = D + 1 → Wf.heap[j]? = W.heap[j]?) ∧ W.heap.size ≤ Wf.heap.size ∧ LpX bm S w .ret Wf ∧ LpX bm S w .ret Wf.drew := by
  rintro Wf rfl
  have g4 := boxed_same hL.b4 (hf.block _ hL.b4.lt (by omega))
  have g5 := boxed_same hL.b5 (hf.block _ hL.b5.lt (by omega))
  have g6 := boxed_same hL.b6 (hf.block _ hL.b6.lt (by omega))
  have x : LpX bm S w .ret (((W3.setCell ⟨w.heap.size + 1, 0, none⟩ (.slice none 0 0)).setCell ⟨w.heap.size + 1 + 1, 0, none⟩ (.int .i64 n)).setCell ⟨w.heap.size + 1 + 1 + 1, 0, none⟩ (.int .i64 e)) := by
    refine ⟨n, e, hr, ((g4.set _).other (by omega) _).other (by omega) _, ((g5.other (by omega) _).set _).other (by omega) _, ((g6.other (by omega) _).other (by omega) _).set _, ?_⟩
    have hb : Below w.heap.size W3 (((W3.setCell ⟨w.heap.size + 1, 0, none⟩ (.slice none 0 0)).setCell ⟨w.heap.size + 1 + 1, 0, none⟩ (.int .i64 n)).setCell ⟨w.heap.size + 1 + 1 + 1, 0, none⟩ (.int .i64 e)) := (((Below.refl w.heap.size W3).setCell (p := ⟨w.heap.size + 1, 0, none⟩) (by show w.heap.size ≤ w.heap.size + 1; omega) _).setCell (p := ⟨w.heap.size + 1 + 1, 0, none⟩) (by show w.heap.size ≤ w.heap.size + 1 + 1; omega) _).setCell (p := ⟨w.heap.size + 1 + 1 + 1, 0, none⟩) (by show w.heap.size ≤ w.heap.size + 1 + 1 + 1; omega) _
    exact (hL.fr.trans hf).more (hb.mono (Nat.zero_le _)) hb.size (fun k hk _ => hb.block k hk)
  refine ⟨fun j hj => ?_, Nat.le_trans hf.size (by simp), x, ?_⟩
  · have e1 := Below.heap_setCell W3 ⟨w.heap.size + 1, 0, none⟩ (.slice none 0 0) j (by show j ≠ w.heap.size + 1; omega)
    have e2 := Below.heap_setCell (W3.setCell ⟨w.heap.size + 1, 0, none⟩ (.slice none 0 0)) ⟨w.heap.size + 1 + 1, 0, none⟩ (.int .i64 n) j (by show j ≠ w.heap.size + 1 + 1; omega)
    have e3 := Below.heap_setCell ((W3.setCell ⟨w.heap.size + 1, 0, none⟩ (.slice none 0 0)).setCell ⟨w.heap.size + 1 + 1, 0, none⟩ (.int .i64 n)) ⟨w.heap.size + 1 + 1 + 1, 0, none⟩ (.int .i64 e) j (by show j ≠ w.heap.size + 1 + 1 + 1; omega)
    exact e3.trans (e2.trans (e1.trans (hf.block j (by omega) (by omega))))
  · obtain ⟨n', e', y1, y2, y3, y4, y5⟩ := x
    exact ⟨n', e', y1, y2, y3, y4, y5.more ((Below.refl 0 _).drew) (Nat.le_refl _) (fun _ _ _ => rfl)⟩
theorem own_frm {bm B n : Nat} {W W' : World} {v : Value} {xs : List Value} (h : W.ownsRow B 48 2 v n xs) (hf : FrM bm W W') (hb : bm < B) : W'.ownsRow B 48 2 v n xs := by
  refine ⟨h.1, ?_⟩
  rcases h.2 with h1 | ⟨g, cap, cur, h1, h2, h3, h4⟩
  · exact .inl h1
  · exact .inr ⟨g, cap, cur, h1, h2, (hf.block g (lt_of_some h3) (by omega)).trans h3, h4⟩
/-- A pair more. -/
theorem lp_more {bk bm D : Nat} {S : ByteArray} {w W W2 W3 W4 : World} {out : List PairB} {k E : Nat} {p : PairB} {v v' : Value} (hD : D = w.heap.size + 6) (hm : bm < w.heap.size) (hL : LpI bk bm D S w out k W) (hDW : D + 1 < W.heap.size) (hf2 : FrM bm W W2) (hs2 : IsSet bm (out.length + 1) (out ++ [p]) W2)
    (hW3 : W2.alloc (.cells #[.string p.1, .string p.2] 48) = W3) (hbox : Boxed W3 (w.heap.size + 1 + 1 + 1 + 1) 25 v) (hrow : W3.ownsRow (D + 2) 48 2 v out.length (flatP out))
    (hown : W4.ownsRow (D + 2) 48 2 v' (out.length + 1) (flatP out ++ [.string p.1, .string p.2])) {tmp : Obj} (hg : (W3.alloc tmp).grownBy W4 v.ownBlock) (hr : restF rdM S 0 [] = restF rdM S E (out ++ [p])) (hl : out.length < 4096) :
    Boxed W4 (w.heap.size + 1 + 1 + 1 + 1) 25 v ∧
    (∀ Wf, Wf = W4.setCell ⟨w.heap.size + 1 + 1 + 1 + 1, 0, none⟩ v' →
      (∀ j, j = w.heap.size + 1 + 1 + 1 + 1 + 1 ∨ j = D ∨ j = D + 1 → Wf.heap[j]? = W.heap[j]?) ∧ W.heap.size ≤ Wf.heap.size ∧ ∃ out, LpI bk bm D S w out E Wf) := by
  have e23 : ∀ j, j < W2.heap.size → W3.heap[j]? = W2.heap[j]? := fun j h => by rw [← hW3]; exact Lib.alloc_old _ _ _ h
  have s23 : W2.heap.size ≤ W3.heap.size := by rw [← hW3]; simp
  have nb : ∀ j, j < D + 2 → some j ≠ v.ownBlock := fun j hj e => by have := own_base hrow j e.symm; omega
  have e34 : ∀ j, j < D + 2 → j < W3.heap.size → W4.heap[j]? = W3.heap[j]? := fun j h1 h2 => (hg.block j (by simp; omega) (nb j h1)).trans (Lib.alloc_old _ _ _ h2)
  have s34 : W3.heap.size ≤ W4.heap.size := Nat.le_trans (by simp) hg.size
  have e24 : ∀ j, j < D + 2 → j < W2.heap.size → W4.heap[j]? = W2.heap[j]? := fun j h1 h2 => (e34 j h1 (by omega)).trans (e23 j h2)
  have e14 : ∀ j, j < D + 2 → j < W.heap.size → j ≠ bm → W4.heap[j]? = W.heap[j]? := fun j h1 h2 h3 => (e24 j h1 (Nat.lt_of_lt_of_le h2 hf2.size)).trans (hf2.block j h2 h3)
  have b4 : Boxed W4 (w.heap.size + 1 + 1 + 1 + 1) 25 v := boxed_same hbox (e34 _ (by omega) hbox.lt)
  refine ⟨b4, ?_⟩
  rintro Wf rfl
  have eF : ∀ j, j ≠ w.heap.size + 1 + 1 + 1 + 1 → (W4.setCell ⟨w.heap.size + 1 + 1 + 1 + 1, 0, none⟩ v').heap[j]? = W4.heap[j]? := fun j h => Below.heap_setCell W4 ⟨w.heap.size + 1 + 1 + 1 + 1, 0, none⟩ v' j h
  refine ⟨fun j hj => (eF j (by omega)).trans (e14 j (by omega) (by omega) (by omega)), ?_, out ++ [p], ?_⟩
  · have := hf2.size; simp; omega
  · have k3 := hL.b3.lt; have k4 := hL.b4.lt; have k5 := hL.b5.lt; have k6 := hL.b6.lt
    refine ⟨boxed_same hL.b3 ((eF _ (by omega)).trans (e14 _ (by omega) (by omega) (by omega))), boxed_same hL.b4 ((eF _ (by omega)).trans (e14 _ (by omega) (by omega) (by omega))), boxed_same hL.b5 ((eF _ (by omega)).trans (e14 _ (by omega) (by omega) (by omega))), boxed_same hL.b6 ((eF _ (by omega)).trans (e14 _ (by omega) (by omega) (by omega))), ⟨v', b4.set v', ?_⟩, ?_, ?_, hr, by rw [List.length_append]; show out.length + 1 ≤ 4096; omega⟩
    · rw [List.length_append, flatP_snoc]
      exact hown.kept (grownBy_setCell' W4 _ v') (.inr (fun e => by have := own_base hown _ e; omega))
    · rw [List.length_append]
      exact hs2.keep ((eF _ (by omega)).trans (e24 _ (by omega) hs2.lt))
    · have lo : Below 0 W2 W4 := by
        have l1 : Below 0 W2 W3 := by rw [← hW3]; exact (Below.refl 0 W2).alloc (Nat.zero_le _) _
        exact (l1.alloc (Nat.zero_le _) tmp).grown hg (Nat.zero_le _) (fun _ _ => Nat.zero_le _)
      exact (hL.fr.trans hf2).more (lo.trans ((Below.refl 0 W4).setCell (p := ⟨w.heap.size + 1 + 1 + 1 + 1, 0, none⟩) (Nat.zero_le _) v')) (by simp; omega) (fun k hk hkb => (eF k (by omega)).trans (e24 k (by omega) (Nat.lt_of_lt_of_le hk (hL.fr.trans hf2).size)))
theorem lp_done {bm D : Nat} {w W : World} {v : Value} {L : List PairB} {v4 : Value} {n e : Int} (hD : D = w.heap.size + 6) (g4 : Boxed W (w.heap.size + 1) 25 v4) (g5 : Boxed W (w.heap.size + 1 + 1) 3 (.int .i64 n)) (g6 : Boxed W (w.heap.size + 1 + 1 + 1) 58 (.int .i64 e)) (hf : FrM bm w W) (ho : W.ownsRow w.heap.size 48 2 v L.length (flatP L)) (hne : v.ownBlock ≠ some D) (o' : Obj) :
    (W.putObj D o').cell? ⟨w.heap.size + 1, 0, none⟩ = some v4 ∧ (W.putObj D o').cell? ⟨w.heap.size + 1 + 1, 0, none⟩ = some (.int .i64 n) ∧ (W.putObj D o').cell? ⟨w.heap.size + 1 + 1 + 1, 0, none⟩ = some (.int .i64 e) ∧ (W.putObj D o').ownsRow w.heap.size 48 2 v L.length (flatP L) ∧ FrM bm w (W.putObj D o') := by
  have e1 : ∀ j, j ≠ D → (W.putObj D o').heap[j]? = W.heap[j]? := fun j h => put_other W o' h
  refine ⟨(boxed_same g4 (e1 _ (by omega))).cell, (boxed_same g5 (e1 _ (by omega))).cell, (boxed_same g6 (e1 _ (by omega))).cell, ?_, hf.more (put_low W D o') (by simp) (fun k hk _ => e1 k (by omega))⟩
  exact ho.kept (grownBy_putObj' W D o') (.inr hne)
theorem own_lower {w : World} {B B' n s : Nat} {t : TypeId} {v : Value} {xs : List Value} (h : w.ownsRow B t s v n xs) (hb : B' ≤ B) : w.ownsRow B' t s v n xs := by
  refine ⟨h.1, ?_⟩
  rcases h.2 with h1 | ⟨g, cap, cur, h1, h2, h3⟩
  · exact .inl h1
  · exact .inr ⟨g, cap, cur, h1, by omega, h3⟩
set_option maxHeartbeats 4000000 in
set_option maxRecDepth 100000 in
theorem lparse_any (bk bm : Nat) (S : ByteArray) (w : World) (hS : S.size ≤ maxLen) (hk : w.cell? ⟨bk, 0, none⟩ = some (.map (some bm))) (hset : IsSet bm 0 [] w) (hne : bk ≠ bm) :
    Calls Tryd.prog 87 #[.string S, .func (.func 88) #[] #[.pointer (some ⟨bk, 0, none⟩)]] w fun e w' =>
      ∃ v, e = .returned (.tuple #[v, .int .i64 (parseM S).2.1, .int .i64 (parseM S).2.2]) ∧ w'.ownsRow w.heap.size 48 2 v (parseM S).1.length (flatP (parseM S).1) ∧ FrM bm w w' := by
  refine callsIn_wide.1 (?_ : CallsIn Fence.wide 5 _ _ _ _ _)
  refine callsIn_of_wp_marks Tryd.func87 rfl trivial ?_ rfl
  simp only [Tryd.ntmps87, List.size_toArray, List.length_cons, List.length_nil, Nat.reduceAdd, Nat.reduceSub, Array.replicate_succ, Array.replicate_zero, List.push_toArray, List.append_toArray, List.nil_append, List.cons_append]
  unfold maxLen at hS
  by_cases hbig : 262144 < S.size
  · have hb : (262144 : Int) < S.size := by omega
    have hend : Hid (parseM S = ([], 0, 6)) := Lib.hid (by unfold parseM parseL; rw [if_pos hbig])
    rw [hend.out]
    gi_wp2
    refine ⟨.tuple #[.slice none 0 0, .int .i64 0, .int .i64 6], by simp [results, Tryd.results87, go_sem], _, rfl, World.ownsRow_nil _ _ _ _, FrM.of_below ?_⟩
    exact ((((Below.refl _ w).alloc (Nat.le_refl _) _).alloc (by simp) _).alloc (by simp; omega) _).alloc (by simp; omega) _
  · have hb : (S.size : Int) ≤ 262144 := by omega
    have h1 : 1 ≤ 5 := by omega
    have hpm : parseM S = restF rdM S 0 [] := parseL_eq rdM (by omega)
    rw [hpm]
    have HPM := Lib.hid hpm
    have hm := hset.lt
    have hbk := World.block_lt_of_cell? w _ hk
    clear hpm
    gi_wp2_with (refine ⟨trivial, ?_⟩; gi_at_call 83; refine (callsIn_wide.2 (Lines_any S _)).mono ?_; rintro e w1 ⟨rfl, rfl⟩)
    obtain ⟨hI, hsz, hcB, hfB⟩ := lp_start (bk := bk) (S := S) hset _ rfl
    generalize World.alloc _ (.cells #[.string S] 9) = w5 at hI hsz hcB hfB ⊢
    have HI := Lib.hid hI; have HSZ := Lib.hid hsz
    clear hI hset
    refine range_lines (w := w5) (n := 5) (by omega) (w.heap.size + 1 + 1 + 1 + 1 + 1) S (by omega) rfl rfl hcB hfB
      (fun k W => ∃ out, LpI bk bm w5.heap.size S w out k W) (LpX bm S w) (fun k => LpI.stab hsz hm) (fun c => LpX.stab hsz c) ⟨[], HI.out⟩
      (fun k => { tmps := #[.string S, .func (.func 88) #[] #[.pointer (some ⟨bk, 0, none⟩)], undef, .pointer (some ⟨w.heap.size, 0, none⟩), .pointer (some ⟨w.heap.size + 1, 0, none⟩), .pointer (some ⟨w.heap.size + 1 + 1, 0, none⟩), .pointer (some ⟨w.heap.size + 1 + 1 + 1, 0, none⟩), .pointer (some ⟨w.heap.size + 1 + 1 + 1 + 1, 0, none⟩), .string (S.extract k (endAt S k)), undef, undef, .string S, .int .i64 S.size, .bool (decide (262144 < (S.size : Int))), .string S, .func (.func 98) #[] #[.pointer (some ⟨w.heap.size + 1 + 1 + 1 + 1 + 1, 0, none⟩)], .string (S.extract k (endAt S k)), undef, undef, undef, undef, undef, undef, undef, undef, undef, undef, undef, undef, undef, undef, undef, undef, undef, undef, undef], defers := [] }) ?assign ?body ?done ?stop
    case assign =>
      intro l k W K hK
      gi_wp2
      exact hK
    case body =>
      rintro l k W hks ⟨out, hL⟩ hDW
      obtain ⟨v, hv7, hr7⟩ := hL.b7
      obtain ⟨o, cap, rfl, _⟩ := own_pairs hr7
      have c3 := hL.b3.cell
      have c7 := hL.b7
      have c7 := hv7.cell
      have hbkW : W.cell? ⟨bk, 0, none⟩ = some (.map (some bm)) := (World.cell?_of_block (a := ⟨bk, 0, none⟩) (hL.fr.block bk hbk hne)).trans hk
      have HNX := Lib.hid (next_any bk bm out.length out S k W (by omega) hks hbkW hL.set (by have := hL.len; omega) hne)
      obtain ⟨m, hm'⟩ : ∃ m, out.length = m := ⟨_, rfl⟩
      have HOL := Lib.hid hm'
      have HL := Lib.hid hL; have HV7 := Lib.hid hv7; have HR7 := Lib.hid hr7
      have HRS := Lib.hid (restM_step (out := out) hks)
      rw [hm'] at HNX c7 HR7 HV7 HRS
      have hm5 : m ≤ 4096 := by have := hL.len; omega
      have hmm : m ≤ 4096 := hm5
      clear hL hv7 hr7 hm' hbkW
      have hn1 : 1 ≤ 5 - 1 - 1 := by decide
      have hmx : Tryd.prog.follows .mixedOrders = true := by kernel_rfl
      cases hlr : lineR out S k with
      | inr e =>
        rw [hlr] at HNX HRS
        have he := lineR_err hlr
        have hne0 : (e != 0) = true := by rw [bne_iff_ne]; omega
        have hne1 : ¬ e = 0 := by omega
        clear hlr
        gi_wp2_with (refine ⟨trivial, ?_⟩; gi_at_call 102; refine (CallsIn.inRound l (callsIn_wide.2 HNX.out)).mono ?_; rintro e3 W2 ⟨rfl, h2, h3⟩)
        obtain ⟨W3, hW3⟩ : ∃ W3, W2.alloc (.cells #[.string ⟨#[]⟩, .string ⟨#[]⟩] 48) = W3 := ⟨_, rfl⟩
        rw [hW3]
        have hf3 : FrM bm W W3 := by rw [← hW3]; exact h3.trans (FrM.of_below ((Below.refl _ W2).alloc (Nat.le_refl _) _))
        have HF3 := Lib.hid hf3
        have g4 := boxed_same HL.out.b4 (hf3.block _ HL.out.b4.lt (by omega))
        have g5 := boxed_same HL.out.b5 (hf3.block _ HL.out.b5.lt (by omega))
        have g6 := boxed_same HL.out.b6 (hf3.block _ HL.out.b6.lt (by omega))
        have g7 := boxed_same HV7.out (hf3.block _ HV7.out.lt (by omega))
        have d4 := g4.cell; have d5 := g5.cell; have d6 := g6.cell; have d7 := g7.cell
        have f4 := g4.frozen; have f5 := g5.frozen; have f6 := g6.frozen
        have HEND := Lib.hid (lp_err HSZ.out hm HL.out hDW hf3 (n := IntKind.i64.wrap ((m : Int) + 1)) (e := e) (by rw [HL.out.rest, show IntKind.i64.wrap ((m : Int) + 1) = (m : Int) + 1 by rw [IntKind.wrap_i64]; omega]; exact HRS.out) _ rfl)
        clear hW3 hf3 g4 g5 g6 g7 h2 h3 c3 c7
        gi_region_o
        all_goals
          gi_wp2
          exact ⟨HEND.out.1, HEND.out.2.1, HEND.out.2.2.2⟩
      | inl p =>
        obtain ⟨p1, p2⟩ := p
        rw [hlr] at HNX HRS
        obtain ⟨hm6, hend⟩ := lineR_ok hlr hks
        rw [HOL.out] at hm6
        have HEND := Lib.hid hend
        obtain ⟨i1, hi1, hz0, hz1, hz2⟩ := info_parts info_mp
        have HI1 := Lib.hid hi1; have HZ0 := Lib.hid hz0; have HZ1 := Lib.hid hz1; have HZ2 := Lib.hid hz2
        clear hlr hend hi1 hz0 hz1 hz2
        have hmb : bm < w5.heap.size + 2 := by omega
        gi_wp2_with (first
          | (refine ⟨trivial, ?_⟩; gi_at_call 102; refine (CallsIn.inRound l (callsIn_wide.2 HNX.out)).mono ?_; rintro e3 W2 ⟨rfl, h2, h3⟩; obtain ⟨W3, hW3⟩ : ∃ W3, W2.alloc (.cells #[.string p1, .string p2] 48) = W3 := ⟨_, rfl⟩; have hf3 : FrM bm W W3 := (by rw [← hW3]; exact h3.trans (FrM.of_below ((Below.refl _ W2).alloc (Nat.le_refl _) _))); have g7 := boxed_same HV7.out (hf3.block _ HV7.out.lt (by omega)); have HG7 := Lib.hid g7; have d7 := g7.cell; have HROW := Lib.hid (own_frm HR7.out hf3 hmb); have i0 : W3.cell? ⟨W2.heap.size, 0, none⟩ = some (.string p1) := (by rw [← hW3]; exact cell_of_row (World.alloc_heap_new W2 _)); have i1' : W3.cell? ⟨W2.heap.size, 1, none⟩ = some (.string p2) := (by rw [← hW3]; exact cell_of_row (World.alloc_heap_new W2 _)); have H2 := Lib.hid h2; have H3 := Lib.hid h3; have HW3 := Lib.hid hW3; have HS3 : Hid (w5.heap.size + 2 ≤ W3.heap.size) := Lib.hid (by have := hf3.size; omega); clear h2 h3 hf3 g7)
          | (gi_at_builtin; refine wpListIn_append_own _ rfl _ _ 25 rfl (w5.heap.size + 2) 48 i1 (.agg #[.string ⟨#[]⟩, .string ⟨#[]⟩]) 2 32 Tryd.underlying25 HI1.out HZ0.out HZ1.out HZ2.out rfl (by decide) _ _ _ rfl (HROW.out.alloc _) ⟨W3.heap.size, 0, none⟩ 1 1 [.string p1, .string p2] rfl rfl (cell_two_new _ _ _ _) two_mem (by unfold maxLen; omega) (by omega) (by have := HS3.out; simp; omega) ?_; intro v' W4 hown hgrow _; obtain ⟨b4, hfin⟩ := lp_more (p := (p1, p2)) (E := endAt S k) HSZ.out hm HL.out hDW H3.out (by rw [HOL.out]; exact H2.out) HW3.out HG7.out (HOL.out ▸ HROW.out) (HOL.out ▸ hown) hgrow (by rw [HL.out.rest, HRS.out, HEND.out]) (HOL.out ▸ hm6); have z7 := b4.cell; have y7 := b4.frozen; have HFIN := Lib.hid (hfin _ rfl); obtain ⟨g', cap', rfl⟩ := ownsRow_succ hown; clear hown hgrow b4 hfin))
        exact HFIN.out
    case done =>
      rintro W ⟨out, hL⟩ hD
      obtain ⟨v, hv7, hr7⟩ := hL.b7
      have d4 := hL.b4.cell; have d5 := hL.b5.cell; have d6 := hL.b6.cell; have d7 := hv7.cell
      have f4 := hL.b4.frozen; have f5 := hL.b5.frozen; have f6 := hL.b6.frozen
      have HR7 := Lib.hid hr7
      have HE := Lib.hid (show restF rdM S 0 [] = (out, 0, 0) by rw [hL.rest, restF_end rdM out (Nat.le_refl _)])
      obtain ⟨o, cap, rfl, _⟩ := own_pairs hr7
      have hb7 : w5.heap.size + 2 ≤ w5.heap.size + 2 := Nat.le_refl _
      have hne7 : (Value.slice o out.length cap).ownBlock ≠ some w5.heap.size := fun e => by have := own_base hr7 _ e; omega
      have hFx := lp_done (w := w) (W := ((W.setCell ⟨w.heap.size + 1, 0, none⟩ (.slice o out.length cap)).setCell ⟨w.heap.size + 1 + 1, 0, none⟩ (.int .i64 0)).setCell ⟨w.heap.size + 1 + 1 + 1, 0, none⟩ (.int .i64 0)) (bm := bm) (D := w5.heap.size) (v := .slice o out.length cap) (L := out) HSZ.out
        (((hL.b4.set _).other (by omega) _).other (by omega) _) (((hL.b5.other (by omega) _).set _).other (by omega) _) (((hL.b6.other (by omega) _).other (by omega) _).set _)
        (by
          have hb : Below w.heap.size W (((W.setCell ⟨w.heap.size + 1, 0, none⟩ (.slice o out.length cap)).setCell ⟨w.heap.size + 1 + 1, 0, none⟩ (.int .i64 0)).setCell ⟨w.heap.size + 1 + 1 + 1, 0, none⟩ (.int .i64 0)) := (((Below.refl w.heap.size W).setCell (p := ⟨w.heap.size + 1, 0, none⟩) (by show w.heap.size ≤ w.heap.size + 1; omega) _).setCell (p := ⟨w.heap.size + 1 + 1, 0, none⟩) (by show w.heap.size ≤ w.heap.size + 1 + 1; omega) _).setCell (p := ⟨w.heap.size + 1 + 1 + 1, 0, none⟩) (by show w.heap.size ≤ w.heap.size + 1 + 1 + 1; omega) _
          exact hL.fr.more (hb.mono (Nat.zero_le _)) hb.size (fun k hk _ => hb.block k hk))
        (own_lower (((hr7.kept (grownBy_setCell' W _ _) (.inr (fun e => by have := own_base hr7 _ e; omega))).kept (grownBy_setCell' _ _ _) (.inr (fun e => by have := own_base hr7 _ e; omega))).kept (grownBy_setCell' _ _ _) (.inr (fun e => by have := own_base hr7 _ e; omega))) (by omega)) hne7 (.deferred none)
      have hDx : (((W.setCell ⟨w.heap.size + 1, 0, none⟩ (.slice o out.length cap)).setCell ⟨w.heap.size + 1 + 1, 0, none⟩ (.int .i64 0)).setCell ⟨w.heap.size + 1 + 1 + 1, 0, none⟩ (.int .i64 0)).heap[w5.heap.size]? = some (.deferred (some [])) :=
        (Below.heap_setCell _ ⟨w.heap.size + 1 + 1 + 1, 0, none⟩ _ _ (by show w5.heap.size ≠ w.heap.size + 1 + 1 + 1; omega)).trans ((Below.heap_setCell _ ⟨w.heap.size + 1 + 1, 0, none⟩ _ _ (by show w5.heap.size ≠ w.heap.size + 1 + 1; omega)).trans ((Below.heap_setCell _ ⟨w.heap.size + 1, 0, none⟩ _ _ (by show w5.heap.size ≠ w.heap.size + 1; omega)).trans hD))
      have HFX := Lib.hid hFx; have HDX := Lib.hid hDx
      clear hr7 hL hD hv7 hFx hDx
      gi_wp2
      obtain ⟨z4, z5, z6, zo, zf⟩ := HFX.out
      rw [HE.out]
      refine ⟨by simp, .inl ⟨_, _, rfl, run_takeDeferred HDX.out, ?_⟩⟩
      have HZ := Lib.hid zo; have HZF := Lib.hid zf
      clear zo zf HFX HDX
      generalize World.putObj _ w5.heap.size (.deferred none) = V at z4 z5 z6 HZ HZF ⊢
      exact ⟨.tuple #[.slice o out.length cap, .int .i64 0, .int .i64 0], by simp [results, Tryd.results87, go_sem, z4, z5, z6], _, rfl, HZ.out, HZF.out⟩
    case stop =>
      rintro W ⟨n, x, h1, h2, h3, h4, h5⟩ hD
      have d4 := h2.cell; have d5 := h3.cell; have d6 := h4.cell
      have HE := Lib.hid h1; have HF := Lib.hid h5; have HD := Lib.hid hD
      have hFx := lp_done (w := w) (W := W) (bm := bm) (D := w5.heap.size) (v := .slice none 0 0) (L := []) HSZ.out h2 h3 h4 h5 (World.ownsRow_nil _ _ _ _) (by simp [Value.ownBlock]) (.deferred none)
      have HFX := Lib.hid hFx
      clear h1 h5 hD hFx
      gi_wp2
      obtain ⟨z4, z5, z6, zo, zf⟩ := HFX.out
      rw [HE.out]
      refine ⟨by simp, .inl ⟨_, _, rfl, run_takeDeferred HD.out, ?_⟩⟩
      have HZ := Lib.hid zo; have HZF := Lib.hid zf
      clear zo zf HFX HD
      generalize World.putObj _ w5.heap.size (.deferred none) = V at z4 z5 z6 HZ HZF ⊢
      exact ⟨.tuple #[.slice none 0 0, .int .i64 n, .int .i64 x], by simp [results, Tryd.results87, go_sem, z4, z5, z6], _, rfl, HZ.out, HZF.out⟩
end Go.Proofs.YtmdhendfmhhniaaDoor
