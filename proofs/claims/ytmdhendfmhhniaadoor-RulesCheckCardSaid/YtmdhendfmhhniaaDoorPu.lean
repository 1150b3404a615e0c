/- A range over the lines of a text: what its caller owes. -/
import Derived.Test.YtmdhendfmhhniaaDoorPt
namespace Go.Proofs.YtmdhendfmhhniaaDoor
open Go.RowKit Go.Shelf
attribute [local go_sem] Oper.semAt_some

/-- What may change beside the caller: a block of its own of the loop's, and the text's box. -/
def Stab (B D : Nat) (I : World → Prop) : Prop :=
  ∀ W W', I W → Below 0 W W' → W.heap.size ≤ W'.heap.size → (∀ j, j < W.heap.size → j ≠ B → j ≠ D → j ≠ D + 1 → W'.heap[j]? = W.heap[j]?) → I W'
/-- What a round's body owes. -/
def lnPost (B D : Nat) (I : World → Prop) (Ix : Code → World → Prop) (W : World) : Exit → Act → World → Prop
  | .normal, _, W' => (∀ j, j = B ∨ j = D ∨ j = D + 1 → W'.heap[j]? = W.heap[j]?) ∧ W.heap.size ≤ W'.heap.size ∧ I W'
  | .ret, _, W' => (∀ j, j = B ∨ j = D ∨ j = D + 1 → W'.heap[j]? = W.heap[j]?) ∧ W.heap.size ≤ W'.heap.size ∧ Ix .ret W'
  | .exit _, _, _ => False
  | .goto _, _, _ => False
  | .panic _, _, _ => False
  | .outgrown, _, _ => False
theorem put_other (W : World) {r k : Nat} (o : Obj) (h : k ≠ r) : (W.putObj r o).heap[k]? = W.heap[k]? := World.putObj_heap_other h
theorem put_low (W : World) (r : Nat) (o : Obj) : Below 0 W (W.putObj r o) := (Below.refl 0 W).grown (grownBy_putObj' W r o) (Nat.zero_le _) (fun _ _ => Nat.zero_le _)
theorem Stab.put {B D : Nat} {I : World → Prop} (h : Stab B D I) {W : World} (hI : I W) (o : Obj) : I (W.putObj (D + 1) o) :=
  h W _ hI (put_low W _ o) (by simp) (fun j _ _ _ h4 => put_other W o h4)
theorem Stab.box {B D : Nat} {I : World → Prop} (h : Stab B D I) {W : World} (hI : I W) (i : Nat) (v : Value) : I (W.setCell ⟨B, i, none⟩ v) :=
  h W _ hI ((Below.refl 0 W).setCell (p := ⟨B, i, none⟩) (Nat.zero_le _) v) (KeepsWalks.setCell W _ v).size (fun j _ h2 _ _ => Below.heap_setCell W _ v j h2)
theorem Stab.drewN {B D : Nat} {I : World → Prop} (h : Stab B D I) {W : World} (hI : I W) (q : Nat) : I (W.drewN q) :=
  h W _ hI (below_drewN (Below.refl 0 W) q) (Nat.le_refl _) (fun _ _ _ _ _ => rfl)
theorem cell_block {W W' : World} {B i : Nat} (h : W'.heap[B]? = W.heap[B]?) : W'.cell? ⟨B, i, none⟩ = W.cell? ⟨B, i, none⟩ ∧ W'.frozen? ⟨B, i, none⟩ = W.frozen? ⟨B, i, none⟩ :=
  ⟨World.cell?_of_block (a := ⟨B, i, none⟩) h, World.frozen?_of_block (a := ⟨B, i, none⟩) h⟩
set_option maxHeartbeats 1000000 in
theorem range_lines {g : Operand} {ps : Array Tmp} {assign body : Code} {Q : Exit → Act → World → Prop} {a : Act} {w : World} {n : Nat} (hn : 3 ≤ n) (Bn : Nat) (S : ByteArray) (hS : S.size ≤ 262144)
    (hg : a.eval g = .func (.func 98) #[] #[.pointer (some ⟨Bn, 0, none⟩)]) (hps : ps.size = 1) (hB : w.cell? ⟨Bn, 0, none⟩ = some (.string S)) (hf : w.frozen? ⟨Bn, 0, none⟩ = false)
    (I : Nat → World → Prop) (Ix : Code → World → Prop) (hI : ∀ k, Stab Bn w.heap.size (I k)) (hIx : ∀ c, Stab Bn w.heap.size (Ix c)) (h0 : I 0 w) (a₁ : Nat → Act)
    (hassign : ∀ (l : Nat) (k : Nat) (W : World) (K : Act → World → Prop), K (a₁ k) W →
      assign.wpIn (Fence.wide.inRound l) (n - 1 - 1) Tryd.prog (Exit.then K (fun _ _ _ => False)) { tmps := (ps.zip #[Value.string (S.extract k (endAt S k))]).foldl (fun t (p, v) => t.setIfInBounds p v) a.tmps, defers := [] } W)
    (hbody : ∀ (l : Nat) (k : Nat) (W : World), k < S.size → I k W → w.heap.size + 1 < W.heap.size → body.wpIn (Fence.wide.inRound l) (n - 1 - 1) Tryd.prog (lnPost Bn w.heap.size (I (endAt S k)) Ix W) (a₁ k) W)
    (hdone : ∀ (W : World), I S.size W → W.heap[w.heap.size]? = some (.deferred (some [])) → Q .normal { a with defers := { target := .collected w.heap.size, args := #[] } :: a.defers } W)
    (hstop : ∀ (W : World), Ix .ret W → W.heap[w.heap.size]? = some (.deferred (some [])) → Code.ret.wpIn Fence.wide n Tryd.prog Q { a with defers := { target := .collected w.heap.size, args := #[] } :: a.defers } W) :
    (Code.rangeFunc g ps assign body).wpIn Fence.wide n Tryd.prog Q a w := by
  have hBl : Bn < w.heap.size := World.block_lt_of_cell? w _ hB
  refine wpIn_rangeFunc fun fn hfn => ?_
  obtain ⟨rc, hrc⟩ : ∃ rc : LoopState → Option Code → Loop, rc = fun st pe => { state := st, pending := pe, fn, tmps := a.tmps, params := ps, assign, body, defers := w.heap.size } := ⟨_, rfl⟩
  obtain ⟨V, hV⟩ : ∃ V, (w.alloc (.deferred (some []))).alloc (.loop (rc .ready none)) = V := ⟨_, rfl⟩
  have hVl : V.heap[w.heap.size + 1]? = some (.loop (rc .ready none)) := by
    have := World.alloc_heap_new (w.alloc (.deferred (some []))) (.loop (rc .ready none))
    rw [World.size_alloc, hV] at this
    exact this
  have hVd : V.heap[w.heap.size]? = some (.deferred (some [])) := by
    rw [← hV]; exact (Lib.alloc_old _ _ _ (by simp)).trans (World.alloc_heap_new w _)
  have hVb : Below w.heap.size w V := by rw [← hV]; exact ((Below.refl _ w).alloc (Nat.le_refl _) _).alloc (by simp) _
  have hV0 : I 0 V := hI 0 w V h0 (hVb.mono (Nat.zero_le _)) hVb.size (fun j hj _ _ _ => hVb.block j hj)
  refine ⟨w.heap.size + 1, [{ target := .collected w.heap.size, args := #[] }], V, { target := .fn (.func 98) #[.pointer (some ⟨Bn, 0, none⟩)], args := #[.func (.yield (w.heap.size + 1)) #[] #[]] }, V, 98, #[.func (.yield (w.heap.size + 1)) #[] #[], .pointer (some ⟨Bn, 0, none⟩)], V, ?_, ?_, fun _ _ => trivial, ?_, fun _ => by omega, ?_⟩
  · rw [← hV, hrc]; exact run_enterLoop_outer _ _ _ _ _
  · simp only [resolve, hg]
    simp [go_sem]
  · have e := enters_of Tryd.func98 (by kernel_rfl) rfl
    simp [invoke, go_sem]
  · refine (lines1_in (n - 1) (w.heap.size + 1) Bn (by omega) S hS
      (fun k W => I k W ∧ W.heap[w.heap.size + 1]? = some (.loop (rc .ready none)) ∧ W.heap[w.heap.size]? = some (.deferred (some [])))
      (fun W => Ix .ret W ∧ W.heap[w.heap.size + 1]? = some (.loop (rc .done (some .ret))) ∧ W.heap[w.heap.size]? = some (.deferred (some [])))
      (fun k W q h => ⟨(hI k).drewN h.1 q, h.2.1, h.2.2⟩)
      (fun k W v h => ⟨(hI k).box h.1 0 v, (Below.heap_setCell W _ v _ (by show w.heap.size + 1 ≠ Bn; omega)).trans h.2.1, (Below.heap_setCell W _ v _ (by show w.heap.size ≠ Bn; omega)).trans h.2.2⟩)
      ?_ V ((hVb.cell (p := ⟨Bn, 0, none⟩) hBl).trans hB) ((hVb.frozen (p := ⟨Bn, 0, none⟩) hBl).trans hf) ⟨hV0, hVl, hVd⟩).mono ?_
    · rintro k W hk ⟨hi, hl, hd⟩ hc hfz
      have hlt := (Array.getElem?_eq_some_iff.1 hl).1
      refine ⟨fn, _, assign, body, ?_, roundIn_of_wpIn hfn (hassign _ k W _ ⟨_, run_beginRound hl (by rw [hrc]), ?_⟩)⟩
      · have := run_yield (P := Tryd.prog) (args := #[Value.string (S.extract k (endAt S k))]) hl (by rw [hrc]; exact hps.symm)
        rw [hrc] at this
        exact this
      · obtain ⟨U, hU⟩ : ∃ U, W.putObj (w.heap.size + 1) (.loop { rc .ready none with state := .busy }) = U := ⟨_, rfl⟩
        have hUl : U.heap[w.heap.size + 1]? = some (.loop { rc .ready none with state := .busy }) := by rw [← hU]; exact World.putObj_heap_same hlt
        have hUd : U.heap[w.heap.size]? = some (.deferred (some [])) := by rw [← hU]; exact (put_other W _ (by omega)).trans hd
        have hUi : I k U := by rw [← hU]; exact (hI k).put hi _
        have hUs : w.heap.size + 1 < U.heap.size := (Array.getElem?_eq_some_iff.1 hUl).1
        have hUc := cell_block (i := 0) (show U.heap[Bn]? = W.heap[Bn]? by rw [← hU]; exact put_other W _ (by omega))
        rw [hU]
        refine wpIn_mono (hbody _ k U hk hUi hUs) ?_
        rintro e a3 W3 hp
        cases e with
        | normal =>
          obtain ⟨h1, h2, h3⟩ := hp
          have hl3 := (h1 _ (.inr (.inr rfl))).trans hUl
          have hr := run_endRound (P := Tryd.prog) none hl3
          have hc3 := cell_block (i := 0) (h1 Bn (.inl rfl))
          have hc4 := cell_block (i := 0) (put_other W3 (.loop { rc .ready none with state := .ready }) (show Bn ≠ w.heap.size + 1 by omega))
          refine ⟨_, _, hr, .inl ⟨rfl, ⟨(hI _).put h3 _, ?_, (put_other W3 _ (by omega)).trans ((h1 _ (.inr (.inl rfl))).trans hUd)⟩, ?_, ?_⟩⟩
          · rw [hrc] at hl3 ⊢
            exact World.putObj_heap_same (Array.getElem?_eq_some_iff.1 hl3).1
          · exact (cell_block (i := 0) (put_other W3 _ (show Bn ≠ w.heap.size + 1 by omega))).1.trans (hc3.1.trans (hUc.1.trans hc))
          · exact (cell_block (i := 0) (put_other W3 _ (show Bn ≠ w.heap.size + 1 by omega))).2.trans (hc3.2.trans (hUc.2.trans hfz))
        | ret =>
          obtain ⟨h1, h2, h3⟩ := hp
          have hl3 := (h1 _ (.inr (.inr rfl))).trans hUl
          have hr := run_endRound (P := Tryd.prog) (some .ret) hl3
          refine ⟨_, _, hr, .inr ⟨rfl, (hIx _).put h3 _, ?_, (put_other W3 _ (by omega)).trans ((h1 _ (.inr (.inl rfl))).trans hUd)⟩⟩
          rw [hrc] at hl3 ⊢
          exact World.putObj_heap_same (Array.getElem?_eq_some_iff.1 hl3).1
        | exit id => exact hp.elim
        | goto t => exact hp.elim
        | panic ch => exact hp.elim
        | outgrown => exact hp.elim
    · rintro e W2 ⟨⟨v, rfl⟩, (⟨hi, hl, hd⟩ | ⟨hi, hl, hd⟩)⟩
      · have hr := run_endLoop (P := Tryd.prog) hl (by rw [hrc]; simp)
        refine ⟨none, _, by rw [hr, hrc], hdone _ ((hI _).put hi _) ((put_other W2 _ (by omega)).trans hd)⟩
      · have hr := run_endLoop (P := Tryd.prog) hl (by rw [hrc]; simp)
        refine ⟨some .ret, _, by rw [hr, hrc], hstop _ ((hIx _).put hi _) ((put_other W2 _ (by omega)).trans hd)⟩
end Go.Proofs.YtmdhendfmhhniaaDoor
