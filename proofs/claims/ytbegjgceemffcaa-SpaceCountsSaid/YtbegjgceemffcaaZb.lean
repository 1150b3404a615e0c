/- Space: a range over the free units: the iterator, and what its caller owes. -/
import Derived.Test.YtbegjgceemffcaaZa
namespace Go.Proofs.Ytbegjgceemffcaa
open Go.RowKit Go.Shelf
attribute [local go_sem] Oper.semAt_some
variable {w w' : World}

theorem free_any (x : UInt8) (w : World) :
    Calls Try.prog 13 #[spV x] w fun e w' => e = .returned (.func (.func 21) #[] #[.pointer (some ⟨w.heap.size, 0, none⟩)]) ∧ w' = w.alloc (.cells #[.int .i64 5, .string ⟨#[x]⟩] 30) := by
  unfold spV
  go_enter Try.func13, Try.ntmps13
  go_wp2_with fail
  go_ret
  exact ⟨rfl, rfl⟩
set_option maxRecDepth 100000 in
set_option maxHeartbeats 2000000 in
theorem free1_in (n l Bn : Nat) (hn1 : 1 ≤ n) (x : UInt8) (hx : x = 2 ∨ x = 7) (J : Nat → World → Prop) (Jx : World → Prop)
    (hB : ∀ k W, J k W → W.heap[Bn]? = some (.cells #[.int .i64 5, .string ⟨#[x]⟩] 30 (0, 0)))
    (hst : ∀ k W W', J k W → Below W.heap.size W W' → J k W')
    (hskip : ∀ k W, k < 5 → bitS x k = true → J k W → J (k + 1) W)
    (hY : ∀ k W, k < 5 → bitS x k = false → J k W → YieldAt Fence.wide (n - 1) Try.prog l #[.int .i64 (k : Nat)] W fun e W' => (e = .returned (.bool true) ∧ J (k + 1) W') ∨ (e = .returned (.bool false) ∧ Jx W'))
    (W : World) (h0 : J 0 W) :
    CallsIn Fence.wide n Try.prog 21 #[.func (.yield l) #[] #[], .pointer (some ⟨Bn, 0, none⟩)] W fun e W' => (∃ v, e = .returned v) ∧ (J 5 W' ∨ Jx W') := by
  refine callsIn_of_wp Try.func21 rfl trivial ?_ rfl
  simp only [Try.ntmps21, List.size_toArray, List.length_cons, List.length_nil, Nat.reduceAdd, Nat.reduceSub, Array.replicate_succ, Array.replicate_zero, List.push_toArray, List.append_toArray, List.nil_append, List.cons_append]
  have hr0 := hB _ _ h0
  have c0 : W.cell? ⟨Bn, 0, none⟩ = some (.int .i64 5) := cell_of_row hr0
  have HY := Lib.hid hY; have HB := Lib.hid hB; have HST := Lib.hid hst; have HSK := Lib.hid hskip; have H0 := Lib.hid h0
  clear hY hB hst hskip h0 hr0
  gi_wp2
  clear c0
  gi_loopw [6] (fun i wr => ∃ k : Nat, k ≤ 5 ∧ i = .int .i64 (k : Nat) ∧ J k wr) (fun i _ => 5 - (intOf i).toNat)
  case atStart => exact ⟨0, by decide, rfl, H0.out⟩
  case round =>
    obtain ⟨k, hk, rfl, hJ⟩ := hrel
    by_cases hlt : k < 5
    · have hki : (k : Int) < 5 := by omega
      have hr := HB.out _ _ hJ
      have c0 : wr.cell? ⟨Bn, 0, none⟩ = some (.int .i64 5) := cell_of_row hr
      have c1 : wr.cell? ⟨Bn, 1, none⟩ = some (.string ⟨#[x]⟩) := cell_of_row hr
      have HH : Hid (∀ V, Calls Try.prog 22 #[.agg #[.int .i64 5, .string ⟨#[x]⟩], .int .i64 k] V fun e w' => e = .returned (.bool (bitS x k)) ∧ Below V.heap.size V w') := Lib.hid (fun V => Has_n x hx k hlt V)
      have HJ := Lib.hid hJ
      clear hr hJ
      cases hb : bitS x k with
      | true =>
        rw [hb] at HH
        gi_wp2_with (refine ⟨trivial, ?_⟩; gi_at_call 22; refine (callsIn_wide.2 (HH.out _)).mono ?_; rintro e w1 ⟨rfl, hb1⟩; have HJ1 := Lib.hid (HSK.out _ _ hlt hb (HST.out _ _ _ HJ.out hb1)); clear hb1)
        refine ⟨fun _ _ => trivial, ?_⟩
        gi_wp2
        go_roundw
        case rel => exact ⟨k + 1, by omega, by rw [Int.natCast_succ], HJ1.out⟩
        case measure => first | (simp [intOf]; done) | (simp [intOf]; omega)
      | false =>
        rw [hb] at HH
        gi_wp2_with (refine ⟨trivial, ?_⟩; gi_at_call 22; refine (callsIn_wide.2 (HH.out _)).mono ?_; rintro e w1 ⟨rfl, hb1⟩; obtain ⟨fn, tmps, assign, body, hy, hR⟩ := HY.out k w1 hlt hb (HST.out _ _ _ HJ.out hb1); have HRR := Lib.hid hR; clear hR hb1)
        refine HRR.out.mono ?_
        rintro e W3 (⟨rfl, hJ3⟩ | ⟨rfl, hJx3⟩)
        · have HJ3 := Lib.hid hJ3
          clear hJ3
          gi_wp2
          go_roundw
          case rel => exact ⟨k + 1, by omega, by rw [Int.natCast_succ], HJ3.out⟩
          case measure => first | (simp [intOf]; done) | (simp [intOf]; omega)
        · gi_wp2
          refine bodyPost_ret (results_none rfl _ _ _) rfl ?_
          exact ⟨⟨_, rfl⟩, .inr hJx3⟩
    · have hk5 : k = 5 := by omega
      subst hk5
      have HJ := Lib.hid hJ
      clear hJ
      gi_wp2
      go_end0
      exact ⟨⟨_, rfl⟩, .inl HJ.out⟩
/-- What a round's body owes. -/
def fkPost (B D : Nat) (I : World → Prop) (Ix : Code → World → Prop) (W : World) : Exit → Act → World → Prop
  | .normal, _, W' => (∀ j, j = B ∨ j = D ∨ j = D + 1 → W'.heap[j]? = W.heap[j]?) ∧ W.heap.size ≤ W'.heap.size ∧ I W'
  | .ret, _, W' => (∀ j, j = B ∨ j = D ∨ j = D + 1 → W'.heap[j]? = W.heap[j]?) ∧ W.heap.size ≤ W'.heap.size ∧ Ix .ret W'
  | .exit id, _, W' => (∀ j, j = B ∨ j = D ∨ j = D + 1 → W'.heap[j]? = W.heap[j]?) ∧ W.heap.size ≤ W'.heap.size ∧ Ix (.exit id) W'
  | .goto _, _, _ => False
  | .panic _, _, _ => False
  | .outgrown, _, _ => False
set_option maxHeartbeats 1000000 in
theorem range_free {g : Operand} {ps : Array Tmp} {assign body : Code} {Q : Exit → Act → World → Prop} {a : Act} {w : World} {n : Nat} (hn : 3 ≤ n) (Bn : Nat) (x : UInt8) (hx : x = 2 ∨ x = 7)
    (hg : a.eval g = .func (.func 21) #[] #[.pointer (some ⟨Bn, 0, none⟩)]) (hps : ps.size = 1) (hB : w.heap[Bn]? = some (.cells #[.int .i64 5, .string ⟨#[x]⟩] 30 (0, 0)))
    (I : Nat → World → Prop) (Ix : Code → World → Prop) (hI : ∀ k, Stab Bn w.heap.size (I k)) (hIx : ∀ c, Stab Bn w.heap.size (Ix c)) (hskip : ∀ i W, i < 5 → bitS x i = true → I i W → I (i + 1) W) (h0 : I 0 w) (a₁ : Nat → Act)
    (hassign : ∀ (l : Nat) (k : Nat) (W : World) (K : Act → World → Prop), K (a₁ k) W →
      assign.wpIn (Fence.wide.inRound l) (n - 1 - 1) Try.prog (Exit.then K (fun _ _ _ => False)) { tmps := (ps.zip #[Value.int .i64 (k : Nat)]).foldl (fun t (p, v) => t.setIfInBounds p v) a.tmps, defers := [] } W)
    (hbody : ∀ (l : Nat) (k : Nat) (W : World), k < 5 → bitS x k = false → I k W → w.heap.size + 1 < W.heap.size → body.wpIn (Fence.wide.inRound l) (n - 1 - 1) Try.prog (fkPost Bn w.heap.size (I (k + 1)) Ix W) (a₁ k) W)
    (hdone : ∀ (W : World), I 5 W → W.heap[w.heap.size]? = some (.deferred (some [])) → Q .normal { a with defers := { target := .collected w.heap.size, args := #[] } :: a.defers } W)
    (hstop : ∀ (c : Code) (W : World), Ix c W → W.heap[w.heap.size]? = some (.deferred (some [])) → c.wpIn Fence.wide n Try.prog Q { a with defers := { target := .collected w.heap.size, args := #[] } :: a.defers } W) :
    (Code.rangeFunc g ps assign body).wpIn Fence.wide n Try.prog Q a w := by
  have hBl : Bn < w.heap.size := lt_of_some hB
  refine wpIn_rangeFunc fun fn hfn => ?_
  obtain ⟨rc, hrc⟩ : ∃ rc : LoopState → Option Code → Loop, rc = fun st pe => { state := st, pending := pe, fn, tmps := a.tmps, params := ps, assign, body, defers := w.heap.size } := ⟨_, rfl⟩
  obtain ⟨V, hV⟩ : ∃ V, (w.alloc (.deferred (some []))).alloc (.loop (rc .ready none)) = V := ⟨_, rfl⟩
  have hVl : V.heap[w.heap.size + 1]? = some (.loop (rc .ready none)) := by
    have := World.alloc_heap_new (w.alloc (.deferred (some []))) (.loop (rc .ready none))
    rw [World.size_alloc, hV] at this
    exact this
  have hVd : V.heap[w.heap.size]? = some (.deferred (some [])) := by
    rw [← hV]; exact (Lib.alloc_old _ _ _ (by simp)).trans (World.alloc_heap_new w _)
  have hVb : Below w.heap.size w V := by rw [← hV]; exact ((Below.refl _ w).alloc (Nat.le_refl _) _).alloc (by simp) _
  have hV0 : I 0 V := hI _ w V h0 (hVb.mono (Nat.zero_le _)) hVb.size (fun j hj _ _ _ => hVb.block j hj)
  refine ⟨w.heap.size + 1, [{ target := .collected w.heap.size, args := #[] }], V, { target := .fn (.func 21) #[.pointer (some ⟨Bn, 0, none⟩)], args := #[.func (.yield (w.heap.size + 1)) #[] #[]] }, V, 21, #[.func (.yield (w.heap.size + 1)) #[] #[], .pointer (some ⟨Bn, 0, none⟩)], V, ?_, ?_, fun _ _ => trivial, ?_, fun _ => by omega, ?_⟩
  · rw [← hV, hrc]; exact run_enterLoop_outer _ _ _ _ _
  · simp only [resolve, hg]
    simp [go_sem]
  · have e := enters_of Try.func21 (by kernel_rfl) rfl
    simp [invoke, go_sem]
  · refine (free1_in (n - 1) (w.heap.size + 1) Bn (by omega) x hx
      (fun k W => I k W ∧ W.heap[w.heap.size + 1]? = some (.loop (rc .ready none)) ∧ W.heap[w.heap.size]? = some (.deferred (some [])) ∧ W.heap[Bn]? = w.heap[Bn]?)
      (fun W => ∃ c, Ix c W ∧ W.heap[w.heap.size + 1]? = some (.loop (rc .done (some c))) ∧ W.heap[w.heap.size]? = some (.deferred (some [])))
      (fun k W h => h.2.2.2.trans hB)
      (fun k W W' h hb => ⟨hI k W W' h.1 (hb.mono (Nat.zero_le _)) hb.size (fun j hj _ _ _ => hb.block j hj), (hb.block _ (lt_of_some h.2.1)).trans h.2.1, (hb.block _ (lt_of_some h.2.2.1)).trans h.2.2.1, (hb.block Bn (by have := lt_of_some h.2.2.1; omega)).trans h.2.2.2⟩)
      (fun k W hk hb h => ⟨hskip k W hk hb h.1, h.2⟩)
      ?_ V ⟨hV0, hVl, hVd, hVb.block _ hBl⟩).mono ?_
    · rintro k W hk hbit ⟨hi, hl, hd, hbn⟩
      have hlt := (Array.getElem?_eq_some_iff.1 hl).1
      refine ⟨fn, _, assign, body, ?_, roundIn_of_wpIn hfn (hassign _ k W _ ⟨_, run_beginRound hl (by rw [hrc]), ?_⟩)⟩
      · have := run_yield (P := Try.prog) (args := #[Value.int .i64 (k : Nat)]) hl (by rw [hrc]; exact hps.symm)
        rw [hrc] at this
        exact this
      · obtain ⟨U, hU⟩ : ∃ U, W.putObj (w.heap.size + 1) (.loop { rc .ready none with state := .busy }) = U := ⟨_, rfl⟩
        have hUl : U.heap[w.heap.size + 1]? = some (.loop { rc .ready none with state := .busy }) := by rw [← hU]; exact World.putObj_heap_same hlt
        have hUo : ∀ j, j ≠ w.heap.size + 1 → U.heap[j]? = W.heap[j]? := fun j hj => by rw [← hU]; exact put_other W _ hj
        have hUd : U.heap[w.heap.size]? = some (.deferred (some [])) := (hUo _ (by omega)).trans hd
        have hUi : I k U := by rw [← hU]; exact (hI _).put hi _
        have hUs : w.heap.size + 1 < U.heap.size := (Array.getElem?_eq_some_iff.1 hUl).1
        rw [hU]
        refine wpIn_mono (hbody _ k U hk hbit hUi hUs) ?_
        have stop : ∀ (c : Code) (W3 : World), (∀ j, j = Bn ∨ j = w.heap.size ∨ j = w.heap.size + 1 → W3.heap[j]? = U.heap[j]?) → Ix c W3 → ∃ v w4, (Instr.endRound (w.heap.size + 1) (some c)).run Try.prog W3 = .ok v w4 ∧ ((Ending.returned v = .returned (.bool true) ∧ (I (k + 1) w4 ∧ w4.heap[w.heap.size + 1]? = some (.loop (rc .ready none)) ∧ w4.heap[w.heap.size]? = some (.deferred (some [])) ∧ w4.heap[Bn]? = w.heap[Bn]?)) ∨ (Ending.returned v = .returned (.bool false) ∧ ∃ c, Ix c w4 ∧ w4.heap[w.heap.size + 1]? = some (.loop (rc .done (some c))) ∧ w4.heap[w.heap.size]? = some (.deferred (some [])))) := by
          intro c W3 h1 h3
          have hl3 := (h1 _ (.inr (.inr rfl))).trans hUl
          have hr := run_endRound (P := Try.prog) (some c) hl3
          refine ⟨_, _, hr, .inr ⟨rfl, c, (hIx _).put h3 _, ?_, (put_other W3 _ (by omega)).trans ((h1 _ (.inr (.inl rfl))).trans hUd)⟩⟩
          rw [hrc] at hl3 ⊢
          exact World.putObj_heap_same (Array.getElem?_eq_some_iff.1 hl3).1
        rintro e a3 W3 hp
        cases e with
        | normal =>
          obtain ⟨h1, h2, h3⟩ := hp
          have hl3 := (h1 _ (.inr (.inr rfl))).trans hUl
          have hr := run_endRound (P := Try.prog) none hl3
          refine ⟨_, _, hr, .inl ⟨rfl, (hI _).put h3 _, ?_, (put_other W3 _ (by omega)).trans ((h1 _ (.inr (.inl rfl))).trans hUd), (put_other W3 _ (by omega)).trans ((h1 _ (.inl rfl)).trans ((hUo _ (by omega)).trans hbn))⟩⟩
          rw [hrc] at hl3 ⊢
          exact World.putObj_heap_same (Array.getElem?_eq_some_iff.1 hl3).1
        | ret =>
          obtain ⟨h1, h2, h3⟩ := hp
          exact stop _ W3 h1 h3
        | exit id =>
          obtain ⟨h1, h2, h3⟩ := hp
          exact stop _ W3 h1 h3
        | goto t => exact hp.elim
        | panic ch => exact hp.elim
        | outgrown => exact hp.elim
    · rintro e W2 ⟨⟨v, rfl⟩, (⟨hi, hl, hd, _⟩ | ⟨c, hi, hl, hd⟩)⟩
      · have hr := run_endLoop (P := Try.prog) hl (by rw [hrc]; simp)
        refine ⟨none, _, by rw [hr, hrc], hdone _ ((hI _).put hi _) ((put_other W2 _ (by omega)).trans hd)⟩
      · have hr := run_endLoop (P := Try.prog) hl (by rw [hrc]; simp)
        refine ⟨some c, _, by rw [hr, hrc], hstop c _ ((hIx _).put hi _) ((put_other W2 _ (by omega)).trans hd)⟩
end Go.Proofs.Ytbegjgceemffcaa
