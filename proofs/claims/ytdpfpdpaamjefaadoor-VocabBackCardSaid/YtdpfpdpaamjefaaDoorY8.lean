/- Vocabularies: the maps of an index, as data. A range over entries from the last to the first: the library's iterator, and what its caller owes. Vocabularies: New. Within a round of a range over a function: what the plain walk shows of a region that draws its order holds in the round, too. -/
import Derived.Test.YtdpfpdpaamjefaaDoorY7
import Derived.Maps.OwnIn
import Derived.Test.YtdpfpdpaamjefaaDoorY2
import Derived.Test.YtdpfpdpaamjefaaDoorY6
import Derived.Lib.LazyBuf
import Derived.Lib.SliceRun
import Derived.Test.YtdpfpdpaamjefaaDoorS
import Derived.StillTailTactics
import Derived.RangeFuncCalls
import Derived.OrdersIn
import Derived.Deep.QuietTactic
import Derived.BigQuiet
import Derived.Tactics2
namespace Go.Proofs.YtdpfpdpaamjefaaDoor
open Go.RowKit Go.Maps Go.WideShapes
variable {w w' : World}

/-- An entry as a map's element. -/
def entElem : Value → Option (DataW Unit × List MemPlace)
  | .agg cs => match cs.toList with
    | [.int .i64 i, .string s] => some (.agg [.lit (.int .i64 i), .lit (.string s.data.toList)], [])
    | _ => none
  | _ => none
theorem entElem_mk (i : Int) (s : ByteArray) : entElem (.agg #[.int .i64 i, .string s]) = some (.agg [.lit (.int .i64 i), .lit (.string s.data.toList)], []) := rfl
theorem entElem_inv {v : Value} {z : DataW Unit × List MemPlace} (h : entElem v = some z) : ∃ (i : Int) (s : ByteArray), v = .agg #[.int .i64 i, .string s] ∧ z = (.agg [.lit (.int .i64 i), .lit (.string s.data.toList)], []) := by
  unfold entElem at h
  split at h
  · rename_i cs
    split at h
    · rename_i i s hcs
      injection h with h
      exact ⟨i, s, by rw [← Array.toArray_toList (xs := cs), hcs], h.symm⟩
    · cases h
  · cases h
def entD (e : EntB) : DataW Unit := .agg [.lit (.int .i64 (e.1 : Nat)), .lit (.string e.2.data.toList)]
def entZ : DataW Unit := .agg [.lit (.int .i64 0), .lit (.string [])]
theorem entElem_ent {v : Value} {ps : List MemPlace} {e : EntB} (h : entElem v = some (entD e, ps)) : v = .agg #[.int .i64 (e.1 : Nat), .string e.2] := by
  obtain ⟨i, s, rfl, hz⟩ := entElem_inv h
  unfold entD at hz
  simp only [Prod.mk.injEq, DataW.agg.injEq, List.cons.injEq, DataW.lit.injEq, Lit.int.injEq, Lit.string.injEq, and_true, true_and] at hz
  obtain ⟨⟨h1, h2⟩, _⟩ := hz
  have : s = e.2 := ByteArray.ext (Array.ext' h2.symm)
  rw [h1, this]
theorem entElem_any {v : Value} {D : DataW Unit} {ps : List MemPlace} (h : entElem v = some (D, ps)) : ∃ (i : Int) (s : ByteArray), v = .agg #[.int .i64 i, .string s] := by
  obtain ⟨i, s, hv, _⟩ := entElem_inv h
  exact ⟨i, s, hv⟩
/-- The first entry of a key. -/
def lookE {κ : Type} [DecidableEq κ] (f : EntB → κ) (L : List EntB) (k : κ) : Option EntB := L.find? (fun e => decide (f e = k))
/-- The map at b tells the first entry of each key. -/
def IsEm {κ : Type} [DecidableEq κ] (T : TypeId) (f : EntB → κ) (key : κ → Lit) (b n : Nat) (L : List EntB) (w : World) : Prop :=
  ∃ D : DataW Unit, w.ownsMap Tryd.prog T entElem b n D ∧ ∀ k, has D (key k) = (lookE f L k).isSome ∧ ∀ e, lookE f L k = some e → D.atKey (key k) entZ = entD e
section
variable {κ : Type} [DecidableEq κ] {T : TypeId} {f : EntB → κ} {key : κ → Lit} {b n : Nat} {L : List EntB}
theorem IsEm.keep (h : IsEm T f key b n L w) (hb : w'.heap[b]? = w.heap[b]?) : IsEm T f key b n L w' := by
  obtain ⟨D, ⟨es, clock, h1, h2⟩, h3⟩ := h
  exact ⟨D, ⟨es, clock, hb.trans h1, h2⟩, h3⟩
theorem IsEm.lt (h : IsEm T f key b n L w) : b < w.heap.size := by
  obtain ⟨D, h1, _⟩ := h
  exact h1.lt
theorem IsEm.new (w : World) : IsEm T f key w.heap.size 0 [] (w.alloc (.map #[] 0)) :=
  ⟨.map [], World.ownsMap_made w _ _ _, fun k => ⟨rfl, fun e h => by cases h⟩⟩
theorem IsEm.put {q : EntB} {D : DataW Unit} (hD : w.ownsMap Tryd.prog T entElem b n D) (h2 : ∀ k, has D (key k) = (lookE f L k).isSome ∧ ∀ e, lookE f L k = some e → D.atKey (key k) entZ = entD e)
    (hinj : ∀ x y, key x = key y → x = y) (hkl : ∀ x, WideAt.IsKeyLit (key x))
    (h' : w'.ownsMap Tryd.prog T entElem b (n + 1) (D.put (key (f q)) (entD q))) : IsEm T f key b (n + 1) (q :: L) w' := by
  refine ⟨_, h', fun k => ?_⟩
  have hm : IsMap D := hD.isMap
  by_cases e : f q = k
  · subst e
    have e2 : lookE f (q :: L) (f q) = some q := by unfold lookE; rw [List.find?_cons_of_pos (by simp)]
    rw [e2]
    refine ⟨by rw [has_put_same hm (hkl _)]; rfl, fun e he => ?_⟩
    injection he with he
    rw [atKey_put_same hm (hkl _), he]
  · have hk : key k ≠ key (f q) := fun hk => e (hinj _ _ hk).symm
    have e2 : lookE f (q :: L) k = lookE f L k := by unfold lookE; rw [List.find?_cons_of_neg (by simp [e])]
    rw [e2, has_put_other hk, atKey_put_other hk]
    exact h2 k
end
abbrev IsTk (b n : Nat) (L : List EntB) (w : World) : Prop := IsEm 9 (fun e : EntB => e.2) (fun s : ByteArray => .string s.data.toList) b n L w
abbrev IsId (b n : Nat) (L : List EntB) (w : World) : Prop := IsEm 3 (fun e : EntB => (e.1 : Int)) (fun i : Int => .int .i64 i) b n L w
theorem tk_inj : ∀ x y : ByteArray, Lit.string x.data.toList = .string y.data.toList → x = y := fun x y h => by injection h with h; exact ByteArray.ext (Array.ext' h)
theorem id_inj : ∀ x y : Int, Lit.int .i64 x = .int .i64 y → x = y := fun x y h => by injection h
theorem keyedI : Keyed Tryd.prog 3 := Maps.int_keyed Tryd.underlying3
theorem keyI {i : Int} (h : (Lit.int .i64 i).wf = true) : keyOf Tryd.prog 3 (.int .i64 i) = some (.int .i64 i) := by
  unfold keyOf
  simp only [Tryd.underlying3]
  simp [mapKey, Tryd.underlying3, h]
end Go.Proofs.YtdpfpdpaamjefaaDoor
namespace Go.Proofs.YtdpfpdpaamjefaaDoor
open Go.RowKit Go.Shelf
attribute [local go_sem] Oper.semAt_some
variable {w w' : World}

def entV2 (e : EntB) : Value := .agg #[.int .i64 (e.1 : Nat), .string e.2]
theorem EnAt.row {T : TypeId} {g : Nat} {L : List EntB} (h : EnAt w T (some ⟨g, 0, none⟩) L) (hb : w'.heap[g]? = w.heap[g]?) : EnAt w' T (some ⟨g, 0, none⟩) L := fun k p hp => by
  obtain ⟨b, cur, h1, h2, h3, h4⟩ := h k p hp
  injection h1 with h1
  have h1 : g = b := congrArg Addr.block h1
  subst h1
  refine ⟨g, cur, rfl, hb.trans h2, ?_, ?_⟩
  · rw [← h3]; exact World.cell?_of_block (a := ⟨g, k * 2, none⟩) hb
  · rw [← h4]; exact World.cell?_of_block (a := ⟨g, k * 2 + 1, none⟩) hb
theorem back_any (o : Option Addr) (n cap : Nat) (w : World) :
    Calls Tryd.prog 41 #[.slice o n cap] w fun e w' => e = .returned (.func (.func 51) #[] #[.pointer (some ⟨w.heap.size, 0, none⟩)]) ∧ w' = w.alloc (.cells #[.slice o n cap] 35) := by
  go_enter Tryd.func41, Tryd.ntmps41
  go_wp2_with fail
  go_ret
  exact ⟨rfl, rfl⟩
set_option maxRecDepth 100000 in
set_option maxHeartbeats 2000000 in
theorem back1_in (n l Bn gb cap : Nat) (hn1 : 1 ≤ n) (L : List EntB) (hL : L.length ≤ 100000) (J : Nat → World → Prop) (Jx : World → Prop)
    (hEn : ∀ k W, J k W → W.cell? ⟨Bn, 0, none⟩ = some (.slice (some ⟨gb, 0, none⟩) L.length cap) ∧ EnAt W 55 (some ⟨gb, 0, none⟩) L)
    (hY : ∀ k e W, L[k]? = some e → J (k + 1) W → YieldAt Fence.wide (n - 1) Tryd.prog l #[.int .i64 (k : Nat), entV2 e] W fun e W' => (e = .returned (.bool true) ∧ J k W') ∨ (e = .returned (.bool false) ∧ Jx W'))
    (W : World) (h0 : J L.length W) :
    CallsIn Fence.wide n Tryd.prog 51 #[.func (.yield l) #[] #[], .pointer (some ⟨Bn, 0, none⟩)] W fun e W' => (∃ v, e = .returned v) ∧ (J 0 W' ∨ Jx W') := by
  refine callsIn_of_wp Tryd.func51 rfl trivial ?_ rfl
  simp only [Tryd.ntmps51, List.size_toArray, List.length_cons, List.length_nil, Nat.reduceAdd, Nat.reduceSub, Array.replicate_succ, Array.replicate_zero, List.push_toArray, List.append_toArray, List.nil_append, List.cons_append]
  obtain ⟨N, hN⟩ : ∃ N, L.length = N := ⟨_, rfl⟩
  have hc0 := (hEn _ _ h0).1
  rw [hN] at hL h0 hEn hc0
  have HY := Lib.hid hY; have HE := Lib.hid hEn; have HN := Lib.hid hN; have H0 := Lib.hid h0
  clear hY hEn hN h0
  gi_wp2
  gi_loopw [3] (fun i wr => ∃ k : Nat, k ≤ N ∧ i = .int .i64 ((k : Nat) - 1 : Int) ∧ J k wr) (fun i _ => (intOf i + 1).toNat)
  case atStart => exact ⟨N, Nat.le_refl _, rfl, H0.out⟩
  case round =>
    obtain ⟨k, hk, rfl, hJ⟩ := hrel
    clear hc0 H0
    by_cases hlt : 0 < k
    · obtain ⟨m, rfl⟩ : ∃ m, k = m + 1 := ⟨k - 1, by omega⟩
      rw [show (((m + 1 : Nat) : Int) - 1) = (m : Int) by omega]
      have hmN : m < N := by omega
      obtain ⟨e, he⟩ : ∃ e, L[m]? = some e := ⟨_, List.getElem?_eq_getElem (by rw [HN.out]; exact hmN)⟩
      obtain ⟨c1, hen⟩ := HE.out _ _ hJ
      obtain ⟨g2, cur, hg2, hrow, c2, c3⟩ := hen m e he
      injection hg2 with hg2
      have hg2 : gb = g2 := congrArg Addr.block hg2
      subst hg2
      obtain ⟨fn, tmps, assign, body, hy, hR⟩ := HY.out m e wr he hJ
      simp only [entV2] at hy
      have hmi : (m : Int) < N := by omega
      have hm0 : (0 : Int) ≤ m := by omega
      have HRR := Lib.hid hR
      clear hR hen hrow hJ he hlt hk
      gi_wp2
      refine HRR.out.mono ?_
      rintro e W3 (⟨rfl, hJ3⟩ | ⟨rfl, hJx3⟩)
      · have HJ3 := Lib.hid hJ3
        clear hJ3
        gi_wp2
        go_roundw
        case rel => exact ⟨m, by omega, rfl, HJ3.out⟩
        case measure => first | (simp [intOf]; done) | (simp [intOf]; omega)
      · gi_wp2
        refine bodyPost_ret (results_none rfl _ _ _) rfl ?_
        exact ⟨⟨_, rfl⟩, .inr hJx3⟩
    · have hk0 : k = 0 := by omega
      subst hk0
      have HJ := Lib.hid hJ
      clear hJ hlt
      gi_wp2
      go_end0
      exact ⟨⟨_, rfl⟩, .inl HJ.out⟩
/-- What a round's body owes. -/
def bkPost (B gb D : Nat) (I : World → Prop) (Ix : Code → World → Prop) (W : World) : Exit → Act → World → Prop
  | .normal, _, W' => (∀ j, j = B ∨ j = gb ∨ j = D ∨ j = D + 1 → W'.heap[j]? = W.heap[j]?) ∧ W.heap.size ≤ W'.heap.size ∧ I W'
  | .ret, _, W' => (∀ j, j = B ∨ j = gb ∨ j = D ∨ j = D + 1 → W'.heap[j]? = W.heap[j]?) ∧ W.heap.size ≤ W'.heap.size ∧ Ix .ret W'
  | .exit _, _, _ => False
  | .goto _, _, _ => False
  | .panic _, _, _ => False
  | .outgrown, _, _ => False
set_option maxHeartbeats 1000000 in
theorem range_back {g : Operand} {ps : Array Tmp} {assign body : Code} {Q : Exit → Act → World → Prop} {a : Act} {w : World} {n : Nat} (hn : 3 ≤ n) (Bn gb cap : Nat) (L : List EntB) (hL : L.length ≤ 100000)
    (hg : a.eval g = .func (.func 51) #[] #[.pointer (some ⟨Bn, 0, none⟩)]) (hps : ps.size = 2) (hB : w.cell? ⟨Bn, 0, none⟩ = some (.slice (some ⟨gb, 0, none⟩) L.length cap)) (hE : EnAt w 55 (some ⟨gb, 0, none⟩) L) (hgb : gb < w.heap.size)
    (I : Nat → World → Prop) (Ix : Code → World → Prop) (hI : ∀ k, Stab Bn w.heap.size (I k)) (hIx : ∀ c, Stab Bn w.heap.size (Ix c)) (h0 : I L.length w) (a₁ : Nat → EntB → Nat → Act)
    (hassign : ∀ (l : Nat) (k : Nat) (e : EntB) (W : World) (K : Act → World → Prop), K (a₁ k e W.heap.size) (W.alloc (.cells #[.int .i64 (e.1 : Nat), .string e.2] 55)) →
      assign.wpIn (Fence.wide.inRound l) (n - 1 - 1) Tryd.prog (Exit.then K (fun _ _ _ => False)) { tmps := (ps.zip #[Value.int .i64 (k : Nat), entV2 e]).foldl (fun t (p, v) => t.setIfInBounds p v) a.tmps, defers := [] } W)
    (hbody : ∀ (l : Nat) (k : Nat) (e : EntB) (v : Nat) (W : World), L[k]? = some e → I (k + 1) W → w.heap.size + 1 < v → W.heap[v]? = some (.cells #[.int .i64 (e.1 : Nat), .string e.2] 55 (0, 0)) → body.wpIn (Fence.wide.inRound l) (n - 1 - 1) Tryd.prog (bkPost Bn gb w.heap.size (I k) Ix W) (a₁ k e v) W)
    (hdone : ∀ (W : World), I 0 W → W.heap[w.heap.size]? = some (.deferred (some [])) → Q .normal { a with defers := { target := .collected w.heap.size, args := #[] } :: a.defers } W)
    (hstop : ∀ (W : World), Ix .ret W → W.heap[w.heap.size]? = some (.deferred (some [])) → Code.ret.wpIn Fence.wide n Tryd.prog Q { a with defers := { target := .collected w.heap.size, args := #[] } :: a.defers } W) :
    (Code.rangeFunc g ps assign body).wpIn Fence.wide n Tryd.prog Q a w := by
  have hBl : Bn < w.heap.size := World.block_lt_of_cell? w _ hB
  refine wpIn_rangeFunc fun fn hfn => ?_
  obtain ⟨rc, hrc⟩ : ∃ rc : LoopState → Option Code → Loop, rc = fun st pe => { state := st, pending := pe, fn, tmps := a.tmps, params := ps, assign, body, defers := w.heap.size } := ⟨_, rfl⟩
  obtain ⟨V, hV⟩ : ∃ V, (w.alloc (.deferred (some []))).alloc (.loop (rc .ready none)) = V := ⟨_, rfl⟩
  have hVl : V.heap[w.heap.size + 1]? = some (.loop (rc .ready none)) := by
    have := World.alloc_heap_new (w.alloc (.deferred (some []))) (.loop (rc .ready none))
    rw [World.size_alloc, hV] at this
    exact this
  have hVd : V.heap[w.heap.size]? = some (.deferred (some [])) := by
    rw [← hV]; exact (Lib.alloc_old _ _ _ (by simp)).trans (World.alloc_heap_new w _)
  have hVb : Below w.heap.size w V := by rw [← hV]; exact ((Below.refl _ w).alloc (Nat.le_refl _) _).alloc (by simp) _
  have hV0 : I L.length V := hI _ w V h0 (hVb.mono (Nat.zero_le _)) hVb.size (fun j hj _ _ _ => hVb.block j hj)
  refine ⟨w.heap.size + 1, [{ target := .collected w.heap.size, args := #[] }], V, { target := .fn (.func 51) #[.pointer (some ⟨Bn, 0, none⟩)], args := #[.func (.yield (w.heap.size + 1)) #[] #[]] }, V, 51, #[.func (.yield (w.heap.size + 1)) #[] #[], .pointer (some ⟨Bn, 0, none⟩)], V, ?_, ?_, fun _ _ => trivial, ?_, fun _ => by omega, ?_⟩
  · rw [← hV, hrc]; exact run_enterLoop_outer _ _ _ _ _
  · simp only [resolve, hg]
    simp [go_sem]
  · have e := enters_of Tryd.func51 (by kernel_rfl) rfl
    simp [invoke, go_sem]
  · refine (back1_in (n - 1) (w.heap.size + 1) Bn gb cap (by omega) L hL
      (fun k W => I k W ∧ W.heap[w.heap.size + 1]? = some (.loop (rc .ready none)) ∧ W.heap[w.heap.size]? = some (.deferred (some [])) ∧ W.heap[Bn]? = w.heap[Bn]? ∧ W.heap[gb]? = w.heap[gb]?)
      (fun W => Ix .ret W ∧ W.heap[w.heap.size + 1]? = some (.loop (rc .done (some .ret))) ∧ W.heap[w.heap.size]? = some (.deferred (some [])))
      (fun k W h => ⟨(cell_block (i := 0) h.2.2.2.1).1.trans hB, hE.row h.2.2.2.2⟩)
      ?_ V ⟨hV0, hVl, hVd, hVb.block _ hBl, hVb.block _ hgb⟩).mono ?_
    · rintro k e W0 hk ⟨hi0, hl0, hd0, hbn0, hbg0⟩
      have hv0 : Below W0.heap.size W0 (W0.alloc (.cells #[.int .i64 (e.1 : Nat), .string e.2] 55)) := (Below.refl _ W0).alloc (Nat.le_refl _) _
      have hlt0 := (Array.getElem?_eq_some_iff.1 hl0).1
      have hvn := World.alloc_heap_new W0 (.cells #[.int .i64 (e.1 : Nat), .string e.2] 55)
      refine ⟨fn, _, assign, body, ?_, roundIn_of_wpIn hfn (hassign _ k e W0 _ ?_)⟩
      · have := run_yield (P := Tryd.prog) (args := #[Value.int .i64 (k : Nat), entV2 e]) hl0 (by rw [hrc]; exact hps.symm)
        rw [hrc] at this
        exact this
      · obtain ⟨v, hv⟩ : ∃ v, W0.heap.size = v := ⟨_, rfl⟩
        rw [hv] at hvn ⊢
        generalize hW : W0.alloc (.cells #[.int .i64 (e.1 : Nat), .string e.2] 55) = W at hv0 hvn ⊢
        have hi : I (k + 1) W := hI _ W0 W hi0 (hv0.mono (Nat.zero_le _)) hv0.size (fun j hj _ _ _ => hv0.block j hj)
        have hl := (hv0.block _ hlt0).trans hl0
        have hd := (hv0.block w.heap.size (by omega)).trans hd0
        have hbn := (hv0.block Bn (by omega)).trans hbn0
        have hbg := (hv0.block gb (by omega)).trans hbg0
        have hlt := (Array.getElem?_eq_some_iff.1 hl).1
        refine ⟨_, run_beginRound hl (by rw [hrc]), ?_⟩
        obtain ⟨U, hU⟩ : ∃ U, W.putObj (w.heap.size + 1) (.loop { rc .ready none with state := .busy }) = U := ⟨_, rfl⟩
        have hUl : U.heap[w.heap.size + 1]? = some (.loop { rc .ready none with state := .busy }) := by rw [← hU]; exact World.putObj_heap_same hlt
        have hUo : ∀ j, j ≠ w.heap.size + 1 → U.heap[j]? = W.heap[j]? := fun j hj => by rw [← hU]; exact put_other W _ hj
        have hUd : U.heap[w.heap.size]? = some (.deferred (some [])) := (hUo _ (by omega)).trans hd
        have hUi : I (k + 1) U := by rw [← hU]; exact (hI _).put hi _
        have hUv := (hUo v (by omega)).trans hvn
        rw [hU]
        refine wpIn_mono (hbody _ k e v U hk hUi (by omega) hUv) ?_
        rintro e a3 W3 hp
        cases e with
        | normal =>
          obtain ⟨h1, h2, h3⟩ := hp
          have hl3 := (h1 _ (.inr (.inr (.inr rfl)))).trans hUl
          have hr := run_endRound (P := Tryd.prog) none hl3
          refine ⟨_, _, hr, .inl ⟨rfl, (hI _).put h3 _, ?_, (put_other W3 _ (by omega)).trans ((h1 _ (.inr (.inr (.inl rfl)))).trans hUd), (put_other W3 _ (by omega)).trans ((h1 _ (.inl rfl)).trans ((hUo _ (by omega)).trans hbn)), (put_other W3 _ (by omega)).trans ((h1 _ (.inr (.inl rfl))).trans ((hUo _ (by omega)).trans hbg))⟩⟩
          rw [hrc] at hl3 ⊢
          exact World.putObj_heap_same (Array.getElem?_eq_some_iff.1 hl3).1
        | ret =>
          obtain ⟨h1, h2, h3⟩ := hp
          have hl3 := (h1 _ (.inr (.inr (.inr rfl)))).trans hUl
          have hr := run_endRound (P := Tryd.prog) (some .ret) hl3
          refine ⟨_, _, hr, .inr ⟨rfl, (hIx _).put h3 _, ?_, (put_other W3 _ (by omega)).trans ((h1 _ (.inr (.inr (.inl rfl)))).trans hUd)⟩⟩
          rw [hrc] at hl3 ⊢
          exact World.putObj_heap_same (Array.getElem?_eq_some_iff.1 hl3).1
        | exit id => exact hp.elim
        | goto t => exact hp.elim
        | panic ch => exact hp.elim
        | outgrown => exact hp.elim
    · rintro e W2 ⟨⟨v, rfl⟩, (⟨hi, hl, hd, _⟩ | ⟨hi, hl, hd⟩)⟩
      · have hr := run_endLoop (P := Tryd.prog) hl (by rw [hrc]; simp)
        refine ⟨none, _, by rw [hr, hrc], hdone _ ((hI _).put hi _) ((put_other W2 _ (by omega)).trans hd)⟩
      · have hr := run_endLoop (P := Tryd.prog) hl (by rw [hrc]; simp)
        refine ⟨some .ret, _, by rw [hr, hrc], hstop _ ((hIx _).put hi _) ((put_other W2 _ (by omega)).trans hd)⟩
end Go.Proofs.YtdpfpdpaamjefaaDoor
namespace Go.Proofs.YtdpfpdpaamjefaaDoor
open Go.RowKit Go.Maps
variable {w w' : World}

theorem flatE_len (l : List EntB) : (flatE l).length = l.length * 2 := by
  induction l with
  | nil => rfl
  | cons p l ih => unfold flatE at ih ⊢; rw [List.flatMap_cons, List.length_append, ih, List.length_cons]; simp; omega
theorem ent_cells {T : TypeId} {g : Nat} {l : List EntB} (h : EnAt w T (some ⟨g, 0, none⟩) l) : ∀ j u, (flatE l)[j]? = some u → w.cell? ((⟨g, 0, none⟩ : Addr).add j) = some u := fun j u hu => by
  have hj := (List.getElem?_eq_some_iff.1 hu).1
  rw [flatE_len] at hj
  obtain ⟨p, hp⟩ : ∃ p, l[j / 2]? = some p := ⟨_, List.getElem?_eq_getElem (by omega)⟩
  obtain ⟨b, cur, h1, h2, h3, h4⟩ := h _ p hp
  injection h1 with h1
  have h1 : g = b := congrArg Addr.block h1
  subst h1
  obtain ⟨f1, f2⟩ := flatE_get l _ p hp
  rw [addr_at]
  rcases Nat.mod_two_eq_zero_or_one j with hm | hm
  · have e : j / 2 * 2 = j := by omega
    rw [e] at f1 h3
    rw [h3, ← f1, hu]
  · have e : j / 2 * 2 + 1 = j := by omega
    rw [e] at f2 h4
    rw [h4, ← f2, hu]
theorem flatE_one (l : List EntB) : ∀ u ∈ flatE l, u.oneCell' = true := fun u hu => by
  unfold flatE at hu
  rw [List.mem_flatMap] at hu
  obtain ⟨p, _, hp⟩ := hu
  exact two_memE u hp
set_option maxHeartbeats 2000000 in
set_option maxRecDepth 100000 in
theorem Clone_ve (g cap : Nat) (l : List EntB) (w : World) (hl : l.length ≤ 100000) (h : EnAt w 55 (some ⟨g, 0, none⟩) l) :
    Calls Tryd.prog 17 #[.slice (some ⟨g, 0, none⟩) l.length cap] w fun e w' => ∃ v, e = .returned v ∧ w'.ownsRow w.heap.size 55 2 v l.length (flatE l) ∧ Below w.heap.size w w' := by
  have hq : ∀ (w : World) (a : Option Addr) (n c n' c' : Nat), (binOp .eql 35 (.slice a n c) (.slice none n' c')).run Tryd.prog w = .ok (.bool a.isNone) w := fun w a n c n' c' => Lib.run_eql_slice_nil w _ _ a n c n' c' Tryd.underlying35
  obtain ⟨i1, hi1, hz0, hz1, hz2⟩ := info_parts info_ve
  have HI1 := Lib.hid hi1; have HZ0 := Lib.hid hz0; have HZ1 := Lib.hid hz1; have HZ2 := Lib.hid hz2
  obtain ⟨W1, hW1⟩ : ∃ W1, w.alloc (.cells #[] 55) = W1 := ⟨_, rfl⟩
  have hen : EnAt W1 55 (some ⟨g, 0, none⟩) l := by rw [← hW1]; exact h.below ((Below.refl _ w).alloc (Nat.le_refl _) _)
  have HC := Lib.hid (ent_cells hen)
  have HB : Hid (Below w.heap.size w W1) := Lib.hid (by rw [← hW1]; exact (Below.refl _ w).alloc (Nat.le_refl _) _)
  have HO : Hid (W1.ownsRow w.heap.size 55 2 (.slice (some ⟨w.heap.size, 0, none⟩) 0 0) 0 []) := Lib.hid (by rw [← hW1]; exact World.ownsRow_made w #[] 0 (Nat.le_refl _) (Nat.zero_le _) rfl)
  obtain ⟨n, hn⟩ : ∃ n, l.length = n := ⟨_, rfl⟩
  have HN := Lib.hid hn
  rw [hn] at hl ⊢
  clear hi1 hz0 hz1 hz2 hen h hn
  go_enter Tryd.func17, Tryd.ntmps17
  go_wp2_with (at_builtin; refine wpList_append_own _ rfl _ _ 35 rfl w.heap.size 55 i1 (.agg #[.int .i64 0, .string ⟨#[]⟩]) 2 24 Tryd.underlying35 HI1.out HZ0.out HZ1.out HZ2.out rfl (by decide) _ _ _ rfl HO.out ⟨g, 0, none⟩ n cap (flatE l) rfl ?a1 HC.out (flatE_one l) ?a2 ?a3 HB.out.size ?a4)
  case a1 => rw [flatE_len, HN.out]
  case a2 => unfold maxLen; omega
  case a3 => omega
  intro v' w4 hown hgrow _
  have HOW := Lib.hid hown
  have HGR : Hid (Below w.heap.size w w4) := Lib.hid (HB.out.grown hgrow HB.out.size (fun k hk => Nat.le_of_eq (Option.some.inj hk)))
  clear hown hgrow
  go_wp2_with fail
  go_ret
  exact ⟨v', rfl, by have := HOW.out; simpa using this, HGR.out⟩
/-- The index: its seven cells. -/
def ixRow (v : Value) (d s : Int) (m1 m2 : Value) (x : Int) : Array Value := #[v, .int .u32 d, .int .i32 s, .int .u32 0, m1, m2, .int .i64 x]
set_option maxHeartbeats 2000000 in
set_option maxRecDepth 100000 in
theorem New_any (g cap : Nat) (l : List EntB) (w : World) (hl : l.length ≤ 100000) (h : EnAt w 55 (some ⟨g, 0, none⟩) l) :
    Calls Tryd.prog 8 #[.slice (some ⟨g, 0, none⟩) l.length cap] w fun e w' => ∃ N v, e = .returned (.pointer (some ⟨N, 0, none⟩)) ∧ w.heap.size ≤ N ∧ w'.heap[N]? = some (.cells (ixRow v 0 0 (.map none) (.map none) 0) 73 (0, 0)) ∧ w'.ownsRow w.heap.size 55 2 v l.length (flatE l) ∧ Below w.heap.size w w' := by
  have HCL := Lib.hid (Clone_ve g cap l w hl h)
  clear h
  go_enter Tryd.func8, Tryd.ntmps8
  go_wp2_with (go_at_call 17; refine HCL.out.mono ?_)
  first | rintro e w1 ⟨v, rfl, h1, h2⟩ | rintro e w1 v rfl h1 h2
  have H1 := Lib.hid h1; have H2 := Lib.hid h2
  obtain ⟨o, c2, rfl, _⟩ := own_ents h1
  clear h1 h2
  go_wp2_with fail
  go_ret
  refine ⟨w1.heap.size, _, rfl, H2.out.size, World.alloc_heap_new w1 _, own_below H1.out ((Below.refl _ w1).alloc (Nat.le_refl _) _), H2.out.alloc H2.out.size _⟩
end Go.Proofs.YtdpfpdpaamjefaaDoor
namespace Go.Proofs.YtdpfpdpaamjefaaDoor

theorem round_ops {P : Program} {ops : Array Oper} {Q : Exit → Act → World → Prop} {r n : Nat} (hd : ∀ (i : Nat) (o : Oper), ops[i]? = some o → ∀ c, o.op ≠ .defer c) (hQ : ¬ LetsOut Q) :
    ∀ (idx : List Nat) (a : Act) (w : World), wpOps P ops Q idx a w → wpOpsIn (Fence.wide.inRound r) n P ops Q idx a w
  | [], _, _, h => h
  | i :: rest, a, w, h => by
    have ih := round_ops (P := P) (r := r) (n := n) hd hQ rest
    unfold wpOps at h
    unfold wpOpsIn
    cases ho : ops[i]? with
    | none =>
      simp only [ho] at h
      exact ih _ _ h
    | some o =>
      simp only [ho] at h
      by_cases hw : Region.wanted o (yielded ops a.tmps) = true
      · simp only [hw, if_true] at h ⊢
        rcases h with h | ⟨_, h⟩
        · refine ⟨fun _ _ => trivial, ?_⟩
          rw [Oper.semAt_eq _ _ _ (hd i o ho)]
          unfold Oper.wp at h
          generalize (execOp a.eval o).run P w = R at h ⊢
          cases R with
          | ok x w' =>
            cases x with
            | value v => exact ih _ _ h
            | skip => exact ih _ _ h
            | defer d => exact ih _ _ h
            | enter f args =>
              refine ⟨fun h => (by cases h), CallsIn.inRound r (callsIn_wide.2 (Calls.mono h fun e w'' he => ?_))⟩
              cases e with
              | returned v => exact ih _ _ he
              | panicked c => exact he
              | outgrown => exact he
            | row row args => exact ⟨fun h => (by cases h), fun c cs _ => let ⟨v, w', q, s⟩ := h c cs; ⟨v, w', ih _ _ q, stepsIn_wide.2 s⟩⟩
            | _ => exact h.elim
          | halt x w' =>
            cases x with
            | panic u => exact h
            | _ => exact h.elim
        · exact absurd h hQ
      · rw [Bool.not_eq_true] at hw
        simp only [hw, Bool.false_eq_true, if_false] at h ⊢
        exact ⟨fun _ _ => trivial, ih _ _ h⟩
def noDefer (l : List Oper) : Bool := l.all fun o => match o.op with
  | .defer _ => false
  | _ => true
theorem noDefer_spec {l : List Oper} (h : noDefer l = true) : ∀ (i : Nat) (o : Oper), l.toArray[i]? = some o → ∀ c, o.op ≠ .defer c := fun i o ho c e => by
  have hm : o ∈ l := by
    have : l[i]? = some o := by simpa using ho
    exact List.mem_of_getElem? this
  have := List.all_eq_true.1 h o hm
  simp [e] at this
/-- A region within a round whose first n operations only read. -/
theorem round_still_tail {P : Program} {id r m : Nat} {Q : Exit → Act → World → Prop} {a : Act} {w : World} {l : List Oper} (n : Nat) (hm : P.follows .mixedOrders = true) (hB : Region.lexTailB .any l.toArray n = true) (hd : noDefer l = true) (hQ : ¬ LetsOut Q)
    (h : wpStill P l.toArray w.drew (fun a' => wpList P l.toArray Q (l.drop n) a' w.drew) (l.take n) a) : (Code.region id l.toArray true).wpIn (Fence.wide.inRound r) m P Q a w := by
  refine wpIn_region_draw fun t => round_ops (noDefer_spec hd) hQ _ _ _ ?_
  simp only [Region.schedule, hm, Bool.true_or, if_true]
  refine wpAny_sound l.toArray.size t _ a _ ?_
  simp only [Region.lexTailB, Bool.and_eq_true, decide_eq_true_eq] at hB
  obtain ⟨⟨⟨⟨hsel, hn⟩, hs⟩, hc⟩, hlex⟩ := hB
  have hnl : n < l.length := by simpa using hn
  have ht : (l.take n).length = n := by rw [List.length_take]; omega
  have hdr : (l.drop n).length = l.toArray.size - n := by simp
  have inv : HeadInv .any l.toArray n (Array.replicate l.toArray.size false) :=
    ⟨by simp, fun j oj _ hl => absurd hl (by rw [getD_replicate_false]; decide), fun t _ ht => getD_in (by simpa using ht) (getD_replicate_false _ _)⟩
  have H := wpAnyL_lex (md := .any) (g := l.toArray.size - n) hsel hs hc hn (l.take n) 0 _ a (fun j hj => by
    rw [ht] at hj
    simp [hj]) (by rw [ht]; omega) inv (by rw [ht]; exact hlex) h
  have H2 := wpAny_of_head (Q' := Q) (g := l.toArray.size - n) (fun listed a' hL => by
    have h2 := wpAny_of_seq (md := .any) (Q' := Q) (l.drop n) n listed a' w.drew (fun j => by simp [List.getElem?_drop]) (by rw [hdr]; exact hL.1) hL.2
    rw [hdr] at h2
    exact h2) _ _ _ H
  rw [ht, show n + (l.toArray.size - n) = l.toArray.size by omega] at H2
  exact H2
/-- A region within a round that only reads. -/
theorem round_quiet {P : Program} {id r m : Nat} {Q : Exit → Act → World → Prop} {a : Act} {w : World} {l : List Oper} (hm : P.follows .mixedOrders = true) (hB : Region.lexB .any l.toArray = true) (hd : noDefer l = true) (hQ : ¬ LetsOut Q)
    (h : wpQuiet P l.toArray (fun w' => ∃ n, w' = w.drewN n) (fun a' => ∀ w', (∃ n, w' = w.drewN n) → Q .normal a' w') l a) : (Code.region id l.toArray true).wpIn (Fence.wide.inRound r) m P Q a w := by
  refine wpIn_region_draw fun t => round_ops (noDefer_spec hd) hQ _ _ _ ?_
  simp only [Region.schedule, hm, Bool.true_or, if_true]
  refine wpAny_sound l.toArray.size t _ a _ ?_
  simp only [Region.lexB, Bool.and_eq_true] at hB
  refine wpAny_of_quiet (C := fun w' => ∃ n, w' = w.drewN n) (Q := fun a' => ∀ w', (∃ n, w' = w.drewN n) → Q .normal a' w') (fun _ w' hw' h => h w' hw') _ _ _ _ ⟨1, rfl⟩ ?_
  have := wpAnyQ_lex (C := fun w' => ∃ n, w' = w.drewN n) (md := .any) hB.1 l 0 (Array.replicate l.toArray.size false) a (by simp) (by simpa using hB.2) h
  simpa using this
end Go.Proofs.YtdpfpdpaamjefaaDoor
