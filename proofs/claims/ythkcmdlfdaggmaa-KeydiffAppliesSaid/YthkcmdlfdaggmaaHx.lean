/- Keyed lists: calls whose sides are stored in blocks of one's own, in whatever order the blocks are made. -/
import Derived.Test.YthkcmdlfdaggmaaHw
import Derived.Test.YthkcmdlfdaggmaaHr
set_option linter.unusedVariables false
set_option linter.unusedSimpArgs false
namespace Go.Proofs.Ythkcmdlfdaggmaa
open Go.RowKit

abbrev ptr (g : Nat) : Value := .pointer (some ⟨g, 0, none⟩)
/-- cs: calls, each by its operation and its slot; al: blocks, each by the operation that makes it, its slot, the operation that stores in it. -/
structure PQD (n N : Nat) (cs : List (Nat × Nat)) (al : List (Nat × Nat × Nat)) : Prop where
  c1 : ∀ c ∈ cs, ∀ d ∈ cs, c.1 = d.1 → c = d
  c2 : ∀ c ∈ cs, ∀ d ∈ cs, c.2 = d.2 → c = d
  cx : ∀ c ∈ cs, ∀ x ∈ al, c.1 ≠ x.1 ∧ c.1 ≠ x.2.2 ∧ c.2 ≠ x.2.1
  x1 : ∀ x ∈ al, ∀ y ∈ al, x.1 = y.1 → x = y
  x2 : ∀ x ∈ al, ∀ y ∈ al, x.2.1 = y.2.1 → x = y
  x3 : ∀ x ∈ al, ∀ y ∈ al, x.2.2 = y.2.2 → x = y
  x4 : ∀ x ∈ al, ∀ y ∈ al, x.1 ≠ y.2.2
  cn : ∀ c ∈ cs, c.1 < n ∧ c.2 < N
  xn : ∀ x ∈ al, x.1 < n ∧ x.2.1 < N ∧ x.2.2 < n
structure PQ (T0 : Array Value) (n : Nat) (taken : List Nat) (cs : List (Nat × Nat)) (al : List (Nat × Nat × Nat)) (cv xv : Nat → SdB) (t : TypeId) (wr : World) (g : Nat → Nat) (L : Array Bool) (a : Act) (w : World) : Prop where
  sz : L.size = n
  tk : ∀ i ∈ taken, L.getD i true = true
  bl : Below wr.heap.size wr w
  df : a.defers = []
  ts : a.tmps.size = T0.size
  ot : ∀ i, i ∉ cs.map (·.2) → i ∉ al.map (·.2.1) → a.tmps.getD i undef = T0.getD i undef
  cl : ∀ c ∈ cs, L.getD c.1 true = true → a.tmps.getD c.2 undef = sdV (cv c.1)
  xl : ∀ x ∈ al, L.getD x.1 true = true → a.tmps.getD x.2.1 undef = ptr (g x.1) ∧ wr.heap.size ≤ g x.1 ∧ ∃ u : SdB, w.heap[g x.1]? = some (.cells #[.string u.1, .bool u.2] t (0, 0)) ∧ (L.getD x.2.2 true = true → u = xv x.2.2)
  ap : ∀ x ∈ al, ∀ y ∈ al, L.getD x.1 true = true → L.getD y.1 true = true → x ≠ y → g x.1 ≠ g y.1
  so : ∀ x ∈ al, L.getD x.2.2 true = true → L.getD x.1 true = true
section
variable {T0 : Array Value} {n : Nat} {taken : List Nat} {cs : List (Nat × Nat)} {al : List (Nat × Nat × Nat)} {cv xv : Nat → SdB} {t : TypeId} {wr : World} {g : Nat → Nat} {L : Array Bool} {a : Act} {w w' : World}
theorem PQ.call (D : PQD n T0.size cs al) (h : PQ T0 n taken cs al cv xv t wr g L a w) {c : Nat × Nat} (hc : c ∈ cs) (hb : Below w.heap.size w w') : PQ T0 n taken cs al cv xv t wr g (L.setIfInBounds c.1 true) (a.put (some c.2) (sdV (cv c.1))) w' := by
  have hn := D.cn c hc
  have hL : c.1 < L.size := by rw [h.sz]; exact hn.1
  have hT : c.2 < a.tmps.size := by rw [h.ts]; exact hn.2
  have keep : ∀ {i : Nat}, c.1 ≠ i → (L.setIfInBounds c.1 true).getD i true = true → L.getD i true = true := fun hne e => by
    simp only [Array.getD_eq_getD_getElem?, Array.getElem?_setIfInBounds, if_neg hne] at e ⊢; exact e
  refine ⟨by simp [h.sz], fun i hi => ?_, h.bl.trans (hb.mono h.bl.size), h.df, by simp [Act.put, h.ts], fun i h1 h2 => ?_, fun d hd e => ?_, fun x hx e => ?_, fun x hx y hy e1 e2 => h.ap x hx y hy (keep (D.cx c hc x hx).1 e1) (keep (D.cx c hc y hy).1 e2), fun x hx e => ?_⟩
  · have := h.tk i hi
    by_cases e : c.1 = i
    · subst e; simp [hL]
    · simp only [Array.getD_eq_getD_getElem?, Array.getElem?_setIfInBounds, if_neg e] at this ⊢; exact this
  · have hne : c.2 ≠ i := fun e => h1 (by rw [← e]; exact List.mem_map_of_mem hc)
    show (a.tmps.setIfInBounds c.2 _).getD i undef = _
    rw [put_at hT, if_neg hne]; exact h.ot i h1 h2
  · show (a.tmps.setIfInBounds c.2 _).getD d.2 undef = _
    rw [put_at hT]
    by_cases e2 : c.2 = d.2
    · rw [if_pos e2, D.c2 c hc d hd e2]
    · rw [if_neg e2]
      refine h.cl d hd (keep (fun e3 => e2 ?_) e)
      rw [D.c1 c hc d hd e3]
  · obtain ⟨h1, h2, u, h3, h4⟩ := h.xl x hx (keep (D.cx c hc x hx).1 e)
    refine ⟨?_, h2, u, (hb.block _ (lt_of_some h3)).trans h3, fun e5 => h4 (keep (D.cx c hc x hx).2.1 e5)⟩
    show (a.tmps.setIfInBounds c.2 _).getD x.2.1 undef = _
    rw [put_at hT, if_neg (D.cx c hc x hx).2.2]; exact h1
  · have := h.so x hx (keep (D.cx c hc x hx).2.1 e)
    have hne := (D.cx c hc x hx).1
    simp only [Array.getD_eq_getD_getElem?, Array.getElem?_setIfInBounds, if_neg hne] at this ⊢; exact this
theorem PQ.make (D : PQD n T0.size cs al) (h : PQ T0 n taken cs al cv xv t wr g L a w) {x : Nat × Nat × Nat} (hx : x ∈ al) (hx0 : L.getD x.1 true = false) : PQ T0 n taken cs al cv xv t wr (fun i => if i = x.1 then w.heap.size else g i) (L.setIfInBounds x.1 true) (a.put (some x.2.1) (ptr w.heap.size)) (w.alloc (.cells #[.string ⟨#[]⟩, .bool false] t)) := by
  have hn := D.xn x hx
  have hL : x.1 < L.size := by rw [h.sz]; exact hn.1
  have hT : x.2.1 < a.tmps.size := by rw [h.ts]; exact hn.2.1
  have hset : ∀ i, (L.setIfInBounds x.1 true).getD i true = if x.1 = i then true else L.getD i true := fun i => by
    by_cases e : x.1 = i
    · subst e; simp [hL]
    · simp only [Array.getD_eq_getD_getElem?, Array.getElem?_setIfInBounds, if_neg e]
  have hb := (Below.refl w.heap.size w).alloc (Nat.le_refl _) (.cells #[.string ⟨#[]⟩, .bool false] t)
  have hlt : ∀ y ∈ al, L.getD y.1 true = true → g y.1 < w.heap.size := fun y hy e => by obtain ⟨_, _, u, h3, _⟩ := h.xl y hy e; exact lt_of_some h3
  refine ⟨by simp [h.sz], fun i hi => ?_, h.bl.trans (hb.mono h.bl.size), h.df, by simp [Act.put, h.ts], fun i h1 h2 => ?_, fun d hd e => ?_, fun y hy e => ?_, fun y hy z hz e1 e2 hne => ?_, fun y hy e => ?_⟩
  · rw [hset]; split
    · rfl
    · exact h.tk i hi
  · have hne : x.2.1 ≠ i := fun e => h2 (by rw [← e]; exact List.mem_map_of_mem (f := fun z : Nat × Nat × Nat => z.2.1) hx)
    show (a.tmps.setIfInBounds x.2.1 _).getD i undef = _
    rw [put_at hT, if_neg hne]; exact h.ot i h1 h2
  · show (a.tmps.setIfInBounds x.2.1 _).getD d.2 undef = _
    rw [put_at hT, if_neg (fun e2 => (D.cx d hd x hx).2.2 e2.symm)]
    rw [hset, if_neg (fun e2 => (D.cx d hd x hx).1 e2.symm)] at e
    exact h.cl d hd e
  · show (a.tmps.setIfInBounds x.2.1 _).getD y.2.1 undef = _ ∧ _
    rw [put_at hT]
    by_cases hxy : x = y
    · subst hxy
      rw [if_pos rfl, if_pos rfl]
      refine ⟨rfl, h.bl.size, (⟨#[]⟩, false), World.alloc_heap_new w _, fun e5 => ?_⟩
      rw [hset, if_neg (D.x4 x hx x hx)] at e5
      have := h.so x hx e5
      rw [hx0] at this; cases this
    · have h1 : x.1 ≠ y.1 := fun e2 => hxy (D.x1 x hx y hy e2)
      have h2 : x.2.1 ≠ y.2.1 := fun e2 => hxy (D.x2 x hx y hy e2)
      rw [if_neg h2, if_neg (fun e2 => h1 e2.symm)]
      rw [hset, if_neg h1] at e
      obtain ⟨k1, k2, u, k3, k4⟩ := h.xl y hy e
      refine ⟨k1, k2, u, (hb.block _ (lt_of_some k3)).trans k3, fun e5 => k4 ?_⟩
      rw [hset, if_neg (D.x4 x hx y hy)] at e5; exact e5
  · show (if y.1 = x.1 then _ else _) ≠ if z.1 = x.1 then _ else _
    by_cases hy1 : y.1 = x.1
    · have hyx := D.x1 y hy x hx hy1
      have hz1 : z.1 ≠ x.1 := fun e2 => hne (hyx.trans (D.x1 z hz x hx e2).symm)
      rw [if_pos hy1, if_neg hz1]
      rw [hset, if_neg (fun e3 => hz1 e3.symm)] at e2
      have := hlt z hz e2; omega
    · rw [if_neg hy1]
      rw [hset, if_neg (fun e3 => hy1 e3.symm)] at e1
      have hly := hlt y hy e1
      by_cases hz1 : z.1 = x.1
      · rw [if_pos hz1]; omega
      · rw [if_neg hz1]
        rw [hset, if_neg (fun e3 => hz1 e3.symm)] at e2
        exact h.ap y hy z hz e1 e2 hne
  · rw [hset]; split
    · rfl
    · rw [hset, if_neg (D.x4 x hx y hy)] at e; exact h.so y hy e
theorem PQ.store (D : PQD n T0.size cs al) (h : PQ T0 n taken cs al cv xv t wr g L a w) {x : Nat × Nat × Nat} (hx : x ∈ al) (hx1 : L.getD x.1 true = true) (hw : w.grownBy w' (some (g x.1))) (hc : w'.heap[g x.1]? = some (.cells #[.string (xv x.2.2).1, .bool (xv x.2.2).2] t (0, 0))) : PQ T0 n taken cs al cv xv t wr g (L.setIfInBounds x.2.2 true) a w' := by
  have hn := D.xn x hx
  have hL : x.2.2 < L.size := by rw [h.sz]; exact hn.2.2
  have hset : ∀ i, (L.setIfInBounds x.2.2 true).getD i true = if x.2.2 = i then true else L.getD i true := fun i => by
    by_cases e : x.2.2 = i
    · subst e; simp [hL]
    · simp only [Array.getD_eq_getD_getElem?, Array.getElem?_setIfInBounds, if_neg e]
  have hge := (h.xl x hx hx1).2.1
  refine ⟨by simp [h.sz], fun i hi => ?_, h.bl.grown hw h.bl.size (fun k e => by cases e; exact hge), h.df, h.ts, h.ot, fun d hd e => ?_, fun y hy e => ?_, fun y hy z hz e1 e2 hne => ?_, fun y hy e => ?_⟩
  · rw [hset]; split
    · rfl
    · exact h.tk i hi
  · rw [hset, if_neg (fun e2 => (D.cx d hd x hx).2.1 e2.symm)] at e; exact h.cl d hd e
  · rw [hset, if_neg (fun e2 => D.x4 y hy x hx e2.symm)] at e
    obtain ⟨k1, k2, u, k3, k4⟩ := h.xl y hy e
    by_cases hxy : x = y
    · subst hxy; exact ⟨k1, k2, xv x.2.2, hc, fun _ => rfl⟩
    · have hne := h.ap x hx y hy hx1 e hxy
      refine ⟨k1, k2, u, (hw.block _ (lt_of_some k3) (fun e2 => by injection e2 with e2; exact hne e2.symm)).trans k3, fun e5 => k4 ?_⟩
      rw [hset, if_neg (fun e2 => hxy (D.x3 x hx y hy e2))] at e5; exact e5
  · rw [hset, if_neg (fun e3 => D.x4 y hy x hx e3.symm)] at e1
    rw [hset, if_neg (fun e3 => D.x4 z hz x hx e3.symm)] at e2
    exact h.ap y hy z hz e1 e2 hne
  · rw [hset] at e
    rw [hset, if_neg (fun e3 => D.x4 y hy x hx e3.symm)]
    by_cases hxy : x.2.2 = y.2.2
    · rw [← D.x3 x hx y hy hxy]; exact hx1
    · rw [if_neg hxy] at e; exact h.so y hy e
end
/-- What the region's text says: which operations there are, each behind what. -/
def pqCheck (md : Region.Mode) (ops : Array Oper) (n : Nat) (taken : List Nat) (cs : List (Nat × Nat)) (al : List (Nat × Nat × Nat)) (src : Nat → Nat) : Bool :=
  (ops.size == n) && ((List.range n).all fun i => taken.contains i || cs.any (fun c => c.1 == i) || al.any (fun x => x.1 == i || x.2.2 == i))
  && ((List.range n).all fun i => match ops[i]? with | some o => o.after.all fun e => decide (e.on < i) | none => true)
  && (al.all fun x => match ops[x.2.2]? with | some o => o.after.any (fun e => Region.binds md e && e.on == x.1) && o.after.any (fun e => Region.binds md e && e.on == src x.2.2) | none => false)
theorem wpAnyH_pq {P : Program} {md : Region.Mode} {ops : Array Oper} {Q : Exit → Act → World → Prop} {S : World → Prop} {fuel : Nat} {L0 : Array Bool} {a0 : Act} {w0 : World} (n : Nat) (taken : List Nat) (cs : List (Nat × Nat)) (al : List (Nat × Nat × Nat)) (src : Nat → Nat) (cv : Nat → SdB) (t : TypeId) (wr : World)
    (hd : a0.defers = []) (hn : L0.size = n) (htk0 : (taken.all fun i => L0.getD i true) = true) (hcs0 : (cs.all fun c => !L0.getD c.1 true) = true) (hal0 : (al.all fun x => !L0.getD x.1 true && !L0.getD x.2.2 true) = true) (hb : Below wr.heap.size wr w0) (hf0 : decide (unl L0 ≤ fuel) = true)
    (hck : pqCheck md ops n taken cs al src = true) (D : PQD n a0.tmps.size cs al) (hsrc : ∀ x ∈ al, ∃ c ∈ cs, c.1 = src x.2.2)
    (hS : ∀ w, Below wr.heap.size wr w → S w)
    (hcall : ∀ (a : Act) (w : World), Below wr.heap.size wr w → (∀ i, i ∉ cs.map (·.2) → i ∉ al.map (·.2.1) → a.tmps.getD i undef = a0.tmps.getD i undef) → ∀ c ∈ cs, ∀ K : Act → World → Prop, (∀ w', Below w.heap.size w w' → K (a.put (some c.2) (sdV (cv c.1))) w') → wpOp P ops Q c.1 K a w)
    (hmake : ∀ (a : Act) (w : World), ∀ x ∈ al, ∀ K : Act → World → Prop, K (a.put (some x.2.1) (ptr w.heap.size)) (w.alloc (.cells #[.string ⟨#[]⟩, .bool false] t)) → wpOp P ops Q x.1 K a w)
    (hstore : ∀ (a : Act) (w : World), ∀ x ∈ al, ∀ c ∈ cs, c.1 = src x.2.2 → ∀ (g : Nat) (u : SdB), a.tmps.getD x.2.1 undef = ptr g → a.tmps.getD c.2 undef = sdV (cv c.1) → w.heap[g]? = some (.cells #[.string u.1, .bool u.2] t (0, 0)) → ∀ K : Act → World → Prop, (∀ w', w.grownBy w' (some g) → w'.heap[g]? = some (.cells #[.string (cv c.1).1, .bool (cv c.1).2] t (0, 0)) → K a w') → wpOp P ops Q x.2.2 K a w)
    (hdone : ∀ (g : Nat → Nat) (a : Act) (w : World), a.defers = [] → a.tmps.size = a0.tmps.size → (∀ i, i ∉ cs.map (·.2) → i ∉ al.map (·.2.1) → a.tmps.getD i undef = a0.tmps.getD i undef) → (∀ c ∈ cs, a.tmps.getD c.2 undef = sdV (cv c.1)) → (∀ x ∈ al, a.tmps.getD x.2.1 undef = ptr (g x.1) ∧ w.heap[g x.1]? = some (.cells #[.string (cv (src x.2.2)).1, .bool (cv (src x.2.2)).2] t (0, 0))) → Below wr.heap.size wr w → Q .normal a w) : wpAnyH P md ops Q S fuel L0 a0 w0 := by
  have htk : ∀ i ∈ taken, L0.getD i true = true := fun i hi => List.all_eq_true.1 htk0 i hi
  have hcs : ∀ c ∈ cs, L0.getD c.1 true = false := fun c hc => by simpa using List.all_eq_true.1 hcs0 c hc
  have hal : ∀ x ∈ al, L0.getD x.1 true = false ∧ L0.getD x.2.2 true = false := fun x hx => by simpa using List.all_eq_true.1 hal0 x hx
  have hf : unl L0 ≤ fuel := of_decide_eq_true hf0
  unfold pqCheck at hck
  simp only [Bool.and_eq_true] at hck
  obtain ⟨⟨⟨k1, k2⟩, k3⟩, k4⟩ := hck
  have hsz : ops.size = n := by simpa using k1
  refine wpAnyH_inv (J := fun L a w => ∃ g, PQ a0.tmps n taken cs al cv (fun i => cv (src i)) t wr g L a w) (fun L a w ⟨g, h⟩ => hS w h.bl) ?_ ?_ fuel L0 a0 w0 ⟨fun _ => 0, hn, htk, hb, hd, rfl, fun i _ _ => rfl, fun c hc e => ?_, fun x hx e => ?_, fun x hx y hy e => ?_, fun x hx e => ?_⟩ hf
  · rintro L a w ⟨g, h⟩ i hi
    obtain ⟨hi0, op, hop, hdep⟩ := mem_ready.1 hi
    have hlt : i < n := by rw [← hsz]; exact (Array.getElem?_eq_some_iff.1 hop).1
    have hcov := List.all_eq_true.1 k2 i (List.mem_range.2 hlt)
    simp only [Bool.or_eq_true, List.any_eq_true, List.contains_iff_mem, beq_iff_eq] at hcov
    have hT : ∀ {j : Nat}, L.getD j false = true → L.getD j true = true := fun {j} e => by
      rcases Nat.lt_or_ge j L.size with hl | hl
      · simp [hl] at e ⊢; exact e
      · simp [Array.getElem?_eq_none hl, Nat.not_lt.2 hl] at e
    rcases hcov with (hm | ⟨c, hc, rfl⟩) | ⟨x, hx, hxi⟩
    · have := h.tk i hm; rw [hi0] at this; cases this
    · exact hcall a w h.bl h.ot c hc _ fun w' hb' => ⟨g, h.call D hc hb'⟩
    · by_cases e1 : x.1 = i
      · subst e1
        exact hmake a w x hx _ ⟨_, h.make D hx hi0⟩
      · have e2 : x.2.2 = i := hxi.resolve_left e1
        subst e2
        have h4 := List.all_eq_true.1 k4 x hx
        rw [hop] at h4
        simp only [Bool.and_eq_true, Array.any_eq_true', beq_iff_eq] at h4
        obtain ⟨⟨ea, hea, hba, hoa⟩, eb, heb, hbb, hob⟩ := h4
        have ha1 := hT (by have := hdep ea hea hba; rwa [hoa] at this)
        have hb1 := hT (by have := hdep eb heb hbb; rwa [hob] at this)
        obtain ⟨c, hc, hcs'⟩ := hsrc x hx
        obtain ⟨q1, q2, u, q3, q4⟩ := h.xl x hx ha1
        refine hstore a w x hx c hc hcs' (g x.1) u q1 (h.cl c hc (by rw [hcs']; exact hb1)) q3 _ fun w' hg' hc' => ⟨g, h.store D hx ha1 hg' ?_⟩
        rw [hcs'] at hc'; exact hc'
  · rintro L a w ⟨g, h⟩ hr
    have hall : ∀ i, i < n → L.getD i true = true := fun i => by
      induction i using Nat.strongRecOn with
      | _ i ih =>
        intro hi
        refine Classical.byContradiction fun hne => ?_
        have hf : L.getD i true = false := by simpa using hne
        have hil : i < ops.size := by rw [hsz]; exact hi
        have ho : ops[i]? = some ops[i] := Array.getElem?_eq_getElem hil
        have : i ∈ Region.ready md ops L := mem_ready.2 ⟨hf, ops[i], ho, fun e he hb => by
          have h3 := List.all_eq_true.1 k3 i (List.mem_range.2 hi)
          rw [ho] at h3
          have h5 := of_decide_eq_true (Array.all_eq_true'.1 h3 e he)
          have h6 := ih e.on h5 (by omega)
          have hl : e.on < L.size := by rw [h.sz]; omega
          simp [hl] at h6 ⊢; exact h6⟩
        rw [hr] at this; cases this
    exact hdone g a w h.df h.ts h.ot (fun c hc => h.cl c hc (hall _ (D.cn c hc).1)) (fun x hx => by
      obtain ⟨q1, _, u, q3, q4⟩ := h.xl x hx (hall _ (D.xn x hx).1)
      rw [q4 (hall _ (D.xn x hx).2.2)] at q3
      exact ⟨q1, q3⟩) h.bl
  · rw [hcs c hc] at e; cases e
  · rw [(hal x hx).1] at e; cases e
  · rw [(hal x hx).1] at e; cases e
  · rw [(hal x hx).2] at e; cases e
theorem fold_set : ∀ (S : List (Nat × Value)) (T : Array Value), (S.map (·.1)).Nodup → (∀ p ∈ S, p.1 < T.size) → (S.foldl (fun t p => t.setIfInBounds p.1 p.2) T).size = T.size ∧ (∀ p ∈ S, (S.foldl (fun t p => t.setIfInBounds p.1 p.2) T).getD p.1 undef = p.2) ∧ ∀ i, i ∉ S.map (·.1) → (S.foldl (fun t p => t.setIfInBounds p.1 p.2) T).getD i undef = T.getD i undef
  | [], T, _, _ => ⟨rfl, fun p hp => by (cases hp), fun _ _ => rfl⟩
  | q :: S, T, hn, hb => by
    rw [List.map_cons, List.nodup_cons] at hn
    obtain ⟨h1, h2, h3⟩ := fold_set S (T.setIfInBounds q.1 q.2) hn.2 (fun p hp => by rw [Array.size_setIfInBounds]; exact hb p (List.mem_cons_of_mem _ hp))
    have hq := hb q (List.mem_cons_self ..)
    rw [List.foldl_cons]
    refine ⟨by rw [h1, Array.size_setIfInBounds], fun p hp => ?_, fun i hi => ?_⟩
    · rcases List.mem_cons.1 hp with rfl | hp
      · rw [h3 _ hn.1, put_at hq, if_pos rfl]
      · exact h2 p hp
    · rw [List.map_cons, List.mem_cons, not_or] at hi
      rw [h3 i hi.2, put_at hq, if_neg (fun e => hi.1 e.symm)]
theorem act_of {a : Act} {T0 : Array Value} (S : List (Nat × Value)) (hd : a.defers = []) (hs : a.tmps.size = T0.size) (hS : ∀ p ∈ S, a.tmps.getD p.1 undef = p.2) (ho : ∀ i, i ∉ S.map (·.1) → a.tmps.getD i undef = T0.getD i undef) (hn : (S.map (·.1)).Nodup) (hb : ∀ p ∈ S, p.1 < T0.size) : a = { tmps := S.foldl (fun t p => t.setIfInBounds p.1 p.2) T0, defers := [] } := by
  obtain ⟨h1, h2, h3⟩ := fold_set S T0 hn hb
  obtain ⟨tm, df⟩ := a
  dsimp only at hd hs hS ho
  subst hd
  refine congrArg (Act.mk · []) ?_
  refine Array.ext (by rw [hs, h1]) fun i hi1 hi2 => ?_
  have e1 : tm.getD i undef = tm[i] := by simp [hi1]
  have e2 : (S.foldl (fun t p => t.setIfInBounds p.1 p.2) T0).getD i undef = (S.foldl (fun t p => t.setIfInBounds p.1 p.2) T0)[i] := by simp [hi2]
  rw [← e1, ← e2]
  rcases Classical.em (i ∈ S.map (·.1)) with h | h
  · obtain ⟨p, hp, rfl⟩ := List.mem_map.1 h
    rw [hS p hp, h2 p hp]
  · rw [ho i h, h3 i h]
theorem two_set (w : World) (g : Nat) (x y : Value) : w.grownBy ((w.setCell ⟨g, 0, none⟩ x).setCell ⟨g, 1, none⟩ y) (some g) := by
  refine ⟨rfl, rfl, rfl, Nat.le_trans (KeepsWalks.setCell w ⟨g, 0, none⟩ x).size (KeepsWalks.setCell _ ⟨g, 1, none⟩ y).size, fun k _ hk => ?_⟩
  have hne : k ≠ g := fun e => hk (by rw [e])
  rw [Below.heap_setCell _ ⟨g, 1, none⟩ y k hne, Below.heap_setCell _ ⟨g, 0, none⟩ x k hne]
theorem two_cells {w : World} {g : Nat} {a b : Value} {t : TypeId} (h : w.heap[g]? = some (.cells #[a, b] t (0, 0))) (x y : Value) : ((w.setCell ⟨g, 0, none⟩ x).setCell ⟨g, 1, none⟩ y).heap[g]? = some (.cells #[x, y] t (0, 0)) := by
  obtain ⟨hlt, hk⟩ := Array.getElem?_eq_some_iff.1 h
  have h1 : (w.setCell ⟨g, 0, none⟩ x).heap[g]? = some (.cells #[x, b] t (0, 0)) := by
    show (w.heap.modify g _)[g]? = _
    rw [Array.getElem?_eq_getElem (by rw [Array.size_modify]; exact hlt), Array.getElem_modify_self, hk]
    rfl
  obtain ⟨hlt2, hk2⟩ := Array.getElem?_eq_some_iff.1 h1
  show ((w.setCell ⟨g, 0, none⟩ x).heap.modify g _)[g]? = _
  rw [Array.getElem?_eq_getElem (by rw [Array.size_modify]; exact hlt2), Array.getElem_modify_self, hk2]
  rfl
theorem pq_call {P : Program} {o : Oper} {a : Act} {w : World} {K : Act → World → Prop} {Q : Exit → Act → World → Prop} {f : FuncId} {x y : Nat} {tys : Array TypeId} {v1 v2 v : Value} (he : ∀ args w, (callFunc f args).run P w = .ok (.enter f args) w) (ho : o.op = .call { callee := .value (.func f), args := #[.tmp x, .tmp y], argTypes := tys })
    (e1 : a.tmps.getD x undef = v1) (e2 : a.tmps.getD y undef = v2) (hc : Calls P f #[v1, v2] w fun e w' => e = .returned v ∧ K (a.put o.dst v) w') : o.wp P a w K Q := by
  have h1 : a.eval (.tmp x) = v1 := e1
  have h2 : a.eval (.tmp y) = v2 := e2
  have hx : (execOp a.eval o).run P w = .ok (.enter f #[v1, v2]) w := by
    unfold execOp
    simp [ho, resolve, invoke, go_sem, he, h1, h2]
    exact ⟨by simpa using e1, by simpa using e2⟩
  unfold Oper.wp
  rw [hx, Oper.upon_enter]
  refine hc.mono ?_
  rintro e w' ⟨rfl, hk⟩
  exact hk
end Go.Proofs.Ythkcmdlfdaggmaa
