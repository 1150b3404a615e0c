/- Lists' edits: Shifts, plainly; its map. -/
import Derived.Test.YtjdlpcokjcmapaaLk
set_option linter.unusedVariables false
set_option linter.unusedSimpArgs false
namespace Go.Proofs.Ytjdlpcokjcmapaa
open Go.RowKit Go.Maps Go.WideShapes
variable {w w' : World}

def cntB (l : List ByteArray) (s : ByteArray) : Nat := l.countP fun r => decide (r = s)
def lastP (l : List ByteArray) (s : ByteArray) : Nat × Nat := l.foldl (fun p r => (p.1 + 1, if r = s then p.1 else p.2)) (0, 0)
def lastB (l : List ByteArray) (s : ByteArray) : Nat := (lastP l s).2
theorem lastP_len (l : List ByteArray) (s : ByteArray) : (lastP l s).1 = l.length := by
  suffices h : ∀ (l : List ByteArray) (p : Nat × Nat), (l.foldl (fun p r => (p.1 + 1, if r = s then p.1 else p.2)) p).1 = p.1 + l.length by rw [lastP, h]; simp
  intro l
  induction l with
  | nil => intro p; rfl
  | cons x l ih => intro p; rw [List.foldl_cons, ih, List.length_cons]; omega
theorem lastB_snoc (l : List ByteArray) (x s : ByteArray) : lastB (l ++ [x]) s = if x = s then l.length else lastB l s := by
  unfold lastB
  conv => lhs; unfold lastP
  rw [List.foldl_append]
  show (if x = s then (lastP l s).1 else (lastP l s).2) = _
  rw [lastP_len]
theorem cntB_snoc (l : List ByteArray) (x s : ByteArray) : cntB (l ++ [x]) s = cntB l s + if x = s then 1 else 0 := by
  unfold cntB; rw [List.countP_append]; simp [List.countP_cons]
theorem cntB_le (l : List ByteArray) (s : ByteArray) : cntB l s ≤ l.length := List.countP_le_length
theorem lastB_le (l : List ByteArray) (s : ByteArray) : lastB l s ≤ l.length := by
  suffices h : ∀ k, k ≤ l.length → lastB (l.take k) s ≤ k by have := h l.length (Nat.le_refl _); rwa [List.take_length] at this
  intro k
  induction k with
  | zero => intro _; simp [lastB, lastP]
  | succ k ih => intro h; rw [← take_it l k h, lastB_snoc, List.length_take]; split <;> have := ih (by omega) <;> omega
/-- A place of an item that is there once is its last one. -/
theorem last_of_once {l : List ByteArray} {s : ByteArray} {j : Nat} (hj : j < l.length) (hs : itB l j = s) (hc : cntB l s = 1) : lastB l s = j := by
  suffices h : ∀ k, k ≤ l.length → cntB (l.take k) s ≤ 1 → (j < k → lastB (l.take k) s = j ∧ cntB (l.take k) s = 1) by
    have := h l.length (Nat.le_refl _) (by rw [List.take_length]; omega) hj
    rw [List.take_length] at this; exact this.1
  intro k
  induction k with
  | zero => intro _ _ h; omega
  | succ k ih =>
    intro hk hc1 hjk
    rw [← take_it l k hk, cntB_snoc] at hc1 ⊢
    rw [lastB_snoc, List.length_take, Nat.min_eq_left (by omega)]
    by_cases e : itB l k = s
    · rw [if_pos e] at hc1 ⊢
      by_cases e2 : j = k
      · subst e2; rw [if_pos e]; exact ⟨rfl, by omega⟩
      · have := (ih (by omega) (by omega) (by omega)).2; omega
    · rw [if_neg e] at hc1 ⊢
      have hne : j ≠ k := fun h => e (h ▸ hs)
      rw [if_neg e]
      exact ih (by omega) (by omega) (by omega)
abbrev ShB := ByteArray × Nat × Nat
def shOne (a b : List ByteArray) (j : Nat) : List ShB := if cntB a (itB b j) = 1 ∧ cntB b (itB b j) = 1 ∧ lastB a (itB b j) ≠ j then [(itB b j, lastB a (itB b j), j)] else []
def shF (a b : List ByteArray) (k : Nat) : List ShB := (List.range k).flatMap (shOne a b)
theorem shF_succ (a b : List ByteArray) (k : Nat) : shF a b (k + 1) = shF a b k ++ shOne a b k := by unfold shF; rw [List.range_succ, List.flatMap_append]; simp
theorem shF_le (a b : List ByteArray) (k : Nat) : (shF a b k).length ≤ k := by
  induction k with
  | zero => exact Nat.le_refl _
  | succ k ih =>
    rw [shF_succ, List.length_append]
    have : (shOne a b k).length ≤ 1 := by unfold shOne; split <;> simp
    omega
def shL (a b : List ByteArray) : List ShB := shF a b b.length
theorem shL_self (a : List ByteArray) : shL a a = [] := by
  unfold shL
  suffices h : ∀ k, k ≤ a.length → shF a a k = [] from h _ (Nat.le_refl _)
  intro k
  induction k with
  | zero => intro _; rfl
  | succ k ih =>
    intro hk
    rw [shF_succ, ih (by omega)]
    unfold shOne
    rw [if_neg]
    · rfl
    · rintro ⟨h1, _, h3⟩; exact h3 (last_of_once hk rfl h1)
/-- The document's place. -/
def onceB (l : List ByteArray) (s : ByteArray) : Int := if cntB l s = 1 then (lastB l s : Int) else -1
def flatS (l : List ShB) : List Value := l.flatMap fun p => [Value.string p.1, Value.int .i64 (p.2.1 : Nat), Value.int .i64 (p.2.2 : Nat)]
theorem flatS_app (l m : List ShB) : flatS (l ++ m) = flatS l ++ flatS m := List.flatMap_append
theorem flatS_get : ∀ (l : List ShB) (k : Nat) (p : ShB), l[k]? = some p → (flatS l)[k * 3]? = some (.string p.1) ∧ (flatS l)[k * 3 + 1]? = some (.int .i64 (p.2.1 : Nat)) ∧ (flatS l)[k * 3 + 2]? = some (.int .i64 (p.2.2 : Nat))
  | [], k, p, h => by simp at h
  | q :: l, 0, p, h => by simp at h; subst h; exact ⟨rfl, rfl, rfl⟩
  | q :: l, k + 1, p, h => by
    rw [List.getElem?_cons_succ] at h
    have := flatS_get l k p h
    have e : flatS (q :: l) = Value.string q.1 :: Value.int .i64 (q.2.1 : Nat) :: Value.int .i64 (q.2.2 : Nat) :: flatS l := rfl
    rw [e, show (k + 1) * 3 = k * 3 + 1 + 1 + 1 by omega]
    simpa only [List.getElem?_cons_succ] using this
def ShAt (w : World) (o : Option Addr) (l : List ShB) : Prop :=
  ∀ k p, l[k]? = some p → ∃ b, o = some ⟨b, 0, none⟩ ∧ w.cell? ⟨b, k * 3, none⟩ = some (.string p.1) ∧ w.cell? ⟨b, k * 3 + 1, none⟩ = some (.int .i64 (p.2.1 : Nat)) ∧ w.cell? ⟨b, k * 3 + 2, none⟩ = some (.int .i64 (p.2.2 : Nat))
theorem ShAt.below {o : Option Addr} {l : List ShB} (h : ShAt w o l) (hb : Below w.heap.size w w') : ShAt w' o l := fun k p hk => by
  obtain ⟨b, h2, h3, h4, h5⟩ := h k p hk
  have e := hb.block b (World.block_lt_of_cell? w _ h3)
  exact ⟨b, h2, (cell_keep e).trans h3, (cell_keep e).trans h4, (cell_keep e).trans h5⟩
theorem own_shifts {B : Nat} {v : Value} {l : List ShB} {e : TypeId} (h : w.ownsRow B e 3 v l.length (flatS l)) : ∃ a cap, v = .slice a l.length cap ∧ ShAt w a l := by
  obtain ⟨a, cap, rfl, h0 | ⟨g, rfl, hB, hg, hc⟩⟩ := own_at h
  · exact ⟨a, cap, rfl, fun k p hk => by have := (List.getElem?_eq_some_iff.1 hk).1; omega⟩
  · exact ⟨_, cap, rfl, fun k p hk => by
      have h2 := flatS_get l k p hk
      exact ⟨g, rfl, hc _ _ h2.1, hc _ _ h2.2.1, hc _ _ h2.2.2⟩⟩
theorem three_memS {a : ByteArray} {b c : Int} : ∀ u ∈ [Value.string a, Value.int .i64 b, Value.int .i64 c], u.oneCell' = true := by
  intro u hu; simp at hu; rcases hu with rfl | rfl | rfl <;> rfl
theorem cell_three_new (w : World) (t : TypeId) (a b c : Value) : ∀ (j : Nat) (u : Value), [a, b, c][j]? = some u → (w.alloc (.cells #[a, b, c] t)).cell? ((⟨w.heap.size, 0, none⟩ : Addr).add j) = some u := fun j u h => by
  have hg : (w.alloc (.cells #[a, b, c] t)).heap[w.heap.size]? = some (.cells #[a, b, c] t (0, 0)) := World.alloc_heap_new w _
  rw [addr_at, cell_of_row hg]
  match j, h with
  | 0, h => exact h
  | 1, h => exact h
  | 2, h => exact h
/-! The map. -/
abbrev UsB := Nat × Nat × Nat
def usElem : Value → Option (DataW Unit × List MemPlace)
  | .agg cs => match cs.toList with
    | [.int .i64 a, .int .i64 b, .int .i64 c] => some (.agg [.lit (.int .i64 a), .lit (.int .i64 b), .lit (.int .i64 c)], [])
    | _ => none
  | _ => none
theorem usElem_mk (a b c : Int) : usElem (.agg #[.int .i64 a, .int .i64 b, .int .i64 c]) = some (.agg [.lit (.int .i64 a), .lit (.int .i64 b), .lit (.int .i64 c)], []) := rfl
def usD (u : UsB) : DataW Unit := .agg [.lit (.int .i64 (u.1 : Nat)), .lit (.int .i64 (u.2.1 : Nat)), .lit (.int .i64 (u.2.2 : Nat))]
theorem usElem_inv {v : Value} {u : UsB} {ps : List MemPlace} (h : usElem v = some (usD u, ps)) : v = .agg #[.int .i64 (u.1 : Nat), .int .i64 (u.2.1 : Nat), .int .i64 (u.2.2 : Nat)] := by
  unfold usElem at h
  split at h
  · rename_i cs
    split at h
    · rename_i a b c hcs
      simp only [usD, Option.some.injEq, Prod.mk.injEq, DataW.agg.injEq, List.cons.injEq, DataW.lit.injEq, Lit.int.injEq, true_and, and_true] at h
      obtain ⟨⟨h1, h2, h3⟩, _⟩ := h
      have e : cs = #[.int .i64 a, .int .i64 b, .int .i64 c] := by rw [← Array.toArray_toList (xs := cs), hcs]
      rw [e, h1, h2, h3]
    · cases h
  · cases h
def IsUs (m n : Nat) (U : ByteArray → UsB) (w : World) : Prop :=
  ∃ D : DataW Unit, w.ownsMap Try.prog 9 usElem m n D ∧ ∀ s : ByteArray, s.size ≤ maxLen → D.atKey (.string s.data.toList) (usD (0, 0, 0)) = usD (U s)
theorem IsUs.keep {m n : Nat} {U : ByteArray → UsB} (h : IsUs m n U w) (hb : w'.heap[m]? = w.heap[m]?) : IsUs m n U w' := by
  obtain ⟨D, ⟨es, clock, h1, h2⟩, h3⟩ := h
  exact ⟨D, ⟨es, clock, hb.trans h1, h2⟩, h3⟩
theorem IsUs.lt {m n : Nat} {U : ByteArray → UsB} (h : IsUs m n U w) : m < w.heap.size := by
  obtain ⟨D, h1, _⟩ := h
  exact h1.lt
theorem IsUs.new (w : World) : IsUs w.heap.size 0 (fun _ => (0, 0, 0)) (w.alloc (.map #[] 0)) :=
  ⟨.map [], World.ownsMap_made w _ _ _, fun s _ => rfl⟩
theorem IsUs.congr {m n : Nat} {U V : ByteArray → UsB} (h : IsUs m n U w) (e : ∀ s, U s = V s) : IsUs m n V w := by
  obtain ⟨D, h1, h2⟩ := h
  exact ⟨D, h1, fun s hs => by rw [h2 s hs, e]⟩
theorem IsUs.put {m n : Nat} {U : ByteArray → UsB} {q : ByteArray} {D : DataW Unit} {u : UsB} (hD : w.ownsMap Try.prog 9 usElem m n D) (h2 : ∀ s : ByteArray, s.size ≤ maxLen → D.atKey (.string s.data.toList) (usD (0, 0, 0)) = usD (U s))
    (h' : w'.ownsMap Try.prog 9 usElem m (n + 1) (D.put (.string q.data.toList) (usD u))) : IsUs m (n + 1) (fun s => if q = s then u else U s) w' := by
  refine ⟨_, h', fun s hs => ?_⟩
  have hm : IsMap D := hD.isMap
  by_cases e : q = s
  · subst e
    show _ = usD (if q = q then u else U q)
    rw [if_pos rfl, atKey_put_same hm (show WideAt.IsKeyLit (.string q.data.toList) from trivial)]
  · have hk : (Lit.string s.data.toList) ≠ .string q.data.toList := fun hk => e (by injection hk with hk; exact (ByteArray.ext (Array.ext' hk)).symm)
    show _ = usD (if q = s then u else U s)
    rw [if_neg e, atKey_put_other hk]
    exact h2 s hs
end Go.Proofs.Ytjdlpcokjcmapaa
