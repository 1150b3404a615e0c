/- Merges: maps whose keys are pairs. -/
import Derived.Test.YtmdhendfmhhniaaDoorPg
import Derived.Maps.OwnSet
import Derived.DeepKeys4
namespace Go.Proofs.YtmdhendfmhhniaaDoor
open Go.RowKit Go.Maps Go.WideShapes

theorem wideP : (match Tryd.prog.underlying 48 with | some (.array _ _) | some (.struct _) => true | _ => false) = true := by kernel_rfl
theorem tiledP : Tryd.prog.tiled 2 48 = true := by kernel_rfl
theorem atP : Tryd.prog.keyTypeAt 2 48 = true := by kernel_rfl
theorem lawP : WideMaps.KeyLaw Tryd.prog 48 := Go.deep_law (m := 2) (by omega) (by kernel_rfl) (by kernel_rfl) (by kernel_rfl)
theorem keyTyP : Tryd.prog.keyType 48 = true := by kernel_rfl
theorem cells_str : Tryd.prog.cellsOf 9 = 1 := by kernel_rfl
theorem cells_mp : Tryd.prog.cellsOf 48 = 2 := by kernel_rfl
def keyB (p : PairB) : Lit := .string (keyBytes [.string p.1.data.toList, .string p.2.data.toList])
theorem key_ex (a b : ByteArray) (ha : a.size ≤ maxLen) (hb : b.size ≤ maxLen) : keyOf Tryd.prog 48 (.agg #[.string a, .string b]) = some (keyB (a, b)) := by
  have hf : (Value.agg #[.string a, .string b]).formed Tryd.prog 48 = true := by
    simp [Value.formed, Tryd.underlying48]
    kernel_rfl
  unfold keyOf
  simp only [Tryd.underlying48]
  rw [keyTyP, hf]
  have hk : (Tryd.prog.keyLits (Tryd.prog.types.size + 1) 48 (Value.agg #[.string a, .string b]).cells.toList) = some [.string a.data.toList, .string b.data.toList] := by
    have hn : ∃ n, Tryd.prog.types.size = n + 1 := ⟨Tryd.prog.types.size - 1, by have : 0 < Tryd.prog.types.size := of_decide_eq_true (by kernel_rfl); omega⟩
    obtain ⟨n, hn⟩ := hn
    rw [hn]
    simp [Program.keyLits, Tryd.underlying48, Tryd.underlying9, Value.cells, ha, hb, cells_str, cells_mp]


  rw [hk]
  rfl
/-- A pair that may be a key: its parts aren't longer than any text. -/
def OkP (p : PairB) : Prop := p.1.size ≤ maxLen ∧ p.2.size ≤ maxLen
theorem keyB_of {p : PairB} (h : OkP p) : keyOf Tryd.prog 48 (.agg #[.string p.1, .string p.2]) = some (keyB p) := key_ex p.1 p.2 h.1 h.2
theorem keyB_inj {p q : PairB} (hp : OkP p) (hq : OkP q) (h : keyB p = keyB q) : p = q := by
  have h1 := keyB_of hp
  have h2 := keyB_of hq
  rw [← h] at h2
  have h3 : Value.agg #[.string p.1, .string p.2] = .agg #[.string q.1, .string q.2] := lawP.inj h1 h2
  clear h1 h2 h
  simp only [Value.agg.injEq, Array.mk.injEq, List.cons.injEq, Value.string.injEq, and_true] at h3
  exact Prod.ext h3.1 h3.2
theorem keyB_str (p : PairB) : WideAt.IsKeyLit (keyB p) := trivial
theorem keyedP : Keyed Tryd.prog 48 := Keyed.of_law lawP

/-- The map at b tells each pair of l the index at which it is first. -/
def IsRk (b n : Nat) (l : List PairB) (w : World) : Prop :=
  ∃ D : DataW Unit, w.ownsMap Tryd.prog 48 (plainElem Tryd.prog 3) b n D ∧ ∀ p, OkP p → has D (keyB p) = (rankN l p).isSome ∧ ∀ i, rankN l p = some i → D.atKey (keyB p) (.lit (.int .i64 0)) = .lit (.int .i64 (i : Nat))
theorem IsRk.keep {b n : Nat} {l : List PairB} {w w' : World} (h : IsRk b n l w) (hb : w'.heap[b]? = w.heap[b]?) : IsRk b n l w' := by
  obtain ⟨D, ⟨es, clock, h1, h2⟩, h3⟩ := h
  exact ⟨D, ⟨es, clock, hb.trans h1, h2⟩, h3⟩
theorem IsRk.lt {b n : Nat} {l : List PairB} {w : World} (h : IsRk b n l w) : b < w.heap.size := by
  obtain ⟨D, h1, _⟩ := h
  exact h1.lt
theorem IsRk.below {b n : Nat} {l : List PairB} {w w' : World} (h : IsRk b n l w) (hb : Below w.heap.size w w') : IsRk b n l w' := h.keep (hb.block b h.lt)
theorem IsRk.new (w : World) : IsRk w.heap.size 0 [] (w.alloc (.map #[] 0)) :=
  ⟨.map [], World.ownsMap_made w _ _ _, fun p _ => ⟨rfl, fun i h => by cases h⟩⟩
theorem IsRk.again {b n : Nat} {l : List PairB} {w : World} {q : PairB} (h : IsRk b n l w) (hq : (rankN l q).isSome = true) : IsRk b (n + 1) (l ++ [q]) w := by
  obtain ⟨D, h1, h2⟩ := h
  refine ⟨D, h1.mono (by omega), fun p hp => ?_⟩
  have e : rankN (l ++ [q]) p = rankN l p := by
    rw [rankN_snoc]
    cases hr : rankN l p with
    | some i => rfl
    | none =>
      by_cases e : q = p
      · subst e; rw [hr] at hq; cases hq
      · simp [e]
  rw [e]; exact h2 p hp
theorem IsRk.put {b n : Nat} {l : List PairB} {w w' : World} {q : PairB} {D : DataW Unit} (hD : w.ownsMap Tryd.prog 48 (plainElem Tryd.prog 3) b n D) (h2 : ∀ p, OkP p → has D (keyB p) = (rankN l p).isSome ∧ ∀ i, rankN l p = some i → D.atKey (keyB p) (.lit (.int .i64 0)) = .lit (.int .i64 (i : Nat)))
    (hq : OkP q) (hn : rankN l q = none) (h' : w'.ownsMap Tryd.prog 48 (plainElem Tryd.prog 3) b (n + 1) (D.put (keyB q) (.lit (.int .i64 (l.length : Nat))))) : IsRk b (n + 1) (l ++ [q]) w' := by
  refine ⟨_, h', fun p hp => ?_⟩
  have hm : IsMap D := hD.isMap
  by_cases e : q = p
  · subst e
    rw [rankN_snoc, hn]
    simp only [if_true]
    refine ⟨by rw [has_put_same hm (keyB_str q)]; rfl, fun i hi => ?_⟩
    injection hi with hi
    rw [atKey_put_same hm (keyB_str q), hi]
  · have hk : keyB p ≠ keyB q := fun hk => e (keyB_inj hq hp hk.symm)
    have e2 : rankN (l ++ [q]) p = rankN l p := by
      rw [rankN_snoc]
      cases hr : rankN l p with
      | some i => rfl
      | none => simp [e]
    rw [e2, has_put_other hk, atKey_put_other hk]
    exact h2 p hp
end Go.Proofs.YtmdhendfmhhniaaDoor
