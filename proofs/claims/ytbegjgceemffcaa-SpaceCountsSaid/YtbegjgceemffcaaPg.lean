/- Merges: the parts of a word in memory; text, two. -/
import Derived.Test.YtbegjgceemffcaaPf
namespace Go.Proofs.Ytbegjgceemffcaa
open Go.RowKit

/-- Only the blocks of a word's parts have changed. -/
structure FrP (g gf gr : Nat) (w w' : World) : Prop where
  low : Below 0 w w'
  size : w.heap.size ≤ w'.heap.size
  block : ∀ k, k < w.heap.size → k ≠ g → k ≠ gf → k ≠ gr → w'.heap[k]? = w.heap[k]?
variable {g gf gr cf cr : Nat} {word : ByteArray} {P : List ByteArray} {R : Nat → Int} {w w' w'' : World}
theorem FrP.refl (g gf gr : Nat) (w : World) : FrP g gf gr w w := ⟨(Below.refl w.heap.size w).mono (Nat.zero_le _), Nat.le_refl _, fun _ _ _ _ _ => rfl⟩
theorem FrP.trans (h : FrP g gf gr w w') (k : FrP g gf gr w' w'') : FrP g gf gr w w'' :=
  ⟨h.low.trans k.low, Nat.le_trans h.size k.size, fun i hi a b c => (k.block i (Nat.lt_of_lt_of_le hi h.size) a b c).trans (h.block i hi a b c)⟩
theorem FrP.of_below (h : Below w.heap.size w w') : FrP g gf gr w w' := ⟨h.mono (Nat.zero_le _), h.size, fun k hk _ _ _ => h.block k hk⟩
theorem FrP.below {B : Nat} (h : FrP g gf gr w w') (hB : B ≤ w.heap.size) (h1 : B ≤ g) (h2 : B ≤ gf) (h3 : B ≤ gr) : Below B w w' :=
  ⟨h.low.os, h.low.tape, h.low.output, h.size, fun k hk => h.block k (by omega) (by omega) (by omega) (by omega)⟩
theorem FrP.drewN (h : FrP g gf gr w w') (m : Nat) : FrP g gf gr w (w'.drewN m) := ⟨below_drewN h.low m, h.size, h.block⟩
theorem FrP.undrew {m : Nat} (h : FrP g gf gr (w.drewN m) w') : FrP g gf gr w w' := ⟨⟨h.low.os, h.low.tape, h.low.output, h.size, fun _ hk => absurd hk (Nat.not_lt_zero _)⟩, h.size, h.block⟩
theorem FrP.set (w : World) (b i : Nat) (v : Value) (hb : b = g ∨ b = gf ∨ b = gr) : FrP g gf gr w (w.setCell ⟨b, i, none⟩ v) :=
  ⟨(Below.refl 0 w).setCell (p := ⟨b, i, none⟩) (Nat.zero_le _) _, (KeepsWalks.setCell w _ v).size, fun k _ h1 h2 h3 => Below.heap_setCell w _ v k (by rcases hb with rfl | rfl | rfl <;> assumption)⟩
theorem heap_set {b i : Nat} {cur : Array Value} {t : TypeId} {x : Nat × Nat} (v : Value) (h : w.heap[b]? = some (.cells cur t x)) : (w.setCell ⟨b, i, none⟩ v).heap[b]? = some (.cells (cur.setIfInBounds i v) t x) := by
  show (w.heap.modify b _)[b]? = _
  rw [Array.getElem?_modify, if_pos rfl, h]
  rfl
end Go.Proofs.Ytbegjgceemffcaa
