/- A range over the lines of a text: what its caller owes. -/
import Derived.Test.YtbegjgceemffcaaPt
namespace Go.Proofs.Ytbegjgceemffcaa
open Go.RowKit Go.Shelf
attribute [local go_sem] Oper.semAt_some

/-- What may change beside the caller: a block of its own of the loop's, and the text's box. -/
def Stab (B D : Nat) (I : World → Prop) : Prop :=
  ∀ W W', I W → Below 0 W W' → W.heap.size ≤ W'.heap.size → (∀ j, j < W.heap.size → j ≠ B → j ≠ D → j ≠ D + 1 → W'.heap[j]? = W.heap[j]?) → I W'
/-- What a round's body owes. -/
def lnPost (B D : Nat) (I : World → Prop) (Ix : Code → World → Prop) (W : World) : Exit → Act → World → Prop
  | .normal, _, W' => (∀ j, j = B ∨ j = D ∨ j = D + 1 → W'.heap[j]? = W.heap[j]?) ∧ W.heap.size ≤ W'.heap.size ∧ I W'
  | .ret, _, W' => (∀ j, j = B ∨ j = D ∨ j = D + 1 → W'.heap[j]? = W.heap[j]?) ∧ W.heap.size ≤ W'.heap.size ∧ Ix .ret W'
  | .exit _, _, _ => False
  | .goto _, _, _ => False
  | .panic _, _, _ => False
  | .outgrown, _, _ => False
theorem put_other (W : World) {r k : Nat} (o : Obj) (h : k ≠ r) : (W.putObj r o).heap[k]? = W.heap[k]? := World.putObj_heap_other h
theorem put_low (W : World) (r : Nat) (o : Obj) : Below 0 W (W.putObj r o) := (Below.refl 0 W).grown (grownBy_putObj' W r o) (Nat.zero_le _) (fun _ _ => Nat.zero_le _)
theorem Stab.put {B D : Nat} {I : World → Prop} (h : Stab B D I) {W : World} (hI : I W) (o : Obj) : I (W.putObj (D + 1) o) :=
  h W _ hI (put_low W _ o) (by simp) (fun j _ _ _ h4 => put_other W o h4)
theorem Stab.box {B D : Nat} {I : World → Prop} (h : Stab B D I) {W : World} (hI : I W) (i : Nat) (v : Value) : I (W.setCell ⟨B, i, none⟩ v) :=
  h W _ hI ((Below.refl 0 W).setCell (p := ⟨B, i, none⟩) (Nat.zero_le _) v) (KeepsWalks.setCell W _ v).size (fun j _ h2 _ _ => Below.heap_setCell W _ v j h2)
theorem Stab.drewN {B D : Nat} {I : World → Prop} (h : Stab B D I) {W : World} (hI : I W) (q : Nat) : I (W.drewN q) :=
  h W _ hI (below_drewN (Below.refl 0 W) q) (Nat.le_refl _) (fun _ _ _ _ _ => rfl)
theorem cell_block {W W' : World} {B i : Nat} (h : W'.heap[B]? = W.heap[B]?) : W'.cell? ⟨B, i, none⟩ = W.cell? ⟨B, i, none⟩ ∧ W'.frozen? ⟨B, i, none⟩ = W.frozen? ⟨B, i, none⟩ :=
  ⟨World.cell?_of_block (a := ⟨B, i, none⟩) h, World.frozen?_of_block (a := ⟨B, i, none⟩) h⟩
end Go.Proofs.Ytbegjgceemffcaa
