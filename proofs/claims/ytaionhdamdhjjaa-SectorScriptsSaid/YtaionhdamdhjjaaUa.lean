/- The document's disk: its block, its functions without loops. -/
import Derived.Test.YtaionhdamdhjjaaTo
namespace Go.Proofs.Ytaionhdamdhjjaa
open Go.RowKit

def rcells (la si : Value) (left : Int) (kp : Value) (off : Bool) (done : Int) : Array Value := #[la, si, .int .i64 left, kp, .bool off, .int .i64 done]
/-- The block at g is a disk of the document with these fields. -/
def RefAt (g : Nat) (la si : Value) (left : Int) (kp : Value) (off : Bool) (done : Int) (w : World) : Prop := w.heap[g]? = some (.cells (rcells la si left kp off done) 39 (0, 0))
section
variable {g : Nat} {la si : Value} {left : Int} {kp : Value} {off : Bool} {done : Int} {w : World}
theorem RefAt.c0 (h : RefAt g la si left kp off done w) : w.cell? ⟨g, 0, none⟩ = some la := by unfold World.cell?; simp only [show w.heap[g]? = _ from h]; rfl
theorem RefAt.c1 (h : RefAt g la si left kp off done w) : w.cell? ⟨g, 1, none⟩ = some si := by unfold World.cell?; simp only [show w.heap[g]? = _ from h]; rfl
theorem RefAt.c2 (h : RefAt g la si left kp off done w) : w.cell? ⟨g, 2, none⟩ = some (.int .i64 left) := by unfold World.cell?; simp only [show w.heap[g]? = _ from h]; rfl
theorem RefAt.c3 (h : RefAt g la si left kp off done w) : w.cell? ⟨g, 3, none⟩ = some kp := by unfold World.cell?; simp only [show w.heap[g]? = _ from h]; rfl
theorem RefAt.c4 (h : RefAt g la si left kp off done w) : w.cell? ⟨g, 4, none⟩ = some (.bool off) := by unfold World.cell?; simp only [show w.heap[g]? = _ from h]; rfl
theorem RefAt.c5 (h : RefAt g la si left kp off done w) : w.cell? ⟨g, 5, none⟩ = some (.int .i64 done) := by unfold World.cell?; simp only [show w.heap[g]? = _ from h]; rfl
theorem RefAt.free (h : RefAt g la si left kp off done w) (i : Nat) : w.frozen? ⟨g, i, none⟩ = false := by simp [World.frozen?, show w.heap[g]? = _ from h]
theorem RefAt.lt (h : RefAt g la si left kp off done w) : g < w.heap.size := (Array.getElem?_eq_some_iff.1 (show w.heap[g]? = _ from h)).1
theorem RefAt.set (h : RefAt g la si left kp off done w) (i : Nat) (v : Value) : (w.setCell ⟨g, i, none⟩ v).heap[g]? = some (.cells ((rcells la si left kp off done).setIfInBounds i v) 39 (0, 0)) := by
  show (w.heap.modify g _)[g]? = _
  rw [Array.getElem?_modify, if_pos rfl, show w.heap[g]? = _ from h]
  rfl
end
/-- What the document's disk holds: what lasts, the writes since. -/
structure IsR (B n g gl cl : Nat) (vw : Value) (vk : Value) (S : DS) (w : World) : Prop where
  d : RefAt g (.slice (some ⟨gl, 0, none⟩) n cl) vw S.left vk S.off S.done w
  rd : RowS gl S.dur w
  ld : S.dur.length = n
  vw : w.ownsRow B 65 2 vw S.ws.length (flat S.ws)
  wb : ∀ p ∈ S.ws, p.1 < n
  b1 : B ≤ g
  b2 : B ≤ gl
/-- All blocks are as they were but the disk's. -/
structure FrR (B g gl : Nat) (vw : Value) (w w' : World) : Prop where
  below : Below B w w'
  size : w.heap.size ≤ w'.heap.size
  block : ∀ b, b < w.heap.size → b ≠ g → b ≠ gl → vw.ownBlock ≠ some b → w'.heap[b]? = w.heap[b]?
section
variable {B n g gl cl : Nat} {vw vk : Value} {S : DS} {w : World}
theorem FrR.refl (B g gl : Nat) (vw : Value) (w : World) : FrR B g gl vw w w := ⟨Below.refl _ _, Nat.le_refl _, fun _ _ _ _ _ => rfl⟩
theorem FrR.trans {vw vw' : Value} {a b c : World} (h : FrR B g gl vw a b) (h' : FrR B g gl vw' b c) (hv : ∀ x, vw'.ownBlock = some x → vw.ownBlock = some x ∨ a.heap.size ≤ x) : FrR B g gl vw a c :=
  ⟨h.below.trans h'.below, Nat.le_trans h.size h'.size, fun x hx h1 h2 h4 => (h'.block x (Nat.lt_of_lt_of_le hx h.size) h1 h2 (fun e => by
    rcases hv x e with h5 | h5
    · exact h4 h5
    · omega)).trans (h.block x hx h1 h2 h4)⟩
theorem FrR.of_kept2 {x : Nat} {w' : World} (h : Kept2 B g x w w') (hx : x = gl ∨ x = g ∨ vw.ownBlock = some x) : FrR B g gl vw w w' :=
  ⟨h.1, h.2.1, fun b hb h1 h2 h4 => h.2.2 b hb h1 (fun e => by subst e; rcases hx with h5 | h5 | h5 <;> contradiction)⟩
theorem FrR.undrew {w' : World} (h : FrR B g gl vw w.drew w') : FrR B g gl vw w w' := ⟨⟨h.below.os, h.below.tape, h.below.output, h.below.size, h.below.block⟩, h.size, h.block⟩
theorem FrR.of_below {w' : World} (hB : B ≤ w.heap.size) (hb : Below w.heap.size w w') : FrR B g gl vw w w' := ⟨hb.mono hB, hb.size, fun b hb' _ _ _ => hb.block b hb'⟩
theorem IsR.glg (h : IsR B n g gl cl vw vk S w) : gl ≠ g := fun e => by
  obtain ⟨cur, h1, _⟩ := h.rd
  rw [e, show w.heap[g]? = _ from h.d] at h1
  injection h1 with h1
  injection h1 with _ h1
  exact absurd h1 (by decide)
theorem IsR.wg (h : IsR B n g gl cl vw vk S w) {x : Nat} (hx : vw.ownBlock = some x) : x ≠ g ∧ x ≠ gl := by
  obtain ⟨c1, h1, _⟩ := h.rd
  exact ⟨own_ne h.vw hx (show w.heap[g]? = _ from h.d) (by decide), own_ne h.vw hx h1 (by decide)⟩
theorem IsR.keep (h : IsR B n g gl cl vw vk S w) {w' : World} (hb : ∀ b, b = g ∨ b = gl ∨ vw.ownBlock = some b → w'.heap[b]? = w.heap[b]?) : IsR B n g gl cl vw vk S w' :=
  ⟨(hb g (.inl rfl)).trans h.d, h.rd.same (hb gl (.inr (.inl rfl))), h.ld, own_same h.vw fun b e => hb b (.inr (.inr e)), h.wb, h.b1, h.b2⟩
theorem IsR.lts (h : IsR B n g gl cl vw vk S w) {b : Nat} (hb : b = g ∨ b = gl ∨ vw.ownBlock = some b) : B ≤ b ∧ b < w.heap.size := by
  rcases hb with rfl | rfl | e
  · exact ⟨h.b1, h.d.lt⟩
  · exact ⟨h.b2, h.rd.lt⟩
  · exact h.vw.lt b e
theorem IsR.below (h : IsR B n g gl cl vw vk S w) {w' : World} (hb : Below w.heap.size w w') : IsR B n g gl cl vw vk S w' := h.keep fun b e => hb.block b (h.lts e).2
/-- A disk of which its own block alone was written. -/
theorem IsR.disk (h : IsR B n g gl cl vw vk S w) {w' : World} (hk : Kept2 B g g w w') : FrR B g gl vw w w' ∧ RowS gl S.dur w' ∧ w'.ownsRow B 65 2 vw S.ws.length (flat S.ws) :=
  ⟨FrR.of_kept2 hk (.inr (.inl rfl)), h.rd.same (hk.2.2 gl h.rd.lt h.glg h.glg), own_same h.vw fun b e => hk.2.2 b (h.vw.lt b e).2 (h.wg e).1 (h.wg e).1⟩
theorem IsR.wr (h : IsR B n g gl cl vw vk S w) : ∃ o cw, vw = .slice o S.ws.length cw ∧ ∀ j p, S.ws[j]? = some p → ∃ gw, o = some ⟨gw, 0, none⟩ ∧ gw ≠ g ∧ gw ≠ gl ∧ gw < w.heap.size ∧ w.cell? ⟨gw, j * 2, none⟩ = some (.int .i64 p.1) ∧ w.cell? ⟨gw, j * 2 + 1, none⟩ = some (.string p.2) := by
  rcases h.vw.2 with ⟨h1, h2⟩ | ⟨gw, cw, cur, h1, h3, h4, h5, h6, h7, h8⟩
  · exact ⟨none, 0, by rw [h1, h2], fun j p hp => by rw [List.length_eq_zero_iff.1 h2] at hp; cases hp⟩
  · refine ⟨_, cw, h1, fun j p hp => ⟨gw, rfl, (h.wg (by rw [h1]; rfl)).1, (h.wg (by rw [h1]; rfl)).2, (Array.getElem?_eq_some_iff.1 h4).1, ?_⟩⟩
    have hj : j < S.ws.length := (List.getElem?_eq_some_iff.1 hp).1
    have hf := flat_get S.ws j p hp
    rw [← h8, List.getElem?_take, if_pos (by omega), List.getElem?_take, if_pos (by omega)] at hf
    unfold World.cell?
    simp only [h4]
    rw [show j * 2 = 2 * j by omega]
    exact ⟨by rw [← Array.getElem?_toList]; exact hf.1, by rw [← Array.getElem?_toList]; exact hf.2⟩
end
end Go.Proofs.Ytaionhdamdhjjaa
