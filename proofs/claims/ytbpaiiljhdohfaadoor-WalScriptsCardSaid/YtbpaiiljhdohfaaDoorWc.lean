/- Wal: rows of changes, the log's block; contracts of image, takes. -/
import Derived.Test.YtbpaiiljhdohfaaDoorWb
import Derived.Test.YtbpaiiljhdohfaaDoorMf
namespace Go.Proofs.YtbpaiiljhdohfaaDoor
open Go.RowKit

def flatI (x : List (Int × ByteArray)) : List Value := x.flatMap fun p => [Value.int .i64 p.1, Value.string p.2]
theorem flatI_length (x : List (Int × ByteArray)) : (flatI x).length = 2 * x.length := by
  unfold flatI
  induction x with
  | nil => rfl
  | cons p x ih => rw [List.flatMap_cons, List.length_append, ih, List.length_cons]; simp; omega
theorem flatI_append (a b : List (Int × ByteArray)) : flatI (a ++ b) = flatI a ++ flatI b := by unfold flatI; rw [List.flatMap_append]
theorem flatI_get (x : List (Int × ByteArray)) (k : Nat) (p : Int × ByteArray) (h : x[k]? = some p) : (flatI x)[2 * k]? = some (.int .i64 p.1) ∧ (flatI x)[2 * k + 1]? = some (.string p.2) := by
  induction x generalizing k with
  | nil => simp at h
  | cons q x ih =>
    have e : flatI (q :: x) = Value.int .i64 q.1 :: Value.string q.2 :: flatI x := rfl
    rw [e]
    cases k with
    | zero => simp at h; subst h; exact ⟨rfl, rfl⟩
    | succ k =>
      rw [List.getElem?_cons_succ] at h
      have := ih k h
      rw [show 2 * (k + 1) = 2 * k + 1 + 1 by omega]
      exact this
theorem flat_intC (x : List (Nat × ByteArray)) : flat x = flatI (intC x) := by
  unfold flat flatI intC
  rw [List.flatMap_map]
/-- The value v is a row of changes. -/
abbrev ChRow (w : World) (v : Value) (x : List (Int × ByteArray)) : Prop := w.ownsRow 0 55 2 v x.length (flatI x)
def ChAt (w : World) (o : Option Addr) (x : List (Int × ByteArray)) : Prop :=
  ∀ k p, x[k]? = some p → ∃ b cur, o = some ⟨b, 0, none⟩ ∧ w.heap[b]? = some (.cells cur 55 (0, 0)) ∧ w.cell? ⟨b, k * 2, none⟩ = some (.int .i64 p.1) ∧ w.cell? ⟨b, k * 2 + 1, none⟩ = some (.string p.2)
theorem ChRow.opened {w : World} {v : Value} {x : List (Int × ByteArray)} (h : ChRow w v x) : ∃ o cap, v = .slice o x.length cap ∧ x.length ≤ maxLen ∧ ChAt w o x := by
  rcases h.2 with ⟨h1, h2⟩ | ⟨b, cap, cur, h1, h3, h4, h5, h6, h7, h8⟩
  · have hx : x = [] := List.length_eq_zero_iff.1 h2
    exact ⟨none, 0, by rw [h1, h2], by rw [h2]; exact Nat.zero_le _, fun k p hp => by rw [hx] at hp; cases hp⟩
  · refine ⟨_, cap, h1, Nat.le_trans h5 h6, fun k p hp => ⟨b, cur, rfl, h4, ?_⟩⟩
    have hk : k < x.length := (List.getElem?_eq_some_iff.1 hp).1
    have hf := flatI_get x k p hp
    rw [← h8, List.getElem?_take, if_pos (by omega), List.getElem?_take, if_pos (by omega)] at hf
    unfold World.cell?
    simp only [h4]
    rw [show k * 2 = 2 * k by omega]
    exact ⟨by rw [← Array.getElem?_toList]; exact hf.1, by rw [← Array.getElem?_toList]; exact hf.2⟩
theorem ChAt.same {w w' : World} {o : Option Addr} {x : List (Int × ByteArray)} (h : ChAt w o x) (hb : ∀ b cur, o = some ⟨b, 0, none⟩ → w.heap[b]? = some (.cells cur 55 (0, 0)) → w'.heap[b]? = w.heap[b]?) : ChAt w' o x := fun k p hp => by
  obtain ⟨b, cur, h1, h2, h3, h4⟩ := h k p hp
  have e := hb b cur h1 h2
  refine ⟨b, cur, h1, e.trans h2, ?_, ?_⟩
  · unfold World.cell? at h3 ⊢; simp only [e]; exact h3
  · unfold World.cell? at h4 ⊢; simp only [e]; exact h4
theorem ChAt.below {w w' : World} {o : Option Addr} {x : List (Int × ByteArray)} (h : ChAt w o x) (hb : Below w.heap.size w w') : ChAt w' o x :=
  h.same fun b _ _ h2 => hb.block b (Array.getElem?_eq_some_iff.1 h2).1
/-- The block at l is a log of the disk at g. -/
def LogAt (l g f m : Nat) (w : World) : Prop := w.heap[l]? = some (.cells #[.pointer (some ⟨g, 0, none⟩), .int .i64 f, .int .i64 m] 77 (0, 0))
section
variable {l g f m : Nat} {w : World}
theorem LogAt.c0 (h : LogAt l g f m w) : w.cell? ⟨l, 0, none⟩ = some (.pointer (some ⟨g, 0, none⟩)) := by unfold World.cell?; simp only [show w.heap[l]? = _ from h]; rfl
theorem LogAt.c1 (h : LogAt l g f m w) : w.cell? ⟨l, 1, none⟩ = some (.int .i64 f) := by unfold World.cell?; simp only [show w.heap[l]? = _ from h]; rfl
theorem LogAt.c2 (h : LogAt l g f m w) : w.cell? ⟨l, 2, none⟩ = some (.int .i64 m) := by unfold World.cell?; simp only [show w.heap[l]? = _ from h]; rfl
theorem LogAt.lt (h : LogAt l g f m w) : l < w.heap.size := (Array.getElem?_eq_some_iff.1 (show w.heap[l]? = _ from h)).1
theorem LogAt.same (h : LogAt l g f m w) {w' : World} (e : w'.heap[l]? = w.heap[l]?) : LogAt l g f m w' := e.trans h
theorem LogAt.below (h : LogAt l g f m w) {w' : World} (hb : Below w.heap.size w w') : LogAt l g f m w' := h.same (hb.block l h.lt)
theorem image_any (h : LogAt l g f m w) (i : Nat) (hf : f ≤ 4096) (hi : i ≤ 4096) :
    Calls Tryd.prog 46 #[.pointer (some ⟨l, 0, none⟩), .int .i64 i] w fun e w' => e = .returned (.int .i64 ((f + 1 + i : Nat) : Int)) ∧ w' = w := by
  have c1 := h.c1
  have hf1 : (f : Int) ≤ 4096 := by omega
  have hi1 : (i : Int) ≤ 4096 := by omega
  have hw1 : IntKind.i64.wrap ((f : Int) + 1) = (f : Int) + 1 := IntWalk.i64_in _ (by omega)
  have hw2 : IntKind.i64.wrap ((f : Int) + 1 + i) = (f : Int) + 1 + i := IntWalk.i64_in _ (by omega)
  go_enter Tryd.func46, Tryd.ntmps46
  go_wp2_with fail
  go_ret
  exact ⟨by congr 2, rfl⟩
theorem LogAt.drewN (h : LogAt l g f m w) (y : Nat) : LogAt l g f m (w.drewN y) := by
  show (w.drewN y).heap[l]? = _
  rw [heap_drewN]; exact h
theorem image_q (h : LogAt l g f m w) (i : Nat) (hf : f ≤ 4096) (hi : i ≤ 4096) (y : Nat) :
    Calls Tryd.prog 46 #[.pointer (some ⟨l, 0, none⟩), .int .i64 i] (w.drewN y) fun e w' => e = .returned (.int .i64 ((f + 1 + i : Nat) : Int)) ∧ ∃ k, w' = w.drewN k :=
  (image_any (h.drewN y) i hf hi).mono fun _ _ ⟨a, b⟩ => ⟨a, y, b⟩
end
theorem change_size : (Tryd.prog.info? 55).map (·.size) = some 2 := by kernel_rfl
def Good1 (n f m : Nat) (c : Int × ByteArray) : Prop := 0 ≤ c.1 ∧ c.1 < n ∧ (c.1 < f ∨ (f : Int) + 1 + m ≤ c.1) ∧ c.2.size ≤ 512
def WtS (n f m : Nat) (x : List (Int × ByteArray)) (w : World) (i : Value) (wr : World) : Prop :=
  ∃ k : Nat, k ≤ x.length ∧ i = .int .i64 k ∧ (∀ j c, j < k → x[j]? = some c → Good1 n f m c) ∧ Below w.heap.size w wr
end Go.Proofs.YtbpaiiljhdohfaaDoor
