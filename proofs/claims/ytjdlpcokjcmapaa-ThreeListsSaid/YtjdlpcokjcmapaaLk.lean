/- Lists' edits: Apply. -/
import Derived.Test.YtjdlpcokjcmapaaLj
set_option linter.unusedVariables false
set_option linter.unusedSimpArgs false
namespace Go.Proofs.Ytjdlpcokjcmapaa
open Go.RowKit
variable {w w' : World}

theorem ba_ne {x y : ByteArray} (h : ¬ x = y) : ¬ x.toList = y.toList := by
  rw [ByteArray.toList_eq, ByteArray.toList_eq]
  exact fun e => h (ByteArray.ext (Array.ext' e))
def ApS (a : List ByteArray) (l : List EdZ) (w : World) (v u i : Value) (wr : World) : Prop :=
  ∃ (k q : Nat) (made : List ByteArray), k ≤ l.length ∧ q ≤ a.length ∧ made.length ≤ k ∧ i = .int .i64 k ∧ u = .int .i64 q ∧ wr.ownsRow w.heap.size 9 1 v made.length (strV made) ∧ apD a 0 [] l = apD a q made (l.drop k) ∧ (∀ s ∈ made, s.size ≤ maxLen) ∧ Below w.heap.size w wr
theorem drop_cons {α : Type} {l : List α} {k : Nat} {p : α} (h : l[k]? = some p) : l.drop k = p :: l.drop (k + 1) := by
  obtain ⟨hl, e⟩ := List.getElem?_eq_some_iff.1 h
  rw [List.drop_eq_getElem_cons hl, e]
theorem ApS.more {a made : List ByteArray} {l : List EdZ} {k : Nat} {W w4 : World} {v' v : Value} {s : ByteArray} {q q' : Nat} {o : Obj} (hk : k < l.length) (hq : q' ≤ a.length) (hm : made.length ≤ k) (hs : s.size ≤ maxLen) (hms : ∀ s ∈ made, s.size ≤ maxLen) (hap : apD a 0 [] l = apD a q made (l.drop k)) (hst : apD a q made (l.drop k) = apD a q' (made ++ [s]) (l.drop (k + 1)))
    (hb : Below w.heap.size w W) (hown0 : W.ownsRow w.heap.size 9 1 v made.length (strV made)) (hown : w4.ownsRow w.heap.size 9 1 v' (made.length + 1) (strV made ++ [.string s])) (hg : (W.alloc o).grownBy w4 v.ownBlock) : ApS a l w v' (.int .i64 q') (.int .i64 (k + 1 : Nat)) w4 := by
  refine ⟨k + 1, q', made ++ [s], hk, hq, by simp; omega, rfl, rfl, by rw [List.length_append]; show World.ownsRow _ _ _ _ _ _ (strV (made ++ [s])); unfold strV; rw [List.map_append]; exact hown, hap.trans hst, fun x hx => ?_, (hb.alloc hb.size _).grown hg (by have := hb.size; simp; omega) (fun k hk => (hown0.lt k hk).1)⟩
  rcases List.mem_append.1 hx with h | h
  · exact hms x h
  · simp at h; subst h; exact hs
def apOk (a : List ByteArray) (l : List EdZ) (w : World) (e : Ending) (w' : World) : Prop :=
  ∃ v, e = .returned (.tuple #[v, .int .i64 (apD a 0 [] l).2]) ∧ w'.ownsRow w.heap.size 9 1 v (apD a 0 [] l).1.length (strV (apD a 0 [] l).1) ∧ (∀ s ∈ (apD a 0 [] l).1, s.size ≤ maxLen) ∧ Below w.heap.size w w'
theorem apOk.err {a : List ByteArray} {l : List EdZ} {x : Int} (h : apD a 0 [] l = ([], x)) (hb : Below w.heap.size w w') : apOk a l w (.returned (.tuple #[.slice none 0 0, .int .i64 x])) w' := by
  unfold apOk; rw [h]
  exact ⟨_, rfl, World.ownsRow_nil _ _ _ _, (fun s hs => by cases hs), hb⟩
end Go.Proofs.Ytjdlpcokjcmapaa
