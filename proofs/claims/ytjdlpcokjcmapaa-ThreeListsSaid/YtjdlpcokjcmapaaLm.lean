/- Lists' edits: Shifts. -/
import Derived.Test.YtjdlpcokjcmapaaLl
set_option linter.unusedVariables false
set_option linter.unusedSimpArgs false
namespace Go.Proofs.Ytjdlpcokjcmapaa
open Go.RowKit Go.Maps Go.WideShapes
variable {w w' : World}

def Sh1S (a : List ByteArray) (w : World) (i : Value) (wr : World) : Prop :=
  ∃ k : Nat, k ≤ a.length ∧ i = .int .i64 k ∧ IsUs w.heap.size k (fun s => (cntB (a.take k) s, 0, lastB (a.take k) s)) wr ∧ Below w.heap.size w wr
def Sh2S (a b : List ByteArray) (w : World) (i : Value) (wr : World) : Prop :=
  ∃ k : Nat, k ≤ b.length ∧ i = .int .i64 k ∧ IsUs w.heap.size (a.length + k) (fun s => (cntB a s, cntB (b.take k) s, lastB a s)) wr ∧ Below w.heap.size w wr
theorem mapTurned_below {B b : Nat} {w0 w w' : World} (h : w.mapTurned w' b) (hb : Below B w0 w) (hB : B ≤ b) (hs : B ≤ w.heap.size) : Below B w0 w' :=
  hb.grown h.grown hs (fun k e => by cases e; exact hB)
theorem us_one {a : List ByteArray} {k : Nat} {s : ByteArray} (hk : k < a.length) (hs : itB a k = s) (t : ByteArray) : (if s = t then (cntB (a.take k) s + 1, 0, k) else (cntB (a.take k) t, 0, lastB (a.take k) t)) = (cntB (a.take (k + 1)) t, (0 : Nat), lastB (a.take (k + 1)) t) := by
  rw [← take_it a k hk, cntB_snoc, lastB_snoc, List.length_take, Nat.min_eq_left (by omega), hs]
  by_cases e : s = t
  · subst e; rw [if_pos rfl, if_pos rfl, if_pos rfl]
  · rw [if_neg e, if_neg e, if_neg e]; rfl
theorem us_two {a b : List ByteArray} {k : Nat} {s : ByteArray} (hk : k < b.length) (hs : itB b k = s) (t : ByteArray) : (if s = t then (cntB a s, cntB (b.take k) s + 1, lastB a s) else (cntB a t, cntB (b.take k) t, lastB a t)) = (cntB a t, cntB (b.take (k + 1)) t, lastB a t) := by
  rw [← take_it b k hk, cntB_snoc, hs]
  by_cases e : s = t
  · subst e; rw [if_pos rfl, if_pos rfl]
  · rw [if_neg e, if_neg e]; rfl
end Go.Proofs.Ytjdlpcokjcmapaa
