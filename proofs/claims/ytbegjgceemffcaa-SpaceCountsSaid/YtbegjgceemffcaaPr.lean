/- Merges: strings.Cut at a space; a line's reader; lines.next. -/
import Derived.Test.YtbegjgceemffcaaPh
import Derived.StillTailTactics
namespace Go.Proofs.Ytbegjgceemffcaa
open Go.RowKit Go.Maps
variable {w w' : World}

theorem idx_sp : ∀ l : List UInt8, Lib.indexByte l 32 = if (l.takeWhile (· != 32)).length < l.length then ((l.takeWhile (· != 32)).length : Int) else -1
  | [] => rfl
  | b :: r => by
    rw [List.takeWhile_cons]
    unfold Lib.indexByte
    by_cases h : b = 32
    · subst h; simp
    · have h1 : (b == 32) = false := by simpa using h
      have h2 : (b != 32) = true := by simpa using h
      have ih := idx_sp r
      rw [if_neg (by simp [h1]), if_pos h2, ih]
      by_cases hc : (r.takeWhile (· != 32)).length < r.length
      · simp [hc]
      · simp [hc]
theorem spAt_le (s : ByteArray) : spAt s ≤ s.size := by
  unfold spAt
  have := takeWhile_len (· != 32) s.data.toList
  rw [size_len] at this; exact this
theorem idx_spAt (s : ByteArray) : Lib.indexByte s.data.toList 32 = if spAt s < s.size then ((spAt s : Nat) : Int) else -1 := by
  rw [idx_sp, size_len]; rfl
theorem ext_none {s : ByteArray} {a b : Nat} (h : b ≤ a) : s.extract a b = ⟨#[]⟩ := by
  apply ByteArray.ext
  rw [ByteArray.data_extract]
  apply Array.eq_empty_of_size_eq_zero
  simp; omega
/-- Only the map at b has changed. -/
structure FrM (b : Nat) (w w' : World) : Prop where
  low : Below 0 w w'
  size : w.heap.size ≤ w'.heap.size
  block : ∀ k, k < w.heap.size → k ≠ b → w'.heap[k]? = w.heap[k]?
theorem FrM.of_below {b : Nat} (h : Below w.heap.size w w') : FrM b w w' := ⟨h.mono (Nat.zero_le _), h.size, fun k hk _ => h.block k hk⟩
theorem FrM.trans {b : Nat} {w'' : World} (h : FrM b w w') (k : FrM b w' w'') : FrM b w w'' :=
  ⟨h.low.trans k.low, Nat.le_trans h.size k.size, fun i hi a => (k.block i (Nat.lt_of_lt_of_le hi h.size) a).trans (h.block i hi a)⟩
theorem FrM.turned {b : Nat} (h : w.mapTurned w' b) : FrM b w w' :=
  ⟨(Below.refl 0 w).grown h.grown (Nat.zero_le _) (fun k e => Nat.zero_le _), h.grown.size, fun k hk hb => h.grown.block k hk (fun e => hb (by injection e))⟩
theorem good_ok {s : ByteArray} (h : goodB s = true) : s.size ≤ 64 := by
  unfold goodB at h
  simp only [Bool.and_eq_true, decide_eq_true_eq] at h
  exact h.1.2
theorem pairOf_size (s : ByteArray) : (pairOf s).1.size ≤ s.size ∧ (pairOf s).2.size ≤ s.size := by
  unfold pairOf
  constructor <;> simp <;> omega
end Go.Proofs.Ytbegjgceemffcaa
