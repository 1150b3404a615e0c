/- Merges: the parts of a word are the word, each a byte or a pair's result, no two a pair. -/
import Derived.Test.YtlfjlkmikmajaaaPzd
namespace Go.Proofs.Ytlfjlkmikmajaaa
open Go.RowKit
variable {w w' : World}

def knB (t : List PairB) (p : ByteArray) (m : Nat) : Bool := decide ((p.size : Int) = 1) || (t.take m).any fun q => decide (q.1 ++ q.2 = p)
theorem knB_succ {t : List PairB} {p : ByteArray} {m : Nat} {q : PairB} (h : t[m]? = some q) : knB t p (m + 1) = (knB t p m || decide (q.1 ++ q.2 = p)) := by
  unfold knB
  rw [List.take_add_one, h, List.any_append]
  simp [Bool.or_assoc]
theorem knB_end {t : List PairB} {p : ByteArray} (h : Part t p) : knB t p t.length = true := by
  unfold knB
  rw [List.take_length]
  rcases h.2 with h1 | ⟨q, hq, he⟩
  · have : decide ((p.size : Int) = 1) = true := decide_eq_true (by omega)
    rw [this]; rfl
  · have : (t.any fun q => decide (q.1 ++ q.2 = p)) = true := List.any_eq_true.2 ⟨q, hq, decide_eq_true he⟩
    rw [this, Bool.or_true]
theorem cat_take (P : List ByteArray) {k : Nat} {p : ByteArray} (h : P[k]? = some p) : catB (P.take (k + 1)) = catB (P.take k) ++ p.data.toList := by
  rw [List.take_add_one, h, catB_append]; simp [catB]
theorem cat_step {P : List ByteArray} {k : Nat} {p x : ByteArray} (h : P[k]? = some p) (hx : x.data.toList = catB (P.take k)) : (x ++ p).data.toList = catB (P.take (k + 1)) := by
  rw [cat_take P h, ← hx, ByteArray.data_append, Array.toList_append]
def WhS (P : List ByteArray) (w : World) (s i : Value) (wr : World) : Prop :=
  ∃ (k : Nat) (x : ByteArray), k ≤ P.length ∧ i = .int .i64 k ∧ s = .string x ∧ x.data.toList = catB (P.take k) ∧ Below w.heap.size w wr
def WkS (t : List PairB) (p : ByteArray) (w : World) (kn j : Value) (wr : World) : Prop :=
  ∃ m : Nat, m ≤ t.length ∧ j = .int .i64 m ∧ kn = .bool (knB t p m) ∧ Below w.heap.size w wr
theorem knB_zero (t : List PairB) (p : ByteArray) : knB t p 0 = decide ((p.size : Int) = 1) := by unfold knB; simp
theorem bn_ne {a b : ByteArray} (h : a ≠ b) : (a.toList == b.toList) = false := by rw [ba_beq]; exact decide_eq_false h
theorem bl_ne {a b : ByteArray} (h : a ≠ b) : ¬ a.toList = b.toList := fun e => h (by have := ba_beq a b; rw [beq_iff_eq.2 e] at this; exact of_decide_eq_true this.symm)
theorem bn_eq {a b : ByteArray} (h : a = b) : (a.toList == b.toList) = true := by rw [ba_beq]; exact decide_eq_true h
theorem toL_len (s : ByteArray) : s.data.toList.length = s.size := Array.length_toList
theorem size_take {P : List ByteArray} {x s : ByteArray} {k : Nat} (hx : x.data.toList = catB (P.take k)) (hs : catB P = s.data.toList) : x.size ≤ s.size := by
  have h1 := offB_le P k
  unfold offB at h1
  rw [← hx, hs, toL_len, toL_len] at h1
  exact h1
theorem size_part {P : List ByteArray} {p s : ByteArray} {k : Nat} (h : P[k]? = some p) (hs : catB P = s.data.toList) : p.size ≤ s.size := by
  have h1 := offB_le P (k + 1)
  have h2 := offB_succ h
  rw [hs, toL_len] at h1
  omega
end Go.Proofs.Ytlfjlkmikmajaaa
