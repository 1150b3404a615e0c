/- Lists of lines, plain facts: where a line ends; what a text of lines is, item by item; tokens. -/
import Derived.Test.YtbegjgceemffcaaPa
namespace Go.Proofs.Ytbegjgceemffcaa
open Go.RowKit

/-- The first place from k on with a newline; else the text's length. -/
def nlAt (s : ByteArray) (k : Nat) : Nat := k + ((s.data.toList.drop k).takeWhile (· != 10)).length
/-- Behind the line from k on. -/
def endAt (s : ByteArray) (k : Nat) : Nat := if nlAt s k < s.size then nlAt s k + 1 else s.size
theorem size_len (s : ByteArray) : s.data.toList.length = s.size := by rw [Array.length_toList]; rfl
theorem nlAt_ge (s : ByteArray) (k : Nat) : k ≤ nlAt s k := by unfold nlAt; omega
theorem takeWhile_len (f : UInt8 → Bool) : ∀ l : List UInt8, (l.takeWhile f).length ≤ l.length
  | [] => Nat.le_refl _
  | x :: r => by
    rw [List.takeWhile_cons]
    have := takeWhile_len f r
    split <;> simp <;> omega
theorem nlAt_le {s : ByteArray} {k : Nat} (h : k ≤ s.size) : nlAt s k ≤ s.size := by
  unfold nlAt
  have := takeWhile_len (· != 10) (s.data.toList.drop k)
  rw [List.length_drop, size_len] at this
  omega
theorem nlAt_end {s : ByteArray} {k : Nat} (h : k = s.size) : nlAt s k = k := by
  have h1 := nlAt_le (s := s) (k := k) (by omega)
  have := nlAt_ge s k
  omega
theorem drop_at (s : ByteArray) (k : Nat) (h : k < s.size) : s.data.toList.drop k = s[k] :: s.data.toList.drop (k + 1) := by
  rw [List.drop_eq_getElem_cons (by rw [size_len]; exact h)]; rfl
theorem nlAt_hit {s : ByteArray} {k : Nat} (h : k < s.size) (hb : s[k] = 10) : nlAt s k = k := by
  unfold nlAt
  rw [drop_at s k h, List.takeWhile_cons, hb]
  simp
theorem nlAt_miss {s : ByteArray} {k : Nat} (h : k < s.size) (hb : s[k] ≠ 10) : nlAt s (k + 1) = nlAt s k := by
  unfold nlAt
  rw [drop_at s k h, List.takeWhile_cons]
  have : (s[k] != 10) = true := by simpa using hb
  rw [if_pos this]
  simp; omega
theorem endAt_gt {s : ByteArray} {k : Nat} (h : k < s.size) : k < endAt s k ∧ endAt s k ≤ s.size := by
  unfold endAt
  have := nlAt_ge s k
  split <;> omega
theorem ext_drop (s : ByteArray) (k : Nat) : (s.extract k s.size).data.toList = s.data.toList.drop k := by
  rw [ByteArray.data_extract, Array.toList_extract, List.extract_eq_take_drop, List.take_of_length_le]
  rw [List.length_drop, size_len]; omega
theorem idx_eq : ∀ l : List UInt8, Lib.indexByte l 10 = if (l.takeWhile (· != 10)).length < l.length then ((l.takeWhile (· != 10)).length : Int) else -1
  | [] => rfl
  | b :: r => by
    rw [List.takeWhile_cons]
    unfold Lib.indexByte
    by_cases h : b = 10
    · subst h; simp
    · have h1 : (b == 10) = false := by simpa using h
      have h2 : (b != 10) = true := by simpa using h
      have ih := idx_eq r
      rw [if_neg (by simp [h1]), if_pos h2, ih]
      by_cases hc : (r.takeWhile (· != 10)).length < r.length
      · simp [hc]
      · simp [hc]
/-- What IndexByte answers of what is left of a text. -/
theorem idx_rest {s : ByteArray} {k : Nat} (h : k ≤ s.size) : Lib.indexByte (s.extract k s.size).data.toList 10 = if nlAt s k < s.size then ((nlAt s k - k : Nat) : Int) else -1 := by
  rw [ext_drop, idx_eq, List.length_drop, size_len]
  have h1 : (nlAt s k - k : Nat) = ((s.data.toList.drop k).takeWhile (· != 10)).length := by unfold nlAt; omega
  rw [← h1]
  have := nlAt_ge s k
  by_cases hc : nlAt s k < s.size
  · rw [if_pos hc, if_pos (by omega)]
  · rw [if_neg hc, if_neg (by omega)]
theorem ext_ext (s : ByteArray) {k a b : Nat} (hb : k + b ≤ s.size) : (s.extract k s.size).extract a b = s.extract (k + a) (k + b) := by
  rw [ByteArray.extract_extract]
  congr 1
  omega
theorem ext_all (s : ByteArray) : s.extract 0 s.size = s := by
  apply ByteArray.ext
  rw [ByteArray.data_extract]
  exact Array.extract_size
theorem ext_len (s : ByteArray) (a b : Nat) : (s.extract a b).size = min b s.size - a := by simp

/-- A text of lines: each line's item by rd, out of those ahead of it; or the number of the first line that is wrong, and how. -/
def parseF {α : Type} (rd : List α → ByteArray → α ⊕ Int) (s : ByteArray) : Nat → Nat → List α → List α × Int × Int
  | 0, _, out => (out, 0, 0)
  | n + 1, k, out =>
    if k < s.size then
      if 4096 ≤ out.length then ([], (out.length : Int) + 1, 6)
      else if nlAt s k = s.size then ([], (out.length : Int) + 1, 2)
      else match rd out (s.extract k (nlAt s k)) with
        | .inr e => ([], (out.length : Int) + 1, e)
        | .inl x => parseF rd s n (nlAt s k + 1) (out ++ [x])
    else (out, 0, 0)
def parseL {α : Type} (rd : List α → ByteArray → α ⊕ Int) (s : ByteArray) : List α × Int × Int :=
  if 262144 < s.size then ([], 0, 6) else parseF rd s (s.size + 1) 0 []
/-- A fuel that is enough is as good as any. -/
theorem parseF_fuel {α : Type} (rd : List α → ByteArray → α ⊕ Int) (s : ByteArray) : ∀ (n k : Nat) (out : List α), s.size < n + k → parseF rd s (n + 1) k out = parseF rd s n k out
  | 0, k, out, h => by
    unfold parseF
    rw [if_neg (by omega)]
  | n + 1, k, out, h => by
    conv => lhs; unfold parseF
    conv => rhs; unfold parseF
    have := nlAt_ge s k
    split
    · split
      · rfl
      · split
        · rfl
        · cases rd out (s.extract k (nlAt s k)) with
          | inr e => rfl
          | inl x => exact parseF_fuel rd s n _ _ (by omega)
    · rfl
/-- What is left to be answered from place k on. -/
def restF {α : Type} (rd : List α → ByteArray → α ⊕ Int) (s : ByteArray) (k : Nat) (out : List α) : List α × Int × Int := parseF rd s (s.size + 1 - k) k out
theorem restF_end {α : Type} (rd : List α → ByteArray → α ⊕ Int) {s : ByteArray} {k : Nat} (out : List α) (h : s.size ≤ k) : restF rd s k out = (out, 0, 0) := by
  unfold restF
  cases s.size + 1 - k with
  | zero => rfl
  | succ n => unfold parseF; rw [if_neg (by omega)]
theorem restF_step {α : Type} (rd : List α → ByteArray → α ⊕ Int) {s : ByteArray} {k : Nat} (out : List α) (h : k < s.size) :
    restF rd s k out = if 4096 ≤ out.length then ([], (out.length : Int) + 1, 6)
      else if nlAt s k = s.size then ([], (out.length : Int) + 1, 2)
      else match rd out (s.extract k (nlAt s k)) with
        | .inr e => ([], (out.length : Int) + 1, e)
        | .inl x => restF rd s (nlAt s k + 1) (out ++ [x]) := by
  have hn : s.size + 1 - k = (s.size - k) + 1 := by omega
  have h1 := nlAt_ge s k
  have more : ∀ (d n j : Nat) (o : List α), s.size < n + j → parseF rd s (n + d) j o = parseF rd s n j o := by
    intro d
    induction d with
    | zero => intros; rfl
    | succ d ih => intro n j o hj; rw [← Nat.add_assoc, parseF_fuel rd s _ _ _ (by omega), ih n j o hj]
  conv => lhs; unfold restF; rw [hn]; unfold parseF
  rw [if_pos h]
  split
  · rfl
  · split
    · rfl
    · have h3 := nlAt_le (s := s) (k := k) (by omega)
      cases rd out (s.extract k (nlAt s k)) with
      | inr e => rfl
      | inl x =>
        unfold restF
        have := more (nlAt s k - k) (s.size + 1 - (nlAt s k + 1)) (nlAt s k + 1) (out ++ [x]) (by omega)
        show parseF rd s (s.size - k) (nlAt s k + 1) (out ++ [x]) = parseF rd s (s.size + 1 - (nlAt s k + 1)) (nlAt s k + 1) (out ++ [x])
        rw [← this]
        congr 1
        omega
theorem parseL_eq {α : Type} (rd : List α → ByteArray → α ⊕ Int) {s : ByteArray} (h : s.size ≤ 262144) : parseL rd s = restF rd s 0 [] := by
  unfold parseL restF
  rw [if_neg (by omega)]
  rfl

/-- A token. -/
def goodB (s : ByteArray) : Bool := decide (0 < s.size) && decide (s.size ≤ 64) && s.data.toList.all fun b => decide (33 ≤ (b.toNat : Int) ∧ (b.toNat : Int) ≤ 126)
/-- Where the first space is; else the text's length. -/
def spAt (s : ByteArray) : Nat := (s.data.toList.takeWhile (· != 32)).length
def pairOf (s : ByteArray) : PairB := (s.extract 0 (spAt s), s.extract (spAt s + 1) s.size)
def rdM (out : List PairB) (s : ByteArray) : PairB ⊕ Int :=
  if goodB (pairOf s).1 && goodB (pairOf s).2 then if (rankN out (pairOf s)).isSome then .inr 10 else .inl (pairOf s) else .inr 2
def parseM (s : ByteArray) : List PairB × Int × Int := parseL rdM s
def showM (l : List PairB) : List UInt8 := l.flatMap fun p => p.1.data.toList ++ 32 :: p.2.data.toList ++ [10]
end Go.Proofs.Ytbegjgceemffcaa
