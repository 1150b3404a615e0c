/- Merges, plain facts: ranks of pairs, the least rank, one round of merging, splitting; what the parts' ends are. Lists of lines, plain facts: where a line ends; what a text of lines is, item by item; tokens. Merges, plain facts: what splitting leaves; longer lists; one pair. Rules, plain facts: names, patterns, their order; a text of lines and what it is read as, there and back. Vocabularies, plain facts: a number's digits, there and back; an entry's line. -/
import Derived.Lib.Bytealg
import Derived.Test.YtdpfpdpaamjefaaDoorS
import Derived.Lib.AtoiAll
import Derived.Lib.ItoaNum
namespace Go.Proofs.YtdpfpdpaamjefaaDoor
open Go.RowKit

abbrev PairB := ByteArray × ByteArray
def noR : Int := 9223372036854775807
/-- The index of the first pair that is p. -/
def rankN : List PairB → PairB → Option Nat
  | [], _ => none
  | q :: r, p => if q = p then some 0 else (rankN r p).map (· + 1)
def rkI (l : List PairB) (p : PairB) : Int := match rankN l p with | some i => (i : Int) | none => noR
def bestI (l : List PairB) : List ByteArray → Int
  | a :: b :: r => min (rkI l (a, b)) (bestI l (b :: r))
  | _ => noR
def mergeL (a b : ByteArray) : List ByteArray → List ByteArray
  | x :: y :: r => if x = a ∧ y = b then (x ++ y) :: mergeL a b r else x :: mergeL a b (y :: r)
  | l => l
def pairAt (l : List PairB) (i : Int) : PairB := l.getD i.toNat (⟨#[]⟩, ⟨#[]⟩)
def splitN : Nat → List PairB → List ByteArray → List ByteArray
  | 0, _, P => P
  | k + 1, l, P => if bestI l P = noR then P else splitN k l (mergeL (pairAt l (bestI l P)).1 (pairAt l (bestI l P)).2 P)
def bytesB (s : ByteArray) : List ByteArray := s.data.toList.map fun b => ⟨#[b]⟩
def splitB (l : List PairB) (s : ByteArray) : List ByteArray := splitN s.size l (bytesB s)

theorem rankN_lt {p : PairB} {i : Nat} : ∀ {l : List PairB}, rankN l p = some i → i < l.length ∧ l[i]? = some p := by
  intro l
  induction l generalizing i with
  | nil => intro h; cases h
  | cons q r ih =>
    intro h
    unfold rankN at h
    split at h
    · injection h with h; subst h; rename_i e; subst e; simp
    · cases hr : rankN r p with
      | none => rw [hr] at h; cases h
      | some j =>
        rw [hr] at h; injection h with h; subst h
        have := ih hr
        exact ⟨Nat.succ_lt_succ this.1, by rw [List.getElem?_cons_succ]; exact this.2⟩
theorem rankN_none {p : PairB} : ∀ {l : List PairB}, rankN l p = none ↔ p ∉ l := by
  intro l
  induction l with
  | nil => simp [rankN]
  | cons q r ih =>
    unfold rankN
    by_cases h : q = p
    · simp [h]
    · rw [if_neg h]; simp [ih, Ne.symm h]
theorem rankN_snoc (l : List PairB) (q p : PairB) : rankN (l ++ [q]) p = match rankN l p with | some i => some i | none => if q = p then some l.length else none := by
  induction l with
  | nil => simp [rankN]
  | cons x r ih =>
    show rankN (x :: (r ++ [q])) p = _
    unfold rankN
    by_cases h : x = p
    · simp [h]
    · rw [if_neg h, if_neg h, ih]
      cases rankN r p with
      | some i => rfl
      | none => by_cases e : q = p <;> simp [e]
theorem rkI_bd (l : List PairB) (p : PairB) (hl : l.length ≤ 100000) : 0 ≤ rkI l p ∧ rkI l p ≤ noR := by
  unfold rkI noR
  cases h : rankN l p with
  | none => simp
  | some i => have := (rankN_lt h).1; simp; omega
theorem rkI_no {l : List PairB} {p : PairB} (hl : l.length ≤ 100000) : rkI l p = noR ↔ rankN l p = none := by
  unfold rkI noR
  cases h : rankN l p with
  | none => simp
  | some i => have := (rankN_lt h).1; simp; omega
theorem bestI_bd (l : List PairB) (hl : l.length ≤ 100000) : ∀ P, 0 ≤ bestI l P ∧ bestI l P ≤ noR
  | [] => by unfold bestI noR; simp
  | [_] => by unfold bestI noR; simp
  | a :: b :: r => by
    have h1 := rkI_bd l (a, b) hl
    have h2 := bestI_bd l hl (b :: r)
    unfold bestI
    omega
/-- The least rank is one of two parts side by side. -/
theorem bestI_at (l : List PairB) (hl : l.length ≤ 100000) : ∀ P, bestI l P ≠ noR → ∃ (k : Nat) (a b : ByteArray), P[k]? = some a ∧ P[k + 1]? = some b ∧ rkI l (a, b) = bestI l P
  | [], h => absurd rfl h
  | [_], h => absurd rfl h
  | a :: b :: r, h => by
    unfold bestI at h ⊢
    have h1 := rkI_bd l (a, b) hl
    have h2 := bestI_bd l hl (b :: r)
    by_cases hc : rkI l (a, b) ≤ bestI l (b :: r)
    · exact ⟨0, a, b, rfl, rfl, by omega⟩
    · obtain ⟨k, x, y, hx, hy, hr⟩ := bestI_at l hl (b :: r) (by omega)
      exact ⟨k + 1, x, y, hx, hy, by omega⟩
theorem pairAt_of {l : List PairB} {p : PairB} {i : Int} (h : rkI l p = i) (hi : i ≠ noR) : pairAt l i = p ∧ 0 ≤ i ∧ i.toNat < l.length ∧ l[i.toNat]? = some p := by
  unfold rkI at h
  cases hr : rankN l p with
  | none => rw [hr] at h; exact absurd h.symm hi
  | some j =>
    rw [hr] at h
    have h' : (j : Int) = i := h
    subst h'
    have := rankN_lt hr
    have e : ((j : Int)).toNat = j := by omega
    unfold pairAt
    rw [e, List.getD_eq_getElem?_getD, this.2]
    exact ⟨rfl, by omega, this.1, rfl⟩
theorem mergeL_le (a b : ByteArray) : ∀ P, (mergeL a b P).length ≤ P.length
  | [] => Nat.le_refl _
  | [_] => Nat.le_refl _
  | x :: y :: r => by
    unfold mergeL
    have h1 := mergeL_le a b r
    have h2 := mergeL_le a b (y :: r)
    split <;> simp at h1 h2 ⊢ <;> omega
theorem mergeL_lt (a b : ByteArray) : ∀ (P : List ByteArray) (k : Nat), P[k]? = some a → P[k + 1]? = some b → (mergeL a b P).length < P.length
  | [], k, h, _ => by simp at h
  | [_], 0, _, h => by simp at h
  | [_], _ + 1, h, _ => by simp at h
  | x :: y :: r, k, h1, h2 => by
    unfold mergeL
    have h3 := mergeL_le a b r
    split
    · simp; omega
    · rename_i hn
      cases k with
      | zero =>
        simp at h1 h2
        exact absurd ⟨h1, h2⟩ hn
      | succ k =>
        have := mergeL_lt a b (y :: r) k h1 h2
        simp at this ⊢; omega
theorem mergeL_best {l : List PairB} {P : List ByteArray} (hl : l.length ≤ 100000) (h : bestI l P ≠ noR) : (mergeL (pairAt l (bestI l P)).1 (pairAt l (bestI l P)).2 P).length < P.length ∧ (bestI l P).toNat < l.length := by
  obtain ⟨k, a, b, h1, h2, h3⟩ := bestI_at l hl P h
  obtain ⟨e, _, h4, _⟩ := pairAt_of h3 h
  rw [e]
  exact ⟨mergeL_lt a b P k h1 h2, h4⟩
theorem splitN_more {l : List PairB} (hl : l.length ≤ 100000) : ∀ (k : Nat) (P : List ByteArray), P.length ≤ k → splitN (k + 1) l P = splitN k l P
  | 0, P, h => by
    have : P = [] := List.eq_nil_of_length_eq_zero (by omega)
    subst this
    rfl
  | k + 1, P, h => by
    by_cases hb : bestI l P = noR
    · unfold splitN; rw [if_pos hb, if_pos hb]
    · have := (mergeL_best hl hb).1
      unfold splitN
      rw [if_neg hb, if_neg hb]
      exact splitN_more hl k _ (by omega)
theorem splitN_ge {l : List PairB} (hl : l.length ≤ 100000) {P : List ByteArray} : ∀ {k : Nat}, P.length ≤ k → splitN k l P = splitN P.length l P := by
  intro k hk
  induction k with
  | zero => have : P.length = 0 := by omega
            rw [this]
  | succ k ih =>
    by_cases h : P.length = k + 1
    · rw [h]
    · rw [splitN_more hl k P (by omega), ih (by omega)]
/-- Where no pair is left. -/
theorem splitP_done {l : List PairB} {P : List ByteArray} (h : bestI l P = noR) : splitN P.length l P = P := by
  cases hp : P.length with
  | zero => rfl
  | succ k => unfold splitN; rw [if_pos h]
/-- One round. -/
theorem splitP_step {l : List PairB} {P : List ByteArray} (hl : l.length ≤ 100000) (h : bestI l P ≠ noR) :
    splitN P.length l P = splitN (mergeL (pairAt l (bestI l P)).1 (pairAt l (bestI l P)).2 P).length l (mergeL (pairAt l (bestI l P)).1 (pairAt l (bestI l P)).2 P) := by
  have h1 := (mergeL_best hl h).1
  cases hp : P.length with
  | zero => omega
  | succ k =>
    conv => lhs; unfold splitN
    rw [if_neg h]
    exact splitN_ge hl (by omega)
theorem bytesB_length (s : ByteArray) : (bytesB s).length = s.size := by
  unfold bytesB
  rw [List.length_map, Array.length_toList]; rfl
/-- All parts as one text. -/
def catB (P : List ByteArray) : List UInt8 := P.flatMap fun p => p.data.toList
theorem catB_cons (p : ByteArray) (P : List ByteArray) : catB (p :: P) = p.data.toList ++ catB P := by simp [catB]
theorem catB_append (P Q : List ByteArray) : catB (P ++ Q) = catB P ++ catB Q := by simp [catB]
theorem app_toList (a b : ByteArray) : (a ++ b).data.toList = a.data.toList ++ b.data.toList := by simp
theorem mergeL_cat (a b : ByteArray) : ∀ P, catB (mergeL a b P) = catB P
  | [] => rfl
  | [_] => rfl
  | x :: y :: r => by
    unfold mergeL
    split
    · rw [catB_cons, catB_cons, catB_cons, mergeL_cat a b r, app_toList, List.append_assoc]
    · rw [catB_cons, catB_cons, mergeL_cat a b (y :: r)]
theorem splitN_cat (l : List PairB) : ∀ (k : Nat) (P : List ByteArray), catB (splitN k l P) = catB P
  | 0, _ => rfl
  | k + 1, P => by
    unfold splitN
    split
    · rfl
    · rw [splitN_cat l k, mergeL_cat]
theorem catB_bytes (s : ByteArray) : catB (bytesB s) = s.data.toList := by
  unfold catB bytesB
  rw [List.flatMap_map]
  simp
/-- Where part k begins. -/
def offB (P : List ByteArray) (k : Nat) : Nat := (catB (P.take k)).length
theorem offB_zero (P : List ByteArray) : offB P 0 = 0 := by simp [offB, catB]
theorem offB_succ {P : List ByteArray} {k : Nat} {p : ByteArray} (h : P[k]? = some p) : offB P (k + 1) = offB P k + p.size := by
  have hk := (List.getElem?_eq_some_iff.1 h)
  unfold offB
  rw [List.take_add_one, h, catB_append]
  simp [catB]
theorem offB_all {P : List ByteArray} {k : Nat} (h : P.length ≤ k) : offB P k = (catB P).length := by unfold offB; rw [List.take_of_length_le h]
theorem offB_le (P : List ByteArray) (k : Nat) : offB P k ≤ (catB P).length := by
  unfold offB
  conv => rhs; rw [← List.take_append_drop k P, catB_append]
  simp
/-- Part k is the text between its ends. -/
theorem part_ext {P : List ByteArray} {k : Nat} {p s : ByteArray} (hs : catB P = s.data.toList) (h : P[k]? = some p) : s.extract (offB P k) (offB P (k + 1)) = p := by
  have hk := (List.getElem?_eq_some_iff.1 h).1
  have e1 : catB P = catB (P.take k) ++ (p.data.toList ++ catB (P.drop (k + 1))) := by
    conv => lhs; rw [← List.take_append_drop k P, catB_append, List.drop_eq_getElem_cons hk, catB_cons]
    rw [(List.getElem?_eq_some_iff.1 h).2]
  have e2 : (s.extract (offB P k) (offB P (k + 1))).data.toList = p.data.toList := by
    rw [offB_succ h]
    rw [ByteArray.data_extract, Array.toList_extract, List.extract_eq_take_drop, ← hs, e1]
    unfold offB
    rw [List.drop_left]
    have : (catB (P.take k)).length + p.size - (catB (P.take k)).length = p.data.toList.length := by rw [Nat.add_sub_cancel_left, Array.length_toList]; rfl
    rw [this, List.take_left]
  apply ByteArray.ext
  exact Array.ext' e2
end Go.Proofs.YtdpfpdpaamjefaaDoor
namespace Go.Proofs.YtdpfpdpaamjefaaDoor
open Go.RowKit

/-- The first place from k on with a newline; else the text's length. -/
def nlAt (s : ByteArray) (k : Nat) : Nat := k + ((s.data.toList.drop k).takeWhile (· != 10)).length
/-- Behind the line from k on. -/
def endAt (s : ByteArray) (k : Nat) : Nat := if nlAt s k < s.size then nlAt s k + 1 else s.size
theorem size_len (s : ByteArray) : s.data.toList.length = s.size := by rw [Array.length_toList]; rfl
theorem nlAt_ge (s : ByteArray) (k : Nat) : k ≤ nlAt s k := by unfold nlAt; omega
theorem takeWhile_len (f : UInt8 → Bool) : ∀ l : List UInt8, (l.takeWhile f).length ≤ l.length
  | [] => Nat.le_refl _
  | x :: r => by
    rw [List.takeWhile_cons]
    have := takeWhile_len f r
    split <;> simp <;> omega
theorem nlAt_le {s : ByteArray} {k : Nat} (h : k ≤ s.size) : nlAt s k ≤ s.size := by
  unfold nlAt
  have := takeWhile_len (· != 10) (s.data.toList.drop k)
  rw [List.length_drop, size_len] at this
  omega
theorem nlAt_end {s : ByteArray} {k : Nat} (h : k = s.size) : nlAt s k = k := by
  have h1 := nlAt_le (s := s) (k := k) (by omega)
  have := nlAt_ge s k
  omega
theorem drop_at (s : ByteArray) (k : Nat) (h : k < s.size) : s.data.toList.drop k = s[k] :: s.data.toList.drop (k + 1) := by
  rw [List.drop_eq_getElem_cons (by rw [size_len]; exact h)]; rfl
theorem nlAt_hit {s : ByteArray} {k : Nat} (h : k < s.size) (hb : s[k] = 10) : nlAt s k = k := by
  unfold nlAt
  rw [drop_at s k h, List.takeWhile_cons, hb]
  simp
theorem nlAt_miss {s : ByteArray} {k : Nat} (h : k < s.size) (hb : s[k] ≠ 10) : nlAt s (k + 1) = nlAt s k := by
  unfold nlAt
  rw [drop_at s k h, List.takeWhile_cons]
  have : (s[k] != 10) = true := by simpa using hb
  rw [if_pos this]
  simp; omega
theorem endAt_gt {s : ByteArray} {k : Nat} (h : k < s.size) : k < endAt s k ∧ endAt s k ≤ s.size := by
  unfold endAt
  have := nlAt_ge s k
  split <;> omega
theorem ext_drop (s : ByteArray) (k : Nat) : (s.extract k s.size).data.toList = s.data.toList.drop k := by
  rw [ByteArray.data_extract, Array.toList_extract, List.extract_eq_take_drop, List.take_of_length_le]
  rw [List.length_drop, size_len]; omega
theorem idx_eq : ∀ l : List UInt8, Lib.indexByte l 10 = if (l.takeWhile (· != 10)).length < l.length then ((l.takeWhile (· != 10)).length : Int) else -1
  | [] => rfl
  | b :: r => by
    rw [List.takeWhile_cons]
    unfold Lib.indexByte
    by_cases h : b = 10
    · subst h; simp
    · have h1 : (b == 10) = false := by simpa using h
      have h2 : (b != 10) = true := by simpa using h
      have ih := idx_eq r
      rw [if_neg (by simp [h1]), if_pos h2, ih]
      by_cases hc : (r.takeWhile (· != 10)).length < r.length
      · simp [hc]
      · simp [hc]
/-- What IndexByte answers of what is left of a text. -/
theorem idx_rest {s : ByteArray} {k : Nat} (h : k ≤ s.size) : Lib.indexByte (s.extract k s.size).data.toList 10 = if nlAt s k < s.size then ((nlAt s k - k : Nat) : Int) else -1 := by
  rw [ext_drop, idx_eq, List.length_drop, size_len]
  have h1 : (nlAt s k - k : Nat) = ((s.data.toList.drop k).takeWhile (· != 10)).length := by unfold nlAt; omega
  rw [← h1]
  have := nlAt_ge s k
  by_cases hc : nlAt s k < s.size
  · rw [if_pos hc, if_pos (by omega)]
  · rw [if_neg hc, if_neg (by omega)]
theorem ext_ext (s : ByteArray) {k a b : Nat} (hb : k + b ≤ s.size) : (s.extract k s.size).extract a b = s.extract (k + a) (k + b) := by
  rw [ByteArray.extract_extract]
  congr 1
  omega
theorem ext_all (s : ByteArray) : s.extract 0 s.size = s := by
  apply ByteArray.ext
  rw [ByteArray.data_extract]
  exact Array.extract_size
theorem ext_len (s : ByteArray) (a b : Nat) : (s.extract a b).size = min b s.size - a := by simp

/-- A text of lines: each line's item by rd, out of those ahead of it; or the number of the first line that is wrong, and how. -/
def parseF {α : Type} (rd : List α → ByteArray → α ⊕ Int) (s : ByteArray) : Nat → Nat → List α → List α × Int × Int
  | 0, _, out => (out, 0, 0)
  | n + 1, k, out =>
    if k < s.size then
      if 4096 ≤ out.length then ([], (out.length : Int) + 1, 6)
      else if nlAt s k = s.size then ([], (out.length : Int) + 1, 2)
      else match rd out (s.extract k (nlAt s k)) with
        | .inr e => ([], (out.length : Int) + 1, e)
        | .inl x => parseF rd s n (nlAt s k + 1) (out ++ [x])
    else (out, 0, 0)
def parseL {α : Type} (rd : List α → ByteArray → α ⊕ Int) (s : ByteArray) : List α × Int × Int :=
  if 262144 < s.size then ([], 0, 6) else parseF rd s (s.size + 1) 0 []
/-- A fuel that is enough is as good as any. -/
theorem parseF_fuel {α : Type} (rd : List α → ByteArray → α ⊕ Int) (s : ByteArray) : ∀ (n k : Nat) (out : List α), s.size < n + k → parseF rd s (n + 1) k out = parseF rd s n k out
  | 0, k, out, h => by
    unfold parseF
    rw [if_neg (by omega)]
  | n + 1, k, out, h => by
    conv => lhs; unfold parseF
    conv => rhs; unfold parseF
    have := nlAt_ge s k
    split
    · split
      · rfl
      · split
        · rfl
        · cases rd out (s.extract k (nlAt s k)) with
          | inr e => rfl
          | inl x => exact parseF_fuel rd s n _ _ (by omega)
    · rfl
/-- What is left to be answered from place k on. -/
def restF {α : Type} (rd : List α → ByteArray → α ⊕ Int) (s : ByteArray) (k : Nat) (out : List α) : List α × Int × Int := parseF rd s (s.size + 1 - k) k out
theorem restF_end {α : Type} (rd : List α → ByteArray → α ⊕ Int) {s : ByteArray} {k : Nat} (out : List α) (h : s.size ≤ k) : restF rd s k out = (out, 0, 0) := by
  unfold restF
  cases s.size + 1 - k with
  | zero => rfl
  | succ n => unfold parseF; rw [if_neg (by omega)]
theorem restF_step {α : Type} (rd : List α → ByteArray → α ⊕ Int) {s : ByteArray} {k : Nat} (out : List α) (h : k < s.size) :
    restF rd s k out = if 4096 ≤ out.length then ([], (out.length : Int) + 1, 6)
      else if nlAt s k = s.size then ([], (out.length : Int) + 1, 2)
      else match rd out (s.extract k (nlAt s k)) with
        | .inr e => ([], (out.length : Int) + 1, e)
        | .inl x => restF rd s (nlAt s k + 1) (out ++ [x]) := by
  have hn : s.size + 1 - k = (s.size - k) + 1 := by omega
  have h1 := nlAt_ge s k
  have more : ∀ (d n j : Nat) (o : List α), s.size < n + j → parseF rd s (n + d) j o = parseF rd s n j o := by
    intro d
    induction d with
    | zero => intros; rfl
    | succ d ih => intro n j o hj; rw [← Nat.add_assoc, parseF_fuel rd s _ _ _ (by omega), ih n j o hj]
  conv => lhs; unfold restF; rw [hn]; unfold parseF
  rw [if_pos h]
  split
  · rfl
  · split
    · rfl
    · have h3 := nlAt_le (s := s) (k := k) (by omega)
      cases rd out (s.extract k (nlAt s k)) with
      | inr e => rfl
      | inl x =>
        unfold restF
        have := more (nlAt s k - k) (s.size + 1 - (nlAt s k + 1)) (nlAt s k + 1) (out ++ [x]) (by omega)
        show parseF rd s (s.size - k) (nlAt s k + 1) (out ++ [x]) = parseF rd s (s.size + 1 - (nlAt s k + 1)) (nlAt s k + 1) (out ++ [x])
        rw [← this]
        congr 1
        omega
theorem parseL_eq {α : Type} (rd : List α → ByteArray → α ⊕ Int) {s : ByteArray} (h : s.size ≤ 262144) : parseL rd s = restF rd s 0 [] := by
  unfold parseL restF
  rw [if_neg (by omega)]
  rfl

/-- A token. -/
def goodB (s : ByteArray) : Bool := decide (0 < s.size) && decide (s.size ≤ 64) && s.data.toList.all fun b => decide (33 ≤ (b.toNat : Int) ∧ (b.toNat : Int) ≤ 126)
/-- Where the first space is; else the text's length. -/
def spAt (s : ByteArray) : Nat := (s.data.toList.takeWhile (· != 32)).length
def pairOf (s : ByteArray) : PairB := (s.extract 0 (spAt s), s.extract (spAt s + 1) s.size)
def rdM (out : List PairB) (s : ByteArray) : PairB ⊕ Int :=
  if goodB (pairOf s).1 && goodB (pairOf s).2 then if (rankN out (pairOf s)).isSome then .inr 10 else .inl (pairOf s) else .inr 2
def parseM (s : ByteArray) : List PairB × Int × Int := parseL rdM s
def showM (l : List PairB) : List UInt8 := l.flatMap fun p => p.1.data.toList ++ 32 :: p.2.data.toList ++ [10]
end Go.Proofs.YtdpfpdpaamjefaaDoor
namespace Go.Proofs.YtdpfpdpaamjefaaDoor
open Go.RowKit

theorem split_ind {l : List PairB} (hl : l.length ≤ 100000) (Q : List ByteArray → Prop) (hs : ∀ P (k : Nat) (a b : ByteArray), Q P → P[k]? = some a → P[k + 1]? = some b → (a, b) ∈ l → Q (mergeL a b P)) : ∀ (n : Nat) (P : List ByteArray), Q P → Q (splitN n l P)
  | 0, _, h => h
  | n + 1, P, h => by
    unfold splitN
    split
    · exact h
    · rename_i hb
      obtain ⟨k, a, b, h1, h2, h3⟩ := bestI_at l hl P hb
      obtain ⟨e, _, h4, h5⟩ := pairAt_of h3 hb
      rw [e]
      exact split_ind hl Q hs n _ (hs P k a b h h1 h2 (List.mem_of_getElem? h5))
theorem splitP_fix {l : List PairB} (hl : l.length ≤ 100000) : ∀ (n : Nat) (P : List ByteArray), P.length ≤ n → bestI l (splitN n l P) = noR
  | 0, P, h => by
    have : P = [] := List.eq_nil_of_length_eq_zero (by omega)
    subst this
    rfl
  | n + 1, P, h => by
    unfold splitN
    split
    · assumption
    · rename_i hb
      have := (mergeL_best hl hb).1
      exact splitP_fix hl n _ (by omega)
theorem bestI_apart {l : List PairB} (hl : l.length ≤ 100000) : ∀ (P : List ByteArray) (k : Nat) (a b : ByteArray), bestI l P = noR → P[k]? = some a → P[k + 1]? = some b → (a, b) ∉ l
  | [], k, a, b, _, h, _ => by simp at h
  | [_], 0, _, _, _, _, h => by simp at h
  | [_], _ + 1, _, _, _, h, _ => by simp at h
  | x :: y :: r, k, a, b, hb, h1, h2 => by
    unfold bestI at hb
    have b1 := rkI_bd l (x, y) hl
    have b2 := bestI_bd l hl (y :: r)
    cases k with
    | zero =>
      simp at h1 h2
      subst h1; subst h2
      exact rankN_none.1 ((rkI_no hl).1 (by omega))
    | succ k => exact bestI_apart hl (y :: r) k a b (by omega) h1 h2
/-- What each part is. -/
def Part (l : List PairB) (p : ByteArray) : Prop := p.size ≠ 0 ∧ (p.size = 1 ∨ ∃ q ∈ l, q.1 ++ q.2 = p)
theorem app_size (a b : ByteArray) : (a ++ b).size = a.size + b.size := by simp
theorem mergeL_part {l : List PairB} {a b : ByteArray} (hm : (a, b) ∈ l) : ∀ P, (∀ p ∈ P, Part l p) → ∀ p ∈ mergeL a b P, Part l p
  | [], h => h
  | [_], h => h
  | x :: y :: r, h => by
    unfold mergeL
    split
    · rename_i e
      intro p hp
      rcases List.mem_cons.1 hp with rfl | hp
      · exact ⟨by rw [app_size]; have := (h x (by simp)).1; omega, .inr ⟨(a, b), hm, by rw [e.1, e.2]⟩⟩
      · exact mergeL_part hm r (fun p hp => h p (by simp [hp])) p hp
    · intro p hp
      rcases List.mem_cons.1 hp with rfl | hp
      · exact h _ (by simp)
      · exact mergeL_part hm (y :: r) (fun p hp => h p (List.mem_cons_of_mem _ hp)) p hp
theorem splitB_part {l : List PairB} (hl : l.length ≤ 100000) (s : ByteArray) : ∀ p ∈ splitB l s, Part l p :=
  split_ind hl (fun P => ∀ p ∈ P, Part l p) (fun P k a b h _ _ hm => mergeL_part hm P h) _ _ (fun p hp => by
    unfold bytesB at hp
    obtain ⟨c, _, rfl⟩ := List.mem_map.1 hp
    exact ⟨by show 1 ≠ 0; omega, .inl rfl⟩)
theorem splitB_apart {l : List PairB} (hl : l.length ≤ 100000) (s : ByteArray) (k : Nat) (a b : ByteArray) (h1 : (splitB l s)[k]? = some a) (h2 : (splitB l s)[k + 1]? = some b) : (a, b) ∉ l :=
  bestI_apart hl _ k a b (splitP_fix hl _ _ (by rw [bytesB_length]; exact Nat.le_refl _)) h1 h2
theorem splitB_cat (l : List PairB) (s : ByteArray) : catB (splitB l s) = s.data.toList := by
  unfold splitB; rw [splitN_cat, catB_bytes]
theorem splitB_nonempty {l : List PairB} (hl : l.length ≤ 100000) (s : ByteArray) : (splitB l s).length ≤ s.size := by
  have : (splitB l s).length ≤ (bytesB s).length := split_ind hl (fun P => P.length ≤ (bytesB s).length) (fun P k a b h _ _ _ => Nat.le_trans (mergeL_le a b P) h) _ _ (Nat.le_refl _)
  rwa [bytesB_length] at this

/-- Q's parts are P's, some of them joined. -/
def Coarse (P Q : List ByteArray) : Prop := Q.length ≤ P.length ∧ ∀ j, j < Q.length → ∃ i, i < P.length ∧ offB Q (j + 1) = offB P (i + 1)
theorem Coarse.refl (P : List ByteArray) : Coarse P P := ⟨Nat.le_refl _, fun j h => ⟨j, h, rfl⟩⟩
theorem Coarse.trans {P Q R : List ByteArray} (h : Coarse P Q) (k : Coarse Q R) : Coarse P R :=
  ⟨Nat.le_trans k.1 h.1, fun j hj => by
    obtain ⟨i, hi, e⟩ := k.2 j hj
    obtain ⟨m, hm, e2⟩ := h.2 i hi
    exact ⟨m, hm, e.trans e2⟩⟩
theorem offB_cons (p : ByteArray) (P : List ByteArray) (k : Nat) : offB (p :: P) (k + 1) = p.size + offB P k := by
  unfold offB
  rw [List.take_succ_cons, catB_cons, List.length_append, size_len]
theorem mergeL_coarse (a b : ByteArray) : ∀ P, Coarse P (mergeL a b P)
  | [] => Coarse.refl _
  | [_] => Coarse.refl _
  | x :: y :: r => by
    unfold mergeL
    split
    · have ih := mergeL_coarse a b r
      refine ⟨by have := ih.1; simp; omega, fun j hj => ?_⟩
      cases j with
      | zero => exact ⟨1, by simp, by rw [offB_cons, offB_cons, offB_cons, offB_zero, offB_zero, app_size]; omega⟩
      | succ j =>
        obtain ⟨i, hi, e⟩ := ih.2 j (by simp at hj; omega)
        exact ⟨i + 2, by simp; omega, by rw [offB_cons, offB_cons, offB_cons, e, app_size]; omega⟩
    · have ih := mergeL_coarse a b (y :: r)
      refine ⟨by have := ih.1; simp at this ⊢; omega, fun j hj => ?_⟩
      cases j with
      | zero => exact ⟨0, by simp, by rw [offB_cons, offB_cons, offB_zero, offB_zero]⟩
      | succ j =>
        obtain ⟨i, hi, e⟩ := ih.2 j (by simp at hj; omega)
        exact ⟨i + 1, by simp at hi ⊢; omega, by rw [offB_cons, offB_cons, e]⟩
theorem rankN_append (l m : List PairB) (p : PairB) : rankN (l ++ m) p = match rankN l p with | some i => some i | none => (rankN m p).map (· + l.length) := by
  induction l with
  | nil => simp [rankN]
  | cons x r ih =>
    have e : ∀ l' : List PairB, rankN (x :: l') p = if x = p then some 0 else (rankN l' p).map (· + 1) := fun _ => rfl
    show rankN (x :: (r ++ m)) p = _
    rw [e, e, ih]
    by_cases h : x = p
    · simp [h]
    · rw [if_neg h, if_neg h]
      cases rankN r p with
      | some i => rfl
      | none =>
        cases rankN m p with
        | none => rfl
        | some i => simp; omega
theorem rkI_append {l m : List PairB} (hl : (l ++ m).length ≤ 100000) (p : PairB) : rkI (l ++ m) p = rkI l p ∧ rankN l p ≠ none ∨ (l.length : Int) ≤ rkI (l ++ m) p ∧ rkI l p = noR := by
  unfold rkI
  rw [rankN_append]
  cases rankN l p with
  | some i => exact .inl ⟨rfl, by simp⟩
  | none =>
    refine .inr ⟨?_, rfl⟩
    rw [List.length_append] at hl
    cases rankN m p with
    | none => show (l.length : Int) ≤ noR; unfold noR; omega
    | some i => show (l.length : Int) ≤ ((i + l.length : Nat) : Int); omega
theorem rkI_some {l : List PairB} {p : PairB} (h : rankN l p ≠ none) : rkI l p < l.length := by
  unfold rkI
  cases hr : rankN l p with
  | none => exact absurd hr h
  | some i => have := (rankN_lt hr).1; show (i : Int) < _; omega
theorem bestI_append {l m : List PairB} (hl : (l ++ m).length ≤ 100000) : ∀ P, bestI (l ++ m) P = bestI l P ∧ bestI l P < l.length ∨ (l.length : Int) ≤ bestI (l ++ m) P ∧ bestI l P = noR
  | [] => .inr ⟨by unfold bestI noR; rw [List.length_append] at hl; omega, rfl⟩
  | [_] => .inr ⟨by unfold bestI noR; rw [List.length_append] at hl; omega, rfl⟩
  | x :: y :: r => by
    have ll : l.length ≤ 100000 := by rw [List.length_append] at hl; omega
    have ih := bestI_append hl (y :: r)
    have hr := rkI_append hl (x, y)
    have b1 := rkI_bd (l ++ m) (x, y) hl
    have b2 := bestI_bd (l ++ m) hl (y :: r)
    have hn : (l.length : Int) ≤ noR := by unfold noR; omega
    have hs : rankN l (x, y) ≠ none → rkI l (x, y) < l.length := rkI_some
    unfold bestI
    rcases ih with ⟨e1, e2⟩ | ⟨e1, e2⟩ <;> rcases hr with ⟨f1, f2⟩ | ⟨f1, f2⟩
    · left; have := hs f2; omega
    · left; omega
    · left; have := hs f2; omega
    · right; omega
theorem pairAt_append {l m : List PairB} {i : Int} (h : 0 ≤ i) (hi : i < l.length) : pairAt (l ++ m) i = pairAt l i := by
  unfold pairAt
  rw [List.getD_eq_getElem?_getD, List.getD_eq_getElem?_getD, List.getElem?_append_left (by omega)]
theorem split_longer {l m : List PairB} (hl : (l ++ m).length ≤ 100000) : ∀ (n : Nat) (P : List ByteArray), P.length ≤ n → splitN P.length (l ++ m) P = splitN (splitN n l P).length (l ++ m) (splitN n l P)
  | 0, P, _ => rfl
  | n + 1, P, hn => by
    have ll : l.length ≤ 100000 := by rw [List.length_append] at hl; omega
    by_cases hb : bestI l P = noR
    · have : splitN (n + 1) l P = P := by unfold splitN; rw [if_pos hb]
      rw [this]
    · have h1 := (mergeL_best ll hb).1
      have h0 := (bestI_bd l ll P).1
      rcases bestI_append hl P with ⟨e1, e2⟩ | ⟨_, e2⟩
      · rw [splitP_step hl (by rw [e1]; exact hb), e1, pairAt_append h0 e2]
        have : splitN (n + 1) l P = splitN n l (mergeL (pairAt l (bestI l P)).1 (pairAt l (bestI l P)).2 P) := by
          conv => lhs; unfold splitN
          rw [if_neg hb]
        rw [this]
        exact split_longer hl n _ (by omega)
      · exact absurd e2 hb
theorem splitB_longer {l m : List PairB} (hl : (l ++ m).length ≤ 100000) (s : ByteArray) : Coarse (splitB l s) (splitB (l ++ m) s) := by
  have h := split_longer hl (bytesB s).length (bytesB s) (Nat.le_refl _)
  have e : splitB (l ++ m) s = splitN (bytesB s).length (l ++ m) (bytesB s) := by unfold splitB; rw [bytesB_length]
  have e2 : splitB l s = splitN (bytesB s).length l (bytesB s) := by unfold splitB; rw [bytesB_length]
  rw [e, h, ← e2]
  exact split_ind hl (fun P => Coarse (splitB l s) P) (fun P k a b h _ _ _ => h.trans (mergeL_coarse a b P)) _ _ (Coarse.refl _)

/-- One pair of single bytes: a round does it. -/
theorem one_done (a b : ByteArray) (ha : a.size = 1) (hb : b.size = 1) : ∀ P, (∀ p ∈ P, p.size = 1) → bestI [(a, b)] (mergeL a b P) = noR ∧ (∀ x y r, P = x :: y :: r → ¬ (x = a ∧ y = b) → ∃ z t, mergeL a b (y :: r) = z :: t ∧ rkI [(a, b)] (x, z) = noR)
  | [], _ => ⟨rfl, fun x y r h => by cases h⟩
  | [_], _ => ⟨rfl, fun x y r h => by cases h⟩
  | x :: y :: r, h => by
    have rk : ∀ u v : ByteArray, ¬ (u = a ∧ v = b) → rkI [(a, b)] (u, v) = noR := fun u v huv => by
      unfold rkI rankN rankN
      rw [if_neg (fun e => huv ⟨(congrArg Prod.fst e).symm, (congrArg Prod.snd e).symm⟩)]
      rfl
    have two : ∀ x y r, (∀ p ∈ x :: y :: r, p.size = 1) → ¬ (x = a ∧ y = b) → ∃ z t, mergeL a b (y :: r) = z :: t ∧ rkI [(a, b)] (x, z) = noR := fun x y r h hn => by
      cases r with
      | nil => exact ⟨y, [], rfl, rk x y hn⟩
      | cons z r =>
        unfold mergeL
        split
        · refine ⟨_, _, rfl, rk _ _ fun e => ?_⟩
          have h1 := congrArg ByteArray.size e.2
          rw [app_size, h y (by simp), h z (by simp), hb] at h1
          omega
        · exact ⟨_, _, rfl, rk x y hn⟩
    refine ⟨?_, fun x' y' r' e hn => by cases e; exact two x y r h hn⟩
    unfold mergeL
    split
    · have ih := (one_done a b ha hb r (fun p hp => h p (by simp [hp]))).1
      cases hm : mergeL a b r with
      | nil => rfl
      | cons z t =>
        rw [hm] at ih
        unfold bestI
        rw [ih, rk _ _ (fun e => ?_)]
        · omega
        · have h1 := congrArg ByteArray.size e.1
          rw [app_size, h x (by simp), h y (by simp), ha] at h1
          omega
    · rename_i hn
      have ih := (one_done a b ha hb (y :: r) (fun p hp => h p (List.mem_cons_of_mem _ hp))).1
      obtain ⟨z, t, e, hr⟩ := two x y r h hn
      rw [e] at ih ⊢
      unfold bestI
      rw [ih, hr]
      omega
theorem splitB_one (a b : UInt8) (s : ByteArray) : splitB [(⟨#[a]⟩, ⟨#[b]⟩)] s = mergeL ⟨#[a]⟩ ⟨#[b]⟩ (bytesB s) := by
  have hone : ∀ p ∈ bytesB s, p.size = 1 := fun p hp => by
    unfold bytesB at hp
    obtain ⟨c, _, rfl⟩ := List.mem_map.1 hp
    rfl
  have hd := (one_done ⟨#[a]⟩ ⟨#[b]⟩ rfl rfl (bytesB s) hone).1
  have e2 : splitB [(⟨#[a]⟩, ⟨#[b]⟩)] s = splitN (bytesB s).length [(⟨#[a]⟩, ⟨#[b]⟩)] (bytesB s) := by unfold splitB; rw [bytesB_length]
  rw [e2]
  by_cases hb : bestI [(⟨#[a]⟩, ⟨#[b]⟩)] (bytesB s) = noR
  · rw [splitP_done hb]
    have : ∀ P : List ByteArray, bestI [((⟨#[a]⟩ : ByteArray), (⟨#[b]⟩ : ByteArray))] P = noR → mergeL ⟨#[a]⟩ ⟨#[b]⟩ P = P := by
      intro P
      induction P with
      | nil => intro _; rfl
      | cons x r ih =>
        intro h
        cases r with
        | nil => rfl
        | cons y r =>
          unfold bestI at h
          have b1 := rkI_bd [((⟨#[a]⟩ : ByteArray), (⟨#[b]⟩ : ByteArray))] (x, y) (by simp)
          have b2 := bestI_bd [((⟨#[a]⟩ : ByteArray), (⟨#[b]⟩ : ByteArray))] (by simp) (y :: r)
          unfold mergeL
          rw [if_neg, ih (by omega)]
          rintro ⟨rfl, rfl⟩
          have : rkI [((⟨#[a]⟩ : ByteArray), (⟨#[b]⟩ : ByteArray))] (⟨#[a]⟩, ⟨#[b]⟩) = 0 := by unfold rkI rankN; simp
          unfold noR at *
          omega
    exact (this _ hb).symm
  · have h0 := bestI_bd [((⟨#[a]⟩ : ByteArray), (⟨#[b]⟩ : ByteArray))] (by simp) (bytesB s)
    have h1 := (mergeL_best (l := [((⟨#[a]⟩ : ByteArray), (⟨#[b]⟩ : ByteArray))]) (by simp) hb).2
    have h2 : bestI [((⟨#[a]⟩ : ByteArray), (⟨#[b]⟩ : ByteArray))] (bytesB s) = 0 := by simp at h1; omega
    rw [splitP_step (by simp) hb, h2]
    exact splitP_done hd
end Go.Proofs.YtdpfpdpaamjefaaDoor
namespace Go.Proofs.YtdpfpdpaamjefaaDoor
open Go.RowKit

def nameC (b : UInt8) : Bool := decide ((97 ≤ (b.toNat : Int) ∧ (b.toNat : Int) ≤ 122) ∨ (48 ≤ (b.toNat : Int) ∧ (b.toNat : Int) ≤ 57) ∨ (b.toNat : Int) = 45)
/-- A rule's name. -/
def goodN (s : ByteArray) : Bool := decide (0 < s.size) && decide (s.size ≤ 32) && (s.data.toList.drop 0).all nameC
def patC (b : UInt8) : Bool := decide (32 ≤ (b.toNat : Int) ∧ (b.toNat : Int) ≤ 126)
/-- A rule's pattern. -/
def goodQ (s : ByteArray) : Bool := decide (0 < s.size) && decide (s.size ≤ 256) && (s.data.toList.drop 0).all patC
/-- The name of the last rule. -/
def lastN (out : List PairB) : ByteArray := match out.getLast? with | none => ⟨#[]⟩ | some p => p.1
def leB (a b : ByteArray) : Bool := Op.bytesLess a.toList b.toList || a.toList == b.toList
/-- What a line is read as, behind the rules out. -/
def rdR (out : List PairB) (s : ByteArray) : PairB ⊕ Int :=
  if goodN (pairOf s).1 && goodQ (pairOf s).2 then if leB (pairOf s).1 (lastN out) then .inr 12 else .inl (pairOf s) else .inr 2
def parseR (s : ByteArray) : List PairB × Int × Int := parseL rdR s
theorem lastN_snoc (out : List PairB) (p : PairB) : lastN (out ++ [p]) = p.1 := by unfold lastN; rw [List.getLast?_concat]
theorem less_irrefl : ∀ l : List UInt8, Op.bytesLess l l = false
  | [] => rfl
  | a :: x => by
    unfold Op.bytesLess
    have : ¬ a < a := by have := UInt8.lt_irrefl a; exact this
    simp [this, less_irrefl x]
theorem le_flip : ∀ a b : List UInt8, (Op.bytesLess a b || a == b) = !Op.bytesLess b a
  | [], [] => rfl
  | [], _ :: _ => rfl
  | _ :: _, [] => rfl
  | a :: x, b :: y => by
    have ih := le_flip x y
    unfold Op.bytesLess
    by_cases h : a = b
    · subst h
      have h1 : ¬ a < a := UInt8.lt_irrefl a
      have e : ((a :: x) == (a :: y)) = (x == y) := by simp
      rw [e]
      simp only [decide_eq_false h1, Bool.false_or, beq_self_eq_true, Bool.true_and]
      exact ih
    · have e : ((a :: x) == (b :: y)) = false := by
        rw [beq_eq_false_iff_ne]; intro hh; injection hh with h1 _; exact h h1
      have h1 : (a == b) = false := by simpa using h
      have h2 : (b == a) = false := by simpa using (fun hh : b = a => h hh.symm)
      rw [e, h1, h2]
      simp only [Bool.false_and, Bool.or_false]
      by_cases hl : a < b
      · have : ¬ b < a := UInt8.lt_asymm hl
        simp [hl, this]
      · have : b < a := by
          have hne : a.toNat ≠ b.toNat := fun hh => h (UInt8.toNat_inj.1 hh)
          have hl' : ¬ a.toNat < b.toNat := fun hh => hl (UInt8.lt_iff_toNat_lt.2 hh)
          exact UInt8.lt_iff_toNat_lt.2 (by omega)
        simp [hl, this]
theorem less_trans : ∀ a b c : List UInt8, Op.bytesLess a b = true → Op.bytesLess b c = true → Op.bytesLess a c = true
  | [], [], _, h, _ => by cases h
  | _ :: _, [], _, h, _ => by cases h
  | [], _ :: _, [], _, h2 => by unfold Op.bytesLess at h2; cases h2
  | [], _ :: _, _ :: _, _, _ => rfl
  | _ :: _, _ :: _, [], _, h2 => by unfold Op.bytesLess at h2; cases h2
  | a :: x, b :: y, c :: z, h1, h2 => by
    unfold Op.bytesLess at h1 h2 ⊢
    simp only [Bool.or_eq_true, Bool.and_eq_true, decide_eq_true_eq, beq_iff_eq] at h1 h2 ⊢
    rcases h1 with h1 | ⟨rfl, h1⟩
    · rcases h2 with h2 | ⟨rfl, h2⟩
      · exact .inl (UInt8.lt_trans h1 h2)
      · exact .inl h1
    · rcases h2 with h2 | ⟨rfl, h2⟩
      · exact .inl h2
      · exact .inr ⟨rfl, less_trans x y z h1 h2⟩
theorem leB_flip (a b : ByteArray) : leB a b = !Op.bytesLess b.toList a.toList := le_flip _ _
theorem toList_data (s : ByteArray) : s.toList = s.data.toList := ByteArray.toList_eq s

theorem tw_split : ∀ l : List UInt8, (l.takeWhile (· != 32)).length < l.length → l = l.takeWhile (· != 32) ++ 32 :: l.drop ((l.takeWhile (· != 32)).length + 1)
  | [], h => by simp at h
  | b :: r, h => by
    by_cases hb : b = 32
    · subst hb; simp
    · have h2 : (b != 32) = true := by simpa using hb
      rw [List.takeWhile_cons, if_pos h2] at h ⊢
      have ih := tw_split r (by simpa using h)
      simp only [List.length_cons, List.cons_append, List.drop_succ_cons]
      rw [← ih]
theorem tw_at : ∀ (a b : List UInt8), (∀ c ∈ a, c ≠ 32) → (a ++ 32 :: b).takeWhile (· != 32) = a
  | [], _, _ => by simp
  | c :: r, b, h => by
    have h2 : (c != 32) = true := by simpa using h c (by simp)
    rw [List.cons_append, List.takeWhile_cons, if_pos h2, tw_at r b (fun c hc => h c (by simp [hc]))]
theorem tw_at10 : ∀ (a b : List UInt8), (∀ c ∈ a, c ≠ 10) → (a ++ 10 :: b).takeWhile (· != 10) = a
  | [], _, _ => by simp
  | c :: r, b, h => by
    have h2 : (c != 10) = true := by simpa using h c (by simp)
    rw [List.cons_append, List.takeWhile_cons, if_pos h2, tw_at10 r b (fun c hc => h c (by simp [hc]))]
theorem ext_list (s : ByteArray) (a b : Nat) : (s.extract a b).data.toList = (s.data.toList.drop a).take (b - a) := by
  rw [ByteArray.data_extract, Array.toList_extract, List.extract_eq_take_drop]
theorem ba_ext {a b : ByteArray} (h : a.data.toList = b.data.toList) : a = b := ByteArray.ext (Array.ext' h)
theorem tw_take (l : List UInt8) (f : UInt8 → Bool) : l.take (l.takeWhile f).length = l.takeWhile f := (List.prefix_iff_eq_take.1 (List.takeWhile_prefix f)).symm
theorem pairOf_1 (s : ByteArray) : (pairOf s).1.data.toList = s.data.toList.takeWhile (· != 32) := by
  show (s.extract 0 (spAt s)).data.toList = _
  rw [ext_list]
  exact tw_take _ _
theorem pairOf_2 (s : ByteArray) : (pairOf s).2.data.toList = s.data.toList.drop (spAt s + 1) := by
  show (s.extract (spAt s + 1) s.size).data.toList = _
  rw [ext_drop]
/-- A line that is a pair's, taken apart. -/
theorem pair_line (s : ByteArray) (h : spAt s < s.size) : (pairOf s).1.data.toList ++ 32 :: (pairOf s).2.data.toList = s.data.toList := by
  rw [pairOf_1, pairOf_2]
  exact (tw_split _ (by rw [size_len]; exact h)).symm
def lineB (p : PairB) : ByteArray := ⟨(p.1.data.toList ++ 32 :: p.2.data.toList).toArray⟩
theorem pair_of_line (p : PairB) (h : ∀ c ∈ p.1.data.toList, c ≠ 32) : pairOf (lineB p) = p ∧ spAt (lineB p) < (lineB p).size := by
  have e : (lineB p).data.toList.takeWhile (· != 32) = p.1.data.toList := tw_at _ _ h
  have hs : spAt (lineB p) = p.1.data.toList.length := by unfold spAt; rw [e]
  have hl : (lineB p).size = p.1.data.toList.length + (p.2.data.toList.length + 1) := by
    rw [← size_len]; show (p.1.data.toList ++ 32 :: p.2.data.toList).length = _; simp
  refine ⟨Prod.ext (ba_ext ?_) (ba_ext ?_), by omega⟩
  · rw [pairOf_1, e]
  · rw [pairOf_2, hs]
    show (p.1.data.toList ++ 32 :: p.2.data.toList).drop (p.1.data.toList.length + 1) = _
    rw [List.drop_append, List.drop_of_length_le (by omega)]
    simp
theorem showM_cons (p : PairB) (l : List PairB) : showM (p :: l) = (lineB p).data.toList ++ 10 :: showM l := by
  unfold showM lineB; simp
theorem showM_append (a b : List PairB) : showM (a ++ b) = showM a ++ showM b := by unfold showM; rw [List.flatMap_append]
theorem showM_one (p : PairB) : showM [p] = (lineB p).data.toList ++ [10] := by unfold showM lineB; simp
/-- The newline that ends a line. -/
theorem nl_split (s : ByteArray) (k : Nat) (h : nlAt s k < s.size) (hk : k ≤ s.size) : s.data.toList.drop k = (s.extract k (nlAt s k)).data.toList ++ 10 :: s.data.toList.drop (nlAt s k + 1) := by
  have tw : ∀ l : List UInt8, (l.takeWhile (· != 10)).length < l.length → l = l.takeWhile (· != 10) ++ 10 :: l.drop ((l.takeWhile (· != 10)).length + 1) := by
    intro l
    induction l with
    | nil => intro h; simp at h
    | cons b r ih =>
      intro h
      by_cases hb : b = 10
      · subst hb; simp
      · have h2 : (b != 10) = true := by simpa using hb
        rw [List.takeWhile_cons, if_pos h2] at h ⊢
        have ih := ih (by simpa using h)
        simp only [List.length_cons, List.cons_append, List.drop_succ_cons]
        rw [← ih]
  have hlen : ((s.data.toList.drop k).takeWhile (· != 10)).length = nlAt s k - k := by unfold nlAt; omega
  have := tw (s.data.toList.drop k) (by rw [hlen, List.length_drop, size_len]; have := nlAt_ge s k; omega)
  rw [hlen, List.drop_drop, show k + (nlAt s k - k + 1) = nlAt s k + 1 by have := nlAt_ge s k; omega] at this
  rw [ext_list]
  have e : ((s.data.toList.drop k).take (nlAt s k - k)) = (s.data.toList.drop k).takeWhile (· != 10) := by rw [← hlen]; exact tw_take _ _
  rw [e]; exact this
/-- What is read without an error is the text of what was read. -/
theorem parse_show {rd : List PairB → ByteArray → PairB ⊕ Int} (h1 : ∀ out s p, rd out s = .inl p → p = pairOf s ∧ spAt s < s.size) (h2 : ∀ out s e, rd out s = .inr e → e ≠ 0) (S : ByteArray) :
    ∀ (d k : Nat) (out res : List PairB) (n : Int), S.size - k = d → k ≤ S.size → restF rd S k out = (res, n, 0) → showM res = showM out ++ S.data.toList.drop k := by
  intro d
  induction d using Nat.strongRecOn with
  | ind d ih =>
    intro k out res n hd hk h
    by_cases hlt : k < S.size
    · rw [restF_step rd out hlt] at h
      by_cases c1 : 4096 ≤ out.length
      · rw [if_pos c1] at h
        injection h with _ h; injection h with _ h; cases h
      rw [if_neg c1] at h
      by_cases hn : nlAt S k = S.size
      · rw [if_pos hn] at h
        injection h with _ h; injection h with _ h; cases h
      rw [if_neg hn] at h
      have hge := nlAt_ge S k
      have hle := nlAt_le (s := S) (k := k) hk
      cases hr : rd out (S.extract k (nlAt S k)) with
      | inr e =>
        rw [hr] at h
        injection h with _ h; injection h with _ h
        exact absurd h (h2 _ _ _ hr)
      | inl x =>
        rw [hr] at h
        obtain ⟨rfl, hsp⟩ := h1 _ _ _ hr
        have e := ih (S.size - (nlAt S k + 1)) (by omega) _ _ _ _ rfl (by omega) h
        have hp : (lineB (pairOf (S.extract k (nlAt S k)))).data.toList = (S.extract k (nlAt S k)).data.toList := pair_line _ hsp
        rw [e, showM_append, showM_one, nl_split S k (by omega) hk, hp, List.append_assoc, List.append_assoc]
        rfl
    · rw [restF_end rd out (by omega)] at h
      injection h with h _
      subst h
      rw [List.drop_of_length_le (by rw [size_len]; omega), List.append_nil]
theorem parse_len {rd : List PairB → ByteArray → PairB ⊕ Int} (S : ByteArray) :
    ∀ (d k : Nat) (out res : List PairB) (n e : Int), S.size - k = d → out.length ≤ 4096 → restF rd S k out = (res, n, e) → res.length ≤ 4096 ∧ res.length ≤ out.length + d := by
  intro d
  induction d using Nat.strongRecOn with
  | ind d ih =>
    intro k out res n e hd hk h
    by_cases hlt : k < S.size
    · rw [restF_step rd out hlt] at h
      by_cases c1 : 4096 ≤ out.length
      · rw [if_pos c1] at h
        injection h with h _; subst h; simp
      rw [if_neg c1] at h
      by_cases hn : nlAt S k = S.size
      · rw [if_pos hn] at h
        injection h with h _; subst h; simp
      rw [if_neg hn] at h
      have hge := nlAt_ge S k
      cases hr : rd out (S.extract k (nlAt S k)) with
      | inr e => rw [hr] at h; injection h with h _; subst h; simp
      | inl x =>
        rw [hr] at h
        have := ih (S.size - (nlAt S k + 1)) (by omega) _ _ _ _ _ rfl (by simp; omega) h
        simp at this
        omega
    · rw [restF_end rd out (by omega)] at h
      injection h with h _
      subst h
      omega
theorem cut_parts {S : ByteArray} {l : List PairB} (hS : S.data.toList = showM l) {i : Nat} {p : PairB} (hi : l[i]? = some p) (hn : ∀ c ∈ (lineB p).data.toList, c ≠ 10) :
    (showM (l.take i)).length + (lineB p).data.toList.length + 1 ≤ S.size ∧ nlAt S (showM (l.take i)).length = (showM (l.take i)).length + (lineB p).data.toList.length ∧
    S.extract (showM (l.take i)).length (nlAt S (showM (l.take i)).length) = lineB p := by
  have hl := (List.getElem?_eq_some_iff.1 hi).1
  have hpe := (List.getElem?_eq_some_iff.1 hi).2
  have hsplit : showM l = showM (l.take i) ++ ((lineB p).data.toList ++ 10 :: showM (l.drop (i + 1))) := by
    rw [← showM_cons, ← showM_append, ← hpe, ← List.drop_eq_getElem_cons hl, List.take_append_drop]
  have hdrop : S.data.toList.drop (showM (l.take i)).length = (lineB p).data.toList ++ 10 :: showM (l.drop (i + 1)) := by
    rw [hS, hsplit, List.drop_append, List.drop_of_length_le (Nat.le_refl _)]
    simp
  have hlen : S.size = (showM (l.take i)).length + ((lineB p).data.toList.length + (1 + (showM (l.drop (i + 1))).length)) := by
    rw [← size_len, hS, hsplit, List.length_append, List.length_append, List.length_cons]; omega
  have hnl : nlAt S (showM (l.take i)).length = (showM (l.take i)).length + (lineB p).data.toList.length := by
    unfold nlAt
    rw [hdrop, tw_at10 _ _ hn]
  refine ⟨by omega, hnl, ?_⟩
  apply ba_ext
  rw [ext_list, hdrop, hnl, Nat.add_sub_cancel_left]
  simp
/-- The text of pairs, read up to the i-th. -/
theorem show_run {rd : List PairB → ByteArray → PairB ⊕ Int} {l : List PairB} (S : ByteArray) (hS : S.data.toList = showM l) (hn : ∀ p ∈ l, ∀ c ∈ (lineB p).data.toList, c ≠ 10) :
    ∀ i, i ≤ l.length → i ≤ 4096 → (∀ j p, j < i → l[j]? = some p → rd (l.take j) (lineB p) = .inl p) → restF rd S 0 [] = restF rd S (showM (l.take i)).length (l.take i)
  | 0, _, _, _ => rfl
  | i + 1, hi, hi2, h => by
    rw [show_run S hS hn i (by omega) (by omega) (fun j p hj => h j p (by omega))]
    have hl : i < l.length := by omega
    have hp := List.getElem?_eq_getElem hl
    have hr := h i _ (Nat.lt_succ_self i) hp
    obtain ⟨p, hpe⟩ : ∃ p, l[i] = p := ⟨_, rfl⟩
    rw [hpe] at hp hr
    have hmem : p ∈ l := List.mem_of_getElem? hp
    obtain ⟨q1, q2, q3⟩ := cut_parts hS hp (hn p hmem)
    rw [restF_step rd _ (by omega), if_neg (by rw [List.length_take]; omega), if_neg (by omega), q3, hr]
    have ht : l.take (i + 1) = l.take i ++ [p] := by rw [List.take_add_one, hp]; rfl
    rw [ht, showM_append, showM_one, q2]
    simp [Nat.add_assoc]
theorem show_parse {rd : List PairB → ByteArray → PairB ⊕ Int} {l : List PairB} (S : ByteArray) (hS : S.data.toList = showM l) (hsz : S.size ≤ 262144) (hl : l.length ≤ 4096) (hn : ∀ p ∈ l, ∀ c ∈ (lineB p).data.toList, c ≠ 10) (h : ∀ j p, l[j]? = some p → rd (l.take j) (lineB p) = .inl p) :
    parseL rd S = (l, 0, 0) := by
  rw [parseL_eq rd hsz, show_run S hS hn l.length (Nat.le_refl _) hl (fun j p _ => h j p), List.take_length, ← hS, size_len, restF_end rd l (Nat.le_refl _)]
/-- Read up to the first line that is wrong. -/
theorem show_wrong {rd : List PairB → ByteArray → PairB ⊕ Int} {l : List PairB} (S : ByteArray) (hS : S.data.toList = showM l) (hsz : S.size ≤ 262144) (hn : ∀ p ∈ l, ∀ c ∈ (lineB p).data.toList, c ≠ 10) {i : Nat} {p : PairB} {e : Int} (hi : l[i]? = some p) (hi2 : i < 4096)
    (h : ∀ j p, j < i → l[j]? = some p → rd (l.take j) (lineB p) = .inl p) (hw : rd (l.take i) (lineB p) = .inr e) : parseL rd S = ([], (i : Int) + 1, e) := by
  have hl := (List.getElem?_eq_some_iff.1 hi).1
  rw [parseL_eq rd hsz, show_run S hS hn i (by omega) (by omega) h]
  have hpe := (List.getElem?_eq_some_iff.1 hi).2
  have hmem : p ∈ l := List.mem_of_getElem? hi
  obtain ⟨q1, q2, q3⟩ := cut_parts hS hi (hn p hmem)
  rw [restF_step rd _ (by omega), if_neg (by rw [List.length_take]; omega), if_neg (by omega), q3, hw, List.length_take, Nat.min_eq_left (by omega)]
/-- Rules whose names rise. -/
def Ris (l : List PairB) : Prop := ∀ j p, l[j]? = some p → goodN p.1 = true ∧ goodQ p.2 = true ∧ leB p.1 (lastN (l.take j)) = false
theorem Ris.nil : Ris [] := fun j p h => by simp at h
theorem Ris.snoc {l : List PairB} {p : PairB} (h : Ris l) (h1 : goodN p.1 = true) (h2 : goodQ p.2 = true) (h3 : leB p.1 (lastN l) = false) : Ris (l ++ [p]) := fun j q hq => by
  by_cases hj : j < l.length
  · rw [List.getElem?_append_left hj] at hq
    rw [List.take_append_of_le_length (by omega)]
    exact h j q hq
  · have hj2 : j = l.length := by
      have := (List.getElem?_eq_some_iff.1 hq).1
      simp at this; omega
    subst hj2
    rw [List.getElem?_append_right (Nat.le_refl _)] at hq
    simp at hq
    subst hq
    rw [List.take_append_of_le_length (Nat.le_refl _), List.take_length]
    exact ⟨h1, h2, h3⟩
theorem Ris.take {l : List PairB} (h : Ris l) (n : Nat) : Ris (l.take n) := fun j p hp => by
  rw [List.getElem?_take] at hp
  split at hp
  · rename_i hj
    rw [List.take_take, Nat.min_eq_left (by omega)]
    exact h j p hp
  · cases hp
theorem nameC_no {b : UInt8} (h : nameC b = true) : b ≠ 32 ∧ b ≠ 10 := by
  unfold nameC at h
  simp only [decide_eq_true_eq] at h
  constructor <;> rintro rfl <;> revert h <;> decide
theorem patC_no {b : UInt8} (h : patC b = true) : b ≠ 10 := by
  unfold patC at h
  simp only [decide_eq_true_eq] at h
  rintro rfl; revert h; decide
theorem goodN_all {s : ByteArray} (h : goodN s = true) : ∀ c ∈ s.data.toList, nameC c = true := by
  unfold goodN at h
  simp only [Bool.and_eq_true, List.drop_zero, List.all_eq_true] at h
  exact h.2
theorem goodQ_all {s : ByteArray} (h : goodQ s = true) : ∀ c ∈ s.data.toList, patC c = true := by
  unfold goodQ at h
  simp only [Bool.and_eq_true, List.drop_zero, List.all_eq_true] at h
  exact h.2
theorem goodN_size {s : ByteArray} (h : goodN s = true) : 0 < s.size ∧ s.size ≤ 32 := by
  unfold goodN at h
  simp only [Bool.and_eq_true, decide_eq_true_eq] at h
  exact h.1
theorem goodQ_size {s : ByteArray} (h : goodQ s = true) : 0 < s.size ∧ s.size ≤ 256 := by
  unfold goodQ at h
  simp only [Bool.and_eq_true, decide_eq_true_eq] at h
  exact h.1
theorem line_no {p : PairB} (h1 : goodN p.1 = true) (h2 : goodQ p.2 = true) : ∀ c ∈ (lineB p).data.toList, c ≠ 10 := by
  intro c hc
  have hc : c ∈ p.1.data.toList ++ 32 :: p.2.data.toList := hc
  rcases List.mem_append.1 hc with hc | hc
  · exact (nameC_no (goodN_all h1 c hc)).2
  · rcases List.mem_cons.1 hc with rfl | hc
    · decide
    · exact patC_no (goodQ_all h2 c hc)
theorem rd_line {out : List PairB} {p : PairB} (h1 : goodN p.1 = true) (h2 : goodQ p.2 = true) : rdR out (lineB p) = if leB p.1 (lastN out) then .inr 12 else .inl p := by
  unfold rdR
  rw [(pair_of_line p (fun c hc => (nameC_no (goodN_all h1 c hc)).1)).1, h1, h2]
  rfl
theorem rdR_ok {out : List PairB} {s : ByteArray} {p : PairB} (h : rdR out s = .inl p) : p = pairOf s ∧ spAt s < s.size ∧ goodN p.1 = true ∧ goodQ p.2 = true ∧ leB p.1 (lastN out) = false := by
  unfold rdR at h
  by_cases h1 : goodN (pairOf s).1 && goodQ (pairOf s).2
  · rw [if_pos h1] at h
    by_cases h2 : leB (pairOf s).1 (lastN out)
    · rw [if_pos h2] at h; cases h
    · rw [if_neg h2] at h
      injection h with h
      subst h
      simp only [Bool.and_eq_true] at h1
      refine ⟨rfl, ?_, h1.1, h1.2, by simpa using h2⟩
      have := (goodQ_size h1.2).1
      have e : (pairOf s).2.size = s.size - (spAt s + 1) := by unfold pairOf; simp
      omega
  · rw [if_neg h1] at h; cases h
theorem rdR_err {out : List PairB} {s : ByteArray} {e : Int} (h : rdR out s = .inr e) : e = 2 ∨ e = 12 := by
  unfold rdR at h
  split at h
  · split at h
    · injection h with h; exact .inr h.symm
    · cases h
  · injection h with h; exact .inl h.symm
/-- What holds of all that is read. -/
theorem parse_inv {rd : List PairB → ByteArray → PairB ⊕ Int} {I : List PairB → Prop} (hI : ∀ out s p, I out → rd out s = .inl p → I (out ++ [p])) (h0 : I []) (S : ByteArray) :
    ∀ (d k : Nat) (out res : List PairB) (n e : Int), S.size - k = d → I out → restF rd S k out = (res, n, e) → I res := by
  intro d
  induction d using Nat.strongRecOn with
  | ind d ih =>
    intro k out res n e hd hk h
    by_cases hlt : k < S.size
    · rw [restF_step rd out hlt] at h
      by_cases c1 : 4096 ≤ out.length
      · rw [if_pos c1] at h
        injection h with h _; subst h; exact h0
      rw [if_neg c1] at h
      by_cases hn : nlAt S k = S.size
      · rw [if_pos hn] at h
        injection h with h _; subst h; exact h0
      rw [if_neg hn] at h
      have hge := nlAt_ge S k
      cases hr : rd out (S.extract k (nlAt S k)) with
      | inr e => rw [hr] at h; injection h with h _; subst h; exact h0
      | inl x =>
        rw [hr] at h
        exact ih (S.size - (nlAt S k + 1)) (by omega) _ _ _ _ _ rfl (hI _ _ _ hk hr) h
    · rw [restF_end rd out (by omega)] at h
      injection h with h _
      subst h
      exact hk
theorem parse_num {rd : List PairB → ByteArray → PairB ⊕ Int} (h2 : ∀ out s e, rd out s = .inr e → e ≠ 0) (S : ByteArray) :
    ∀ (d k : Nat) (out res : List PairB) (n : Int), S.size - k = d → restF rd S k out = (res, n, 0) → n = 0 := by
  intro d
  induction d using Nat.strongRecOn with
  | ind d ih =>
    intro k out res n hd h
    by_cases hlt : k < S.size
    · rw [restF_step rd out hlt] at h
      by_cases c1 : 4096 ≤ out.length
      · rw [if_pos c1] at h
        injection h with _ h; injection h with _ h; cases h
      rw [if_neg c1] at h
      by_cases hn : nlAt S k = S.size
      · rw [if_pos hn] at h
        injection h with _ h; injection h with _ h; cases h
      rw [if_neg hn] at h
      have hge := nlAt_ge S k
      cases hr : rd out (S.extract k (nlAt S k)) with
      | inr e =>
        rw [hr] at h
        injection h with _ h; injection h with _ h
        exact absurd h (h2 _ _ _ hr)
      | inl x =>
        rw [hr] at h
        exact ih (S.size - (nlAt S k + 1)) (by omega) _ _ _ _ rfl h
    · rw [restF_end rd out (by omega)] at h
      injection h with _ h; injection h with h _
      exact h.symm
theorem parseR_show {S : ByteArray} {res : List PairB} {n : Int} (h : parseR S = (res, n, 0)) : showM res = S.data.toList ∧ n = 0 ∧ Ris res ∧ res.length ≤ 4096 ∧ S.size ≤ 262144 := by
  have hsz : S.size ≤ 262144 := by
    by_cases hb : 262144 < S.size
    · unfold parseR parseL at h
      rw [if_pos hb] at h
      injection h with _ h; injection h with _ h; cases h
    · omega
  unfold parseR at h
  rw [parseL_eq rdR hsz] at h
  have e2 : ∀ out s e, rdR out s = .inr e → e ≠ 0 := fun _ _ _ h => by rcases rdR_err h with rfl | rfl <;> decide
  refine ⟨?_, parse_num e2 S _ _ _ _ _ rfl h, parse_inv (I := Ris) (fun out s p hI hr => ?_) Ris.nil S _ _ _ _ _ _ rfl Ris.nil h, (parse_len S _ _ _ _ _ _ rfl (by simp) h).1, hsz⟩
  · have := parse_show (fun out s p h => ⟨(rdR_ok h).1, (rdR_ok h).2.1⟩) e2 S _ _ _ _ _ rfl (Nat.zero_le _) h
    rw [this]; rfl
  · obtain ⟨_, _, a, b, c⟩ := rdR_ok hr
    exact hI.snoc a b c
theorem showR_parse {S : ByteArray} {l : List PairB} (hS : S.data.toList = showM l) (hsz : S.size ≤ 262144) (hl : l.length ≤ 4096) (hR : Ris l) : parseR S = (l, 0, 0) :=
  show_parse S hS hsz hl (fun p hp => by
    obtain ⟨j, hj⟩ := List.getElem?_of_mem hp
    obtain ⟨a, b, _⟩ := hR j p hj
    exact line_no a b) (fun j p hj => by
    obtain ⟨a, b, c⟩ := hR j p hj
    rw [rd_line a b, c]; rfl)
theorem swap_eq {l : List PairB} {t : Nat} {a b : PairB} (ha : l[t]? = some a) (hb : l[t + 1]? = some b) : l = l.take t ++ a :: b :: l.drop (t + 2) ∧ (l.set t b).set (t + 1) a = l.take t ++ b :: a :: l.drop (t + 2) := by
  have hl := (List.getElem?_eq_some_iff.1 hb).1
  have e1 := (List.getElem?_eq_some_iff.1 ha).2
  have e2 := (List.getElem?_eq_some_iff.1 hb).2
  have h1 : l = l.take t ++ a :: b :: l.drop (t + 2) := by
    rw [← e2, ← List.drop_eq_getElem_cons hl, ← e1, ← List.drop_eq_getElem_cons (by omega), List.take_append_drop]
  refine ⟨h1, ?_⟩
  have hlen : (l.take t).length = t := by rw [List.length_take]; omega
  generalize l.take t = x at h1 hlen
  generalize l.drop (t + 2) = y at h1
  subst h1
  rw [List.set_append_right _ _ (by omega), hlen, Nat.sub_self, List.set_cons_zero, List.set_append_right _ _ (by omega), hlen, Nat.add_sub_cancel_left, List.set_cons_succ, List.set_cons_zero]
theorem swap_parse {l : List PairB} (hR : Ris l) {t : Nat} {a b : PairB} (ha : l[t]? = some a) (hb : l[t + 1]? = some b) {S : ByteArray} (hS : S.data.toList = showM ((l.set t b).set (t + 1) a)) (hsz : S.size ≤ 262144) (hl : l.length ≤ 4096) :
    parseR S = ([], (t : Int) + 2, 12) := by
  obtain ⟨e1, e2⟩ := swap_eq ha hb
  have hlb := (List.getElem?_eq_some_iff.1 hb).1
  have hlen : (l.take t).length = t := by rw [List.length_take]; omega
  obtain ⟨a1, a2, a3⟩ := hR t a ha
  obtain ⟨b1, b2, b3⟩ := hR (t + 1) b hb
  have hT : l.take (t + 1) = l.take t ++ [a] := by rw [List.take_add_one, ha]; rfl
  rw [hT, lastN_snoc] at b3
  have hab : Op.bytesLess a.1.toList b.1.toList = true := by rw [leB_flip] at b3; simpa using b3
  have hlb2 : leB b.1 (lastN (l.take t)) = false := by
    rw [leB_flip] at a3 ⊢
    have h1 : Op.bytesLess (lastN (l.take t)).toList a.1.toList = true := by simpa using a3
    rw [less_trans _ _ _ h1 hab]; rfl
  have hw : leB a.1 b.1 = true := by unfold leB; rw [hab]; rfl
  rw [e2] at hS
  have hmem : ∀ p ∈ l.take t ++ b :: a :: l.drop (t + 2), ∀ c ∈ (lineB p).data.toList, c ≠ 10 := fun p hp => by
    have : p ∈ l := by
      rw [e1]
      simp only [List.mem_append, List.mem_cons] at hp ⊢
      rcases hp with h | h | h | h
      · exact .inl h
      · exact .inr (.inr (.inl h))
      · exact .inr (.inl h)
      · exact .inr (.inr (.inr h))
    obtain ⟨j, hj⟩ := List.getElem?_of_mem this
    obtain ⟨x, y, _⟩ := hR j p hj
    exact line_no x y
  have hat : (l.take t ++ b :: a :: l.drop (t + 2))[t + 1]? = some a := by
    rw [List.getElem?_append_right (by omega), hlen, Nat.add_sub_cancel_left]; rfl
  have htk : (l.take t ++ b :: a :: l.drop (t + 2)).take (t + 1) = l.take t ++ [b] := by
    rw [List.take_append, hlen, Nat.add_sub_cancel_left, List.take_of_length_le (by omega)]; rfl
  have := show_wrong (rd := rdR) (e := 12) S hS hsz hmem hat (by omega) (fun j p hj hp => by
    by_cases hjt : j < t
    · rw [List.getElem?_append_left (by omega)] at hp
      rw [List.take_append_of_le_length (by omega)]
      obtain ⟨x, y, z⟩ := (hR.take t) j p hp
      rw [rd_line x y, z]; rfl
    · have : j = t := by omega
      subst this
      rw [List.getElem?_append_right (by omega), hlen, Nat.sub_self] at hp
      have hp := Option.some.inj hp
      subst hp
      rw [List.take_append_of_le_length (by omega), List.take_take, Nat.min_self, rd_line b1 b2, hlb2]; rfl) (by
    rw [htk, rd_line a1 a2, lastN_snoc, hw]; rfl)
  unfold parseR
  rw [this]
  simp; omega
theorem showM_swap {l : List PairB} {t : Nat} {a b : PairB} (ha : l[t]? = some a) (hb : l[t + 1]? = some b) : (showM ((l.set t b).set (t + 1) a)).length = (showM l).length := by
  obtain ⟨e1, e2⟩ := swap_eq ha hb
  rw [e2]
  conv => rhs; rw [e1]
  simp only [showM_append, showM_cons, List.length_append, List.length_cons]
  omega
theorem showM_take (l : List PairB) (n : Nat) : (showM (l.take n)).length ≤ (showM l).length := by
  conv => rhs; rw [← List.take_append_drop n l]
  rw [showM_append, List.length_append]; omega
end Go.Proofs.YtdpfpdpaamjefaaDoor
namespace Go.Proofs.YtdpfpdpaamjefaaDoor
open Go.RowKit

def horA (l : List UInt8) (a : Nat) : Nat := l.foldl (fun a c => a * 10 + (c.toNat - 48)) a
def isDg (c : UInt8) : Bool := decide (48 ≤ c.toNat ∧ c.toNat ≤ 57)
theorem horA_app (l m : List UInt8) (a : Nat) : horA (l ++ m) a = horA m (horA l a) := by unfold horA; rw [List.foldl_append]
theorem horA_ge : ∀ (l : List UInt8) (a : Nat), a ≤ horA l a
  | [], a => Nat.le_refl _
  | c :: r, a => by
    have := horA_ge r (a * 10 + (c.toNat - 48))
    show a ≤ horA r (a * 10 + (c.toNat - 48))
    omega
theorem dg_nat (d : Nat) (h : d < 10) : (UInt8.ofNat (48 + d)).toNat = 48 + d := by rw [UInt8.toNat_ofNat']; omega
theorem dec_unfold (u : Nat) : Lib.decDigits u = if u < 10 then [UInt8.ofNat (48 + u)] else Lib.decDigits (u / 10) ++ [UInt8.ofNat (48 + u % 10)] := by
  rw [Lib.decDigits]
  split <;> rfl
theorem dec_all : ∀ (d u : Nat), u ≤ d → (Lib.decDigits u).all isDg = true
  | d, u, h => by
    rw [dec_unfold]
    split
    · rename_i hu
      have := dg_nat u hu
      simp [isDg, this]; omega
    · rename_i hu
      cases d with
      | zero => omega
      | succ d =>
        have h1 := dec_all d (u / 10) (by omega)
        have := dg_nat (u % 10) (by omega)
        rw [List.all_append, h1]
        simp [isDg, this]; omega
theorem dec_hor : ∀ (d u : Nat), u ≤ d → horA (Lib.decDigits u) 0 = u
  | d, u, h => by
    rw [dec_unfold]
    split
    · rename_i hu
      have := dg_nat u hu
      show 0 * 10 + ((UInt8.ofNat (48 + u)).toNat - 48) = u
      rw [this]; omega
    · rename_i hu
      cases d with
      | zero => omega
      | succ d =>
        rw [horA_app, dec_hor d (u / 10) (by omega)]
        have := dg_nat (u % 10) (by omega)
        show u / 10 * 10 + ((UInt8.ofNat (48 + u % 10)).toNat - 48) = u
        rw [this]; omega
theorem dec_ne (u : Nat) : Lib.decDigits u ≠ [] := by
  rw [dec_unfold]; split <;> simp
theorem parse_hor : ∀ (l : List UInt8) (a : Nat), l.all isDg = true → horA l a < 1000000000000 → Lib.parseUint10 a l = .ok (horA l a)
  | [], a, _, _ => rfl
  | c :: r, a, h, hb => by
    rw [List.all_cons, Bool.and_eq_true] at h
    have hc : 48 ≤ c.toNat ∧ c.toNat ≤ 57 := of_decide_eq_true h.1
    have e : horA (c :: r) a = horA r (a * 10 + (c.toNat - 48)) := rfl
    have hg := horA_ge r (a * 10 + (c.toNat - 48))
    rw [e] at hb ⊢
    unfold Lib.parseUint10
    rw [if_pos hc, if_neg (by omega), if_neg (by omega)]
    exact parse_hor r _ h.2 hb
theorem atoi_dec {n : Nat} (h : n ≤ 1073741824) : Lib.atoiAll (Lib.decDigits n) = .ok (n : Int) := by
  have h1 := dec_all n n (Nat.le_refl _)
  have h2 := dec_hor n n (Nat.le_refl _)
  have h3 := parse_hor (Lib.decDigits n) 0 h1 (by rw [h2]; omega)
  rw [h2] at h3
  cases hd : Lib.decDigits n with
  | nil => exact absurd hd (dec_ne n)
  | cons c r =>
    rw [hd] at h1 h3
    rw [List.all_cons, Bool.and_eq_true] at h1
    have hc : 48 ≤ c.toNat ∧ c.toNat ≤ 57 := of_decide_eq_true h1.1
    unfold Lib.atoiAll
    simp only
    rw [if_neg (by omega)]
    unfold Lib.parseMag
    rw [if_neg (by simp), h3]
    simp only
    rw [if_neg (by omega), if_neg (by omega), if_neg (by omega)]
/-- The number that a text is, written as it should be. -/
def numR (s : ByteArray) : Option Nat := match Lib.atoiAll s.data.toList with
  | .ok v => if 0 ≤ v ∧ v ≤ 1073741824 ∧ Lib.itoa v = s.data.toList then some v.toNat else none
  | _ => none
theorem numR_iff (s : ByteArray) (n : Nat) : numR s = some n ↔ n ≤ 1073741824 ∧ s.data.toList = Lib.decDigits n := by
  unfold numR
  constructor
  · intro h
    split at h
    · rename_i v hv
      split at h
      · rename_i hc
        injection h with h
        subst h
        obtain ⟨h1, h2, h3⟩ := hc
        refine ⟨by omega, ?_⟩
        rw [← h3]; unfold Lib.itoa; rw [if_neg (by omega)]
      · cases h
    · cases h
  · rintro ⟨h1, h2⟩
    rw [h2, atoi_dec h1]
    simp only
    rw [if_pos]
    · simp
    · refine ⟨by omega, by omega, ?_⟩
      unfold Lib.itoa; rw [if_neg (by omega)]; simp
/-- What a line is as an entry. -/
def entR (s : ByteArray) : Option (Nat × ByteArray) := match numR (pairOf s).1 with
  | some n => if goodB (pairOf s).2 then some (n, (pairOf s).2) else none
  | none => none
end Go.Proofs.YtdpfpdpaamjefaaDoor
