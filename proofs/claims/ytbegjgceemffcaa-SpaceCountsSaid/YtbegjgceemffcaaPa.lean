/- Merges, plain facts: ranks of pairs, the least rank, one round of merging, splitting; what the parts' ends are. -/
import Derived.Lib.Bytealg
import Derived.Test.YtbegjgceemffcaaS
namespace Go.Proofs.Ytbegjgceemffcaa
open Go.RowKit

abbrev PairB := ByteArray × ByteArray
def noR : Int := 9223372036854775807
/-- The index of the first pair that is p. -/
def rankN : List PairB → PairB → Option Nat
  | [], _ => none
  | q :: r, p => if q = p then some 0 else (rankN r p).map (· + 1)
def rkI (l : List PairB) (p : PairB) : Int := match rankN l p with | some i => (i : Int) | none => noR
def bestI (l : List PairB) : List ByteArray → Int
  | a :: b :: r => min (rkI l (a, b)) (bestI l (b :: r))
  | _ => noR
def mergeL (a b : ByteArray) : List ByteArray → List ByteArray
  | x :: y :: r => if x = a ∧ y = b then (x ++ y) :: mergeL a b r else x :: mergeL a b (y :: r)
  | l => l
def pairAt (l : List PairB) (i : Int) : PairB := l.getD i.toNat (⟨#[]⟩, ⟨#[]⟩)
def splitN : Nat → List PairB → List ByteArray → List ByteArray
  | 0, _, P => P
  | k + 1, l, P => if bestI l P = noR then P else splitN k l (mergeL (pairAt l (bestI l P)).1 (pairAt l (bestI l P)).2 P)
def bytesB (s : ByteArray) : List ByteArray := s.data.toList.map fun b => ⟨#[b]⟩
def splitB (l : List PairB) (s : ByteArray) : List ByteArray := splitN s.size l (bytesB s)

theorem rankN_lt {p : PairB} {i : Nat} : ∀ {l : List PairB}, rankN l p = some i → i < l.length ∧ l[i]? = some p := by
  intro l
  induction l generalizing i with
  | nil => intro h; cases h
  | cons q r ih =>
    intro h
    unfold rankN at h
    split at h
    · injection h with h; subst h; rename_i e; subst e; simp
    · cases hr : rankN r p with
      | none => rw [hr] at h; cases h
      | some j =>
        rw [hr] at h; injection h with h; subst h
        have := ih hr
        exact ⟨Nat.succ_lt_succ this.1, by rw [List.getElem?_cons_succ]; exact this.2⟩
theorem rankN_none {p : PairB} : ∀ {l : List PairB}, rankN l p = none ↔ p ∉ l := by
  intro l
  induction l with
  | nil => simp [rankN]
  | cons q r ih =>
    unfold rankN
    by_cases h : q = p
    · simp [h]
    · rw [if_neg h]; simp [ih, Ne.symm h]
theorem rankN_snoc (l : List PairB) (q p : PairB) : rankN (l ++ [q]) p = match rankN l p with | some i => some i | none => if q = p then some l.length else none := by
  induction l with
  | nil => simp [rankN]
  | cons x r ih =>
    show rankN (x :: (r ++ [q])) p = _
    unfold rankN
    by_cases h : x = p
    · simp [h]
    · rw [if_neg h, if_neg h, ih]
      cases rankN r p with
      | some i => rfl
      | none => by_cases e : q = p <;> simp [e]
theorem rkI_bd (l : List PairB) (p : PairB) (hl : l.length ≤ 100000) : 0 ≤ rkI l p ∧ rkI l p ≤ noR := by
  unfold rkI noR
  cases h : rankN l p with
  | none => simp
  | some i => have := (rankN_lt h).1; simp; omega
theorem rkI_no {l : List PairB} {p : PairB} (hl : l.length ≤ 100000) : rkI l p = noR ↔ rankN l p = none := by
  unfold rkI noR
  cases h : rankN l p with
  | none => simp
  | some i => have := (rankN_lt h).1; simp; omega
theorem bestI_bd (l : List PairB) (hl : l.length ≤ 100000) : ∀ P, 0 ≤ bestI l P ∧ bestI l P ≤ noR
  | [] => by unfold bestI noR; simp
  | [_] => by unfold bestI noR; simp
  | a :: b :: r => by
    have h1 := rkI_bd l (a, b) hl
    have h2 := bestI_bd l hl (b :: r)
    unfold bestI
    omega
/-- The least rank is one of two parts side by side. -/
theorem bestI_at (l : List PairB) (hl : l.length ≤ 100000) : ∀ P, bestI l P ≠ noR → ∃ (k : Nat) (a b : ByteArray), P[k]? = some a ∧ P[k + 1]? = some b ∧ rkI l (a, b) = bestI l P
  | [], h => absurd rfl h
  | [_], h => absurd rfl h
  | a :: b :: r, h => by
    unfold bestI at h ⊢
    have h1 := rkI_bd l (a, b) hl
    have h2 := bestI_bd l hl (b :: r)
    by_cases hc : rkI l (a, b) ≤ bestI l (b :: r)
    · exact ⟨0, a, b, rfl, rfl, by omega⟩
    · obtain ⟨k, x, y, hx, hy, hr⟩ := bestI_at l hl (b :: r) (by omega)
      exact ⟨k + 1, x, y, hx, hy, by omega⟩
theorem pairAt_of {l : List PairB} {p : PairB} {i : Int} (h : rkI l p = i) (hi : i ≠ noR) : pairAt l i = p ∧ 0 ≤ i ∧ i.toNat < l.length ∧ l[i.toNat]? = some p := by
  unfold rkI at h
  cases hr : rankN l p with
  | none => rw [hr] at h; exact absurd h.symm hi
  | some j =>
    rw [hr] at h
    have h' : (j : Int) = i := h
    subst h'
    have := rankN_lt hr
    have e : ((j : Int)).toNat = j := by omega
    unfold pairAt
    rw [e, List.getD_eq_getElem?_getD, this.2]
    exact ⟨rfl, by omega, this.1, rfl⟩
theorem mergeL_le (a b : ByteArray) : ∀ P, (mergeL a b P).length ≤ P.length
  | [] => Nat.le_refl _
  | [_] => Nat.le_refl _
  | x :: y :: r => by
    unfold mergeL
    have h1 := mergeL_le a b r
    have h2 := mergeL_le a b (y :: r)
    split <;> simp at h1 h2 ⊢ <;> omega
theorem mergeL_lt (a b : ByteArray) : ∀ (P : List ByteArray) (k : Nat), P[k]? = some a → P[k + 1]? = some b → (mergeL a b P).length < P.length
  | [], k, h, _ => by simp at h
  | [_], 0, _, h => by simp at h
  | [_], _ + 1, h, _ => by simp at h
  | x :: y :: r, k, h1, h2 => by
    unfold mergeL
    have h3 := mergeL_le a b r
    split
    · simp; omega
    · rename_i hn
      cases k with
      | zero =>
        simp at h1 h2
        exact absurd ⟨h1, h2⟩ hn
      | succ k =>
        have := mergeL_lt a b (y :: r) k h1 h2
        simp at this ⊢; omega
theorem mergeL_best {l : List PairB} {P : List ByteArray} (hl : l.length ≤ 100000) (h : bestI l P ≠ noR) : (mergeL (pairAt l (bestI l P)).1 (pairAt l (bestI l P)).2 P).length < P.length ∧ (bestI l P).toNat < l.length := by
  obtain ⟨k, a, b, h1, h2, h3⟩ := bestI_at l hl P h
  obtain ⟨e, _, h4, _⟩ := pairAt_of h3 h
  rw [e]
  exact ⟨mergeL_lt a b P k h1 h2, h4⟩
theorem splitN_more {l : List PairB} (hl : l.length ≤ 100000) : ∀ (k : Nat) (P : List ByteArray), P.length ≤ k → splitN (k + 1) l P = splitN k l P
  | 0, P, h => by
    have : P = [] := List.eq_nil_of_length_eq_zero (by omega)
    subst this
    rfl
  | k + 1, P, h => by
    by_cases hb : bestI l P = noR
    · unfold splitN; rw [if_pos hb, if_pos hb]
    · have := (mergeL_best hl hb).1
      unfold splitN
      rw [if_neg hb, if_neg hb]
      exact splitN_more hl k _ (by omega)
theorem splitN_ge {l : List PairB} (hl : l.length ≤ 100000) {P : List ByteArray} : ∀ {k : Nat}, P.length ≤ k → splitN k l P = splitN P.length l P := by
  intro k hk
  induction k with
  | zero => have : P.length = 0 := by omega
            rw [this]
  | succ k ih =>
    by_cases h : P.length = k + 1
    · rw [h]
    · rw [splitN_more hl k P (by omega), ih (by omega)]
/-- Where no pair is left. -/
theorem splitP_done {l : List PairB} {P : List ByteArray} (h : bestI l P = noR) : splitN P.length l P = P := by
  cases hp : P.length with
  | zero => rfl
  | succ k => unfold splitN; rw [if_pos h]
/-- One round. -/
theorem splitP_step {l : List PairB} {P : List ByteArray} (hl : l.length ≤ 100000) (h : bestI l P ≠ noR) :
    splitN P.length l P = splitN (mergeL (pairAt l (bestI l P)).1 (pairAt l (bestI l P)).2 P).length l (mergeL (pairAt l (bestI l P)).1 (pairAt l (bestI l P)).2 P) := by
  have h1 := (mergeL_best hl h).1
  cases hp : P.length with
  | zero => omega
  | succ k =>
    conv => lhs; unfold splitN
    rw [if_neg h]
    exact splitN_ge hl (by omega)
theorem bytesB_length (s : ByteArray) : (bytesB s).length = s.size := by
  unfold bytesB
  rw [List.length_map, Array.length_toList]; rfl
/-- All parts as one text. -/
def catB (P : List ByteArray) : List UInt8 := P.flatMap fun p => p.data.toList
theorem catB_cons (p : ByteArray) (P : List ByteArray) : catB (p :: P) = p.data.toList ++ catB P := by simp [catB]
theorem catB_append (P Q : List ByteArray) : catB (P ++ Q) = catB P ++ catB Q := by simp [catB]
theorem app_toList (a b : ByteArray) : (a ++ b).data.toList = a.data.toList ++ b.data.toList := by simp
theorem mergeL_cat (a b : ByteArray) : ∀ P, catB (mergeL a b P) = catB P
  | [] => rfl
  | [_] => rfl
  | x :: y :: r => by
    unfold mergeL
    split
    · rw [catB_cons, catB_cons, catB_cons, mergeL_cat a b r, app_toList, List.append_assoc]
    · rw [catB_cons, catB_cons, mergeL_cat a b (y :: r)]
theorem splitN_cat (l : List PairB) : ∀ (k : Nat) (P : List ByteArray), catB (splitN k l P) = catB P
  | 0, _ => rfl
  | k + 1, P => by
    unfold splitN
    split
    · rfl
    · rw [splitN_cat l k, mergeL_cat]
theorem catB_bytes (s : ByteArray) : catB (bytesB s) = s.data.toList := by
  unfold catB bytesB
  rw [List.flatMap_map]
  simp
/-- Where part k begins. -/
def offB (P : List ByteArray) (k : Nat) : Nat := (catB (P.take k)).length
theorem offB_zero (P : List ByteArray) : offB P 0 = 0 := by simp [offB, catB]
theorem offB_succ {P : List ByteArray} {k : Nat} {p : ByteArray} (h : P[k]? = some p) : offB P (k + 1) = offB P k + p.size := by
  have hk := (List.getElem?_eq_some_iff.1 h)
  unfold offB
  rw [List.take_add_one, h, catB_append]
  simp [catB]
theorem offB_all {P : List ByteArray} {k : Nat} (h : P.length ≤ k) : offB P k = (catB P).length := by unfold offB; rw [List.take_of_length_le h]
theorem offB_le (P : List ByteArray) (k : Nat) : offB P k ≤ (catB P).length := by
  unfold offB
  conv => rhs; rw [← List.take_append_drop k P, catB_append]
  simp
/-- Part k is the text between its ends. -/
theorem part_ext {P : List ByteArray} {k : Nat} {p s : ByteArray} (hs : catB P = s.data.toList) (h : P[k]? = some p) : s.extract (offB P k) (offB P (k + 1)) = p := by
  have hk := (List.getElem?_eq_some_iff.1 h).1
  have e1 : catB P = catB (P.take k) ++ (p.data.toList ++ catB (P.drop (k + 1))) := by
    conv => lhs; rw [← List.take_append_drop k P, catB_append, List.drop_eq_getElem_cons hk, catB_cons]
    rw [(List.getElem?_eq_some_iff.1 h).2]
  have e2 : (s.extract (offB P k) (offB P (k + 1))).data.toList = p.data.toList := by
    rw [offB_succ h]
    rw [ByteArray.data_extract, Array.toList_extract, List.extract_eq_take_drop, ← hs, e1]
    unfold offB
    rw [List.drop_left]
    have : (catB (P.take k)).length + p.size - (catB (P.take k)).length = p.data.toList.length := by rw [Nat.add_sub_cancel_left, Array.length_toList]; rfl
    rw [this, List.take_left]
  apply ByteArray.ext
  exact Array.ext' e2
end Go.Proofs.Ytbegjgceemffcaa
