/- Rules, plain facts: names, patterns, their order; a text of lines and what it is read as, there and back. -/
import Derived.Test.YtmdhendfmhhniaaDoorPc
namespace Go.Proofs.YtmdhendfmhhniaaDoor
open Go.RowKit

def nameC (b : UInt8) : Bool := decide ((97 ≤ (b.toNat : Int) ∧ (b.toNat : Int) ≤ 122) ∨ (48 ≤ (b.toNat : Int) ∧ (b.toNat : Int) ≤ 57) ∨ (b.toNat : Int) = 45)
/-- A rule's name. -/
def goodN (s : ByteArray) : Bool := decide (0 < s.size) && decide (s.size ≤ 32) && (s.data.toList.drop 0).all nameC
def patC (b : UInt8) : Bool := decide (32 ≤ (b.toNat : Int) ∧ (b.toNat : Int) ≤ 126)
/-- A rule's pattern. -/
def goodQ (s : ByteArray) : Bool := decide (0 < s.size) && decide (s.size ≤ 256) && (s.data.toList.drop 0).all patC
/-- The name of the last rule. -/
def lastN (out : List PairB) : ByteArray := match out.getLast? with | none => ⟨#[]⟩ | some p => p.1
def leB (a b : ByteArray) : Bool := Op.bytesLess a.toList b.toList || a.toList == b.toList
/-- What a line is read as, behind the rules out. -/
def rdR (out : List PairB) (s : ByteArray) : PairB ⊕ Int :=
  if goodN (pairOf s).1 && goodQ (pairOf s).2 then if leB (pairOf s).1 (lastN out) then .inr 12 else .inl (pairOf s) else .inr 2
def parseR (s : ByteArray) : List PairB × Int × Int := parseL rdR s
theorem lastN_snoc (out : List PairB) (p : PairB) : lastN (out ++ [p]) = p.1 := by unfold lastN; rw [List.getLast?_concat]
theorem less_irrefl : ∀ l : List UInt8, Op.bytesLess l l = false
  | [] => rfl
  | a :: x => by
    unfold Op.bytesLess
    have : ¬ a < a := by have := UInt8.lt_irrefl a; exact this
    simp [this, less_irrefl x]
theorem le_flip : ∀ a b : List UInt8, (Op.bytesLess a b || a == b) = !Op.bytesLess b a
  | [], [] => rfl
  | [], _ :: _ => rfl
  | _ :: _, [] => rfl
  | a :: x, b :: y => by
    have ih := le_flip x y
    unfold Op.bytesLess
    by_cases h : a = b
    · subst h
      have h1 : ¬ a < a := UInt8.lt_irrefl a
      have e : ((a :: x) == (a :: y)) = (x == y) := by simp
      rw [e]
      simp only [decide_eq_false h1, Bool.false_or, beq_self_eq_true, Bool.true_and]
      exact ih
    · have e : ((a :: x) == (b :: y)) = false := by
        rw [beq_eq_false_iff_ne]; intro hh; injection hh with h1 _; exact h h1
      have h1 : (a == b) = false := by simpa using h
      have h2 : (b == a) = false := by simpa using (fun hh : b = a => h hh.symm)
      rw [e, h1, h2]
      simp only [Bool.false_and, Bool.or_false]
      by_cases hl : a < b
      · have : ¬ b < a := UInt8.lt_asymm hl
        simp [hl, this]
      · have : b < a := by
          have hne : a.toNat ≠ b.toNat := fun hh => h (UInt8.toNat_inj.1 hh)
          have hl' : ¬ a.toNat < b.toNat := fun hh => hl (UInt8.lt_iff_toNat_lt.2 hh)
          exact UInt8.lt_iff_toNat_lt.2 (by omega)
        simp [hl, this]
theorem less_trans : ∀ a b c : List UInt8, Op.bytesLess a b = true → Op.bytesLess b c = true → Op.bytesLess a c = true
  | [], [], _, h, _ => by cases h
  | _ :: _, [], _, h, _ => by cases h
  | [], _ :: _, [], _, h2 => by unfold Op.bytesLess at h2; cases h2
  | [], _ :: _, _ :: _, _, _ => rfl
  | _ :: _, _ :: _, [], _, h2 => by unfold Op.bytesLess at h2; cases h2
  | a :: x, b :: y, c :: z, h1, h2 => by
    unfold Op.bytesLess at h1 h2 ⊢
    simp only [Bool.or_eq_true, Bool.and_eq_true, decide_eq_true_eq, beq_iff_eq] at h1 h2 ⊢
    rcases h1 with h1 | ⟨rfl, h1⟩
    · rcases h2 with h2 | ⟨rfl, h2⟩
      · exact .inl (UInt8.lt_trans h1 h2)
      · exact .inl h1
    · rcases h2 with h2 | ⟨rfl, h2⟩
      · exact .inl h2
      · exact .inr ⟨rfl, less_trans x y z h1 h2⟩
theorem leB_flip (a b : ByteArray) : leB a b = !Op.bytesLess b.toList a.toList := le_flip _ _
theorem toList_data (s : ByteArray) : s.toList = s.data.toList := ByteArray.toList_eq s

theorem tw_split : ∀ l : List UInt8, (l.takeWhile (· != 32)).length < l.length → l = l.takeWhile (· != 32) ++ 32 :: l.drop ((l.takeWhile (· != 32)).length + 1)
  | [], h => by simp at h
  | b :: r, h => by
    by_cases hb : b = 32
    · subst hb; simp
    · have h2 : (b != 32) = true := by simpa using hb
      rw [List.takeWhile_cons, if_pos h2] at h ⊢
      have ih := tw_split r (by simpa using h)
      simp only [List.length_cons, List.cons_append, List.drop_succ_cons]
      rw [← ih]
theorem tw_at : ∀ (a b : List UInt8), (∀ c ∈ a, c ≠ 32) → (a ++ 32 :: b).takeWhile (· != 32) = a
  | [], _, _ => by simp
  | c :: r, b, h => by
    have h2 : (c != 32) = true := by simpa using h c (by simp)
    rw [List.cons_append, List.takeWhile_cons, if_pos h2, tw_at r b (fun c hc => h c (by simp [hc]))]
theorem tw_at10 : ∀ (a b : List UInt8), (∀ c ∈ a, c ≠ 10) → (a ++ 10 :: b).takeWhile (· != 10) = a
  | [], _, _ => by simp
  | c :: r, b, h => by
    have h2 : (c != 10) = true := by simpa using h c (by simp)
    rw [List.cons_append, List.takeWhile_cons, if_pos h2, tw_at10 r b (fun c hc => h c (by simp [hc]))]
theorem ext_list (s : ByteArray) (a b : Nat) : (s.extract a b).data.toList = (s.data.toList.drop a).take (b - a) := by
  rw [ByteArray.data_extract, Array.toList_extract, List.extract_eq_take_drop]
theorem ba_ext {a b : ByteArray} (h : a.data.toList = b.data.toList) : a = b := ByteArray.ext (Array.ext' h)
theorem tw_take (l : List UInt8) (f : UInt8 → Bool) : l.take (l.takeWhile f).length = l.takeWhile f := (List.prefix_iff_eq_take.1 (List.takeWhile_prefix f)).symm
theorem pairOf_1 (s : ByteArray) : (pairOf s).1.data.toList = s.data.toList.takeWhile (· != 32) := by
  show (s.extract 0 (spAt s)).data.toList = _
  rw [ext_list]
  exact tw_take _ _
theorem pairOf_2 (s : ByteArray) : (pairOf s).2.data.toList = s.data.toList.drop (spAt s + 1) := by
  show (s.extract (spAt s + 1) s.size).data.toList = _
  rw [ext_drop]
/-- A line that is a pair's, taken apart. -/
theorem pair_line (s : ByteArray) (h : spAt s < s.size) : (pairOf s).1.data.toList ++ 32 :: (pairOf s).2.data.toList = s.data.toList := by
  rw [pairOf_1, pairOf_2]
  exact (tw_split _ (by rw [size_len]; exact h)).symm
def lineB (p : PairB) : ByteArray := ⟨(p.1.data.toList ++ 32 :: p.2.data.toList).toArray⟩
theorem pair_of_line (p : PairB) (h : ∀ c ∈ p.1.data.toList, c ≠ 32) : pairOf (lineB p) = p ∧ spAt (lineB p) < (lineB p).size := by
  have e : (lineB p).data.toList.takeWhile (· != 32) = p.1.data.toList := tw_at _ _ h
  have hs : spAt (lineB p) = p.1.data.toList.length := by unfold spAt; rw [e]
  have hl : (lineB p).size = p.1.data.toList.length + (p.2.data.toList.length + 1) := by
    rw [← size_len]; show (p.1.data.toList ++ 32 :: p.2.data.toList).length = _; simp
  refine ⟨Prod.ext (ba_ext ?_) (ba_ext ?_), by omega⟩
  · rw [pairOf_1, e]
  · rw [pairOf_2, hs]
    show (p.1.data.toList ++ 32 :: p.2.data.toList).drop (p.1.data.toList.length + 1) = _
    rw [List.drop_append, List.drop_of_length_le (by omega)]
    simp
theorem showM_cons (p : PairB) (l : List PairB) : showM (p :: l) = (lineB p).data.toList ++ 10 :: showM l := by
  unfold showM lineB; simp
theorem showM_append (a b : List PairB) : showM (a ++ b) = showM a ++ showM b := by unfold showM; rw [List.flatMap_append]
theorem showM_one (p : PairB) : showM [p] = (lineB p).data.toList ++ [10] := by unfold showM lineB; simp
/-- The newline that ends a line. -/
theorem nl_split (s : ByteArray) (k : Nat) (h : nlAt s k < s.size) (hk : k ≤ s.size) : s.data.toList.drop k = (s.extract k (nlAt s k)).data.toList ++ 10 :: s.data.toList.drop (nlAt s k + 1) := by
  have tw : ∀ l : List UInt8, (l.takeWhile (· != 10)).length < l.length → l = l.takeWhile (· != 10) ++ 10 :: l.drop ((l.takeWhile (· != 10)).length + 1) := by
    intro l
    induction l with
    | nil => intro h; simp at h
    | cons b r ih =>
      intro h
      by_cases hb : b = 10
      · subst hb; simp
      · have h2 : (b != 10) = true := by simpa using hb
        rw [List.takeWhile_cons, if_pos h2] at h ⊢
        have ih := ih (by simpa using h)
        simp only [List.length_cons, List.cons_append, List.drop_succ_cons]
        rw [← ih]
  have hlen : ((s.data.toList.drop k).takeWhile (· != 10)).length = nlAt s k - k := by unfold nlAt; omega
  have := tw (s.data.toList.drop k) (by rw [hlen, List.length_drop, size_len]; have := nlAt_ge s k; omega)
  rw [hlen, List.drop_drop, show k + (nlAt s k - k + 1) = nlAt s k + 1 by have := nlAt_ge s k; omega] at this
  rw [ext_list]
  have e : ((s.data.toList.drop k).take (nlAt s k - k)) = (s.data.toList.drop k).takeWhile (· != 10) := by rw [← hlen]; exact tw_take _ _
  rw [e]; exact this
/-- What is read without an error is the text of what was read. -/
theorem parse_show {rd : List PairB → ByteArray → PairB ⊕ Int} (h1 : ∀ out s p, rd out s = .inl p → p = pairOf s ∧ spAt s < s.size) (h2 : ∀ out s e, rd out s = .inr e → e ≠ 0) (S : ByteArray) :
    ∀ (d k : Nat) (out res : List PairB) (n : Int), S.size - k = d → k ≤ S.size → restF rd S k out = (res, n, 0) → showM res = showM out ++ S.data.toList.drop k := by
  intro d
  induction d using Nat.strongRecOn with
  | ind d ih =>
    intro k out res n hd hk h
    by_cases hlt : k < S.size
    · rw [restF_step rd out hlt] at h
      by_cases c1 : 4096 ≤ out.length
      · rw [if_pos c1] at h
        injection h with _ h; injection h with _ h; cases h
      rw [if_neg c1] at h
      by_cases hn : nlAt S k = S.size
      · rw [if_pos hn] at h
        injection h with _ h; injection h with _ h; cases h
      rw [if_neg hn] at h
      have hge := nlAt_ge S k
      have hle := nlAt_le (s := S) (k := k) hk
      cases hr : rd out (S.extract k (nlAt S k)) with
      | inr e =>
        rw [hr] at h
        injection h with _ h; injection h with _ h
        exact absurd h (h2 _ _ _ hr)
      | inl x =>
        rw [hr] at h
        obtain ⟨rfl, hsp⟩ := h1 _ _ _ hr
        have e := ih (S.size - (nlAt S k + 1)) (by omega) _ _ _ _ rfl (by omega) h
        have hp : (lineB (pairOf (S.extract k (nlAt S k)))).data.toList = (S.extract k (nlAt S k)).data.toList := pair_line _ hsp
        rw [e, showM_append, showM_one, nl_split S k (by omega) hk, hp, List.append_assoc, List.append_assoc]
        rfl
    · rw [restF_end rd out (by omega)] at h
      injection h with h _
      subst h
      rw [List.drop_of_length_le (by rw [size_len]; omega), List.append_nil]
theorem parse_len {rd : List PairB → ByteArray → PairB ⊕ Int} (S : ByteArray) :
    ∀ (d k : Nat) (out res : List PairB) (n e : Int), S.size - k = d → out.length ≤ 4096 → restF rd S k out = (res, n, e) → res.length ≤ 4096 ∧ res.length ≤ out.length + d := by
  intro d
  induction d using Nat.strongRecOn with
  | ind d ih =>
    intro k out res n e hd hk h
    by_cases hlt : k < S.size
    · rw [restF_step rd out hlt] at h
      by_cases c1 : 4096 ≤ out.length
      · rw [if_pos c1] at h
        injection h with h _; subst h; simp
      rw [if_neg c1] at h
      by_cases hn : nlAt S k = S.size
      · rw [if_pos hn] at h
        injection h with h _; subst h; simp
      rw [if_neg hn] at h
      have hge := nlAt_ge S k
      cases hr : rd out (S.extract k (nlAt S k)) with
      | inr e => rw [hr] at h; injection h with h _; subst h; simp
      | inl x =>
        rw [hr] at h
        have := ih (S.size - (nlAt S k + 1)) (by omega) _ _ _ _ _ rfl (by simp; omega) h
        simp at this
        omega
    · rw [restF_end rd out (by omega)] at h
      injection h with h _
      subst h
      omega
theorem cut_parts {S : ByteArray} {l : List PairB} (hS : S.data.toList = showM l) {i : Nat} {p : PairB} (hi : l[i]? = some p) (hn : ∀ c ∈ (lineB p).data.toList, c ≠ 10) :
    (showM (l.take i)).length + (lineB p).data.toList.length + 1 ≤ S.size ∧ nlAt S (showM (l.take i)).length = (showM (l.take i)).length + (lineB p).data.toList.length ∧
    S.extract (showM (l.take i)).length (nlAt S (showM (l.take i)).length) = lineB p := by
  have hl := (List.getElem?_eq_some_iff.1 hi).1
  have hpe := (List.getElem?_eq_some_iff.1 hi).2
  have hsplit : showM l = showM (l.take i) ++ ((lineB p).data.toList ++ 10 :: showM (l.drop (i + 1))) := by
    rw [← showM_cons, ← showM_append, ← hpe, ← List.drop_eq_getElem_cons hl, List.take_append_drop]
  have hdrop : S.data.toList.drop (showM (l.take i)).length = (lineB p).data.toList ++ 10 :: showM (l.drop (i + 1)) := by
    rw [hS, hsplit, List.drop_append, List.drop_of_length_le (Nat.le_refl _)]
    simp
  have hlen : S.size = (showM (l.take i)).length + ((lineB p).data.toList.length + (1 + (showM (l.drop (i + 1))).length)) := by
    rw [← size_len, hS, hsplit, List.length_append, List.length_append, List.length_cons]; omega
  have hnl : nlAt S (showM (l.take i)).length = (showM (l.take i)).length + (lineB p).data.toList.length := by
    unfold nlAt
    rw [hdrop, tw_at10 _ _ hn]
  refine ⟨by omega, hnl, ?_⟩
  apply ba_ext
  rw [ext_list, hdrop, hnl, Nat.add_sub_cancel_left]
  simp
/-- The text of pairs, read up to the i-th. -/
theorem show_run {rd : List PairB → ByteArray → PairB ⊕ Int} {l : List PairB} (S : ByteArray) (hS : S.data.toList = showM l) (hn : ∀ p ∈ l, ∀ c ∈ (lineB p).data.toList, c ≠ 10) :
    ∀ i, i ≤ l.length → i ≤ 4096 → (∀ j p, j < i → l[j]? = some p → rd (l.take j) (lineB p) = .inl p) → restF rd S 0 [] = restF rd S (showM (l.take i)).length (l.take i)
  | 0, _, _, _ => rfl
  | i + 1, hi, hi2, h => by
    rw [show_run S hS hn i (by omega) (by omega) (fun j p hj => h j p (by omega))]
    have hl : i < l.length := by omega
    have hp := List.getElem?_eq_getElem hl
    have hr := h i _ (Nat.lt_succ_self i) hp
    obtain ⟨p, hpe⟩ : ∃ p, l[i] = p := ⟨_, rfl⟩
    rw [hpe] at hp hr
    have hmem : p ∈ l := List.mem_of_getElem? hp
    obtain ⟨q1, q2, q3⟩ := cut_parts hS hp (hn p hmem)
    rw [restF_step rd _ (by omega), if_neg (by rw [List.length_take]; omega), if_neg (by omega), q3, hr]
    have ht : l.take (i + 1) = l.take i ++ [p] := by rw [List.take_add_one, hp]; rfl
    rw [ht, showM_append, showM_one, q2]
    simp [Nat.add_assoc]
theorem show_parse {rd : List PairB → ByteArray → PairB ⊕ Int} {l : List PairB} (S : ByteArray) (hS : S.data.toList = showM l) (hsz : S.size ≤ 262144) (hl : l.length ≤ 4096) (hn : ∀ p ∈ l, ∀ c ∈ (lineB p).data.toList, c ≠ 10) (h : ∀ j p, l[j]? = some p → rd (l.take j) (lineB p) = .inl p) :
    parseL rd S = (l, 0, 0) := by
  rw [parseL_eq rd hsz, show_run S hS hn l.length (Nat.le_refl _) hl (fun j p _ => h j p), List.take_length, ← hS, size_len, restF_end rd l (Nat.le_refl _)]
/-- Read up to the first line that is wrong. -/
theorem show_wrong {rd : List PairB → ByteArray → PairB ⊕ Int} {l : List PairB} (S : ByteArray) (hS : S.data.toList = showM l) (hsz : S.size ≤ 262144) (hn : ∀ p ∈ l, ∀ c ∈ (lineB p).data.toList, c ≠ 10) {i : Nat} {p : PairB} {e : Int} (hi : l[i]? = some p) (hi2 : i < 4096)
    (h : ∀ j p, j < i → l[j]? = some p → rd (l.take j) (lineB p) = .inl p) (hw : rd (l.take i) (lineB p) = .inr e) : parseL rd S = ([], (i : Int) + 1, e) := by
  have hl := (List.getElem?_eq_some_iff.1 hi).1
  rw [parseL_eq rd hsz, show_run S hS hn i (by omega) (by omega) h]
  have hpe := (List.getElem?_eq_some_iff.1 hi).2
  have hmem : p ∈ l := List.mem_of_getElem? hi
  obtain ⟨q1, q2, q3⟩ := cut_parts hS hi (hn p hmem)
  rw [restF_step rd _ (by omega), if_neg (by rw [List.length_take]; omega), if_neg (by omega), q3, hw, List.length_take, Nat.min_eq_left (by omega)]
/-- Rules whose names rise. -/
def Ris (l : List PairB) : Prop := ∀ j p, l[j]? = some p → goodN p.1 = true ∧ goodQ p.2 = true ∧ leB p.1 (lastN (l.take j)) = false
theorem Ris.nil : Ris [] := fun j p h => by simp at h
theorem Ris.snoc {l : List PairB} {p : PairB} (h : Ris l) (h1 : goodN p.1 = true) (h2 : goodQ p.2 = true) (h3 : leB p.1 (lastN l) = false) : Ris (l ++ [p]) := fun j q hq => by
  by_cases hj : j < l.length
  · rw [List.getElem?_append_left hj] at hq
    rw [List.take_append_of_le_length (by omega)]
    exact h j q hq
  · have hj2 : j = l.length := by
      have := (List.getElem?_eq_some_iff.1 hq).1
      simp at this; omega
    subst hj2
    rw [List.getElem?_append_right (Nat.le_refl _)] at hq
    simp at hq
    subst hq
    rw [List.take_append_of_le_length (Nat.le_refl _), List.take_length]
    exact ⟨h1, h2, h3⟩
theorem Ris.take {l : List PairB} (h : Ris l) (n : Nat) : Ris (l.take n) := fun j p hp => by
  rw [List.getElem?_take] at hp
  split at hp
  · rename_i hj
    rw [List.take_take, Nat.min_eq_left (by omega)]
    exact h j p hp
  · cases hp
theorem nameC_no {b : UInt8} (h : nameC b = true) : b ≠ 32 ∧ b ≠ 10 := by
  unfold nameC at h
  simp only [decide_eq_true_eq] at h
  constructor <;> rintro rfl <;> revert h <;> decide
theorem patC_no {b : UInt8} (h : patC b = true) : b ≠ 10 := by
  unfold patC at h
  simp only [decide_eq_true_eq] at h
  rintro rfl; revert h; decide
theorem goodN_all {s : ByteArray} (h : goodN s = true) : ∀ c ∈ s.data.toList, nameC c = true := by
  unfold goodN at h
  simp only [Bool.and_eq_true, List.drop_zero, List.all_eq_true] at h
  exact h.2
theorem goodQ_all {s : ByteArray} (h : goodQ s = true) : ∀ c ∈ s.data.toList, patC c = true := by
  unfold goodQ at h
  simp only [Bool.and_eq_true, List.drop_zero, List.all_eq_true] at h
  exact h.2
theorem goodN_size {s : ByteArray} (h : goodN s = true) : 0 < s.size ∧ s.size ≤ 32 := by
  unfold goodN at h
  simp only [Bool.and_eq_true, decide_eq_true_eq] at h
  exact h.1
theorem goodQ_size {s : ByteArray} (h : goodQ s = true) : 0 < s.size ∧ s.size ≤ 256 := by
  unfold goodQ at h
  simp only [Bool.and_eq_true, decide_eq_true_eq] at h
  exact h.1
theorem line_no {p : PairB} (h1 : goodN p.1 = true) (h2 : goodQ p.2 = true) : ∀ c ∈ (lineB p).data.toList, c ≠ 10 := by
  intro c hc
  have hc : c ∈ p.1.data.toList ++ 32 :: p.2.data.toList := hc
  rcases List.mem_append.1 hc with hc | hc
  · exact (nameC_no (goodN_all h1 c hc)).2
  · rcases List.mem_cons.1 hc with rfl | hc
    · decide
    · exact patC_no (goodQ_all h2 c hc)
theorem rd_line {out : List PairB} {p : PairB} (h1 : goodN p.1 = true) (h2 : goodQ p.2 = true) : rdR out (lineB p) = if leB p.1 (lastN out) then .inr 12 else .inl p := by
  unfold rdR
  rw [(pair_of_line p (fun c hc => (nameC_no (goodN_all h1 c hc)).1)).1, h1, h2]
  rfl
theorem rdR_ok {out : List PairB} {s : ByteArray} {p : PairB} (h : rdR out s = .inl p) : p = pairOf s ∧ spAt s < s.size ∧ goodN p.1 = true ∧ goodQ p.2 = true ∧ leB p.1 (lastN out) = false := by
  unfold rdR at h
  by_cases h1 : goodN (pairOf s).1 && goodQ (pairOf s).2
  · rw [if_pos h1] at h
    by_cases h2 : leB (pairOf s).1 (lastN out)
    · rw [if_pos h2] at h; cases h
    · rw [if_neg h2] at h
      injection h with h
      subst h
      simp only [Bool.and_eq_true] at h1
      refine ⟨rfl, ?_, h1.1, h1.2, by simpa using h2⟩
      have := (goodQ_size h1.2).1
      have e : (pairOf s).2.size = s.size - (spAt s + 1) := by unfold pairOf; simp
      omega
  · rw [if_neg h1] at h; cases h
theorem rdR_err {out : List PairB} {s : ByteArray} {e : Int} (h : rdR out s = .inr e) : e = 2 ∨ e = 12 := by
  unfold rdR at h
  split at h
  · split at h
    · injection h with h; exact .inr h.symm
    · cases h
  · injection h with h; exact .inl h.symm
/-- What holds of all that is read. -/
theorem parse_inv {rd : List PairB → ByteArray → PairB ⊕ Int} {I : List PairB → Prop} (hI : ∀ out s p, I out → rd out s = .inl p → I (out ++ [p])) (h0 : I []) (S : ByteArray) :
    ∀ (d k : Nat) (out res : List PairB) (n e : Int), S.size - k = d → I out → restF rd S k out = (res, n, e) → I res := by
  intro d
  induction d using Nat.strongRecOn with
  | ind d ih =>
    intro k out res n e hd hk h
    by_cases hlt : k < S.size
    · rw [restF_step rd out hlt] at h
      by_cases c1 : 4096 ≤ out.length
      · rw [if_pos c1] at h
        injection h with h _; subst h; exact h0
      rw [if_neg c1] at h
      by_cases hn : nlAt S k = S.size
      · rw [if_pos hn] at h
        injection h with h _; subst h; exact h0
      rw [if_neg hn] at h
      have hge := nlAt_ge S k
      cases hr : rd out (S.extract k (nlAt S k)) with
      | inr e => rw [hr] at h; injection h with h _; subst h; exact h0
      | inl x =>
        rw [hr] at h
        exact ih (S.size - (nlAt S k + 1)) (by omega) _ _ _ _ _ rfl (hI _ _ _ hk hr) h
    · rw [restF_end rd out (by omega)] at h
      injection h with h _
      subst h
      exact hk
theorem parse_num {rd : List PairB → ByteArray → PairB ⊕ Int} (h2 : ∀ out s e, rd out s = .inr e → e ≠ 0) (S : ByteArray) :
    ∀ (d k : Nat) (out res : List PairB) (n : Int), S.size - k = d → restF rd S k out = (res, n, 0) → n = 0 := by
  intro d
  induction d using Nat.strongRecOn with
  | ind d ih =>
    intro k out res n hd h
    by_cases hlt : k < S.size
    · rw [restF_step rd out hlt] at h
      by_cases c1 : 4096 ≤ out.length
      · rw [if_pos c1] at h
        injection h with _ h; injection h with _ h; cases h
      rw [if_neg c1] at h
      by_cases hn : nlAt S k = S.size
      · rw [if_pos hn] at h
        injection h with _ h; injection h with _ h; cases h
      rw [if_neg hn] at h
      have hge := nlAt_ge S k
      cases hr : rd out (S.extract k (nlAt S k)) with
      | inr e =>
        rw [hr] at h
        injection h with _ h; injection h with _ h
        exact absurd h (h2 _ _ _ hr)
      | inl x =>
        rw [hr] at h
        exact ih (S.size - (nlAt S k + 1)) (by omega) _ _ _ _ rfl h
    · rw [restF_end rd out (by omega)] at h
      injection h with _ h; injection h with h _
      exact h.symm
theorem parseR_show {S : ByteArray} {res : List PairB} {n : Int} (h : parseR S = (res, n, 0)) : showM res = S.data.toList ∧ n = 0 ∧ Ris res ∧ res.length ≤ 4096 ∧ S.size ≤ 262144 := by
  have hsz : S.size ≤ 262144 := by
    by_cases hb : 262144 < S.size
    · unfold parseR parseL at h
      rw [if_pos hb] at h
      injection h with _ h; injection h with _ h; cases h
    · omega
  unfold parseR at h
  rw [parseL_eq rdR hsz] at h
  have e2 : ∀ out s e, rdR out s = .inr e → e ≠ 0 := fun _ _ _ h => by rcases rdR_err h with rfl | rfl <;> decide
  refine ⟨?_, parse_num e2 S _ _ _ _ _ rfl h, parse_inv (I := Ris) (fun out s p hI hr => ?_) Ris.nil S _ _ _ _ _ _ rfl Ris.nil h, (parse_len S _ _ _ _ _ _ rfl (by simp) h).1, hsz⟩
  · have := parse_show (fun out s p h => ⟨(rdR_ok h).1, (rdR_ok h).2.1⟩) e2 S _ _ _ _ _ rfl (Nat.zero_le _) h
    rw [this]; rfl
  · obtain ⟨_, _, a, b, c⟩ := rdR_ok hr
    exact hI.snoc a b c
theorem showR_parse {S : ByteArray} {l : List PairB} (hS : S.data.toList = showM l) (hsz : S.size ≤ 262144) (hl : l.length ≤ 4096) (hR : Ris l) : parseR S = (l, 0, 0) :=
  show_parse S hS hsz hl (fun p hp => by
    obtain ⟨j, hj⟩ := List.getElem?_of_mem hp
    obtain ⟨a, b, _⟩ := hR j p hj
    exact line_no a b) (fun j p hj => by
    obtain ⟨a, b, c⟩ := hR j p hj
    rw [rd_line a b, c]; rfl)
theorem swap_eq {l : List PairB} {t : Nat} {a b : PairB} (ha : l[t]? = some a) (hb : l[t + 1]? = some b) : l = l.take t ++ a :: b :: l.drop (t + 2) ∧ (l.set t b).set (t + 1) a = l.take t ++ b :: a :: l.drop (t + 2) := by
  have hl := (List.getElem?_eq_some_iff.1 hb).1
  have e1 := (List.getElem?_eq_some_iff.1 ha).2
  have e2 := (List.getElem?_eq_some_iff.1 hb).2
  have h1 : l = l.take t ++ a :: b :: l.drop (t + 2) := by
    rw [← e2, ← List.drop_eq_getElem_cons hl, ← e1, ← List.drop_eq_getElem_cons (by omega), List.take_append_drop]
  refine ⟨h1, ?_⟩
  have hlen : (l.take t).length = t := by rw [List.length_take]; omega
  generalize l.take t = x at h1 hlen
  generalize l.drop (t + 2) = y at h1
  subst h1
  rw [List.set_append_right _ _ (by omega), hlen, Nat.sub_self, List.set_cons_zero, List.set_append_right _ _ (by omega), hlen, Nat.add_sub_cancel_left, List.set_cons_succ, List.set_cons_zero]
theorem swap_parse {l : List PairB} (hR : Ris l) {t : Nat} {a b : PairB} (ha : l[t]? = some a) (hb : l[t + 1]? = some b) {S : ByteArray} (hS : S.data.toList = showM ((l.set t b).set (t + 1) a)) (hsz : S.size ≤ 262144) (hl : l.length ≤ 4096) :
    parseR S = ([], (t : Int) + 2, 12) := by
  obtain ⟨e1, e2⟩ := swap_eq ha hb
  have hlb := (List.getElem?_eq_some_iff.1 hb).1
  have hlen : (l.take t).length = t := by rw [List.length_take]; omega
  obtain ⟨a1, a2, a3⟩ := hR t a ha
  obtain ⟨b1, b2, b3⟩ := hR (t + 1) b hb
  have hT : l.take (t + 1) = l.take t ++ [a] := by rw [List.take_add_one, ha]; rfl
  rw [hT, lastN_snoc] at b3
  have hab : Op.bytesLess a.1.toList b.1.toList = true := by rw [leB_flip] at b3; simpa using b3
  have hlb2 : leB b.1 (lastN (l.take t)) = false := by
    rw [leB_flip] at a3 ⊢
    have h1 : Op.bytesLess (lastN (l.take t)).toList a.1.toList = true := by simpa using a3
    rw [less_trans _ _ _ h1 hab]; rfl
  have hw : leB a.1 b.1 = true := by unfold leB; rw [hab]; rfl
  rw [e2] at hS
  have hmem : ∀ p ∈ l.take t ++ b :: a :: l.drop (t + 2), ∀ c ∈ (lineB p).data.toList, c ≠ 10 := fun p hp => by
    have : p ∈ l := by
      rw [e1]
      simp only [List.mem_append, List.mem_cons] at hp ⊢
      rcases hp with h | h | h | h
      · exact .inl h
      · exact .inr (.inr (.inl h))
      · exact .inr (.inl h)
      · exact .inr (.inr (.inr h))
    obtain ⟨j, hj⟩ := List.getElem?_of_mem this
    obtain ⟨x, y, _⟩ := hR j p hj
    exact line_no x y
  have hat : (l.take t ++ b :: a :: l.drop (t + 2))[t + 1]? = some a := by
    rw [List.getElem?_append_right (by omega), hlen, Nat.add_sub_cancel_left]; rfl
  have htk : (l.take t ++ b :: a :: l.drop (t + 2)).take (t + 1) = l.take t ++ [b] := by
    rw [List.take_append, hlen, Nat.add_sub_cancel_left, List.take_of_length_le (by omega)]; rfl
  have := show_wrong (rd := rdR) (e := 12) S hS hsz hmem hat (by omega) (fun j p hj hp => by
    by_cases hjt : j < t
    · rw [List.getElem?_append_left (by omega)] at hp
      rw [List.take_append_of_le_length (by omega)]
      obtain ⟨x, y, z⟩ := (hR.take t) j p hp
      rw [rd_line x y, z]; rfl
    · have : j = t := by omega
      subst this
      rw [List.getElem?_append_right (by omega), hlen, Nat.sub_self] at hp
      have hp := Option.some.inj hp
      subst hp
      rw [List.take_append_of_le_length (by omega), List.take_take, Nat.min_self, rd_line b1 b2, hlb2]; rfl) (by
    rw [htk, rd_line a1 a2, lastN_snoc, hw]; rfl)
  unfold parseR
  rw [this]
  simp; omega
theorem showM_swap {l : List PairB} {t : Nat} {a b : PairB} (ha : l[t]? = some a) (hb : l[t + 1]? = some b) : (showM ((l.set t b).set (t + 1) a)).length = (showM l).length := by
  obtain ⟨e1, e2⟩ := swap_eq ha hb
  rw [e2]
  conv => rhs; rw [e1]
  simp only [showM_append, showM_cons, List.length_append, List.length_cons]
  omega
theorem showM_take (l : List PairB) (n : Nat) : (showM (l.take n)).length ≤ (showM l).length := by
  conv => rhs; rw [← List.take_append_drop n l]
  rw [showM_append, List.length_append]; omega
end Go.Proofs.YtmdhendfmhhniaaDoor
