/- Rules: the document's Parse: plain facts of a line. -/
import Derived.Test.YtmdhendfmhhniaaDoorRn
import Derived.Test.YtmdhendfmhhniaaDoorRe
namespace Go.Proofs.YtmdhendfmhhniaaDoor
open Go.RowKit
variable {w w' : World}

/-- The line from k on, up to j. -/
def lnL (S : ByteArray) (k j : Nat) : List UInt8 := (S.data.toList.drop k).take (j - k)
theorem lnL_len {S : ByteArray} {k j : Nat} (hj : j ≤ S.size) : (lnL S k j).length = j - k := by
  unfold lnL; rw [List.length_take, List.length_drop, size_len]; omega
theorem lnL_self (S : ByteArray) (k : Nat) : lnL S k k = [] := by unfold lnL; simp
theorem lnL_succ {S : ByteArray} {k j : Nat} (hk : k ≤ j) (hj : j < S.size) : lnL S k (j + 1) = lnL S k j ++ [S[j]] := by
  unfold lnL
  rw [show j + 1 - k = (j - k) + 1 by omega, List.take_add_one, List.getElem?_drop, show k + (j - k) = j by omega, List.getElem?_eq_getElem (by rw [size_len]; exact hj)]
  rfl
/-- Where the first space is, as the document has it: -1 for none. -/
def blV (k : Nat) (L : List UInt8) : Int := if spL L < L.length then ((k + spL L : Nat) : Int) else -1
theorem blV_some {k : Nat} {L : List UInt8} (h : spL L < L.length) : blV k L = ((k + spL L : Nat) : Int) := if_pos h
theorem blV_none {k : Nat} {L : List UInt8} (h : ¬ spL L < L.length) : blV k L = -1 := if_neg h
theorem blV_keep {k : Nat} {L : List UInt8} {c : UInt8} (h : spL L < L.length ∨ c ≠ 32) : blV k (L ++ [c]) = blV k L := by
  unfold blV
  rw [spL_snoc]
  have := spL_le L
  by_cases h1 : spL L < L.length
  · rw [if_pos h1, if_pos h1, if_pos (by simp; omega)]
  · have hc : c ≠ 32 := by rcases h with h | h; exact absurd h h1; exact h
    rw [if_neg h1, if_neg hc, if_neg h1, if_neg (by simp)]
theorem blV_hit {k : Nat} {L : List UInt8} (h : ¬ spL L < L.length) : blV k (L ++ [32]) = ((k + L.length : Nat) : Int) := by
  unfold blV
  rw [spL_snoc, if_neg h, if_pos rfl, if_pos (by simp)]
theorem nl_at {S : ByteArray} : ∀ (d k : Nat), S.size - k = d → k ≤ S.size → ∀ hh : nlAt S k < S.size, S[nlAt S k] = 10 := by
  intro d
  induction d with
  | zero => intro k hd hk hh; have := nlAt_ge S k; omega
  | succ d ih =>
    intro k hd hk hh
    have hks : k < S.size := by omega
    by_cases e : S[k] = 10
    · have := nlAt_hit hks e
      simp only [this]; exact e
    · have := nlAt_miss hks e
      have h2 : nlAt S (k + 1) < S.size := by omega
      have := ih (k + 1) (by omega) (by omega) h2
      simp only [nlAt_miss hks e] at this
      exact this
theorem nl_not {S : ByteArray} {k j : Nat} (hk : k ≤ j) (hj : j < nlAt S k) (hjs : j < S.size) : S[j] ≠ 10 := by
  have hlen : ((S.data.toList.drop k).takeWhile (· != 10)).length = nlAt S k - k := by unfold nlAt; omega
  have hpre := List.prefix_iff_eq_take.1 (List.takeWhile_prefix (l := S.data.toList.drop k) (· != 10))
  have h2 : ((S.data.toList.drop k).takeWhile (· != 10))[j - k]? = some S[j] := by
    rw [hpre, List.getElem?_take, if_pos (by rw [hlen]; omega), List.getElem?_drop, show k + (j - k) = j by omega, List.getElem?_eq_getElem (by rw [size_len]; exact hjs)]
    rfl
  have := take_all _ _ _ (List.mem_of_getElem? h2)
  simpa using this
theorem line_eq {S : ByteArray} {k t : Nat} : (S.extract k t).data.toList = lnL S k t := line_toList S k t
theorem spAt_line {S : ByteArray} {k t : Nat} : spAt (S.extract k t) = spL (lnL S k t) := by rw [spAt_L, line_eq]
theorem line_parts {S : ByteArray} {k t : Nat} (_hk : k ≤ t) (ht : t ≤ S.size) (h : spL (lnL S k t) < (lnL S k t).length) :
    (pairOf (S.extract k t)).1 = S.extract k (k + spL (lnL S k t)) ∧ (pairOf (S.extract k t)).2 = S.extract (k + spL (lnL S k t) + 1) t := by
  have hl := lnL_len (S := S) (k := k) ht
  have hsz : (S.extract k t).size = t - k := by simp; omega
  unfold pairOf
  rw [spAt_line, hsz]
  constructor
  · show (S.extract k t).extract 0 (spL (lnL S k t)) = _
    rw [ByteArray.extract_extract, Nat.add_zero, Nat.min_eq_left (by omega)]
  · show (S.extract k t).extract (spL (lnL S k t) + 1) (t - k) = _
    rw [ByteArray.extract_extract, show min (k + (t - k)) t = t by omega, Nat.add_assoc]
theorem line_noQ {S : ByteArray} {k t : Nat} (_hk : k ≤ t) (ht : t ≤ S.size) (h : ¬ spL (lnL S k t) < (lnL S k t).length) : goodQ (pairOf (S.extract k t)).2 = false := by
  have hl := lnL_len (S := S) (k := k) ht
  have hsz : (S.extract k t).size = t - k := by simp; omega
  have e : (pairOf (S.extract k t)).2.size = 0 := by
    unfold pairOf
    rw [spAt_line, hsz]
    simp; omega
  unfold goodQ
  rw [e]; rfl
theorem patC_name {b : UInt8} (h : nameC b = true) : patC b = true := by
  unfold nameC at h; unfold patC
  simp only [decide_eq_true_eq] at h ⊢
  omega
theorem line_all {S : ByteArray} {k t : Nat} (h : (goodN (pairOf (S.extract k t)).1 && goodQ (pairOf (S.extract k t)).2) = true) : (lnL S k t).all patC = true := by
  simp only [Bool.and_eq_true] at h
  have hq := (goodQ_size h.2).1
  have hsp : spAt (S.extract k t) < (S.extract k t).size := by
    have e : (pairOf (S.extract k t)).2.size = (S.extract k t).size - (spAt (S.extract k t) + 1) := by unfold pairOf; simp
    omega
  have hp := pair_line _ hsp
  rw [← line_eq, ← hp, List.all_append, List.all_cons]
  have h1 : (pairOf (S.extract k t)).1.data.toList.all patC = true := List.all_eq_true.2 (fun c hc => patC_name (goodN_all h.1 c hc))
  have h2 : (pairOf (S.extract k t)).2.data.toList.all patC = true := List.all_eq_true.2 (fun c hc => goodQ_all h.2 c hc)
  rw [h1, h2]; decide
theorem line_Q {S : ByteArray} {k t : Nat} (hk : k ≤ t) (ht : t ≤ S.size) (h : spL (lnL S k t) < (lnL S k t).length) (ha : (lnL S k t).all patC = true) :
    goodQ (S.extract (k + spL (lnL S k t) + 1) t) = (decide (0 < t - (k + spL (lnL S k t)) - 1) && decide (t - (k + spL (lnL S k t)) - 1 ≤ 256)) := by
  have hsz : (S.extract (k + spL (lnL S k t) + 1) t).size = t - (k + spL (lnL S k t)) - 1 := by simp; omega
  have hall : (S.extract (k + spL (lnL S k t) + 1) t).data.toList.all patC = true := by
    refine List.all_eq_true.2 (fun c hc => List.all_eq_true.1 ha c ?_)
    rw [line_eq] at hc
    unfold lnL at hc ⊢
    rw [show S.data.toList.drop (k + spL (List.take (t - k) (List.drop k S.data.toList)) + 1) = (S.data.toList.drop k).drop (spL (List.take (t - k) (List.drop k S.data.toList)) + 1) by rw [List.drop_drop]; congr 1] at hc
    rw [show ∀ x, t - (k + x + 1) = t - k - (x + 1) by omega, ← List.drop_take] at hc
    exact List.mem_of_mem_drop hc
  unfold goodQ
  rw [hsz, List.drop_zero, hall, Bool.and_true]
theorem rdR_in {out : List PairB} {S : ByteArray} {k t : Nat} {nm pt : ByteArray} (h1 : (pairOf (S.extract k t)).1 = nm) (h2 : (pairOf (S.extract k t)).2 = pt) (hn : goodN nm = true) (hq : goodQ pt = true) :
    rdR out (S.extract k t) = if leB nm (lastN out) then .inr 12 else .inl (nm, pt) := by
  unfold rdR
  rw [h1, h2, hn, hq]
  have : pairOf (S.extract k t) = (nm, pt) := Prod.ext h1 h2
  rw [this]; rfl
theorem rdR_no {out : List PairB} {s : ByteArray} (h : (goodN (pairOf s).1 && goodQ (pairOf s).2) = false) : rdR out s = .inr 2 := by
  unfold rdR; rw [if_neg (by simp [h])]
theorem leB_nil {a : ByteArray} (h : 0 < a.size) : leB a ⟨#[]⟩ = false := by
  unfold leB
  have h1 := ba_some a h
  have e : (⟨#[]⟩ : ByteArray).toList = [] := by rw [ByteArray.toList_eq]
  rw [e]
  cases hl : a.toList with
  | nil => rw [hl] at h1; cases h1
  | cons x r => rfl
theorem lastN_at {out : List PairB} {m : Nat} {q : PairB} (hm : out.length = m + 1) (h : out[m]? = some q) : lastN out = q.1 := by
  unfold lastN
  rw [List.getLast?_eq_getElem?, hm]
  simp [h]
end Go.Proofs.YtmdhendfmhhniaaDoor
