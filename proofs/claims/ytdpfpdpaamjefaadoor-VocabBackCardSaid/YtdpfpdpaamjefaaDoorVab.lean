/- Vocabularies: a word by any list, and its numbers: the law. -/
import Derived.Test.YtdpfpdpaamjefaaDoorV3
import Derived.Test.YtdpfpdpaamjefaaDoorV4
import Derived.Test.YtdpfpdpaamjefaaDoorV9
import Derived.Test.YtdpfpdpaamjefaaDoorVaa
import Derived.Test.YtdpfpdpaamjefaaDoorVac
import Derived.Test.YtdpfpdpaamjefaaDoorPq
import Derived.Test.YtdpfpdpaamjefaaDoorPza
import Derived.Test.YtdpfpdpaamjefaaDoorVr
namespace Go.Proofs.YtdpfpdpaamjefaaDoor
open Go.RowKit Go.Shelf Go.Maps
variable {w w' : World}

theorem findE_id : ∀ (L : List EntB) (b : ByteArray), findE L b = idE L b
  | [], _ => rfl
  | p :: L, b => by
    have ih := findE_id L b
    unfold findE
    unfold idE lookE at ih ⊢
    by_cases e : p.2 = b
    · rw [if_pos e, List.find?_cons_of_pos (by simp [e])]
    · rw [if_neg e, List.find?_cons_of_neg (by simp [e]), ih]
theorem idE_neg (L : List EntB) (b : ByteArray) : 0 ≤ idE L b ↔ (lookE (fun e : EntB => e.2) L b).isSome = true := by
  unfold idE
  cases lookE (fun e : EntB => e.2) L b with
  | none => simp
  | some q => simp
theorem allE_snoc (L : List EntB) (P : List ByteArray) (s : ByteArray) : allE L (P ++ [s]) = (allE L P && decide (0 ≤ idE L s)) := by
  unfold allE
  rw [List.all_append]
  have h := idE_neg L s
  cases hq : (lookE (fun e : EntB => e.2) L s).isSome with
  | true => rw [hq] at h; simp [hq, h.2 rfl]
  | false =>
    rw [hq] at h
    have : ¬ 0 ≤ idE L s := fun hh => by have := h.1 hh; cases this
    simp [hq, this]
theorem voc_lk {L : List EntB} (h : Voc L) (z : Int) : lkI L z = if 0 ≤ z ∧ z < L.length then L[z.toNat]? else none := by
  unfold lkI lookE
  cases hf : L.find? (fun e => decide ((e.1 : Int) = z)) with
  | none =>
    rw [List.find?_eq_none] at hf
    split
    · rename_i hz
      have hl : z.toNat < L.length := by omega
      have hg := List.getElem?_eq_getElem hl
      have h1 := (h _ _ hg).1
      have h2 := hf _ (List.mem_of_getElem? hg)
      simp at h2
      omega
    · rfl
  | some q =>
    have hp := List.find?_some hf
    have hq := List.mem_of_find?_eq_some hf
    simp at hp
    obtain ⟨j, hj⟩ := List.getElem?_of_mem hq
    have h1 := (h j q hj).1
    have hjl := (List.getElem?_eq_some_iff.1 hj).1
    rw [if_pos (by omega), show z.toNat = j by omega, hj]
theorem mem_cat_len : ∀ (P : List ByteArray) (p : ByteArray), p ∈ P → p.data.toList.length ≤ (catB P).length
  | [], _, h => by cases h
  | x :: P, p, h => by
    have e : catB (x :: P) = x.data.toList ++ catB P := rfl
    rw [e, List.length_append]
    rcases List.mem_cons.1 h with rfl | h
    · omega
    · have := mem_cat_len P p h; omega
theorem split200 {l : List PairB} (hl : l.length ≤ 100000) {s : ByteArray} (hs : s.size ≤ 4096) :
    (∀ p ∈ splitP l s, p.size ≤ maxLen) ∧ (splitP l s = [] → s.size = 0) ∧ (splitP l s).length ≤ 4096 := by
  have e : splitP l s = splitB l s := by unfold splitP; rw [if_neg (by omega)]
  rw [e]
  have hc := splitB_cat l s
  refine ⟨fun p hp => ?_, fun h => ?_, Nat.le_trans (splitB_nonempty hl s) hs⟩
  · have := mem_cat_len _ p hp
    rw [hc, size_len, size_len] at this
    unfold maxLen; omega
  · rw [h] at hc
    rw [← size_len, ← hc]; rfl
theorem allI_snoc (L : List EntB) (l : List Int) (z : Int) : allI L (l ++ [z]) = (allI L l && (lkI L z).isSome) := by unfold allI; rw [List.all_append]; simp
def C1S (L : List EntB) (P : List ByteArray) (n : Nat) (w7 : World) (t i : Value) (wr : World) : Prop := ∃ k : Nat, k ≤ n ∧ i = .int .i64 k ∧ t = .bool (allE L (P.take k)) ∧ wr = w7
def C2S (n : Nat) (w7 : World) (i : Value) (wr : World) : Prop := ∃ k : Nat, k ≤ n ∧ i = .int .i64 k ∧ Below w7.heap.size w7 wr
def C3S (L : List EntB) (ids : List Int) (n : Nat) (w8 : World) (s t i : Value) (wr : World) : Prop :=
  ∃ (k : Nat) (T : ByteArray), k ≤ n ∧ k ≤ 50 ∧ i = .int .i64 k ∧ t = .bool (allI L (ids.take k)) ∧ s = .string T ∧ T.size ≤ 64 * k ∧ (allI L (ids.take k) = true → T.data.toList = decT L (ids.take k)) ∧ wr = w8
end Go.Proofs.YtdpfpdpaamjefaaDoor
