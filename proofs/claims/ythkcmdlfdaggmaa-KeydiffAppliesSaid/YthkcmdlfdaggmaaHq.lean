/- Keyed lists: the contracts as the laws call them; changes that are applied. -/
import Derived.Test.YthkcmdlfdaggmaaHo
import Derived.Test.YthkcmdlfdaggmaaHp
set_option linter.unusedVariables false
set_option linter.unusedSimpArgs false
namespace Go.Proofs.Ythkcmdlfdaggmaa
open Go.RowKit
variable {w w' : World}

theorem mem_item {ks : List ByteArray} {U : ByteArray → SdB} {p : KvB} (h : p ∈ itemK ks U) : p.1 ∈ ks ∧ p.2 = (U p.1).1 := by
  unfold itemK at h
  obtain ⟨s, hs, rfl⟩ := List.mem_map.1 h
  exact ⟨(List.mem_filter.1 hs).1, rfl⟩
theorem say_size {o : Option Addr} {l : List KvB} (h : KvAt w o l) (s : ByteArray) : (sayK l s).1.size ≤ maxLen := by
  rcases Classical.em (s ∈ ksK l) with hs | hs
  · obtain ⟨p, hp, _⟩ := List.mem_map.1 hs
    suffices h2 : ∀ l : List KvB, (∀ p ∈ l, p.2.size ≤ maxLen) → (sayK l s).1.size ≤ maxLen from h2 l fun p hp => (h.sizes p hp).2
    intro l hl
    induction l with
    | nil => rw [say_nil]; decide
    | cons q l ih =>
      rw [say_cons]
      split
      · exact hl q (List.mem_cons_self ..)
      · exact ih fun p hp => hl p (List.mem_cons_of_mem _ hp)
  · rw [say_not hs]; decide
theorem new_size {o : Option Addr} {a : List KvB} {l : List ChB} (h : KvAt w o a) (hl : ∀ p ∈ l, p.2.2.1.size ≤ maxLen) (s : ByteArray) : (newU a l s).1.size ≤ maxLen := by
  induction l with
  | nil => exact say_size h s
  | cons q l ih =>
    rw [new_cons]
    split
    · exact hl q (List.mem_cons_self ..)
    · exact ih fun p hp => hl p (List.mem_cons_of_mem _ hp)
/-- The changes from one right list to another. -/
theorem mem_diff {a b : List KvB} {p : ChB} (h : p ∈ diffK a b) : p.1 ∈ keyL (ksK a ++ ksK b) ∧ p.2.1 = sayK a p.1 ∧ p.2.2 = sayK b p.1 ∧ sayK a p.1 ≠ sayK b p.1 := by
  unfold diffK chK at h
  obtain ⟨s, hs, rfl⟩ := List.mem_map.1 h
  obtain ⟨h1, h2⟩ := List.mem_filter.1 hs
  exact ⟨h1, rfl, rfl, by simpa using h2⟩
theorem diff_keys (a b : List KvB) : ksC (diffK a b) = (keyL (ksK a ++ ksK b)).filter fun s => !decide (sayK a s = sayK b s) := by unfold diffK chK ksC; rw [List.map_map]; exact List.map_id _
theorem diff_asc (a b : List KvB) : Asc (ksC (diffK a b)) := by rw [diff_keys]; exact (asc_keyL _).filter _
theorem mem_dkeys {a b : List KvB} {s : ByteArray} : s ∈ ksC (diffK a b) ↔ sayK a s ≠ sayK b s := by
  rw [diff_keys, List.mem_filter, mem_keyL, List.mem_append]
  constructor
  · rintro ⟨_, h⟩; simpa using h
  · intro h
    refine ⟨?_, by simpa using h⟩
    rcases Classical.em (s ∈ ksK a) with h1 | h1
    · exact .inl h1
    · rcases Classical.em (s ∈ ksK b) with h2 | h2
      · exact .inr h2
      · exact absurd ((say_not h1).trans (say_not h2).symm) h
theorem new_diff (a b : List KvB) (s : ByteArray) : newU a (diffK a b) s = sayK b s := by
  rcases Classical.em (s ∈ ksC (diffK a b)) with h | h
  · obtain ⟨p, hp, rfl⟩ := List.mem_map.1 h
    rw [new_mem (diff_asc a b) hp]; exact (mem_diff hp).2.2.1
  · rw [new_not h]
    rw [mem_dkeys] at h
    exact Classical.not_not.1 h
theorem apply_diff {a b : List KvB} (ha : RightK a) (hb : RightK b) : applyK a (diffK a b) = (b, 0) := by
  have h1 : (diffK a b).any wrongC = false := by
    rw [List.any_eq_false]
    intro p hp hw
    obtain ⟨_, h2, h3, _⟩ := mem_diff hp
    unfold wrongC at hw
    rw [h2, h3, (pos_iff _).2 (say_possible a _), (pos_iff _).2 (say_possible b _)] at hw
    cases hw
  have h2 : (diffK a b).any (staleC a) = false := by
    rw [List.any_eq_false]
    intro p hp hw
    unfold staleC at hw
    rw [(mem_diff hp).2.1] at hw
    simp at hw
  unfold applyK
  rw [if_neg (fun h => h ⟨ha, diff_asc a b⟩), h1, h2, if_neg (by decide), if_neg (by decide)]
  refine congrArg (·, (0 : Int)) (item_of hb (asc_keyL _) (fun s _ => new_diff a b s) fun s hs => ?_)
  rw [mem_keyL, List.mem_append]
  rcases Classical.em (s ∈ ksK a) with h | h
  · exact .inl h
  · refine .inr (mem_dkeys.2 fun e => ?_)
    rw [say_not h] at e
    have := say_there.2 hs
    rw [← e] at this; cases this
/-! The contracts as the laws call them. -/
theorem items_at (o : Option Addr) (l : List KvB) (cap : Nat) (w : World) (hl : l.length ≤ maxLen) (hi : KvAt w o l) :
    Calls Try.prog 9 #[.slice o l.length cap] w fun e w' => ∃ oa ca ob cb, e = .returned (.tuple #[.slice oa (l.take 40).length ca, .slice ob (l.take 40).length cb]) ∧ KvAt w' oa (l.take 40) ∧ KvAt w' ob (l.take 40) ∧ Below w.heap.size w w' := by
  refine (items20_any o l cap w hl hi).mono ?_
  rintro e w' ⟨a, b, rfl, h1, h2, hb⟩
  have hs : ∀ p ∈ l.take 40, p.1.size ≤ maxLen ∧ p.2.size ≤ maxLen := fun p hp => hi.sizes p (List.mem_of_mem_take hp)
  obtain ⟨oa, ca, rfl, k1, _⟩ := own_kvs h1 hs
  obtain ⟨ob, cb, rfl, k2, _⟩ := own_kvs h2 hs
  exact ⟨oa, ca, ob, cb, rfl, k1, k2, hb⟩
theorem Diff_at (oa ob : Option Addr) (a b : List KvB) (ca cb : Nat) (w : World) (hla : a.length ≤ 1000000) (hlb : b.length ≤ 1000000) (ha : KvAt w oa a) (hb : KvAt w ob b) (L : List ChB) (E : Int) (hL : (if RightK a ∧ RightK b then diffK a b else []) = L) (hE : (if RightK a ∧ RightK b then (0 : Int) else 12) = E) :
    Calls Try.prog 10 #[.slice oa a.length ca, .slice ob b.length cb] w fun e w' => ∃ o c, e = .returned (.tuple #[.slice o L.length c, .int .i64 E]) ∧ ChAt w' o L ∧ Below w.heap.size w w' := by
  refine (Diff_any oa ob a b ca cb w hla hlb ha hb).mono ?_
  rintro e w' ⟨v, rfl, hr, hbl⟩
  rw [hL] at hr
  obtain ⟨o, c, rfl, h, _⟩ := own_chs hr
  exact ⟨o, c, by rw [hE], h, hbl⟩
theorem Apply_at (oa ol : Option Addr) (a : List KvB) (l : List ChB) (ca cl : Nat) (w : World) (hla : a.length ≤ 500000) (hll : l.length ≤ 500000) (ha : KvAt w oa a) (hl : ChAt w ol l) (hz : ∀ p ∈ l, p.1.size ≤ maxLen) (hz2 : ∀ p ∈ l, p.2.2.1.size ≤ maxLen) :
    Calls Try.prog 15 #[.slice oa a.length ca, .slice ol l.length cl] w fun e w' => ∃ o c, e = .returned (.tuple #[.slice o (applyK a l).1.length c, .int .i64 (applyK a l).2]) ∧ KvAt w' o (applyK a l).1 ∧ Below w.heap.size w w' := by
  refine (Apply_any oa ol a l ca cl w hla hll ha hl hz).mono ?_
  rintro e w' ⟨v, rfl, hr, hbl⟩
  have hs : ∀ p ∈ (applyK a l).1, p.1.size ≤ maxLen ∧ p.2.size ≤ maxLen := by
    unfold applyK
    split
    · intro p hp; cases hp
    · split
      · intro p hp; cases hp
      · split
        · intro p hp; cases hp
        · intro p hp
          obtain ⟨h1, h2⟩ := mem_item hp
          rw [mem_keyL, List.mem_append] at h1
          refine ⟨?_, by rw [h2]; exact new_size ha hz2 _⟩
          rcases h1 with h1 | h1
          · exact ha.keys _ h1
          · obtain ⟨q, hq, e⟩ := List.mem_map.1 h1
            rw [← e]; exact hz q hq
  obtain ⟨o, c, rfl, h, _⟩ := own_kvs hr hs
  exact ⟨o, c, rfl, h, hbl⟩
theorem settle_size {p o t : SdB} (h1 : o.1.size ≤ maxLen) (h2 : t.1.size ≤ maxLen) : (settleK p o t).1.1.size ≤ maxLen := by
  unfold settleK
  split
  · exact h1
  · split
    · exact h2
    · decide
theorem Merge_at (oa ob oc : Option Addr) (a b c : List KvB) (ca cb cc : Nat) (w : World) (hla : a.length ≤ 300000) (hlb : b.length ≤ 300000) (hlc : c.length ≤ 300000) (ha : KvAt w oa a) (hb : KvAt w ob b) (hc : KvAt w oc c) :
    Calls Try.prog 17 #[.slice oa a.length ca, .slice ob b.length cb, .slice oc c.length cc] w fun e w' => ∃ o x p y, e = .returned (.tuple #[.slice o (mergeK a b c).1.length x, .slice p (mergeK a b c).2.1.length y, .int .i64 (mergeK a b c).2.2]) ∧ KvAt w' o (mergeK a b c).1 ∧ CfAt w' p (mergeK a b c).2.1 ∧ Below w.heap.size w w' := by
  refine (Merge_any oa ob oc a b c ca cb cc w hla hlb hlc ha hb hc).mono ?_
  rintro e w' ⟨v, u, rfl, hr, hr2, hbl⟩
  have hs : ∀ p ∈ (mergeK a b c).1, p.1.size ≤ maxLen ∧ p.2.size ≤ maxLen := by
    unfold mergeK
    split
    · intro p hp; cases hp
    · split
      · intro p hp
        obtain ⟨h1, h2⟩ := mem_item hp
        rw [mem_ks3] at h1
        refine ⟨h1.elim (ha.keys _) (fun h => h.elim (hb.keys _) (hc.keys _)), ?_⟩
        rw [h2]; exact settle_size (say_size hb _) (say_size hc _)
      · intro p hp; cases hp
  obtain ⟨o, x, rfl, h, _⟩ := own_kvs hr hs
  obtain ⟨p, y, rfl, h3⟩ := own_cfs hr2
  exact ⟨o, x, p, y, rfl, h, h3, hbl⟩
theorem Keys_at (oa ob oc : Option Addr) (a b c : List KvB) (ca cb cc : Nat) (w : World) (hla : a.length ≤ 1000) (hlb : b.length ≤ 1000) (hlc : c.length ≤ 1000) (ha : KvAt w oa a) (hb : KvAt w ob b) (hc : KvAt w oc c) (KS : List ByteArray) (hKS : ks3 a b c = KS) :
    Calls Try.prog 13 #[.slice oa a.length ca, .slice ob b.length cb, .slice oc c.length cc] w fun e w' => ∃ o x, e = .returned (.slice o KS.length x) ∧ TxAt w' o KS ∧ Below w.heap.size w w' := by
  refine (RKeys_any oa ob oc a b c ca cb cc w hla hlb hlc ha hb hc).mono ?_
  rintro e w' ⟨v, rfl, hr, hbl⟩
  rw [hKS] at hr
  have hs : ∀ s ∈ KS, s.size ≤ maxLen := fun s hs => by
    rw [← hKS, mem_ks3] at hs
    exact hs.elim (ha.keys _) (fun h => h.elim (hb.keys _) (hc.keys _))
  obtain ⟨o, x, rfl, h, _⟩ := own_texts hr hs
  exact ⟨o, x, rfl, h, hbl⟩
theorem kv_nil (w : World) (o : Option Addr) : KvAt w o [] := fun k p hk => by simp at hk
theorem diff_sizes {o p : Option Addr} {a b : List KvB} (ha : KvAt w o a) (hb : KvAt w p b) : (∀ q ∈ diffK a b, q.1.size ≤ maxLen) ∧ (∀ q ∈ diffK a b, q.2.2.1.size ≤ maxLen) := by
  refine ⟨fun q hq => ?_, fun q hq => ?_⟩
  · have h := (mem_diff hq).1
    rw [mem_keyL, List.mem_append] at h
    exact h.elim (ha.keys _) (hb.keys _)
  · rw [(mem_diff hq).2.2.1]; exact say_size hb _
theorem diff_len (a b : List KvB) : (diffK a b).length ≤ a.length + b.length := by
  have h1 := ch_len (keyL (ksK a ++ ksK b)) (sayK a) (sayK b)
  have h2 := keyL_len (ksK a ++ ksK b)
  rw [List.length_append, List.length_map, List.length_map] at h2
  exact Nat.le_trans h1 h2
theorem take40 (l : List KvB) : (l.take 40).length ≤ 40 := by rw [List.length_take]; exact Nat.min_le_left _ _
end Go.Proofs.Ythkcmdlfdaggmaa
