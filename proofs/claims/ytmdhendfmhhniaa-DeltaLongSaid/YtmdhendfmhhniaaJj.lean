/- Deltas, plain: lists of instructions. -/
import Derived.Test.YtmdhendfmhhniaaJi
import Derived.Shelf.Strings.Search2
namespace Go.Proofs.Ytmdhendfmhhniaa
open Go.RowKit

inductive Ins where
  | new (t : ByteArray)
  | old (a n : Nat)
def insB : Ins → List UInt8
  | .new t => addL t
  | .old a n => copL a n
def insO (base : ByteArray) : Ins → List UInt8
  | .new t => t.data.toList
  | .old a n => (base.data.toList.drop a).take n
def insOk (base : ByteArray) : Ins → Prop
  | .new t => 0 < t.size ∧ t.size ≤ 1000000
  | .old a n => 0 < n ∧ a + n ≤ base.size
def bytesI (L : List Ins) : List UInt8 := L.flatMap insB
def outsI (base : ByteArray) (L : List Ins) : List UInt8 := L.flatMap (insO base)
def okI (base : ByteArray) (L : List Ins) : Prop := ∀ i ∈ L, insOk base i
theorem bytesI_app (L M : List Ins) : bytesI (L ++ M) = bytesI L ++ bytesI M := by unfold bytesI; rw [List.flatMap_append]
theorem outsI_app (base : ByteArray) (L M : List Ins) : outsI base (L ++ M) = outsI base L ++ outsI base M := by unfold outsI; rw [List.flatMap_append]
/-- New bytes, if there are any. -/
def newI (t : ByteArray) : List Ins := if t.size = 0 then [] else [.new t]
theorem newI_bytes (t : ByteArray) : bytesI (newI t) = addL t := by
  unfold newI
  split
  · rename_i h; unfold addL; rw [if_pos h]; rfl
  · unfold bytesI; simp [insB]
theorem newI_outs (base t : ByteArray) : outsI base (newI t) = t.data.toList := by
  unfold newI
  split
  · rename_i h
    have : t.data.toList = [] := List.length_eq_zero_iff.1 (by rw [dl_len]; exact h)
    rw [this]; rfl
  · unfold outsI; simp [insO]
theorem newI_ok (base t : ByteArray) (h : t.size ≤ 1000000) : okI base (newI t) := by
  intro i hi
  unfold newI at hi
  split at hi
  · cases hi
  · rw [List.mem_singleton.1 hi]; exact ⟨by omega, h⟩
theorem insB_le {base : ByteArray} {i : Ins} (h : insOk base i) : (insB i).length ≤ 15 * (insO base i).length := by
  cases i with
  | new t =>
    show (addL t).length ≤ 15 * t.data.toList.length
    have := encL_le2 t
    have h0 : 0 < t.size := h.1
    unfold addL
    rw [if_neg (by omega), List.length_cons, dl_len]; omega
  | old a n =>
    show (copL a n).length ≤ 15 * ((base.data.toList.drop a).take n).length
    have h0 : 0 < n ∧ a + n ≤ base.size := h
    have h1 := putL_len a; have h2 := putL_len n
    unfold copL
    rw [List.length_cons, List.length_append, List.length_take, List.length_drop, dl_len]; omega
theorem bytesI_le {base : ByteArray} : ∀ {L : List Ins}, okI base L → (bytesI L).length ≤ 15 * (outsI base L).length
  | [], _ => by simp [bytesI]
  | i :: L, h => by
    have h1 := insB_le (h i (by simp))
    have h2 := bytesI_le (L := L) (fun j hj => h j (by simp [hj]))
    have e1 : bytesI (i :: L) = insB i ++ bytesI L := rfl
    have e2 : outsI base (i :: L) = insO base i ++ outsI base L := rfl
    rw [e1, e2, List.length_append, List.length_append]; omega
theorem okI_app {base : ByteArray} {L M : List Ins} (h : okI base L) (k : okI base M) : okI base (L ++ M) := by
  intro i hi
  rcases List.mem_append.1 hi with h1 | h1
  · exact h i h1
  · exact k i h1
theorem Mt.of_ext {base target : ByteArray} {a i : Nat} (ha : a + 16 ≤ base.size) (hi : i + 16 ≤ target.size) (h : base.extract a (a + 16) = target.extract i (i + 16)) : Mt base target a i 16 := by
  refine ⟨ha, hi, fun j hj => ?_⟩
  have h1 := congrArg (fun x : ByteArray => x.data.toList[j]?) h
  simp only [ext_list] at h1
  rw [List.getElem?_take, List.getElem?_take, if_pos (by omega), if_pos (by omega), List.getElem?_drop, List.getElem?_drop, Array.getElem?_toList, Array.getElem?_toList] at h1
  exact h1
/-- What a match is. -/
theorem Mt.out {base target : ByteArray} {p q n : Nat} (h : Mt base target p q n) : (base.data.toList.drop p).take n = (target.data.toList.drop q).take n := by
  apply List.ext_getElem?
  intro j
  rw [List.getElem?_take, List.getElem?_take]
  split
  · rename_i hj
    rw [List.getElem?_drop, List.getElem?_drop, Array.getElem?_toList, Array.getElem?_toList]
    exact h.e j hj
  · rfl
theorem take_parts (l : List UInt8) (a b n : Nat) (h : a ≤ b) : l.take a ++ (l.drop a).take (b - a) ++ (l.drop b).take n = l.take (b + n) := by
  rw [← List.take_add, show a + (b - a) = b by omega, ← List.take_add]
/-- Where strings.Index has found a text, it is. -/
theorem index_at {s t : ByteArray} {k : Nat} (h : Lib.index s.data.toList t.data.toList = (k : Int)) : k + t.size ≤ s.size ∧ (s.data.toList.drop k).take t.size = t.data.toList := by
  have key : ∀ (l sub : List UInt8) (k : Nat), Lib.index l sub = (k : Int) → sub <+: l.drop k := by
    intro l
    induction l with
    | nil =>
      intro sub k hk
      unfold Lib.index at hk
      split at hk
      · rename_i he
        have : sub = [] := by cases sub <;> simp_all
        subst this; exact List.nil_prefix
      · omega
    | cons b l ih =>
      intro sub k hk
      unfold Lib.index at hk
      split at hk
      · rename_i hp
        have : k = 0 := by omega
        subst this; exact List.isPrefixOf_iff_prefix.1 hp
      · split at hk
        · omega
        · have := Lib.index_ge l sub
          rename_i hne
          have hne' : ¬ Lib.index l sub = -1 := fun e => hne (by rw [e]; rfl)
          obtain ⟨j, hj⟩ : ∃ j : Nat, Lib.index l sub = (j : Int) := ⟨(Lib.index l sub).toNat, by omega⟩
          have hkj : k = j + 1 := by omega
          subst hkj
          exact ih sub j hj
  have hp := key _ _ _ h
  have hl := hp.length_le
  have e := List.prefix_iff_eq_take.1 hp
  rw [dl_len] at e
  rw [List.length_drop, dl_len, dl_len] at hl
  by_cases h0 : t.size = 0
  · have hk : (Lib.index s.data.toList t.data.toList) ≤ s.data.toList.length := Lib.index_le _ _
    rw [h, dl_len] at hk
    exact ⟨by omega, e.symm⟩
  · exact ⟨by omega, e.symm⟩
end Go.Proofs.Ytmdhendfmhhniaa
