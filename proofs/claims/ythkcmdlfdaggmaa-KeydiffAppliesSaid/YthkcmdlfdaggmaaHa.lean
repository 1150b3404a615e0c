/- Keyed lists, plain facts: the order of keys, ascending lists, what a list says of a key, the keys of lists. -/
import Derived.Sort.Walk0
import Derived.WalkKit
set_option linter.unusedVariables false
set_option linter.unusedSimpArgs false
namespace Go.Proofs.Ythkcmdlfdaggmaa
open Go.RowKit

abbrev KvB := ByteArray × ByteArray
/-- A side: the value, and whether it is there. -/
abbrev SdB := ByteArray × Bool
def noB : ByteArray := ⟨#[]⟩
def sd0 : SdB := (noB, false)
def ltB (a b : ByteArray) : Prop := Op.bytesLess a.toList b.toList = true
instance (a b : ByteArray) : Decidable (ltB a b) := by unfold ltB; infer_instance
theorem ltB_iff (a b : ByteArray) : ltB a b ↔ a.toList < b.toList := by unfold ltB; rw [Go.Proofs.bytesLess_eq]; simp
theorem toL_inj {a b : ByteArray} (h : a.toList = b.toList) : a = b := by rw [ByteArray.toList_eq, ByteArray.toList_eq] at h; exact ByteArray.ext (Array.ext' h)
theorem ltB_trans {a b c : ByteArray} (h : ltB a b) (k : ltB b c) : ltB a c := by rw [ltB_iff] at *; exact List.lt_trans h k
theorem ltB_irrefl (a : ByteArray) : ¬ ltB a a := by rw [ltB_iff]; exact List.lt_irrefl _
theorem ltB_ne {a b : ByteArray} (h : ltB a b) : a ≠ b := fun e => ltB_irrefl a (by rw [← e] at h; exact h)
theorem ltB_tri {a b : ByteArray} (h : ¬ ltB a b) (h2 : a ≠ b) : ltB b a := by
  rw [ltB_iff] at *
  rcases Classical.em (b.toList < a.toList) with h3 | h3
  · exact h3
  · exact absurd (toL_inj (List.le_antisymm (List.not_lt.1 h3) (List.not_lt.1 h))) h2
abbrev Asc (l : List ByteArray) : Prop := l.Pairwise ltB
theorem Asc.nodup {l : List ByteArray} (h : Asc l) : l.Nodup := h.imp ltB_ne
/-- Two ascending lists with the same members are one. -/
theorem Asc.ext : ∀ {a b : List ByteArray}, Asc a → Asc b → (∀ s, s ∈ a ↔ s ∈ b) → a = b
  | [], [], _, _, _ => rfl
  | [], y :: b, _, _, h => by have := (h y).2 (List.mem_cons_self ..); simp at this
  | x :: a, [], _, _, h => by have := (h x).1 (List.mem_cons_self ..); simp at this
  | x :: a, y :: b, ha, hb, h => by
    obtain ⟨ha1, ha2⟩ := List.pairwise_cons.1 ha
    obtain ⟨hb1, hb2⟩ := List.pairwise_cons.1 hb
    have e : x = y := by
      rcases Classical.em (x = y) with e | e
      · exact e
      · have h1 := (h x).1 (List.mem_cons_self ..)
        have h2 := (h y).2 (List.mem_cons_self ..)
        rcases List.mem_cons.1 h1 with h1 | h1
        · exact absurd h1 e
        · rcases List.mem_cons.1 h2 with h2 | h2
          · exact absurd h2.symm e
          · exact absurd (ltB_trans (ha1 y h2) (hb1 x h1)) (ltB_irrefl x)
    subst e
    refine congrArg (x :: ·) (Asc.ext ha2 hb2 fun s => ⟨fun hs => ?_, fun hs => ?_⟩)
    · rcases List.mem_cons.1 ((h s).1 (List.mem_cons_of_mem _ hs)) with rfl | h'
      · exact absurd (ha1 _ hs) (ltB_irrefl _)
      · exact h'
    · rcases List.mem_cons.1 ((h s).2 (List.mem_cons_of_mem _ hs)) with rfl | h'
      · exact absurd (hb1 _ hs) (ltB_irrefl _)
      · exact h'
/-- The keys put in, one by one. -/
def insB (x : ByteArray) : List ByteArray → List ByteArray
  | [] => [x]
  | y :: l => if ltB y x then y :: insB x l else if y = x then y :: l else x :: y :: l
theorem mem_ins (x : ByteArray) : ∀ (l : List ByteArray) (s : ByteArray), s ∈ insB x l ↔ s = x ∨ s ∈ l
  | [], s => by simp [insB]
  | y :: l, s => by
    unfold insB
    split
    · rw [List.mem_cons, mem_ins x l s, List.mem_cons]
      constructor <;> (intro h; rcases h with h | h | h <;> simp [h])
    · split
      · rename_i e; subst e; simp
      · simp
theorem asc_ins (x : ByteArray) : ∀ (l : List ByteArray), Asc l → Asc (insB x l)
  | [], _ => by simp [insB, Asc]
  | y :: l, h => by
    obtain ⟨h1, h2⟩ := List.pairwise_cons.1 h
    unfold insB
    split
    · rename_i hlt
      refine List.pairwise_cons.2 ⟨fun s hs => ?_, asc_ins x l h2⟩
      rcases (mem_ins x l s).1 hs with rfl | hs
      · exact hlt
      · exact h1 s hs
    · split
      · exact h
      · rename_i hn hne
        have hxy := ltB_tri hn hne
        refine List.pairwise_cons.2 ⟨fun s hs => ?_, h⟩
        rcases List.mem_cons.1 hs with rfl | hs
        · exact hxy
        · exact ltB_trans hxy (h1 s hs)
def keyL (l : List ByteArray) : List ByteArray := l.foldl (fun out x => insB x out) []
theorem keyL_snoc (l : List ByteArray) (x : ByteArray) : keyL (l ++ [x]) = insB x (keyL l) := by unfold keyL; rw [List.foldl_append]; rfl
theorem fold_ins (l : List ByteArray) : ∀ out, Asc out → Asc (l.foldl (fun out x => insB x out) out) ∧ ∀ s, s ∈ l.foldl (fun out x => insB x out) out ↔ s ∈ l ∨ s ∈ out := by
  induction l with
  | nil => intro out h; exact ⟨h, fun s => by simp⟩
  | cons x l ih =>
    intro out h
    obtain ⟨h1, h2⟩ := ih (insB x out) (asc_ins x out h)
    refine ⟨h1, fun s => ?_⟩
    rw [List.foldl_cons, h2, mem_ins, List.mem_cons]
    constructor
    · rintro (h | h | h)
      · exact .inl (.inr h)
      · exact .inl (.inl h)
      · exact .inr h
    · rintro ((h | h) | h)
      · exact .inr (.inl h)
      · exact .inl h
      · exact .inr (.inr h)
theorem asc_keyL (l : List ByteArray) : Asc (keyL l) := (fold_ins l [] List.Pairwise.nil).1
theorem mem_keyL (l : List ByteArray) (s : ByteArray) : s ∈ keyL l ↔ s ∈ l := by unfold keyL; rw [(fold_ins l [] List.Pairwise.nil).2]; simp
theorem keyL_of_asc {l k : List ByteArray} (h : Asc k) (hm : ∀ s, s ∈ k ↔ s ∈ l) : k = keyL l := h.ext (asc_keyL l) fun s => by rw [hm, mem_keyL]
theorem keyL_asc {l : List ByteArray} (h : Asc l) : keyL l = l := (keyL_of_asc h fun _ => Iff.rfl).symm
theorem keyL_same {l m : List ByteArray} (h : ∀ s, s ∈ l ↔ s ∈ m) : keyL l = keyL m := keyL_of_asc (asc_keyL l) fun s => by rw [mem_keyL]; exact h s
theorem insB_len (x : ByteArray) : ∀ l : List ByteArray, (insB x l).length ≤ l.length + 1
  | [] => Nat.le_refl _
  | y :: l => by
    unfold insB
    split
    · rw [List.length_cons, List.length_cons]; exact Nat.succ_le_succ (insB_len x l)
    · split <;> simp
theorem keyL_len (l : List ByteArray) : (keyL l).length ≤ l.length := by
  suffices h : ∀ out : List ByteArray, (l.foldl (fun out x => insB x out) out).length ≤ out.length + l.length by have := h []; unfold keyL; simpa using this
  induction l with
  | nil => intro out; exact Nat.le_refl _
  | cons x l ih => intro out; rw [List.foldl_cons, List.length_cons]; have := ih (insB x out); have := insB_len x out; omega
def itB (l : List ByteArray) (i : Nat) : ByteArray := l.getD i ⟨#[]⟩
theorem take_get {α : Type} {l : List α} {k : Nat} {x : α} (h : l[k]? = some x) : l.take (k + 1) = l.take k ++ [x] := by
  rw [List.take_add_one, h]; rfl
/-! Lists of items. -/
abbrev ksK (l : List KvB) : List ByteArray := l.map (·.1)
abbrev RightK (l : List KvB) : Prop := Asc (ksK l)
def sayK (l : List KvB) (s : ByteArray) : SdB := match l.find? (fun p => decide (p.1 = s)) with | some p => (p.2, true) | none => sd0
theorem say_nil (s : ByteArray) : sayK [] s = sd0 := rfl
theorem say_cons (p : KvB) (l : List KvB) (s : ByteArray) : sayK (p :: l) s = if p.1 = s then (p.2, true) else sayK l s := by
  unfold sayK; rw [List.find?_cons]
  by_cases h : p.1 = s <;> simp [h]
theorem say_there {l : List KvB} {s : ByteArray} : (sayK l s).2 = true ↔ s ∈ ksK l := by
  induction l with
  | nil => simp [say_nil, sd0]
  | cons p l ih =>
    rw [say_cons, show ksK (p :: l) = p.1 :: ksK l from rfl, List.mem_cons, ← ih]
    by_cases h : p.1 = s
    · rw [if_pos h]; simp [h]
    · rw [if_neg h]
      constructor
      · exact .inr
      · rintro (e | e)
        · exact absurd e.symm h
        · exact e
theorem say_not {l : List KvB} {s : ByteArray} (h : s ∉ ksK l) : sayK l s = sd0 := by
  induction l with
  | nil => rfl
  | cons p l ih =>
    rw [show ksK (p :: l) = p.1 :: ksK l from rfl, List.mem_cons, not_or] at h
    rw [say_cons, if_neg (fun e => h.1 e.symm), ih h.2]
theorem say_mem {l : List KvB} (h : RightK l) {p : KvB} (hp : p ∈ l) : sayK l p.1 = (p.2, true) := by
  induction l with
  | nil => cases hp
  | cons q l ih =>
    obtain ⟨h1, h2⟩ := List.pairwise_cons.1 h
    rw [say_cons]
    rcases List.mem_cons.1 hp with rfl | hp
    · rw [if_pos rfl]
    · rw [if_neg (ltB_ne (h1 p.1 (List.mem_map_of_mem hp))), ih h2 hp]
theorem say_possible (l : List KvB) (s : ByteArray) : (sayK l s).2 = false → (sayK l s).1 = noB := by
  intro h
  rw [say_not (fun hm => by rw [say_there.2 hm] at h; cases h)]; rfl
/-- The list with these sides, for these keys. -/
def itemK (ks : List ByteArray) (U : ByteArray → SdB) : List KvB := (ks.filter fun s => (U s).2).map fun s => (s, (U s).1)
theorem item_keys (ks : List ByteArray) (U : ByteArray → SdB) : ksK (itemK ks U) = ks.filter fun s => (U s).2 := by unfold itemK ksK; rw [List.map_map]; exact List.map_id _
theorem item_right {ks : List ByteArray} (U : ByteArray → SdB) (h : Asc ks) : RightK (itemK ks U) := by unfold RightK; rw [item_keys]; exact h.filter _
theorem item_say {ks : List ByteArray} {U : ByteArray → SdB} (h : Asc ks) (hU : ∀ s, (U s).2 = false → (U s).1 = noB) {s : ByteArray} (hs : s ∈ ks) : sayK (itemK ks U) s = U s := by
  cases hb : (U s).2 with
  | true =>
    have hm : (s, (U s).1) ∈ itemK ks U := by unfold itemK; exact List.mem_map_of_mem (f := fun s => (s, (U s).1)) (List.mem_filter.2 ⟨hs, hb⟩)
    rw [say_mem (item_right U h) hm, ← hb]
  | false =>
    rw [say_not (fun hm => by rw [item_keys, List.mem_filter, hb] at hm; cases hm.2)]
    show (noB, false) = U s
    rw [← hU s hb, ← hb]
theorem item_say_not {ks : List ByteArray} {U : ByteArray → SdB} {s : ByteArray} (hs : s ∉ ks) : sayK (itemK ks U) s = sd0 :=
  say_not fun hm => by rw [item_keys, List.mem_filter] at hm; exact hs hm.1
/-- Two lists that say the same are one. -/
theorem RightK.ext {a b : List KvB} (ha : RightK a) (hb : RightK b) (h : ∀ s, sayK a s = sayK b s) : a = b := by
  have hk : ksK a = ksK b := Asc.ext ha hb fun s => by rw [← say_there, ← say_there, h]
  refine List.ext_getElem? fun i => ?_
  have e := congrArg (·[i]?) hk
  simp only [List.getElem?_map] at e
  cases h1 : a[i]? with
  | none => cases h2 : b[i]? with
    | none => rfl
    | some q => rw [h1, h2] at e; cases e
  | some p => cases h2 : b[i]? with
    | none => rw [h1, h2] at e; cases e
    | some q =>
      rw [h1, h2] at e
      have e1 : p.1 = q.1 := by simpa using e
      have ea := say_mem ha (List.mem_of_getElem? h1)
      have eb := say_mem hb (List.mem_of_getElem? h2)
      rw [h, e1, eb] at ea
      have e2 : q.2 = p.2 := congrArg Prod.fst ea
      rw [show p = q from Prod.ext e1 e2.symm]
theorem item_of {a : List KvB} {ks : List ByteArray} {U : ByteArray → SdB} (ha : RightK a) (hk : Asc ks) (hU : ∀ s, s ∈ ks → U s = sayK a s) (hm : ∀ s, s ∈ ksK a → s ∈ ks) : itemK ks U = a := by
  have e : itemK ks U = itemK ks (sayK a) := by
    unfold itemK
    rw [List.filter_congr (fun s hs => by rw [hU s hs])]
    exact List.map_congr_left fun s hs => by rw [hU s (List.mem_filter.1 hs).1]
  rw [e]
  refine (item_right _ hk).ext ha fun s => ?_
  rcases Classical.em (s ∈ ks) with h | h
  · exact item_say hk (say_possible a) h
  · rw [item_say_not h, say_not (fun h' => h (hm s h'))]
/-- The keys of lists. -/
def keysOf (L : List (List KvB)) : List ByteArray := keyL (L.flatMap ksK)
theorem asc_keysOf (L : List (List KvB)) : Asc (keysOf L) := asc_keyL _
theorem mem_keysOf (L : List (List KvB)) (s : ByteArray) : s ∈ keysOf L ↔ ∃ l ∈ L, s ∈ ksK l := by unfold keysOf; rw [mem_keyL, List.mem_flatMap]
end Go.Proofs.Ythkcmdlfdaggmaa
