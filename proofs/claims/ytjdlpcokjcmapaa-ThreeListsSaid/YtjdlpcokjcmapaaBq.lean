/- Three lists: the sides in the other order, as data. -/
import Derived.Test.YtjdlpcokjcmapaaBm
set_option linter.unusedVariables false
set_option linter.unusedSimpArgs false
namespace Go.Proofs.Ytjdlpcokjcmapaa
open Go.RowKit Go.Maps Go.WideShapes
variable {w w' : World}

theorem set_once (l : List ByteArray) : (setL l).Nodup := by
  refine rev_ind (P := fun l => (setL l).Nodup) (by simp [setL]) (fun l x ih => ?_) l
  rw [setL_snoc]
  unfold numK
  cases h : inB (setL l) x with
  | true => exact ih
  | false => exact nodup_snoc.2 ⟨ih, h⟩
/-- What both lists have, in the first one's order. -/
def comL (x y : List ByteArray) : List ByteArray := x.filter (inB y)
theorem in_false {l : List ByteArray} {s : ByteArray} : inB l s = false ↔ s ∉ l := by
  rw [← in_iff l s]; cases inB l s <;> simp
theorem com_both {a : ByteArray} {x y : List ByteArray} (hx : (a :: x).Nodup) : comL (a :: x) (a :: y) = a :: comL x y := by
  unfold comL
  rw [List.filter_cons, if_pos (by rw [in_cons]; simp)]
  congr 1
  refine List.filter_congr fun s hs => ?_
  rw [in_cons]
  have : a ≠ s := fun e => (List.nodup_cons.1 hx).1 (e ▸ hs)
  rw [decide_eq_false this, Bool.false_or]
theorem com_left {a : ByteArray} {x y : List ByteArray} (h : inB y a = false) : comL (a :: x) y = comL x y := by
  unfold comL; rw [List.filter_cons, if_neg (by rw [h]; simp)]
theorem com_other {a : ByteArray} {x y : List ByteArray} (h : inB y a = false) : comL y (a :: x) = comL y x := by
  unfold comL
  refine List.filter_congr fun s hs => ?_
  rw [in_cons]
  have : a ≠ s := fun e => (in_false.1 h) (e ▸ hs)
  rw [decide_eq_false this, Bool.false_or]
theorem com_none (x : List ByteArray) : comL x [] = [] := by
  unfold comL; rw [List.filter_eq_nil_iff]; intro s _; simp [inB]
theorem cons_ok (a : ByteArray) (r : List ByteArray × List ByteArray) : (consW a r).2 = [] ↔ r.2 = [] := by
  unfold consW; by_cases h : r.2 = [] <;> simp [h]
/-- They are woven just where what both have stands in one order. -/
theorem wv_iff : ∀ (n : Nat) (x y : List ByteArray), x.length + y.length ≤ n → x.Nodup → y.Nodup → ((wv x y).2 = [] ↔ comL x y = comL y x) := by
  intro n
  induction n with
  | zero =>
    intro x y hl _ _
    cases x with
    | nil => rw [wv_nil]; simp [comL, inB]
    | cons a x => simp at hl
  | succ n ih =>
    intro x y hl hx hy
    cases x with
    | nil => rw [wv_nil]; simp [comL, inB]
    | cons a x =>
      cases y with
      | nil => rw [wv_nil2]; simp [comL, inB]
      | cons b y =>
        have hx2 := (List.nodup_cons.1 hx).2
        have hy2 := (List.nodup_cons.1 hy).2
        simp at hl
        by_cases e : a = b
        · subst e
          rw [wv_both, cons_ok, com_both hx, com_both hy, ih x y (by omega) hx2 hy2]; simp
        · cases h2 : inB (b :: y) a with
          | false =>
            rw [wv_left e h2, cons_ok, com_left h2, com_other h2, ih x (b :: y) (by simp; omega) hx2 hy]
          | true =>
            cases h3 : inB (a :: x) b with
            | false => rw [wv_right e h2 h3, cons_ok, com_left (a := b) h3, com_other (a := b) h3, ih (a :: x) y (by simp; omega) hx hy2]
            | true =>
              rw [wv_cross e h2 h3]
              constructor
              · intro h; cases h
              · intro h
                have e1 : comL (a :: x) (b :: y) = a :: (x.filter (inB (b :: y))) := by unfold comL; rw [List.filter_cons, if_pos h2]
                have e2 : comL (b :: y) (a :: x) = b :: (y.filter (inB (a :: x))) := by unfold comL; rw [List.filter_cons, if_pos h3]
                rw [e1, e2] at h
                injection h with h
                exact absurd h e
theorem cons_fst {a : ByteArray} {r : List ByteArray × List ByteArray} (h : r.2 = []) : (consW a r).1 = a :: r.1 := by unfold consW; rw [if_pos h]
theorem wv_mem : ∀ (n : Nat) (x y : List ByteArray), x.length + y.length ≤ n → (wv x y).2 = [] → ∀ s, s ∈ (wv x y).1 ↔ s ∈ x ∨ s ∈ y := by
  intro n
  induction n with
  | zero =>
    intro x y hl h s
    cases x with
    | nil => rw [wv_nil]; simp
    | cons a x => simp at hl
  | succ n ih =>
    intro x y hl h s
    cases x with
    | nil => rw [wv_nil]; simp
    | cons a x =>
      cases y with
      | nil => rw [wv_nil2]; simp
      | cons b y =>
        simp at hl
        by_cases e : a = b
        · subst e
          rw [wv_both] at h ⊢
          have h' := (cons_ok _ _).1 h
          rw [cons_fst h', List.mem_cons, ih x y (by omega) h' s, List.mem_cons, List.mem_cons]
          constructor
          · rintro (h | h | h)
            · exact Or.inl (Or.inl h)
            · exact Or.inl (Or.inr h)
            · exact Or.inr (Or.inr h)
          · rintro ((h | h) | (h | h))
            · exact Or.inl h
            · exact Or.inr (Or.inl h)
            · exact Or.inl h
            · exact Or.inr (Or.inr h)
        · cases h2 : inB (b :: y) a with
          | false =>
            rw [wv_left e h2] at h ⊢
            have h' := (cons_ok _ _).1 h
            rw [cons_fst h', List.mem_cons, ih x (b :: y) (by simp; omega) h' s, List.mem_cons (a := s) (b := a)]
            constructor
            · rintro (h | h | h)
              · exact Or.inl (Or.inl h)
              · exact Or.inl (Or.inr h)
              · exact Or.inr h
            · rintro ((h | h) | h)
              · exact Or.inl h
              · exact Or.inr (Or.inl h)
              · exact Or.inr (Or.inr h)
          | true =>
            cases h3 : inB (a :: x) b with
            | false =>
              rw [wv_right e h2 h3] at h ⊢
              have h' := (cons_ok _ _).1 h
              rw [cons_fst h', List.mem_cons, ih (a :: x) y (by simp; omega) h' s, List.mem_cons (a := s) (b := b)]
              constructor
              · rintro (h | h | h)
                · exact Or.inr (Or.inl h)
                · exact Or.inl h
                · exact Or.inr (Or.inr h)
              · rintro (h | h | h)
                · exact Or.inr (Or.inl h)
                · exact Or.inl h
                · exact Or.inr (Or.inr h)
            | true => rw [wv_cross e h2 h3] at h; cases h
theorem wv_once : ∀ (n : Nat) (x y : List ByteArray), x.length + y.length ≤ n → x.Nodup → y.Nodup → (wv x y).1.Nodup := by
  intro n
  induction n with
  | zero =>
    intro x y hl hx hy
    cases x with
    | nil => rw [wv_nil]; exact hy
    | cons a x => simp at hl
  | succ n ih =>
    intro x y hl hx hy
    cases x with
    | nil => rw [wv_nil]; exact hy
    | cons a x =>
      cases y with
      | nil => rw [wv_nil2]; exact hx
      | cons b y =>
        simp at hl
        have hx2 := List.nodup_cons.1 hx
        have hy2 := List.nodup_cons.1 hy
        have put : ∀ (c : ByteArray) (u v : List ByteArray), u.length + v.length ≤ n → c ∉ u → c ∉ v → (wv u v).1.Nodup → (consW c (wv u v)).1.Nodup := fun c u v hl hu hv h => by
          unfold consW
          by_cases h0 : (wv u v).2 = []
          · rw [if_pos h0]
            refine List.nodup_cons.2 ⟨fun hm => ?_, h⟩
            rcases (wv_mem n u v hl h0 c).1 hm with h1 | h1
            · exact hu h1
            · exact hv h1
          · rw [if_neg h0]; exact h
        by_cases e : a = b
        · subst e
          rw [wv_both]
          exact put a x y (by omega) hx2.1 hy2.1 (ih x y (by omega) hx2.2 hy2.2)
        · cases h2 : inB (b :: y) a with
          | false =>
            rw [wv_left e h2]
            exact put a x (b :: y) (by simp; omega) hx2.1 (in_false.1 h2) (ih x (b :: y) (by simp; omega) hx2.2 hy)
          | true =>
            cases h3 : inB (a :: x) b with
            | false =>
              rw [wv_right e h2 h3]
              exact put b (a :: x) y (by simp; omega) (in_false.1 h3) hy2.1 (ih (a :: x) y (by simp; omega) hx hy2.2)
            | true => rw [wv_cross e h2 h3]; exact List.nodup_nil
theorem wv_two : ∀ (n : Nat) (x y : List ByteArray), x.length + y.length ≤ n → (wv x y).2 ≠ [] → (wv x y).1 = [] ∧ (wv x y).2.length = 2 := by
  intro n
  induction n with
  | zero =>
    intro x y hl h
    cases x with
    | nil => rw [wv_nil] at h; exact absurd rfl h
    | cons a x => simp at hl
  | succ n ih =>
    intro x y hl h
    have hcons : ∀ c r, (consW c r).2 ≠ [] → (r.2 ≠ [] → r.1 = [] ∧ r.2.length = 2) → (consW c r).1 = [] ∧ (consW c r).2.length = 2 := fun c r h1 h2 => by
      unfold consW at h1 ⊢
      by_cases h3 : r.2 = []
      · rw [if_pos h3] at h1; exact absurd rfl h1
      · rw [if_neg h3]; exact h2 h3
    cases x with
    | nil => rw [wv_nil] at h; exact absurd rfl h
    | cons a x =>
      cases y with
      | nil => rw [wv_nil2] at h; exact absurd rfl h
      | cons b y =>
        simp at hl
        by_cases e : a = b
        · subst e; rw [wv_both] at h ⊢; exact hcons _ _ h (ih x y (by omega))
        · cases h2 : inB (b :: y) a with
          | false => rw [wv_left e h2] at h ⊢; exact hcons _ _ h (ih x (b :: y) (by simp; omega))
          | true =>
            cases h3 : inB (a :: x) b with
            | false => rw [wv_right e h2 h3] at h ⊢; exact hcons _ _ h (ih (a :: x) y (by simp; omega))
            | true => rw [wv_cross e h2 h3]; exact ⟨rfl, rfl⟩
theorem lists_ok {B O T : List ByteArray} (hB : B.Nodup) (hO : O.Nodup) (hT : T.Nodup) : listsL B O T = if O = T ∨ T = B then (O, [], 0) else if O = B then (T, [], 0) else ((wv (stayL B T O) (stayL B O T)).1, (wv (stayL B T O) (stayL B O T)).2, 0) := by
  unfold listsL; rw [if_neg (fun h => h ⟨hB, hO, hT⟩)]
/-- In the other order the same items come, or two again. -/
theorem wv_turn {x y : List ByteArray} (hx : x.Nodup) (hy : y.Nodup) : (wv x y).1.length = (wv y x).1.length ∧ (wv x y).2.length = (wv y x).2.length ∧ ∀ s ∈ (wv x y).1, s ∈ (wv y x).1 := by
  have i1 := wv_iff _ x y (Nat.le_refl _) hx hy
  have i2 := wv_iff _ y x (Nat.le_refl _) hy hx
  by_cases h : (wv x y).2 = []
  · have h' : (wv y x).2 = [] := i2.2 (i1.1 h).symm
    have m1 := wv_mem _ x y (Nat.le_refl _) h
    have m2 := wv_mem _ y x (Nat.le_refl _) h'
    have n1 := wv_once _ x y (Nat.le_refl _) hx hy
    have n2 := wv_once _ y x (Nat.le_refl _) hy hx
    have hm : ∀ s, s ∈ (wv x y).1 ↔ s ∈ (wv y x).1 := fun s => by rw [m1, m2]; exact Or.comm
    exact ⟨((List.perm_ext_iff_of_nodup n1 n2).2 hm).length_eq, by rw [h, h'], fun s hs => (hm s).1 hs⟩
  · have h' : (wv y x).2 ≠ [] := fun h2 => h (i1.2 (i2.1 h2).symm)
    have t1 := wv_two _ x y (Nat.le_refl _) h
    have t2 := wv_two _ y x (Nat.le_refl _) h'
    exact ⟨by rw [t1.1, t2.1], by rw [t1.2, t2.2], fun s hs => by rw [t1.1] at hs; cases hs⟩
theorem lists_turn {B O T : List ByteArray} (hB : B.Nodup) (hO : O.Nodup) (hT : T.Nodup) : (listsL B O T).2.2 = 0 ∧ (listsL B T O).2.2 = 0 ∧ (listsL B O T).1.length = (listsL B T O).1.length ∧ (listsL B O T).2.1.length = (listsL B T O).2.1.length ∧ ∀ s ∈ (listsL B O T).1, s ∈ (listsL B T O).1 := by
  rw [lists_ok hB hO hT, lists_ok hB hT hO]
  by_cases h1 : O = T
  · subst h1
    exact ⟨by rw [if_pos (Or.inl rfl)], by rw [if_pos (Or.inl rfl)], rfl, rfl, fun s hs => hs⟩
  · by_cases h2 : T = B
    · have h3 : ¬ O = B := fun e => h1 (e.trans h2.symm)
      rw [if_pos (Or.inr h2), if_neg (fun h => h.elim (fun e => h1 e.symm) h3), if_pos h2]
      exact ⟨rfl, rfl, rfl, rfl, fun s hs => hs⟩
    · by_cases h3 : O = B
      · rw [if_neg (fun h => h.elim h1 h2), if_pos h3, if_pos (Or.inr h3)]
        exact ⟨rfl, rfl, rfl, rfl, fun s hs => hs⟩
      · rw [if_neg (fun h => h.elim h1 h2), if_neg h3, if_neg (fun h => h.elim (fun e => h1 e.symm) h3), if_neg h2]
        obtain ⟨a, b, c⟩ := wv_turn (x := stayL B T O) (y := stayL B O T) (Nodup.keep hO) (Nodup.keep hT)
        exact ⟨rfl, rfl, a, b, c⟩
end Go.Proofs.Ytjdlpcokjcmapaa
