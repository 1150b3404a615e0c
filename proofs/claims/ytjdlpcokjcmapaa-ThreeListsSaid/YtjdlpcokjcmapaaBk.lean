/- Three texts: what Lines makes, as data. -/
import Derived.Test.YtjdlpcokjcmapaaBj
import Derived.Test.YtjdlpcokjcmapaaLt
set_option linter.unusedVariables false
set_option linter.unusedSimpArgs false
namespace Go.Proofs.Ytjdlpcokjcmapaa
open Go.RowKit Go.Maps Go.WideShapes
variable {w w' : World}

/-- Each place that is told lies behind those told ahead, and below m. -/
def IncL (m : Nat) : Nat → List Int → Prop
  | _, [] => True
  | j, x :: r => (x = -1 ∧ IncL m j r) ∨ ∃ y : Nat, x = (y : Int) ∧ j ≤ y ∧ y < m ∧ IncL m (y + 1) r
theorem IncL.mono {m : Nat} : ∀ {L : List Int} {j j' : Nat}, IncL m j L → j' ≤ j → IncL m j' L
  | [], _, _, _, _ => trivial
  | x :: r, j, j', h, hj => h.elim (fun ⟨a, b⟩ => Or.inl ⟨a, b.mono hj⟩) (fun ⟨y, a, b, c, d⟩ => Or.inr ⟨y, a, by omega, c, d⟩)
theorem inc_of (a b : List ByteArray) : ∀ (f i j : Nat), i ≤ a.length → j ≤ b.length → (a.length - i) + (b.length - j) ≤ f → IncL b.length j ((edI a b i j).flatMap mtJ) := by
  intro f
  induction f with
  | zero =>
    intro i j hi hj hf
    rw [edI_end (by omega) (by omega)]; exact trivial
  | succ f ih =>
    intro i j hi hj hf
    by_cases h1 : i < a.length
    · by_cases h2 : j < b.length
      · cases e : eqB a b i j with
        | true =>
          rw [edI_keep h1 h2 e, List.flatMap_cons]
          exact Or.inr ⟨j, rfl, Nat.le_refl _, h2, ih (i + 1) (j + 1) (by omega) (by omega) (by omega)⟩
        | false =>
          rcases Nat.lt_or_ge (cmI (eqB a b) a.length b.length (i + 1) j) (cmI (eqB a b) a.length b.length i (j + 1)) with hc | hc
          · rw [edI_add h1 h2 e hc, List.flatMap_cons]
            exact (ih i (j + 1) (by omega) (by omega) (by omega)).mono (Nat.le_succ _)
          · rw [edI_drop h1 h2 e hc, List.flatMap_cons]
            exact Or.inl ⟨rfl, ih (i + 1) j (by omega) (by omega) (by omega)⟩
      · obtain rfl : j = b.length := by omega
        rw [edI_dropEnd h1, List.flatMap_cons]
        exact Or.inl ⟨rfl, ih (i + 1) b.length (by omega) (by omega) (by omega)⟩
    · by_cases h2 : j < b.length
      · rw [edI_addEnd (by omega) h2, List.flatMap_cons]
        exact (ih i (j + 1) (by omega) (by omega) (by omega)).mono (Nat.le_succ _)
      · rw [edI_end (by omega) (by omega)]; exact trivial
theorem match_inc (a b : List ByteArray) : IncL b.length 0 (matchL a b) := inc_of a b _ 0 0 (Nat.zero_le _) (Nat.zero_le _) (Nat.le_refl _)
/-- From place i to place n. -/
def cutL (l : List ByteArray) (i n : Nat) : List ByteArray := (l.take n).drop i
theorem cut_len {l : List ByteArray} {i n : Nat} (h : n ≤ l.length) : (cutL l i n).length = n - i := by unfold cutL; rw [List.length_drop, List.length_take, Nat.min_eq_left h]
theorem tx_cut {o : Option Addr} {l : List ByteArray} {i n c : Nat} (hT : TxAt w o l) (hi : i ≤ n) (hn : n ≤ l.length) (hc : l.length ≤ c) : TxAt w (if c = i then o else o.map (fun x => x.add i)) (cutL l i n) := fun k hk => by
  rw [cut_len hn] at hk
  have hci : ¬ c = i := by omega
  rw [if_neg hci]
  obtain ⟨h1, b, j, ho, hc2⟩ := hT (i + k) (by omega)
  have e : itB (cutL l i n) k = itB l (i + k) := by
    unfold itB cutL
    rw [List.getD_eq_getElem?_getD, List.getD_eq_getElem?_getD, List.getElem?_drop, List.getElem?_take, if_pos (by omega)]
  rw [e]
  refine ⟨h1, b, j + i, by rw [ho]; simp [Addr.add_mid], by rw [Nat.add_assoc]; exact hc2⟩
/-- What the loop has made: where the next piece begins in each list, what is made, how many hunks there are. -/
abbrev LnSt := (Nat × Nat × Nat) × (List ByteArray × Nat)
def lnStp (B O T : List ByteArray) (n : Nat) (p q : Int) (s : LnSt) : LnSt :=
  if p < 0 ∨ q < 0 then s else ((n + 1, p.toNat + 1, q.toNat + 1), (pcO s.2.1 (cutL B s.1.1 n) (cutL O s.1.2.1 p.toNat) (cutL T s.1.2.2 q.toNat) ++ [itB B n], pcN s.2.2 (cutL B s.1.1 n) (cutL O s.1.2.1 p.toNat) (cutL T s.1.2.2 q.toNat)))
def lnF (B O T : List ByteArray) : Nat → LnSt
  | 0 => ((0, 0, 0), ([], 0))
  | n + 1 => lnStp B O T n ((matchL B O).getD n 0) ((matchL B T).getD n 0) (lnF B O T n)
/-- At the end: what is made, and how many hunks. -/
def lnE (B O T : List ByteArray) : List ByteArray × Nat :=
  (pcO (lnF B O T B.length).2.1 (cutL B (lnF B O T B.length).1.1 B.length) (cutL O (lnF B O T B.length).1.2.1 O.length) (cutL T (lnF B O T B.length).1.2.2 T.length),
   pcN (lnF B O T B.length).2.2 (cutL B (lnF B O T B.length).1.1 B.length) (cutL O (lnF B O T B.length).1.2.1 O.length) (cutL T (lnF B O T B.length).1.2.2 T.length))
def linesO (B O T : List ByteArray) : List ByteArray := if (lnE B O T).2 = 0 then (lnE B O T).1 else []
theorem pcO_len (out S X Y : List ByteArray) : (pcO out S X Y).length ≤ out.length + X.length + Y.length := by
  unfold pcO; split
  · rw [List.length_append]; omega
  · split
    · rw [List.length_append]; omega
    · omega
theorem pcN_le (n : Nat) (S X Y : List ByteArray) : pcN n S X Y ≤ n + 1 := by unfold pcN; split <;> (try split) <;> omega
/-- What holds of it ahead of place n. -/
structure LnOk (B O T : List ByteArray) (n : Nat) (s : LnSt) : Prop where
  i : s.1.1 ≤ n
  j : s.1.2.1 ≤ O.length
  k : s.1.2.2 ≤ T.length
  p : IncL O.length s.1.2.1 ((matchL B O).drop n)
  q : IncL T.length s.1.2.2 ((matchL B T).drop n)
  len : s.2.1.length ≤ s.1.2.1 + s.1.2.2 + n
  num : s.2.2 ≤ n
theorem drop_getD {l : List Int} {n : Nat} (h : n < l.length) : l.drop n = l.getD n 0 :: l.drop (n + 1) := by
  rw [List.drop_eq_getElem_cons h, List.getD_eq_getElem?_getD, List.getElem?_eq_getElem h]; rfl
theorem LnOk.zero (B O T : List ByteArray) : LnOk B O T 0 ((0, 0, 0), ([], 0)) :=
  ⟨Nat.le_refl _, Nat.zero_le _, Nat.zero_le _, by rw [List.drop_zero]; exact match_inc B O, by rw [List.drop_zero]; exact match_inc B T, by simp, Nat.le_refl _⟩
/-- The places told at n, if both are. -/
theorem LnOk.told {B O T : List ByteArray} {n : Nat} {s : LnSt} (h : LnOk B O T n s) (hn : n < B.length) :
    ((matchL B O).getD n 0 = -1 ∨ ∃ x : Nat, (matchL B O).getD n 0 = (x : Int) ∧ s.1.2.1 ≤ x ∧ x < O.length ∧ IncL O.length (x + 1) ((matchL B O).drop (n + 1))) ∧
    ((matchL B T).getD n 0 = -1 ∨ ∃ y : Nat, (matchL B T).getD n 0 = (y : Int) ∧ s.1.2.2 ≤ y ∧ y < T.length ∧ IncL T.length (y + 1) ((matchL B T).drop (n + 1))) := by
  have hp := h.p; have hq := h.q
  rw [drop_getD (by rw [match_len]; exact hn)] at hp hq
  exact ⟨hp.elim (fun a => Or.inl a.1) (fun ⟨y, a, b, c, d⟩ => Or.inr ⟨y, a, b, c, d⟩), hq.elim (fun a => Or.inl a.1) (fun ⟨y, a, b, c, d⟩ => Or.inr ⟨y, a, b, c, d⟩)⟩
theorem IncL.skip {m j : Nat} {x : Int} {r : List Int} (h : IncL m j (x :: r)) : IncL m j r := h.elim (fun a => a.2) (fun ⟨y, a, b, c, d⟩ => d.mono (by omega))
theorem LnOk.next {B O T : List ByteArray} {n : Nat} {s : LnSt} (h : LnOk B O T n s) (hn : n < B.length) : LnOk B O T (n + 1) (lnStp B O T n ((matchL B O).getD n 0) ((matchL B T).getD n 0) s) := by
  obtain ⟨h1, h2⟩ := h.told hn
  have hp := h.p; have hq := h.q
  rw [drop_getD (by rw [match_len]; exact hn)] at hp hq
  have hl := h.len; have hnm := h.num; have hi := h.i
  unfold lnStp
  rcases h1 with h1 | ⟨x, h1, x1, x2, x3⟩
  · rw [if_pos (by left; omega)]
    exact ⟨by omega, h.j, h.k, hp.skip, hq.skip, by omega, by omega⟩
  · rcases h2 with h2 | ⟨y, h2, y1, y2, y3⟩
    · rw [if_pos (by right; omega)]
      exact ⟨by omega, h.j, h.k, hp.skip, hq.skip, by omega, by omega⟩
    · rw [if_neg (by omega), h1, h2]
      simp only [Int.toNat_natCast]
      refine ⟨Nat.le_refl _, x2, y2, x3, y3, ?_, ?_⟩
      · have h3 := pcO_len s.2.1 (cutL B s.1.1 n) (cutL O s.1.2.1 x) (cutL T s.1.2.2 y)
        rw [cut_len (Nat.le_of_lt x2), cut_len (Nat.le_of_lt y2)] at h3
        simp only [List.length_append, List.length_cons, List.length_nil]
        omega
      · have := pcN_le s.2.2 (cutL B s.1.1 n) (cutL O s.1.2.1 x) (cutL T s.1.2.2 y)
        dsimp only; omega
theorem lnF_ok (B O T : List ByteArray) : ∀ n, n ≤ B.length → LnOk B O T n (lnF B O T n)
  | 0, _ => LnOk.zero B O T
  | n + 1, h => (lnF_ok B O T n (by omega)).next (by omega)
end Go.Proofs.Ytjdlpcokjcmapaa
