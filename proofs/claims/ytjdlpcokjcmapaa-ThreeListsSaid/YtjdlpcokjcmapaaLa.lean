/- Lists' edits, as plain data: what two lists have in common, the edits by the page, edits applied. -/
import Derived.Lib.Hide
set_option linter.unusedVariables false
set_option linter.unusedSimpArgs false
namespace Go.Proofs.Ytjdlpcokjcmapaa

/-- How many items there are in common from two places on; E: are the items at two places alike? -/
def cmI (E : Nat → Nat → Bool) (n m : Nat) (i j : Nat) : Nat :=
  if i < n ∧ j < m then
    if E i j then cmI E n m (i + 1) (j + 1) + 1 else max (cmI E n m (i + 1) j) (cmI E n m i (j + 1))
  else 0
termination_by (n - i) + (m - j)
theorem cmI_end {E : Nat → Nat → Bool} {n m i j : Nat} (h : ¬ (i < n ∧ j < m)) : cmI E n m i j = 0 := by unfold cmI; rw [if_neg h]
theorem cmI_same {E : Nat → Nat → Bool} {n m i j : Nat} (h : i < n) (h2 : j < m) (e : E i j = true) : cmI E n m i j = cmI E n m (i + 1) (j + 1) + 1 := by
  conv => lhs; unfold cmI
  rw [if_pos ⟨h, h2⟩, if_pos e]
theorem cmI_other {E : Nat → Nat → Bool} {n m i j : Nat} (h : i < n) (h2 : j < m) (e : E i j = false) : cmI E n m i j = max (cmI E n m (i + 1) j) (cmI E n m i (j + 1)) := by
  conv => lhs; unfold cmI
  rw [if_pos ⟨h, h2⟩, if_neg (by simp [e])]
theorem cmI_le (E : Nat → Nat → Bool) (n m : Nat) : ∀ (f i j : Nat), (n - i) + (m - j) ≤ f → cmI E n m i j ≤ n - i
  | 0, i, j, h => by rw [cmI_end (by omega)]; omega
  | f + 1, i, j, h => by
    by_cases hij : i < n ∧ j < m
    · cases e : E i j with
      | true => rw [cmI_same hij.1 hij.2 e]; have := cmI_le E n m f (i + 1) (j + 1) (by omega); omega
      | false =>
        rw [cmI_other hij.1 hij.2 e]
        have h1 := cmI_le E n m f (i + 1) j (by omega); have h2 := cmI_le E n m f i (j + 1) (by omega)
        omega
    · rw [cmI_end hij]; omega
theorem cmI_bound (E : Nat → Nat → Bool) (n m i j : Nat) : cmI E n m i j ≤ n - i := cmI_le E n m _ i j (Nat.le_refl _)
theorem cmI_congr {E F : Nat → Nat → Bool} {n m : Nat} (h : ∀ i j, i < n → j < m → E i j = F i j) : ∀ (f i j : Nat), (n - i) + (m - j) ≤ f → cmI E n m i j = cmI F n m i j
  | 0, i, j, hf => by rw [cmI_end (by omega), cmI_end (by omega)]
  | f + 1, i, j, hf => by
    by_cases hij : i < n ∧ j < m
    · have e := h i j hij.1 hij.2
      cases e2 : F i j with
      | true => rw [cmI_same hij.1 hij.2 (e.trans e2), cmI_same hij.1 hij.2 e2, cmI_congr h f _ _ (by omega)]
      | false => rw [cmI_other hij.1 hij.2 (e.trans e2), cmI_other hij.1 hij.2 e2, cmI_congr h f (i + 1) j (by omega), cmI_congr h f i (j + 1) (by omega)]
    · rw [cmI_end hij, cmI_end hij]
theorem cmI_turn (E : Nat → Nat → Bool) (n m : Nat) : ∀ (f i j : Nat), (n - i) + (m - j) ≤ f → cmI E n m i j = cmI (fun x y => E y x) m n j i
  | 0, i, j, hf => by rw [cmI_end (by omega), cmI_end (by omega)]
  | f + 1, i, j, hf => by
    by_cases hij : i < n ∧ j < m
    · cases e : E i j with
      | true => rw [cmI_same hij.1 hij.2 e, cmI_same hij.2 hij.1 e, cmI_turn E n m f _ _ (by omega)]
      | false => rw [cmI_other hij.1 hij.2 e, cmI_other hij.2 hij.1 e, cmI_turn E n m f (i + 1) j (by omega), cmI_turn E n m f i (j + 1) (by omega)]; omega
    · rw [cmI_end hij, cmI_end (by omega)]

/-- An edit with the place in the second list: its kind, its item, the place. -/
abbrev EdJ := Nat × ByteArray × Nat
def itB (l : List ByteArray) (i : Nat) : ByteArray := l.getD i ⟨#[]⟩
def eqB (a b : List ByteArray) (i j : Nat) : Bool := decide (itB a i = itB b j)
/-- The edits that are still to come, from two places on. -/
def edI (a b : List ByteArray) (i j : Nat) : List EdJ :=
  if i < a.length ∧ j < b.length ∧ eqB a b i j = true then (0, itB a i, j) :: edI a b (i + 1) (j + 1)
  else if i < a.length ∧ (j = b.length ∨ cmI (eqB a b) a.length b.length i (j + 1) ≤ cmI (eqB a b) a.length b.length (i + 1) j) then (1, itB a i, j) :: edI a b (i + 1) j
  else if j < b.length then (2, itB b j, j) :: edI a b i (j + 1)
  else []
termination_by (a.length - i) + (b.length - j)
theorem edI_end {a b : List ByteArray} {i j : Nat} (h : a.length ≤ i) (h2 : b.length ≤ j) : edI a b i j = [] := by
  unfold edI; rw [if_neg (by omega), if_neg (by omega), if_neg (by omega)]
theorem edI_keep {a b : List ByteArray} {i j : Nat} (h : i < a.length) (h2 : j < b.length) (e : eqB a b i j = true) : edI a b i j = (0, itB a i, j) :: edI a b (i + 1) (j + 1) := by
  conv => lhs; unfold edI
  rw [if_pos ⟨h, h2, e⟩]
theorem edI_drop {a b : List ByteArray} {i j : Nat} (h : i < a.length) (h2 : j < b.length) (e : eqB a b i j = false) (hc : cmI (eqB a b) a.length b.length i (j + 1) ≤ cmI (eqB a b) a.length b.length (i + 1) j) : edI a b i j = (1, itB a i, j) :: edI a b (i + 1) j := by
  conv => lhs; unfold edI
  rw [if_neg (fun x => by rw [e] at x; exact absurd x.2.2 (by decide)), if_pos ⟨h, .inr hc⟩]
theorem edI_dropEnd {a b : List ByteArray} {i : Nat} (h : i < a.length) : edI a b i b.length = (1, itB a i, b.length) :: edI a b (i + 1) b.length := by
  conv => lhs; unfold edI
  rw [if_neg (fun x => absurd x.2.1 (by omega)), if_pos ⟨h, .inl rfl⟩]
theorem edI_add {a b : List ByteArray} {i j : Nat} (h : i < a.length) (h2 : j < b.length) (e : eqB a b i j = false) (hc : cmI (eqB a b) a.length b.length (i + 1) j < cmI (eqB a b) a.length b.length i (j + 1)) : edI a b i j = (2, itB b j, j) :: edI a b i (j + 1) := by
  conv => lhs; unfold edI
  rw [if_neg (fun x => by rw [e] at x; exact absurd x.2.2 (by decide)), if_neg (by omega), if_pos h2]
theorem edI_addEnd {a b : List ByteArray} {i j : Nat} (h : a.length ≤ i) (h2 : j < b.length) : edI a b i j = (2, itB b j, j) :: edI a b i (j + 1) := by
  conv => lhs; unfold edI
  rw [if_neg (by omega), if_neg (by omega), if_pos h2]
/-- One way of five. -/
theorem edI_cases {a b : List ByteArray} {P : Nat → Nat → Prop} (i j : Nat) (hi : i ≤ a.length) (hj : j ≤ b.length)
    (hend : i = a.length → j = b.length → P i j)
    (hkeep : i < a.length → j < b.length → eqB a b i j = true → P i j)
    (hdrop : i < a.length → (j = b.length ∨ j < b.length ∧ eqB a b i j = false ∧ cmI (eqB a b) a.length b.length i (j + 1) ≤ cmI (eqB a b) a.length b.length (i + 1) j) → P i j)
    (hadd : j < b.length → (i = a.length ∨ i < a.length ∧ eqB a b i j = false ∧ cmI (eqB a b) a.length b.length (i + 1) j < cmI (eqB a b) a.length b.length i (j + 1)) → P i j) : P i j := by
  by_cases h1 : i < a.length
  · by_cases h2 : j < b.length
    · cases e : eqB a b i j with
      | true => exact hkeep h1 h2 e
      | false =>
        by_cases hc : cmI (eqB a b) a.length b.length i (j + 1) ≤ cmI (eqB a b) a.length b.length (i + 1) j
        · exact hdrop h1 (.inr ⟨h2, e, hc⟩)
        · exact hadd h2 (.inr ⟨h1, e, by omega⟩)
    · exact hdrop h1 (.inl (by omega))
  · by_cases h2 : j < b.length
    · exact hadd h2 (.inl (by omega))
    · exact hend (by omega) (by omega)
theorem edI_ofDrop {a b : List ByteArray} {i j : Nat} (h : i < a.length) (hc : j = b.length ∨ j < b.length ∧ eqB a b i j = false ∧ cmI (eqB a b) a.length b.length i (j + 1) ≤ cmI (eqB a b) a.length b.length (i + 1) j) : edI a b i j = (1, itB a i, j) :: edI a b (i + 1) j := by
  rcases hc with rfl | ⟨h2, e, hc⟩
  · exact edI_dropEnd h
  · exact edI_drop h h2 e hc
theorem edI_ofAdd {a b : List ByteArray} {i j : Nat} (h : j < b.length) (hc : i = a.length ∨ i < a.length ∧ eqB a b i j = false ∧ cmI (eqB a b) a.length b.length (i + 1) j < cmI (eqB a b) a.length b.length i (j + 1)) : edI a b i j = (2, itB b j, j) :: edI a b i (j + 1) := by
  rcases hc with rfl | ⟨h2, e, hc⟩
  · exact edI_addEnd (Nat.le_refl _) h
  · exact edI_add h2 h e hc
/-- What Diff gives; what Match gives. -/
abbrev EdB := Nat × ByteArray
def edB (t : EdJ) : EdB := (t.1, t.2.1)
def diffL (a b : List ByteArray) : List EdB := (edI a b 0 0).map edB
def mtJ (t : EdJ) : List Int := if t.1 = 0 then [(t.2.2 : Int)] else if t.1 = 1 then [-1] else []
def matchL (a b : List ByteArray) : List Int := (edI a b 0 0).flatMap mtJ
/-- The document's way to the places. -/
def mtD : Nat → List EdB → List Int
  | _, [] => []
  | j, e :: l => if e.1 = 0 then (j : Int) :: mtD (j + 1) l else if e.1 = 1 then -1 :: mtD j l else mtD (j + 1) l
theorem mtD_of (a b : List ByteArray) : ∀ (f i j : Nat), i ≤ a.length → j ≤ b.length → (a.length - i) + (b.length - j) ≤ f → mtD j ((edI a b i j).map edB) = (edI a b i j).flatMap mtJ
  | 0, i, j, hi, hj, hf => by rw [edI_end (by omega) (by omega)]; rfl
  | f + 1, i, j, hi, hj, hf => by
    refine edI_cases (a := a) (b := b) (P := fun i' j' => i' = i → j' = j → _) i j hi hj ?_ ?_ ?_ ?_ rfl rfl
    · rintro h1 h2 - -; rw [edI_end (by omega) (by omega)]; rfl
    · rintro h1 h2 e - -
      rw [edI_keep h1 h2 e, List.map_cons, List.flatMap_cons, ← mtD_of a b f (i + 1) (j + 1) (by omega) (by omega) (by omega)]; rfl
    · rintro h1 hc - -
      rw [edI_ofDrop h1 hc, List.map_cons, List.flatMap_cons, ← mtD_of a b f (i + 1) j (by omega) (by omega) (by omega)]; rfl
    · rintro h1 hc - -
      rw [edI_ofAdd h1 hc, List.map_cons, List.flatMap_cons, ← mtD_of a b f i (j + 1) (by omega) (by omega) (by omega)]; rfl
theorem matchL_doc (a b : List ByteArray) : matchL a b = mtD 0 (diffL a b) := (mtD_of a b _ 0 0 (Nat.zero_le _) (Nat.zero_le _) (Nat.le_refl _)).symm
/-- How many are kept. -/
def keptN (l : List EdB) : Nat := l.countP fun e => e.1 == 0
theorem kept_of (a b : List ByteArray) : ∀ (f i j : Nat), i ≤ a.length → j ≤ b.length → (a.length - i) + (b.length - j) ≤ f → keptN ((edI a b i j).map edB) = cmI (eqB a b) a.length b.length i j
  | 0, i, j, hi, hj, hf => by rw [edI_end (by omega) (by omega), cmI_end (by omega)]; rfl
  | f + 1, i, j, hi, hj, hf => by
    refine edI_cases (a := a) (b := b) (P := fun i' j' => i' = i → j' = j → _) i j hi hj ?_ ?_ ?_ ?_ rfl rfl
    · rintro h1 h2 - -; rw [edI_end (by omega) (by omega), cmI_end (by omega)]; rfl
    · rintro h1 h2 e - -
      rw [edI_keep h1 h2 e, List.map_cons, cmI_same h1 h2 e, ← kept_of a b f (i + 1) (j + 1) (by omega) (by omega) (by omega)]
      unfold keptN; rw [List.countP_cons]; rfl
    · rintro h1 hc - -
      have ih := kept_of a b f (i + 1) j (by omega) (by omega) (by omega)
      rw [edI_ofDrop h1 hc, List.map_cons]
      have e2 : keptN (edB (1, itB a i, j) :: List.map edB (edI a b (i + 1) j)) = keptN (List.map edB (edI a b (i + 1) j)) := by unfold keptN; rw [List.countP_cons]; rfl
      rw [e2, ih]
      rcases hc with rfl | ⟨h2, e, hc⟩
      · rw [cmI_end (by omega), cmI_end (by omega)]
      · rw [cmI_other h1 h2 e]; omega
    · rintro h1 hc - -
      have ih := kept_of a b f i (j + 1) (by omega) (by omega) (by omega)
      rw [edI_ofAdd h1 hc, List.map_cons]
      have e2 : keptN (edB (2, itB b j, j) :: List.map edB (edI a b i (j + 1))) = keptN (List.map edB (edI a b i (j + 1))) := by unfold keptN; rw [List.countP_cons]; rfl
      rw [e2, ih]
      rcases hc with rfl | ⟨h2, e, hc⟩
      · rw [cmI_end (by omega), cmI_end (by omega)]
      · rw [cmI_other h2 h1 e]; omega
theorem kept_diff (a b : List ByteArray) : keptN (diffL a b) = cmI (eqB a b) a.length b.length 0 0 := kept_of a b _ 0 0 (Nat.zero_le _) (Nat.zero_le _) (Nat.le_refl _)
theorem kept_turn (a b : List ByteArray) : keptN (diffL b a) = keptN (diffL a b) := by
  rw [kept_diff, kept_diff, cmI_turn (eqB a b) a.length b.length _ 0 0 (Nat.le_refl _)]
  exact cmI_congr (fun i j _ _ => decide_eq_decide.2 ⟨Eq.symm, Eq.symm⟩) _ 0 0 (Nat.le_refl _)
/-- Edits applied: the list, the error. -/
def apD (a : List ByteArray) : Nat → List ByteArray → List (Int × ByteArray) → List ByteArray × Int
  | u, made, [] => if u < a.length then ([], 4) else (made, 0)
  | u, made, e :: l =>
    if e.1 < 0 ∨ 2 < e.1 then ([], 15)
    else if e.1 = 2 then apD a u (made ++ [e.2]) l
    else if u = a.length ∨ itB a u ≠ e.2 then ([], 13)
    else if e.1 = 1 then apD a (u + 1) made l
    else apD a (u + 1) (made ++ [e.2]) l
def edZ (e : EdB) : Int × ByteArray := ((e.1 : Int), e.2)
theorem take_it (b : List ByteArray) (j : Nat) (h : j < b.length) : b.take j ++ [itB b j] = b.take (j + 1) := by
  rw [List.take_succ_eq_append_getElem h]; congr 2; unfold itB; rw [List.getD_eq_getElem?_getD, List.getElem?_eq_getElem h]; rfl
theorem apD_of (a b : List ByteArray) : ∀ (f i j : Nat), i ≤ a.length → j ≤ b.length → (a.length - i) + (b.length - j) ≤ f → apD a i (b.take j) (((edI a b i j).map edB).map edZ) = (b, 0)
  | 0, i, j, hi, hj, hf => by rw [edI_end (by omega) (by omega)]; show (if _ then _ else _) = _; rw [if_neg (by omega), List.take_of_length_le (by omega)]
  | f + 1, i, j, hi, hj, hf => by
    refine edI_cases (a := a) (b := b) (P := fun i' j' => i' = i → j' = j → _) i j hi hj ?_ ?_ ?_ ?_ rfl rfl
    · rintro h1 h2 - -; rw [edI_end (by omega) (by omega)]; show (if _ then _ else _) = _; rw [if_neg (by omega), List.take_of_length_le (by omega)]
    · rintro h1 h2 e - -
      rw [edI_keep h1 h2 e, List.map_cons, List.map_cons]
      have hne : ¬ (i = a.length ∨ itB a i ≠ itB a i) := by simp; omega
      have e3 : itB a i = itB b j := of_decide_eq_true e
      show (if ((0 : Nat) : Int) < 0 ∨ 2 < ((0 : Nat) : Int) then _ else if ((0 : Nat) : Int) = 2 then _ else if i = a.length ∨ itB a i ≠ itB a i then _ else if ((0 : Nat) : Int) = 1 then _ else apD a (i + 1) (b.take j ++ [itB a i]) _) = _
      rw [if_neg (by decide), if_neg (by decide), if_neg hne, if_neg (by decide), e3, take_it b j h2]
      exact apD_of a b f (i + 1) (j + 1) (by omega) (by omega) (by omega)
    · rintro h1 hc - -
      rw [edI_ofDrop h1 hc, List.map_cons, List.map_cons]
      have hne : ¬ (i = a.length ∨ itB a i ≠ itB a i) := by simp; omega
      show (if ((1 : Nat) : Int) < 0 ∨ 2 < ((1 : Nat) : Int) then _ else if ((1 : Nat) : Int) = 2 then _ else if i = a.length ∨ itB a i ≠ itB a i then _ else if ((1 : Nat) : Int) = 1 then apD a (i + 1) (b.take j) _ else _) = _
      rw [if_neg (by decide), if_neg (by decide), if_neg hne, if_pos (by decide)]
      exact apD_of a b f (i + 1) j (by omega) (by omega) (by omega)
    · rintro h1 hc - -
      rw [edI_ofAdd h1 hc, List.map_cons, List.map_cons]
      show (if ((2 : Nat) : Int) < 0 ∨ 2 < ((2 : Nat) : Int) then _ else if ((2 : Nat) : Int) = 2 then apD a i (b.take j ++ [itB b j]) _ else _) = _
      rw [if_neg (by decide), if_pos (by decide), take_it b j h1]
      exact apD_of a b f i (j + 1) (by omega) (by omega) (by omega)
theorem apply_diff (a b : List ByteArray) : apD a 0 [] ((diffL a b).map edZ) = (b, 0) := apD_of a b _ 0 0 (Nat.zero_le _) (Nat.zero_le _) (Nat.le_refl _)
theorem edI_len (a b : List ByteArray) : ∀ (f i j : Nat), i ≤ a.length → j ≤ b.length → (a.length - i) + (b.length - j) ≤ f → (edI a b i j).length ≤ (a.length - i) + (b.length - j)
  | 0, i, j, hi, hj, hf => by rw [edI_end (by omega) (by omega)]; simp
  | f + 1, i, j, hi, hj, hf => by
    refine edI_cases (a := a) (b := b) (P := fun i' j' => i' = i → j' = j → _) i j hi hj ?_ ?_ ?_ ?_ rfl rfl
    · rintro h1 h2 - -; rw [edI_end (by omega) (by omega)]; simp
    · rintro h1 h2 e - -
      rw [edI_keep h1 h2 e, List.length_cons]; have := edI_len a b f (i + 1) (j + 1) (by omega) (by omega) (by omega); omega
    · rintro h1 hc - -
      rw [edI_ofDrop h1 hc, List.length_cons]; have := edI_len a b f (i + 1) j (by omega) (by omega) (by omega); omega
    · rintro h1 hc - -
      rw [edI_ofAdd h1 hc, List.length_cons]; have := edI_len a b f i (j + 1) (by omega) (by omega) (by omega); omega
theorem edI_apart (a b : List ByteArray) (hE : ∀ i j, i < a.length → j < b.length → eqB a b i j = false) : ∀ (f i j : Nat), i ≤ a.length → j ≤ b.length → (a.length - i) + (b.length - j) ≤ f → (edI a b i j).length = (a.length - i) + (b.length - j)
  | 0, i, j, hi, hj, hf => by rw [edI_end (by omega) (by omega)]; simp; omega
  | f + 1, i, j, hi, hj, hf => by
    refine edI_cases (a := a) (b := b) (P := fun i' j' => i' = i → j' = j → _) i j hi hj ?_ ?_ ?_ ?_ rfl rfl
    · rintro h1 h2 - -; rw [edI_end (by omega) (by omega)]; simp; omega
    · rintro h1 h2 e - -
      rw [hE i j h1 h2] at e; cases e
    · rintro h1 hc - -
      rw [edI_ofDrop h1 hc, List.length_cons]; have := edI_apart a b hE f (i + 1) j (by omega) (by omega) (by omega); omega
    · rintro h1 hc - -
      rw [edI_ofAdd h1 hc, List.length_cons]; have := edI_apart a b hE f i (j + 1) (by omega) (by omega) (by omega); omega
/-- A list and itself; none and a list; a list and none. -/
def tagL (op : Nat) (a : List ByteArray) : List EdB := a.map fun s => (op, s)
theorem drop_it (a : List ByteArray) (i : Nat) (h : i < a.length) : a.drop i = itB a i :: a.drop (i + 1) := by
  rw [List.drop_eq_getElem_cons h]; congr 1; unfold itB; rw [List.getD_eq_getElem?_getD, List.getElem?_eq_getElem h]; rfl
theorem diff_self_of (a : List ByteArray) : ∀ (f i : Nat), i ≤ a.length → a.length - i ≤ f → (edI a a i i).map edB = tagL 0 (a.drop i)
  | 0, i, hi, hf => by rw [edI_end (by omega) (by omega), List.drop_of_length_le (by omega)]; rfl
  | f + 1, i, hi, hf => by
    by_cases h : i < a.length
    · rw [edI_keep h h (by unfold eqB; simp), drop_it a i h, List.map_cons, diff_self_of a f (i + 1) (by omega) (by omega)]; rfl
    · rw [edI_end (by omega) (by omega), List.drop_of_length_le (by omega)]; rfl
theorem diff_self (a : List ByteArray) : diffL a a = tagL 0 a := diff_self_of a _ 0 (Nat.zero_le _) (Nat.le_refl _)
theorem diff_none_of (a : List ByteArray) : ∀ (f i : Nat), i ≤ a.length → a.length - i ≤ f → (edI [] a 0 i).map edB = tagL 2 (a.drop i)
  | 0, i, hi, hf => by rw [edI_end (by simp) (by omega), List.drop_of_length_le (by omega)]; rfl
  | f + 1, i, hi, hf => by
    by_cases h : i < a.length
    · rw [edI_addEnd (by simp) h, drop_it a i h, List.map_cons, diff_none_of a f (i + 1) (by omega) (by omega)]; rfl
    · rw [edI_end (by simp) (by omega), List.drop_of_length_le (by omega)]; rfl
theorem diff_none (a : List ByteArray) : diffL [] a = tagL 2 a := diff_none_of a _ 0 (Nat.zero_le _) (Nat.le_refl _)
theorem diff_to_none_of (a : List ByteArray) : ∀ (f i : Nat), i ≤ a.length → a.length - i ≤ f → (edI a [] i 0).map edB = tagL 1 (a.drop i)
  | 0, i, hi, hf => by rw [edI_end (by omega) (by simp), List.drop_of_length_le (by omega)]; rfl
  | f + 1, i, hi, hf => by
    by_cases h : i < a.length
    · rw [show edI a [] i 0 = _ from edI_dropEnd (b := []) h, drop_it a i h, List.map_cons, show ([] : List ByteArray).length = 0 from rfl, diff_to_none_of a f (i + 1) (by omega) (by omega)]; rfl
    · rw [edI_end (by omega) (by simp), List.drop_of_length_le (by omega)]; rfl
theorem diff_to_none (a : List ByteArray) : diffL a [] = tagL 1 a := diff_to_none_of a _ 0 (Nat.zero_le _) (Nat.le_refl _)
theorem match_len_of (a b : List ByteArray) : ∀ (f i j : Nat), i ≤ a.length → j ≤ b.length → (a.length - i) + (b.length - j) ≤ f → ((edI a b i j).flatMap mtJ).length = a.length - i
  | 0, i, j, hi, hj, hf => by rw [edI_end (by omega) (by omega)]; simp; omega
  | f + 1, i, j, hi, hj, hf => by
    refine edI_cases (a := a) (b := b) (P := fun i' j' => i' = i → j' = j → _) i j hi hj ?_ ?_ ?_ ?_ rfl rfl
    · rintro h1 h2 - -; rw [edI_end (by omega) (by omega)]; simp; omega
    · rintro h1 h2 e - -
      rw [edI_keep h1 h2 e, List.flatMap_cons, List.length_append, match_len_of a b f (i + 1) (j + 1) (by omega) (by omega) (by omega)]; show 1 + _ = _; omega
    · rintro h1 hc - -
      rw [edI_ofDrop h1 hc, List.flatMap_cons, List.length_append, match_len_of a b f (i + 1) j (by omega) (by omega) (by omega)]; show 1 + _ = _; omega
    · rintro h1 hc - -
      rw [edI_ofAdd h1 hc, List.flatMap_cons, List.length_append, match_len_of a b f i (j + 1) (by omega) (by omega) (by omega)]; show 0 + _ = _; omega
theorem match_len (a b : List ByteArray) : (matchL a b).length = a.length := match_len_of a b _ 0 0 (Nat.zero_le _) (Nat.zero_le _) (Nat.le_refl _)
end Go.Proofs.Ytjdlpcokjcmapaa
