/- Three texts: what comes where one side is base, or both are alike; the sides in the other order. -/
import Derived.Test.YtjdlpcokjcmapaaBm
set_option linter.unusedVariables false
set_option linter.unusedSimpArgs false
namespace Go.Proofs.Ytjdlpcokjcmapaa
open Go.RowKit Go.Maps Go.WideShapes
variable {w w' : World}

theorem pcO_comm (out S X Y : List ByteArray) : pcO out S X Y = pcO out S Y X := by
  unfold pcO
  by_cases h1 : X = Y
  · subst h1; rfl
  · by_cases h2 : Y = S
    · by_cases h3 : X = S
      · exact absurd (h3.trans h2.symm) h1
      · rw [if_pos (Or.inr h2), if_neg (fun h => h.elim (fun e => h1 e.symm) h3), if_pos h2]
    · by_cases h3 : X = S
      · rw [if_neg (fun h => h.elim h1 h2), if_pos h3, if_pos (Or.inr h3)]
      · rw [if_neg (fun h => h.elim h1 h2), if_neg h3, if_neg (fun h => h.elim (fun e => h1 e.symm) h3), if_neg h2]
theorem pcN_comm (n : Nat) (S X Y : List ByteArray) : pcN n S X Y = pcN n S Y X := by
  unfold pcN
  by_cases h1 : X = Y
  · subst h1; rfl
  · by_cases h2 : Y = S
    · by_cases h3 : X = S
      · exact absurd (h3.trans h2.symm) h1
      · rw [if_pos (Or.inr h2), if_neg (fun h => h.elim (fun e => h1 e.symm) h3), if_pos h2]
    · by_cases h3 : X = S
      · rw [if_neg (fun h => h.elim h1 h2), if_pos h3, if_pos (Or.inr h3)]
      · rw [if_neg (fun h => h.elim h1 h2), if_neg h3, if_neg (fun h => h.elim (fun e => h1 e.symm) h3), if_neg h2]
def swL (s : LnSt) : LnSt := ((s.1.1, s.1.2.2, s.1.2.1), s.2)
theorem lnStp_sw (B O T : List ByteArray) (n : Nat) (p q : Int) (s : LnSt) : lnStp B T O n q p (swL s) = swL (lnStp B O T n p q s) := by
  unfold lnStp
  by_cases h : p < 0 ∨ q < 0
  · rw [if_pos h, if_pos (h.elim Or.inr Or.inl)]
  · rw [if_neg h, if_neg (fun x => h (x.elim Or.inr Or.inl))]
    show _ = ((_, _, _), (_, _))
    rw [pcO_comm s.2.1, pcN_comm s.2.2]
    rfl
theorem lnF_sw (B O T : List ByteArray) : ∀ n, lnF B T O n = swL (lnF B O T n)
  | 0 => rfl
  | n + 1 => by
    show lnStp B T O n _ _ (lnF B T O n) = swL (lnStp B O T n _ _ (lnF B O T n))
    rw [lnF_sw B O T n, lnStp_sw]
theorem lnE_sw (B O T : List ByteArray) : lnE B T O = lnE B O T := by
  unfold lnE
  rw [lnF_sw B O T]
  rw [pcO_comm, pcN_comm]
  rfl
theorem linesO_sw (B O T : List ByteArray) : linesO B T O = linesO B O T := by unfold linesO; rw [lnE_sw]
/-- What is told stands there. -/
def SoL (a b : List ByteArray) : Nat → List Int → Prop
  | _, [] => True
  | i, x :: r => (∀ y : Nat, x = (y : Int) → itB b y = itB a i) ∧ SoL a b (i + 1) r
theorem so_of (a b : List ByteArray) : ∀ (f i j : Nat), i ≤ a.length → j ≤ b.length → (a.length - i) + (b.length - j) ≤ f → SoL a b i ((edI a b i j).flatMap mtJ) := by
  intro f
  induction f with
  | zero =>
    intro i j hi hj hf
    rw [edI_end (by omega) (by omega)]; exact trivial
  | succ f ih =>
    intro i j hi hj hf
    by_cases h1 : i < a.length
    · by_cases h2 : j < b.length
      · cases e : eqB a b i j with
        | true =>
          rw [edI_keep h1 h2 e, List.flatMap_cons]
          refine ⟨fun y hy => ?_, ih (i + 1) (j + 1) (by omega) (by omega) (by omega)⟩
          have : y = j := by have h : ((j : Nat) : Int) = (y : Int) := hy; omega
          subst this
          exact (of_decide_eq_true (show decide (itB a i = itB b y) = true from e)).symm
        | false =>
          rcases Nat.lt_or_ge (cmI (eqB a b) a.length b.length (i + 1) j) (cmI (eqB a b) a.length b.length i (j + 1)) with hc | hc
          · rw [edI_add h1 h2 e hc, List.flatMap_cons]
            exact ih i (j + 1) (by omega) (by omega) (by omega)
          · rw [edI_drop h1 h2 e hc, List.flatMap_cons]
            exact ⟨fun y hy => by have h : (-1 : Int) = (y : Int) := hy; omega, ih (i + 1) j (by omega) (by omega) (by omega)⟩
      · obtain rfl : j = b.length := by omega
        rw [edI_dropEnd h1, List.flatMap_cons]
        exact ⟨fun y hy => by have h : (-1 : Int) = (y : Int) := hy; omega, ih (i + 1) b.length (by omega) (by omega) (by omega)⟩
    · by_cases h2 : j < b.length
      · rw [edI_addEnd (by omega) h2, List.flatMap_cons]
        exact ih i (j + 1) (by omega) (by omega) (by omega)
      · rw [edI_end (by omega) (by omega)]; exact trivial
def IdL : Nat → List Int → Prop
  | _, [] => True
  | i, x :: r => x = (i : Int) ∧ IdL (i + 1) r
theorem id_of (a : List ByteArray) : ∀ (f i : Nat), i ≤ a.length → a.length - i ≤ f → IdL i ((edI a a i i).flatMap mtJ) := by
  intro f
  induction f with
  | zero =>
    intro i hi hf
    rw [edI_end (by omega) (by omega)]; exact trivial
  | succ f ih =>
    intro i hi hf
    by_cases h1 : i < a.length
    · rw [edI_keep h1 h1 (decide_eq_true rfl), List.flatMap_cons]
      exact ⟨rfl, ih (i + 1) (by omega) (by omega)⟩
    · rw [edI_end (by omega) (by omega)]; exact trivial
theorem match_so (a b : List ByteArray) : SoL a b 0 (matchL a b) := so_of a b _ 0 0 (Nat.zero_le _) (Nat.zero_le _) (Nat.le_refl _)
theorem match_id (a : List ByteArray) : IdL 0 (matchL a a) := id_of a _ 0 (Nat.zero_le _) (Nat.le_refl _)
theorem so_drop {a b : List ByteArray} : ∀ (n : Nat) {L : List Int} {i : Nat}, SoL a b i L → SoL a b (i + n) (L.drop n)
  | 0, L, i, h => by simpa using h
  | n + 1, [], i, h => by simp [SoL]
  | n + 1, x :: r, i, h => by rw [List.drop_succ_cons, show i + (n + 1) = i + 1 + n by omega]; exact so_drop n h.2
theorem id_drop : ∀ (n : Nat) {L : List Int} {i : Nat}, IdL i L → IdL (i + n) (L.drop n)
  | 0, L, i, h => by simpa using h
  | n + 1, [], i, h => by simp [IdL]
  | n + 1, x :: r, i, h => by rw [List.drop_succ_cons, show i + (n + 1) = i + 1 + n by omega]; exact id_drop n h.2
theorem so_at {a b : List ByteArray} {n y : Nat} (hn : n < a.length) (h : (matchL a b).getD n 0 = (y : Int)) : itB b y = itB a n := by
  have h1 := so_drop n (match_so a b)
  rw [drop_getD (by rw [match_len]; exact hn), Nat.zero_add] at h1
  exact h1.1 y h
theorem id_at {a : List ByteArray} {n : Nat} (hn : n < a.length) : (matchL a a).getD n 0 = (n : Int) := by
  have h1 := id_drop n (match_id a)
  rw [drop_getD (by rw [match_len]; exact hn), Nat.zero_add] at h1
  exact h1.1
theorem take_cut {O : List ByteArray} {j x : Nat} (h : j ≤ x) : O.take j ++ cutL O j x = O.take x := by
  unfold cutL
  have h1 := List.take_append_drop j (O.take x)
  rw [List.take_take, Nat.min_eq_left h] at h1
  exact h1
/-- Where the other side is base, or is this side. -/
def Link (B O T : List ByteArray) (s : LnSt) : Prop := (T = B ∧ s.1.1 = s.1.2.2) ∨ (T = O ∧ s.1.2.1 = s.1.2.2)
theorem lnF_one {B O T : List ByteArray} (hT : T = B ∨ T = O) : ∀ n, n ≤ B.length → (lnF B O T n).2 = (O.take (lnF B O T n).1.2.1, 0) ∧ Link B O T (lnF B O T n)
  | 0, _ => ⟨rfl, hT.elim (fun h => Or.inl ⟨h, rfl⟩) (fun h => Or.inr ⟨h, rfl⟩)⟩
  | n + 1, hn => by
    obtain ⟨h1, h2⟩ := lnF_one hT n (by omega)
    have hok := lnF_ok B O T n (by omega)
    obtain ⟨t1, t2⟩ := hok.told (by omega)
    show (lnStp B O T n _ _ (lnF B O T n)).2 = _ ∧ Link B O T (lnStp B O T n _ _ (lnF B O T n))
    have e : lnF B O T (n + 1) = lnStp B O T n ((matchL B O).getD n 0) ((matchL B T).getD n 0) (lnF B O T n) := rfl
    rw [e]
    obtain ⟨⟨⟨i, j, k⟩, out, nb⟩, hs⟩ : ∃ s, lnF B O T n = s := ⟨_, rfl⟩
    rw [hs] at h1 h2 hok t1 t2 ⊢
    dsimp only at h1 t1 t2
    injection h1 with h1 h1'
    subst h1 h1'
    have hi := hok.i
    dsimp only at hi
    unfold lnStp
    rcases t1 with t1 | ⟨x, t1, x1, x2, _⟩
    · rw [if_pos (Or.inl (by omega))]; exact ⟨rfl, h2⟩
    · rcases t2 with t2 | ⟨y, t2, y1, y2, _⟩
      · rw [if_pos (Or.inr (by omega))]; exact ⟨rfl, h2⟩
      · rw [if_neg (by omega), t1, t2]
        simp only [Int.toNat_natCast]
        have hset : cutL O j x = cutL T k y ∨ cutL T k y = cutL B i n := by
          rcases h2 with ⟨rfl, h3⟩ | ⟨rfl, h3⟩
          · right
            dsimp only at h3
            subst h3
            rw [id_at (by omega)] at t2
            rw [show y = n by omega]
          · left
            dsimp only at h3
            subst h3
            rw [t1] at t2
            rw [show y = x by omega]
        have hx := so_at (by omega) t1
        have ho : pcO (O.take j) (cutL B i n) (cutL O j x) (cutL T k y) = O.take x := by unfold pcO; rw [if_pos hset, take_cut x1]
        have hb : pcN 0 (cutL B i n) (cutL O j x) (cutL T k y) = 0 := by unfold pcN; rw [if_pos hset]
        refine ⟨?_, ?_⟩
        · show (pcO (O.take j) (cutL B i n) (cutL O j x) (cutL T k y) ++ [itB B n], pcN 0 (cutL B i n) (cutL O j x) (cutL T k y)) = (O.take (x + 1), 0)
          rw [ho, hb, ← hx, take_it O x x2]
        · rcases h2 with ⟨rfl, h3⟩ | ⟨rfl, h3⟩
          · refine Or.inl ⟨rfl, ?_⟩
            rw [id_at (by omega)] at t2
            show n + 1 = y + 1
            omega
          · refine Or.inr ⟨rfl, ?_⟩
            rw [t1] at t2
            show x + 1 = y + 1
            omega
theorem lnE_one {B O T : List ByteArray} (hT : T = B ∨ T = O) : lnE B O T = (O, 0) := by
  obtain ⟨h1, h2⟩ := lnF_one hT B.length (Nat.le_refl _)
  have hok := lnF_ok B O T B.length (Nat.le_refl _)
  unfold lnE
  obtain ⟨⟨⟨i, j, k⟩, out, nb⟩, hs⟩ : ∃ s, lnF B O T B.length = s := ⟨_, rfl⟩
  rw [hs] at h1 h2 hok ⊢
  dsimp only at h1 ⊢
  injection h1 with h1 h1'
  subst h1 h1'
  have hj := hok.j
  dsimp only at hj
  have hset : cutL O j O.length = cutL T k T.length ∨ cutL T k T.length = cutL B i B.length := by
    rcases h2 with ⟨rfl, h3⟩ | ⟨rfl, h3⟩
    · right; dsimp only at h3; subst h3; rfl
    · left; dsimp only at h3; subst h3; rfl
  unfold pcO pcN
  rw [if_pos hset, if_pos hset, take_cut hj, List.take_length]
theorem lines_base (B O : List ByteArray) : lnE B O B = (O, 0) ∧ lnE B B O = (O, 0) ∧ lnE B O O = (O, 0) :=
  ⟨lnE_one (Or.inl rfl), by rw [lnE_sw]; exact lnE_one (Or.inl rfl), lnE_one (Or.inr rfl)⟩
end Go.Proofs.Ytjdlpcokjcmapaa
