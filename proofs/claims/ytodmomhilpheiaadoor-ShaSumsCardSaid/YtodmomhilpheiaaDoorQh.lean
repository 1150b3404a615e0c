/- What a Hasher holds: states of a text's blocks, the text with its end, bytes that are put. -/
import Derived.Test.YtodmomhilpheiaaDoorQg
import Derived.Lib.SliceRun
import Derived.Laws.IdiomCopy
namespace Go.Proofs.YtodmomhilpheiaaDoor
open Go.RowKit

theorem part_congr {f g : Nat → Int} (m : Nat) (h : ∀ i, i < 64 → f i = g i) : ∀ c, 4 * m + c ≤ 64 → part f m c = part g m c
  | 0, _ => rfl
  | c + 1, hc => by rw [part, part, part_congr m h c (by omega), h _ (by omega)]
theorem wordF_congr {f g : Nat → Int} (h : ∀ i, i < 64 → f i = g i) : wordF f 64 = wordF g 64 := by
  funext m
  unfold wordF
  by_cases hm : m < 16
  · exact part_congr m h _ (by omega)
  · rw [show min 4 (64 - 4 * m) = 0 by omega]; rfl
theorem schF_congr {f g : Nat → Int} (h : ∀ i, i < 64 → f i = g i) : ∀ k, schF f k = schF g k
  | 0 => wordF_congr h
  | k + 1 => by unfold schF; rw [schF_congr h k]
theorem compF_congr (s : Nat → Int) {f g : Nat → Int} (h : ∀ i, i < 64 → f i = g i) : compF s f = compF s g := by unfold compF; rw [schF_congr h 48]

/-- The state behind k blocks of the text D. -/
def stF (D : Nat → Int) : Nat → Nat → Int
  | 0 => rootF
  | k + 1 => compF (stF D k) (fun i => D (64 * k + i))
theorem stF_congr {D E : Nat → Int} : ∀ k, (∀ i, i < 64 * k → D i = E i) → stF D k = stF E k
  | 0, _ => rfl
  | k + 1, h => by
    unfold stF
    rw [stF_congr k (fun i hi => h i (by omega))]
    exact compF_congr _ (fun i hi => h _ (by omega))

theorem rootF_rng (i : Nat) : 0 ≤ rootF i ∧ rootF i < 4294967296 := by
  by_cases h : i < 8
  · rcases (show i = 0 ∨ i = 1 ∨ i = 2 ∨ i = 3 ∨ i = 4 ∨ i = 5 ∨ i = 6 ∨ i = 7 by omega) with rfl | rfl | rfl | rfl | rfl | rfl | rfl | rfl <;> exact ⟨by decide, by decide⟩
  · unfold rootF
    rw [List.getD_eq_getElem?_getD, List.getElem?_eq_none (by simp; omega)]
    exact ⟨by decide, by decide⟩
def St32 (f : Nat → Int) : Prop := ∀ i, 0 ≤ f i ∧ f i < 4294967296
theorem addF_rng (f : Nat → Int) (h : St32 f) (s : St) (j : Nat) : St32 (addF f s j) := by
  intro i
  unfold addF
  split
  · omega
  · exact h i
theorem stF_rng (D : Nat → Int) : ∀ k, St32 (stF D k)
  | 0 => rootF_rng
  | k + 1 => by unfold stF compF; exact addF_rng _ (stF_rng D k) _ _
theorem stOf_ok (f : Nat → Int) (h : St32 f) : (stOf f).Ok := ⟨h 0, h 1, h 2, h 3, h 4, h 5, h 6, h 7⟩

/-- How many blocks a text of m bytes has with its end. -/
def nblk (m : Nat) : Nat := m / 64 + (if m % 64 < 56 then 1 else 2)
/-- Byte j of the number of bits. -/
def lenF (m j : Nat) : Int := ((8 * m / 256 ^ (7 - j) % 256 : Nat) : Int)
/-- The text with its end. -/
def padF (D : Nat → Int) (m i : Nat) : Int :=
  if i < m then D i else if i = m then 128 else if i < 64 * nblk m - 8 then 0 else lenF m (i + 8 - 64 * nblk m)
/-- The digest's bytes, and the digest. -/
def shaI (D : Nat → Int) (m : Nat) : Nat → Int := beF (stF (padF D m) (nblk m))
def shaB (D : Nat → Int) (m : Nat) : ByteArray := strOfNums ((List.range 32).map (shaI D m))
theorem shaB_congr {D E : Nat → Int} (m : Nat) (h : ∀ i, i < m → D i = E i) : shaB D m = shaB E m := by
  have e : padF D m = padF E m := by
    funext i; unfold padF
    by_cases hi : i < m
    · rw [if_pos hi, if_pos hi, h i hi]
    · rw [if_neg hi, if_neg hi]
  unfold shaB shaI; rw [e]
theorem shaB_size (D : Nat → Int) (m : Nat) : (shaB D m).size = 32 := by unfold shaB; rw [strOfNums_size]; simp
theorem padF_rng (D : Nat → Int) (m : Nat) (h : Bytes8 D) : Bytes8 (padF D m) := by
  intro i
  unfold padF
  split
  · exact h i
  · split
    · omega
    · split
      · omega
      · unfold lenF; omega

theorem hcells_setB (f blk : Nat → Int) (n : Int) (i : Nat) (v : Int) (h : i < 64) : (hcells f blk n).setIfInBounds (8 + i) (.int .u8 v) = hcells f (fun j => if j = i then v else blk j) n := by
  apply Array.ext_getElem?
  intro j
  rw [Array.getElem?_setIfInBounds]
  by_cases hj : j < 8
  · rw [if_neg (by omega), hcells_state _ _ _ j hj, hcells_state _ _ _ j hj]
  · by_cases hk : j < 72
    · obtain ⟨q, rfl⟩ : ∃ q, j = 8 + q := ⟨j - 8, by omega⟩
      rw [hcells_block _ _ _ q (by omega), hcells_block _ _ _ q (by omega)]
      by_cases e : q = i
      · subst e; rw [if_pos rfl, if_pos (by rw [hcells_len]; omega), if_pos rfl]
      · rw [if_neg (by omega), if_neg e]
    · rw [if_neg (by omega)]
      by_cases h2 : j = 72
      · subst h2; rw [hcells_size, hcells_size]
      · rw [Array.getElem?_eq_none (by rw [hcells_len]; omega), Array.getElem?_eq_none (by rw [hcells_len]; omega)]
theorem hcells_setN (f blk : Nat → Int) (n m : Int) : (hcells f blk n).setIfInBounds 72 (.int .u64 m) = hcells f blk m := by
  apply Array.ext_getElem?
  intro j
  rw [Array.getElem?_setIfInBounds]
  by_cases hj : j < 8
  · rw [if_neg (by omega), hcells_state _ _ _ j hj, hcells_state _ _ _ j hj]
  · by_cases hk : j < 72
    · obtain ⟨q, rfl⟩ : ∃ q, j = 8 + q := ⟨j - 8, by omega⟩
      rw [if_neg (by omega), hcells_block _ _ _ q (by omega), hcells_block _ _ _ q (by omega)]
    · by_cases h2 : j = 72
      · subst h2; rw [if_pos rfl, if_pos (by rw [hcells_len]; omega), hcells_size]
      · rw [if_neg (by omega), Array.getElem?_eq_none (by rw [hcells_len]; omega), Array.getElem?_eq_none (by rw [hcells_len]; omega)]
theorem HashAt.setB {b : Nat} {f blk : Nat → Int} {n : Int} {w : World} (h : HashAt b f blk n w) (i : Nat) (hi : i < 64) (v : Int) : HashAt b f (fun j => if j = i then v else blk j) n (w.setCell ⟨b, 8 + i, none⟩ (.int .u8 v)) := by
  have e : w.heap[b]? = some (.cells (hcells f blk n) 30 (0, 0)) := h
  show (w.heap.modify b _)[b]? = _
  rw [Array.getElem?_modify, if_pos rfl, e]
  simp [hcells_setB f blk n i v hi]
theorem HashAt.setN {b : Nat} {f blk : Nat → Int} {n : Int} {w : World} (h : HashAt b f blk n w) (m : Int) : HashAt b f blk m (w.setCell ⟨b, 72, none⟩ (.int .u64 m)) := by
  have e : w.heap[b]? = some (.cells (hcells f blk n) 30 (0, 0)) := h
  show (w.heap.modify b _)[b]? = _
  rw [Array.getElem?_modify, if_pos rfl, e]
  simp [hcells_setN f blk n m]
/-- Bytes that are put from place o on. -/
def putF (blk : Nat → Int) (o : Nat) (vs : List Int) (i : Nat) : Int := if o ≤ i ∧ i < o + vs.length then vs.getD (i - o) 0 else blk i
theorem putF_cons (blk : Nat → Int) (o : Nat) (v : Int) (r : List Int) : putF (fun j => if j = o then v else blk j) (o + 1) r = putF blk o (v :: r) := by
  funext i
  unfold putF
  by_cases h1 : i = o
  · subst h1; rw [if_neg (by omega)]; show (if i = i then v else blk i) = _; rw [if_pos rfl, if_pos (by simp), Nat.sub_self]; rfl
  · by_cases h2 : o + 1 ≤ i ∧ i < o + 1 + r.length
    · rw [if_pos h2, if_pos (by simp; omega), show i - o = (i - (o + 1)) + 1 by omega]; rfl
    · rw [if_neg h2]; show (if i = o then v else blk i) = _; rw [if_neg h1, if_neg (by simp; omega)]
theorem HashAt.puts {b : Nat} {f : Nat → Int} {n : Int} : ∀ (vs : List Int) (o : Nat) (blk : Nat → Int) (w : World), HashAt b f blk n w → o + vs.length ≤ 64 → HashAt b f (putF blk o vs) n (w.setCells b (8 + o) (vs.map (Value.int .u8)))
  | [], o, blk, w, h, _ => by
    have : putF blk o [] = blk := by funext i; unfold putF; rw [if_neg (by simp)]
    rw [this]; exact h
  | v :: r, o, blk, w, h, hl => by
    have hl' : o + 1 + r.length ≤ 64 := by simp at hl; omega
    have ih := HashAt.puts r (o + 1) _ _ (h.setB o (by omega) v) hl'
    rw [putF_cons] at ih
    exact ih
theorem kept_sets {b : Nat} {w : World} : ∀ (vs : List Value) (o : Nat) (w1 : World), w.grownBy w1 (some b) → w.grownBy (w1.setCells b o vs) (some b)
  | [], _, _, h => h
  | v :: r, o, w1, h => kept_sets r (o + 1) _ (kept_set h o v)

/-- A Hasher that has begun, behind m bytes of D. -/
def Begun (b : Nat) (D : Nat → Int) (m : Nat) (w : World) : Prop :=
  ∃ blk, HashAt b (stF D (m / 64)) blk m w ∧ Bytes8 blk ∧ ∀ i, i < m % 64 → blk i = D (64 * (m / 64) + i)
/-- A Hasher behind m bytes of D. -/
def HasP (b : Nat) (D : Nat → Int) (m : Nat) (w : World) : Prop :=
  (m = 0 ∧ ∃ f blk, HashAt b f blk 0 w ∧ Bytes8 blk) ∨ (0 < m ∧ Begun b D m w)
theorem Begun.congr {b : Nat} {D E : Nat → Int} {m : Nat} {w : World} (h : Begun b D m w) (e : ∀ i, i < m → D i = E i) : Begun b E m w := by
  obtain ⟨blk, h1, h2, h3⟩ := h
  refine ⟨blk, ?_, h2, fun i hi => by rw [h3 i hi, e _ (by omega)]⟩
  rw [← stF_congr (m / 64) (fun i hi => e i (by omega))]; exact h1
theorem HasP.congr {b : Nat} {D E : Nat → Int} {m : Nat} {w : World} (h : HasP b D m w) (e : ∀ i, i < m → D i = E i) : HasP b E m w := by
  rcases h with h | ⟨h0, h⟩
  · exact Or.inl h
  · exact Or.inr ⟨h0, h.congr e⟩
theorem Begun.hasP {b : Nat} {D : Nat → Int} {m : Nat} {w : World} (h : Begun b D m w) : HasP b D m w := by
  by_cases h0 : m = 0
  · subst h0; obtain ⟨blk, h1, h2, _⟩ := h; exact Or.inl ⟨rfl, _, blk, h1, h2⟩
  · exact Or.inr ⟨by omega, h⟩
theorem Begun.below {b : Nat} {D : Nat → Int} {m : Nat} {w w' : World} (h : Begun b D m w) (hb : Below w.heap.size w w') : Begun b D m w' := by
  obtain ⟨blk, h1, h2, h3⟩ := h; exact ⟨blk, h1.below hb, h2, h3⟩
theorem HasP.below {b : Nat} {D : Nat → Int} {m : Nat} {w w' : World} (h : HasP b D m w) (hb : Below w.heap.size w w') : HasP b D m w' := by
  rcases h with ⟨h0, f, blk, h1, h2⟩ | ⟨h0, h⟩
  · exact Or.inl ⟨h0, f, blk, h1.below hb, h2⟩
  · exact Or.inr ⟨h0, h.below hb⟩
theorem HasP.lt {b : Nat} {D : Nat → Int} {m : Nat} {w : World} (h : HasP b D m w) : b < w.heap.size := by
  rcases h with ⟨_, f, blk, h1, _⟩ | ⟨_, blk, h1, _⟩ <;> exact h1.lt

theorem begin_any (b : Nat) (D : Nat → Int) (m : Nat) (w : World) (h : HasP b D m w) (hV : VarsAt w) (hb : 1 < b) :
    Calls Tryd.prog 18 #[.pointer (some ⟨b, 0, none⟩)] w fun e w' => e = .returned (.tuple #[]) ∧ Begun b D m w' ∧ w.grownBy w' (some b) := by
  rcases h with ⟨rfl, f, blk, h1, h2⟩ | ⟨h0, h⟩
  · exact (begin_zero b f blk w h1 hV hb).mono fun e w' ⟨a, c, d⟩ => ⟨a, ⟨blk, c, h2, fun i hi => absurd hi (by omega)⟩, d⟩
  · have h' := h
    obtain ⟨blk, h1, h2, h3⟩ := h
    exact (begin_some b _ blk m w h1 (by omega)).mono fun e w' ⟨a, c⟩ => ⟨a, c ▸ h', c ▸ kept_below (Below.refl _ _)⟩
end Go.Proofs.YtodmomhilpheiaaDoor
