/- Wal: what a commit and an opening leave, wherever the power fails. -/
import Derived.Test.YtbpaiiljhdohfaaDoorWp
namespace Go.Proofs.YtbpaiiljhdohfaaDoor
open Go.RowKit
variable {n f m t : Nat} {S : DS} {D L : List ByteArray} {x : List (Nat × ByteArray)}

theorem padW_mem {p : Nat × ByteArray} (h : p ∈ padW x) : ∃ c ∈ x, c.1 = p.1 := by
  obtain ⟨c, hc, rfl⟩ := List.mem_map.1 h
  exact ⟨c, hc, rfl⟩
/-- Where changes lie. -/
structure Fit (n f m : Nat) (D : List ByteArray) (x : List (Nat × ByteArray)) : Prop where
  len : D.length = n
  log : f + 1 + m ≤ n
  n4 : n ≤ 4096
  m64 : m ≤ 64
  takes : Takes n f m (intC x)
theorem Fit.x1 (h : Fit n f m D x) : x.length ≤ m := (takes_nat h.takes).1
theorem Fit.out (h : Fit n f m D x) : ∀ c ∈ x, Out f m c.1 ∧ c.1 < n := fun c hc => by
  obtain ⟨k1, k2, k3, k4⟩ := h.takes.2.2 ((c.1 : Int), c.2) (List.mem_map.2 ⟨c, hc, rfl⟩)
  simp only at k2 k3
  exact ⟨by unfold Out; omega, by omega⟩
theorem Before.refl (h : D[f]? = some zeroS) : Before f m D D := ⟨rfl, h, fun _ _ => rfl⟩
/-- Images don't matter. -/
theorem Before.images (h : Before f m D L) (hx : x.length ≤ m) {y : List (Nat × ByteArray)} (hy : y.Sublist (padW (imagesOf (f + 1) (x.map (·.2))))) : Before f m D (putW L y) := by
  have hm : ∀ p ∈ y, f + 1 ≤ p.1 ∧ p.1 < f + 1 + m := fun p hp => by
    obtain ⟨c, hc, e⟩ := padW_mem (hy.subset hp)
    have := images_mem _ _ _ hc
    rw [List.length_map] at this
    omega
  refine ⟨(putW_length _ _).trans h.len, ?_, fun j hj => ?_⟩
  · rw [putW_get_out _ _ _ (fun p hp => by have := hm p hp; omega)]; exact h.head
  · rw [putW_get_out _ _ _ (fun p hp => by have := hm p hp; unfold Out at hj; omega)]; exact h.out j hj
theorem imgs_get (L : List ByteArray) (z : List ByteArray) (f : Nat) (hl : f + z.length ≤ L.length) (i : Nat) (s : ByteArray) (h : z[i]? = some s) : (putW L (padW (imagesOf f z)))[f + i]? = some (padB s) := by
  induction z generalizing f i L with
  | nil => simp at h
  | cons a z ih =>
    show (putW (L.set f (padB a)) (padW (imagesOf (f + 1) z)))[f + i]? = _
    rw [List.length_cons] at hl
    cases i with
    | zero =>
      simp at h; subst h
      rw [putW_get_out _ _ _ (fun p hp => by
        obtain ⟨c, hc, e⟩ := padW_mem hp
        have := images_mem _ _ _ hc
        omega)]
      exact List.getElem?_set_self (by omega)
    | succ i =>
      rw [List.getElem?_cons_succ] at h
      have := ih (L.set f (padB a)) (f + 1) (by rw [List.length_set]; omega) i h
      rw [show f + 1 + i = f + (i + 1) by omega] at this
      exact this
/-- With the images there, the head makes them count. -/
theorem Before.head' (hF : Fit n f m D x) (h : Before f m D L) : Mid f m D x (putW (putW L (padW (imagesOf (f + 1) (x.map (·.2))))) [(f, padB (headB x))]) := by
  have hl : (putW L (padW (imagesOf (f + 1) (x.map (·.2))))).length = n := by rw [putW_length, h.len, hF.len]
  have hlog := hF.log
  have hx := hF.x1
  have hz : padB (headB x) = headB x := by
    refine padB_padB _ ?_
    rw [ByteArray.size_append, leB_size']
    show (hdL x).toArray.size + 4 ≤ 512
    have := hF.m64
    rw [List.size_toArray, hdL_eq, List.length_append, secs_len]
    show 3 + _ + 4 ≤ 512
    omega
  refine ⟨by rw [putW_length, hl, hF.len], ?_, fun i c hc => ?_, fun j hj _ => ?_⟩
  · rw [putW_one_self _ _ _ (by omega), hz]
  · have hi := (List.getElem?_eq_some_iff.1 hc).1
    rw [putW_get_out _ _ _ (fun p hp => by simp at hp; subst hp; simp; omega)]
    exact imgs_get _ _ _ (by rw [List.length_map, h.len, hF.len]; omega) i c.2 (by rw [List.getElem?_map, hc]; rfl)
  · rw [putW_get_out _ _ _ (fun p hp => by simp at hp; subst hp; unfold Out at hj; simp; omega), putW_get_out _ _ _ (fun p hp => by
      obtain ⟨c, hc, e⟩ := padW_mem hp
      have := images_mem _ _ _ hc
      rw [List.length_map] at this
      unfold Out at hj; omega)]
    exact h.out j hj
theorem Mid.some (hF : Fit n f m D x) (h : Mid f m D x L) {y : List (Nat × ByteArray)} (hy : y.Sublist (padW x)) : Mid f m D x (putW L y) := by
  have hm : ∀ p ∈ y, ∃ c ∈ x, c.1 = p.1 := fun p hp => padW_mem (hy.subset hp)
  have ho : ∀ p ∈ y, Out f m p.1 := fun p hp => by
    obtain ⟨c, hc, e⟩ := hm p hp
    exact e ▸ (hF.out c hc).1
  have hx := hF.x1
  refine ⟨(putW_length _ _).trans h.len, ?_, fun i c hc => ?_, fun j hj hc => ?_⟩
  · rw [putW_get_out _ _ _ (fun p hp => by have := ho p hp; unfold Out at this; omega)]; exact h.head
  · have hi := (List.getElem?_eq_some_iff.1 hc).1
    rw [putW_get_out _ _ _ (fun p hp => by have := ho p hp; unfold Out at this; omega)]; exact h.img i c hc
  · rw [putW_get_out _ _ _ (fun p hp => by
      obtain ⟨c, hcx, e⟩ := hm p hp
      exact e ▸ hc c hcx)]
    exact h.out j hj hc
theorem Mid.all (hF : Fit n f m D x) (h : Mid f m D x L) : After f m D x (putW (putW L (padW x)) [(f, zeroS)]) := by
  refine ⟨by rw [putW_length, putW_length, h.len], ?_, fun j hj => ?_⟩
  · rw [putW_one_self _ _ _ (by rw [putW_length, h.len, hF.len]; have := hF.log; omega)]
  · rw [putW_get_out _ _ _ (fun p hp => by simp at hp; subst hp; unfold Out at hj; simp; omega)]
    refine putW_get_congr _ _ _ _ h.len ?_
    by_cases hc : ∃ c ∈ x, c.1 = j
    · obtain ⟨c, hcx, e⟩ := hc
      exact .inr ⟨(c.1, padB c.2), List.mem_map.2 ⟨c, hcx, rfl⟩, e⟩
    · exact .inl (h.out j hj (fun c hcx e => hc ⟨c, hcx, e⟩))
/-- One of the three. -/
def Any3 (f m : Nat) (D : List ByteArray) (x : List (Nat × ByteArray)) (L : List ByteArray) : Prop := Before f m D L ∨ Mid f m D x L ∨ After f m D x L
/-- The changes that the head describes are made, or the power fails. -/
theorem apply_cases (hF : Fit n f m D x) (h : Clean S) (hM : Mid f m D x S.dur) {z : List (Nat × ByteArray)} (hz : padW z = padW x) :
    ((applyS f z S).1 = 0 ∧ Clean (applyS f z S).2 ∧ After f m D x (applyS f z S).2.dur ∧ (S.left = 0 → (applyS f z S).2.left = 0)) ∨
    ((applyS f z S).1 = 7 ∧ Dead (applyS f z S).2 ∧ S.left ≠ 0 ∧ Any3 f m D x (applyS f z S).2.dur) := by
  rcases make_cases h z with ⟨h1, h2, h3, h4⟩ | ⟨h1, h2, h3, y, h4, h5⟩
  · have e : applyS f z S = makeS [(f, ⟨#[]⟩)] (makeS z S).2 := thenS_ok _ h1
    rw [e]
    rw [hz] at h3
    have e2 : padW [(f, (⟨#[]⟩ : ByteArray))] = [(f, zeroS)] := rfl
    rcases make_cases h2 [(f, ⟨#[]⟩)] with ⟨k1, k2, k3, k4⟩ | ⟨k1, k2, k3, y, k4, k5⟩
    · rw [e2, h3] at k3
      exact .inl ⟨k1, k2, by rw [k3]; exact hM.all hF, fun h0 => k4 (h4 h0)⟩
    · refine .inr ⟨k1, k2, fun h0 => k3 (h4 h0), ?_⟩
      rw [k5, h3]
      rw [e2] at k4
      rcases sub_one k4 with rfl | rfl
      · exact .inr (.inl (hM.some hF (List.Sublist.refl _)))
      · exact .inr (.inr (hM.all hF))
  · have e : applyS f z S = makeS z S := thenS_no _ (by rw [h1]; decide)
    rw [e]
    rw [hz] at h4
    exact .inr ⟨h1, h2, h3, by rw [h5]; exact .inr (.inl (hM.some hF h4))⟩
/-- A commit is made, or the power fails. -/
theorem commit_cases (hF : Fit n f m D x) (h : Clean S) (hB : Before f m D S.dur) :
    ((commitS f x S).1 = 0 ∧ Clean (commitS f x S).2 ∧ After f m D x (commitS f x S).2.dur ∧ (S.left = 0 → (commitS f x S).2.left = 0)) ∨
    ((commitS f x S).1 = 7 ∧ Dead (commitS f x S).2 ∧ S.left ≠ 0 ∧ Any3 f m D x (commitS f x S).2.dur) := by
  have hassoc : commitS f x S = thenS (makeS (imagesOf (f + 1) (x.map (·.2))) S) fun T => thenS (makeS [(f, headB x)] T) (applyS f x) := by
    unfold commitS recordS; exact thenS_assoc _ _ _
  rw [hassoc]
  rcases make_cases h (imagesOf (f + 1) (x.map (·.2))) with ⟨h1, h2, h3, h4⟩ | ⟨h1, h2, h3, y, h4, h5⟩
  · rw [thenS_ok _ h1]
    have e2 : padW [(f, headB x)] = [(f, padB (headB x))] := rfl
    rcases make_cases h2 [(f, headB x)] with ⟨k1, k2, k3, k4⟩ | ⟨k1, k2, k3, y, k4, k5⟩
    · rw [thenS_ok _ k1]
      have hM : Mid f m D x (makeS [(f, headB x)] (makeS (imagesOf (f + 1) (x.map (·.2))) S).2).2.dur := by
        rw [k3, e2, h3]; exact hB.head' hF
      rcases apply_cases hF k2 hM rfl with ⟨a1, a2, a3, a4⟩ | ⟨a1, a2, a3, a4⟩
      · exact .inl ⟨a1, a2, a3, fun h0 => a4 (k4 (h4 h0))⟩
      · exact .inr ⟨a1, a2, fun h0 => a3 (k4 (h4 h0)), a4⟩
    · rw [thenS_no _ (by rw [k1]; decide)]
      refine .inr ⟨k1, k2, fun h0 => k3 (h4 h0), ?_⟩
      rw [k5, h3]
      rw [e2] at k4
      rcases sub_one k4 with rfl | rfl
      · exact .inl (hB.images hF.x1 (List.Sublist.refl _))
      · exact .inr (.inl (hB.head' hF))
  · rw [thenS_no _ (by rw [h1]; decide)]
    exact .inr ⟨h1, h2, h3, .inl (by rw [h5]; exact hB.images hF.x1 h4)⟩
/-- An opening. -/
theorem open_cases (hF : Fit n f m D x) (h : Clean S) (hA : Any3 f m D x S.dur) :
    ((openS n f m S).1.2 = 0 ∧ Clean (openS n f m S).2 ∧ (S.left = 0 → (openS n f m S).2.left = 0) ∧
      ((openS n f m S = ((0, 0), S) ∧ (Before f m D S.dur ∨ After f m D x S.dur)) ∨ ((openS n f m S).1.1 = x.length ∧ Mid f m D x S.dur ∧ After f m D x (openS n f m S).2.dur))) ∨
    ((openS n f m S).1 = (0, 7) ∧ Dead (openS n f m S).2 ∧ S.left ≠ 0 ∧ Any3 f m D x (openS n f m S).2.dur) := by
  have h0 : ∀ (_ : S.dur[f]? = some zeroS), openS n f m S = ((0, 0), S) := fun hd => by
    unfold openS
    rw [if_neg (by rw [h.off]; decide), if_pos (found_zero h.cu hd)]
  rcases hA with hA | hA | hA
  · have e := h0 hA.head
    rw [e]
    exact .inl ⟨rfl, h, fun h => h, .inl ⟨rfl, .inl hA⟩⟩
  · have hf := found_mid h.cu hA hF.takes hF.m64 hF.n4
    have hx : x.length ≠ 0 := by have := hF.takes.1; rw [intC_length] at this; omega
    have hne : padW x ≠ [] := fun e => hx (by rw [← padW_length, e]; rfl)
    have hpp : padW (padW x) = padW x := padW_padW x (fun c hc => ((takes_nat hF.takes).2 c hc).2)
    have e : openS n f m S = if (applyS f (padW x) S).1 = 0 then ((((padW x).length : Int), (0 : Int)), (applyS f (padW x) S).2) else (((0 : Int), (7 : Int)), (applyS f (padW x) S).2) := by
      unfold openS
      rw [if_neg (by rw [h.off]; decide), hf, if_neg hne]
    rw [e]
    rcases apply_cases hF h hA hpp with ⟨a1, a2, a3, a4⟩ | ⟨a1, a2, a3, a4⟩
    · rw [if_pos a1]
      exact .inl ⟨rfl, a2, a4, .inr ⟨by show ((padW x).length : Int) = _; rw [padW_length], hA, a3⟩⟩
    · rw [if_neg (by rw [a1]; decide)]
      exact .inr ⟨rfl, a2, a3, a4⟩
  · have e := h0 hA.head
    rw [e]
    exact .inl ⟨rfl, h, fun h => h, .inl ⟨rfl, .inr hA⟩⟩
end Go.Proofs.YtbpaiiljhdohfaaDoor
