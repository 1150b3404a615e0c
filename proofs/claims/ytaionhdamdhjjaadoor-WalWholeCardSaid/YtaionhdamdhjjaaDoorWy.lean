/- WalWhole, over data alone. -/
import Derived.Test.YtaionhdamdhjjaaDoorWv
namespace Go.Proofs.YtaionhdamdhjjaaDoor
open Go.RowKit
variable {n f m t : Nat} {S : DS}

/-- Commits one behind the other. -/
noncomputable def seqS (S : DS) (xs : List (List (Nat × ByteArray))) : DS := xs.foldl (fun S x => (commitI 12 3 5 (intC x) S).2) S
theorem seqS_step (S : DS) (xs : List (List (Nat × ByteArray))) (j : Nat) (x : List (Nat × ByteArray)) (h : xs[j]? = some x) : seqS S (xs.take (j + 1)) = (commitI 12 3 5 (intC x) (seqS S (xs.take j))).2 := by
  obtain ⟨h1, h2⟩ := List.getElem?_eq_some_iff.1 h
  unfold seqS
  rw [List.take_succ_eq_append_getElem h1, List.foldl_append, h2]
  rfl
/-- A disk whose log has nothing to do. -/
structure Calm6 (S : DS) : Prop where
  clean : Clean S
  left : S.left = 0
  len : S.dur.length = 12
  head : S.dur[3]? = some zeroS
  sz : SzA S
theorem Calm6.new : Calm6 (newS 12) := ⟨Clean.new 12, rfl, newS_len 12, newS_get 12 3 (by decide), SzA.new 12⟩
theorem commitI_nat (x : List (Nat × ByteArray)) (S : DS) (hT : Takes 12 3 5 (intC x)) : commitI 12 3 5 (intC x) S = commitS 3 x S := by
  rw [show commitI 12 3 5 (intC x) S = commitS 3 (natC (intC x)) S from if_pos hT]
  congr 1
  unfold natC intC
  rw [List.map_map]
  conv => rhs; rw [← List.map_id x]
  exact List.map_congr_left fun c _ => rfl
theorem Calm6.fit (h : Calm6 S) {x : List (Nat × ByteArray)} (hT : Takes 12 3 5 (intC x)) : Fit 12 3 5 S.dur x := ⟨h.len, by decide, by decide, by decide, hT⟩
/-- A commit without a cut. -/
theorem Calm6.commit (h : Calm6 S) (x : List (Nat × ByteArray)) : Calm6 (commitI 12 3 5 (intC x) S).2 ∧ (Takes 12 3 5 (intC x) → After 3 5 S.dur x (commitI 12 3 5 (intC x) S).2.dur) ∧ (¬ Takes 12 3 5 (intC x) → (commitI 12 3 5 (intC x) S).2 = S) := by
  by_cases hT : Takes 12 3 5 (intC x)
  · have hs := h.sz.commitI 12 3 5 (intC x) (by decide)
    rw [commitI_nat x S hT] at hs ⊢
    rcases commit_cases (h.fit hT) h.clean (Before.refl h.head) with ⟨_, k2, k3, k4⟩ | ⟨_, _, k3, _⟩
    · exact ⟨⟨k2, k4 h.left, k3.len.trans h.len, k3.head, hs⟩, fun _ => k3, fun hn => absurd hT hn⟩
    · exact absurd h.left k3
  · have e : commitI 12 3 5 (intC x) S = (1, S) := if_neg hT
    rw [e]
    exact ⟨h, fun h' => absurd h' hT, fun _ => rfl⟩
theorem Calm6.seq (h : Calm6 S) (xs : List (List (Nat × ByteArray))) : Calm6 (seqS S xs) := by
  induction xs generalizing S with
  | nil => exact h
  | cons x xs ih => exact ih (h.commit x).1
theorem Bd.seq (xs : List (List (Nat × ByteArray))) : ∀ {t : Nat} {S : DS}, Bd t S → Bd (t + 140 * xs.length) (seqS S xs) := by
  induction xs with
  | nil => intro t S h; exact h
  | cons x xs ih => intro t S h; exact (ih (h.commitI 12 3 5 (intC x) (by decide))).more (by rw [List.length_cons]; omega)
theorem out_before {D L : List ByteArray} (h : Before 3 5 D L) : outK 3 6 L 12 = outK 3 6 D 12 := outK_congr 3 6 _ _ 12 fun j _ hj => h.out j (by unfold Out; omega)
theorem out_after {D L L' : List ByteArray} {x : List (Nat × ByteArray)} (h : After 3 5 D x L) (h' : After 3 5 D x L') : outK 3 6 L 12 = outK 3 6 L' 12 := outK_congr 3 6 _ _ 12 fun j _ hj => (h.out j (by unfold Out; omega)).trans (h'.out j (by unfold Out; omega)).symm
/-- What comes of a last commit that is cut, or that was over and the power was lost, the power on again, an opening that is cut, the power on again, an opening. -/
theorem whole_data (x : List (Nat × ByteArray)) (i0 i1 : Int) (ks0 ks1 : List Int) (S : DS) (h : Calm6 S) (c : Int × DS) (hc : commitI 12 3 5 (intC x) (cutS i0 ks0 S) = c) (T : DS) (hT : T = if c.1 = 7 then c.2 else crashS ks0 c.2) (o1 o2 : (Int × Int) × DS)
    (h1 : openS 12 3 5 (cutS i1 ks1 (onS T)) = o1) (h2 : openS 12 3 5 (onS o1.2) = o2) :
    (o1.1.2 = 0 ∨ o1.1.2 = 7) ∧ o2.1.2 = 0 ∧ o2.2.off = false ∧ (outK 3 6 o2.2.cur 12 = outK 3 6 (commitI 12 3 5 (intC x) S).2.cur 12 ∨ (outK 3 6 o2.2.cur 12 = outK 3 6 S.cur 12 ∧ c.1 ≠ 0)) := by
  have hcm := h.commit x
  obtain ⟨g1, g2, g3⟩ := hcm
  have hS1 := h.clean.cut i0 ks0
  by_cases hTk : Takes 12 3 5 (intC x)
  · have hF := h.fit hTk
    have hA := g2 hTk
    have ethen : (commitI 12 3 5 (intC x) S).2.cur = (commitI 12 3 5 (intC x) S).2.dur := g1.clean.cu
    rw [commitI_nat x _ hTk] at hc
    rcases commit_cases hF hS1 (Before.refl h.head) with ⟨k1, k2, k3, _⟩ | ⟨k1, k2, _, k4⟩
    · rw [hc] at k1 k2 k3
      rw [if_neg (by rw [k1]; decide)] at hT
      obtain ⟨q1, q2, q3⟩ := k2.crash ks0
      rw [← hT] at q1 q2
      have hcl := q1.onS.cut i1 ks1
      have hd : (cutS i1 ks1 (onS T)).dur[3]? = some zeroS := by show T.dur[3]? = _; rw [q2]; exact k3.head
      have e1 := open_zero (n := 12) (m := 5) hcl hd
      rw [h1] at e1
      subst e1
      have hcl2 := hcl.onS
      have e2 := open_zero (n := 12) (m := 5) hcl2 hd
      rw [h2] at e2
      subst e2
      refine ⟨.inl rfl, rfl, rfl, .inl ?_⟩
      rw [ethen, hcl2.cu]
      refine out_after (D := S.dur) (x := x) ?_ hA
      show After 3 5 S.dur x T.dur
      rw [q2]; exact k3
    · rw [hc] at k1 k2 k4
      rw [if_pos k1] at hT
      subst hT
      have hcl := k2.onS.cut i1 ks1
      have hc0 : c.1 ≠ 0 := by rw [k1]; decide
      have fin : ∀ (U : DS), Clean U → (Before 3 5 S.dur U.dur ∨ After 3 5 S.dur x U.dur) → (outK 3 6 U.cur 12 = outK 3 6 (commitI 12 3 5 (intC x) S).2.cur 12 ∨ (outK 3 6 U.cur 12 = outK 3 6 S.cur 12 ∧ c.1 ≠ 0)) := fun U hU hB => by
        rw [hU.cu]
        rcases hB with hB | hB
        · exact .inr ⟨by rw [out_before hB, h.clean.cu], hc0⟩
        · exact .inl (by rw [ethen]; exact out_after hB hA)
      have last : ∀ (U : DS), Clean U → U.left = 0 → Any3 3 5 S.dur x U.dur → openS 12 3 5 U = o2 → o2.1.2 = 0 ∧ o2.2.off = false ∧ (outK 3 6 o2.2.cur 12 = outK 3 6 (commitI 12 3 5 (intC x) S).2.cur 12 ∨ (outK 3 6 o2.2.cur 12 = outK 3 6 S.cur 12 ∧ c.1 ≠ 0)) := fun U hU hl hA3 e => by
        rcases open_cases hF hU hA3 with ⟨r1, r2, _, r4⟩ | ⟨_, _, r3, _⟩
        · rw [e] at r1 r2 r4
          refine ⟨r1, r2.off, fin _ r2 ?_⟩
          rcases r4 with ⟨r5, r6⟩ | ⟨_, _, r7⟩
          · rw [r5]; exact r6
          · exact .inr r7
        · exact absurd hl r3
      rcases open_cases hF hcl k4 with ⟨r1, r2, _, r4⟩ | ⟨r1, r2, _, r4⟩
      · rw [h1] at r1 r2 r4
        have hA3 : Any3 3 5 S.dur x (onS o1.2).dur := by
          show Any3 3 5 S.dur x o1.2.dur
          rcases r4 with ⟨r5, r6⟩ | ⟨_, _, r7⟩
          · rw [r5]
            rcases r6 with r6 | r6
            · exact .inl r6
            · exact .inr (.inr r6)
          · exact .inr (.inr r7)
        obtain ⟨z1, z2, z3⟩ := last _ r2.onS rfl hA3 h2
        exact ⟨.inl r1, z1, z2, z3⟩
      · rw [h1] at r1 r2 r4
        obtain ⟨z1, z2, z3⟩ := last _ r2.onS rfl r4 h2
        exact ⟨.inr (by rw [r1]), z1, z2, z3⟩
  · have e : commitI 12 3 5 (intC x) (cutS i0 ks0 S) = (1, cutS i0 ks0 S) := if_neg hTk
    rw [e] at hc
    subst hc
    rw [if_neg (show ¬ ((1 : Int) = 7) by decide)] at hT
    obtain ⟨q1, q2, q3⟩ := hS1.crash ks0
    rw [← hT] at q1 q2
    have hcl := q1.onS.cut i1 ks1
    have hd : (cutS i1 ks1 (onS T)).dur[3]? = some zeroS := by show T.dur[3]? = _; rw [q2]; exact h.head
    have e1 := open_zero (n := 12) (m := 5) hcl hd
    rw [h1] at e1
    subst e1
    have hcl2 := hcl.onS
    have e2 := open_zero (n := 12) (m := 5) hcl2 hd
    rw [h2] at e2
    subst e2
    refine ⟨.inl rfl, rfl, rfl, .inl ?_⟩
    rw [g3 hTk, hcl2.cu, h.clean.cu]
    show outK 3 6 T.dur 12 = _
    rw [q2]; rfl
theorem and_3 (x : Int) : 0 ≤ bits .and .i64 x 3 ∧ bits .and .i64 x 3 ≤ 3 := by
  have h1 : (BitVec.ofInt 64 3).toNat = 2 ^ 2 - 1 := by decide
  have key : (BitVec.ofInt 64 x &&& BitVec.ofInt 64 3).toNat = (BitVec.ofInt 64 x).toNat % 2 ^ 2 := by
    rw [BitVec.toNat_and, h1, Nat.and_two_pow_sub_one_eq_mod]
  show 0 ≤ IntKind.i64.wrap ((BitVec.ofInt 64 x &&& BitVec.ofInt 64 3).toNat : Nat) ∧ IntKind.i64.wrap ((BitVec.ofInt 64 x &&& BitVec.ofInt 64 3).toNat : Nat) ≤ 3
  have := Nat.mod_lt (BitVec.ofInt 64 x).toNat (show 0 < 2 ^ 2 by decide)
  rw [key, IntWalk.i64_in _ (by omega)]
  omega
end Go.Proofs.YtaionhdamdhjjaaDoor
