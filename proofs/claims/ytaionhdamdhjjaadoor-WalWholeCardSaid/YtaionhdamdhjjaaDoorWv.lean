/- WalOnce, over data alone. -/
import Derived.Test.YtaionhdamdhjjaaDoorWu
namespace Go.Proofs.YtaionhdamdhjjaaDoor
open Go.RowKit
variable {n f m t : Nat} {S : DS}

theorem open_zero (h : Clean S) (hd : S.dur[f]? = some zeroS) : openS n f m S = ((0, 0), S) := by
  unfold openS
  rw [if_neg (by rw [h.off]; decide), if_pos (found_zero h.cu hd)]
theorem Clean.cut (h : Clean S) (i : Int) (zs : List Int) : Clean (cutS i zs S) := ⟨h.off, h.ws, h.cu⟩
theorem Clean.onS (h : Clean S) : Clean (onS S) := ⟨rfl, h.ws, h.cu⟩
theorem Dead.onS (h : Dead S) : Clean (onS S) := ⟨rfl, h.ws, h.cu⟩
theorem Clean.crash (h : Clean S) (zs : List Int) : Clean (crashS zs S) ∧ (crashS zs S).dur = S.dur ∧ (crashS zs S).left = 0 := by
  obtain ⟨h1, h2⟩ := crash_none zs h.ws
  exact ⟨⟨rfl, rfl, by rw [h1, h2]⟩, h2, rfl⟩
theorem not_mid_zero {D L : List ByteArray} {x : List (Nat × ByteArray)} (hM : Mid f m D x L) (hz : L[f]? = some zeroS) (hl : 1 ≤ x.length) (h64 : x.length ≤ 64) : False := by
  have := hM.head
  rw [hz] at this
  injection this with this
  have e := headB_len x h64
  rw [← this, zeroS_two] at e
  omega
/-- What comes of a commit that is cut, the power on again, all lost, two openings. -/
theorem once_data (x : List (Nat × ByteArray)) (i : Int) (ks : List Int) (S0 : DS) (h0 : Clean S0) (hl : S0.dur.length = 12) (hz : S0.dur[3]? = some zeroS) (c : Int × DS) (hc : commitI 12 3 5 (intC x) (cutS i ks S0) = c) (o1 o2 : (Int × Int) × DS)
    (h1 : openS 12 3 5 (crashS [] (onS c.2)) = o1) (h2 : openS 12 3 5 o1.2 = o2) :
    o1.1.2 = 0 ∧ o2.1 = (0, 0) ∧ o2.2 = o1.2 ∧ o1.2.off = false ∧ (o1.1.1 = 0 ∨ (o1.1.1 = x.length ∧ 1 ≤ x.length ∧ c.1 = 7)) := by
  have hS1 := h0.cut i ks
  by_cases hT : Takes 12 3 5 (intC x)
  · have hF : Fit 12 3 5 S0.dur x := ⟨hl, by decide, by decide, by decide, hT⟩
    have hx1 : 1 ≤ x.length := by have := hT.1; rw [intC_length] at this; exact this
    have e : commitI 12 3 5 (intC x) (cutS i ks S0) = commitS 3 x (cutS i ks S0) := by
      rw [show commitI 12 3 5 (intC x) (cutS i ks S0) = commitS 3 (natC (intC x)) (cutS i ks S0) from if_pos hT]
      congr 1
      unfold natC intC
      rw [List.map_map]
      conv => rhs; rw [← List.map_id x]
      exact List.map_congr_left fun c _ => rfl
    rw [e] at hc
    rcases commit_cases hF hS1 (Before.refl hz) with ⟨k1, k2, k3, _⟩ | ⟨k1, k2, _, k4⟩
    · rw [hc] at k1 k2 k3
      obtain ⟨q1, q2, q3⟩ := k2.onS.crash []
      have hd : (crashS [] (onS c.2)).dur[3]? = some zeroS := by rw [q2]; exact k3.head
      have e1 := open_zero (n := 12) (m := 5) q1 hd
      rw [h1] at e1
      subst e1
      have e2 := open_zero (n := 12) (m := 5) q1 hd
      rw [h2] at e2
      subst e2
      exact ⟨rfl, rfl, rfl, q1.off, .inl rfl⟩
    · rw [hc] at k1 k2 k4
      obtain ⟨q1, q2, q3⟩ := k2.onS.crash []
      have hA : Any3 3 5 S0.dur x (crashS [] (onS c.2)).dur := by rw [q2]; exact k4
      rcases open_cases hF q1 hA with ⟨r1, r2, r3, r4⟩ | ⟨_, _, r3, _⟩
      · rw [h1] at r1 r2 r3 r4
        rcases r4 with ⟨r5, r6⟩ | ⟨r5, r6, r7⟩
        · have hd : (crashS [] (onS c.2)).dur[3]? = some zeroS := by
            rcases r6 with r6 | r6
            · exact r6.head
            · exact r6.head
          subst r5
          have e2 := open_zero (n := 12) (m := 5) q1 hd
          rw [h2] at e2
          subst e2
          exact ⟨rfl, rfl, rfl, q1.off, .inl rfl⟩
        · have e2 := open_zero (n := 12) (m := 5) r2 r7.head
          rw [h2] at e2
          rw [e2]
          exact ⟨r1, rfl, rfl, r2.off, .inr ⟨r5, hx1, k1⟩⟩
      · exact absurd q3 r3
  · have e : commitI 12 3 5 (intC x) (cutS i ks S0) = (1, cutS i ks S0) := if_neg hT
    rw [e] at hc
    subst hc
    obtain ⟨q1, q2, q3⟩ := hS1.onS.crash []
    have hd : (crashS [] (onS (cutS i ks S0))).dur[3]? = some zeroS := by rw [q2]; exact hz
    have e1 := open_zero (n := 12) (m := 5) q1 hd
    rw [h1] at e1
    subst e1
    have e2 := open_zero (n := 12) (m := 5) q1 hd
    rw [h2] at e2
    subst e2
    exact ⟨rfl, rfl, rfl, q1.off, .inl rfl⟩
theorem and_31 (x : Int) : 0 ≤ bits .and .i64 x 31 ∧ bits .and .i64 x 31 ≤ 31 := by
  have h1 : (BitVec.ofInt 64 31).toNat = 2 ^ 5 - 1 := by decide
  have key : (BitVec.ofInt 64 x &&& BitVec.ofInt 64 31).toNat = (BitVec.ofInt 64 x).toNat % 2 ^ 5 := by
    rw [BitVec.toNat_and, h1, Nat.and_two_pow_sub_one_eq_mod]
  show 0 ≤ IntKind.i64.wrap ((BitVec.ofInt 64 x &&& BitVec.ofInt 64 31).toNat : Nat) ∧ IntKind.i64.wrap ((BitVec.ofInt 64 x &&& BitVec.ofInt 64 31).toNat : Nat) ≤ 31
  have := Nat.mod_lt (BitVec.ofInt 64 x).toNat (show 0 < 2 ^ 5 by decide)
  rw [key, IntWalk.i64_in _ (by omega)]
  omega
theorem own_base {w : World} {B B' e size n : Nat} {v : Value} {xs : List Value} (h : w.ownsRow B e size v n xs) (hB : B' ≤ B) : w.ownsRow B' e size v n xs :=
  ⟨h.1, h.2.imp id fun ⟨g, cap, cur, h1, h2, h3⟩ => ⟨g, cap, cur, h1, Nat.le_trans hB h2, h3⟩⟩
end Go.Proofs.YtaionhdamdhjjaaDoor
