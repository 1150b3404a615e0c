/- Vocabularies, plain facts: a number's digits, there and back; an entry's line. -/
import Derived.Test.YtmdhendfmhhniaaDoorRa
import Derived.Lib.AtoiAll
import Derived.Lib.ItoaNum
namespace Go.Proofs.YtmdhendfmhhniaaDoor
open Go.RowKit

def horA (l : List UInt8) (a : Nat) : Nat := l.foldl (fun a c => a * 10 + (c.toNat - 48)) a
def isDg (c : UInt8) : Bool := decide (48 ≤ c.toNat ∧ c.toNat ≤ 57)
theorem horA_app (l m : List UInt8) (a : Nat) : horA (l ++ m) a = horA m (horA l a) := by unfold horA; rw [List.foldl_append]
theorem horA_ge : ∀ (l : List UInt8) (a : Nat), a ≤ horA l a
  | [], a => Nat.le_refl _
  | c :: r, a => by
    have := horA_ge r (a * 10 + (c.toNat - 48))
    show a ≤ horA r (a * 10 + (c.toNat - 48))
    omega
theorem dg_nat (d : Nat) (h : d < 10) : (UInt8.ofNat (48 + d)).toNat = 48 + d := by rw [UInt8.toNat_ofNat']; omega
theorem dec_unfold (u : Nat) : Lib.decDigits u = if u < 10 then [UInt8.ofNat (48 + u)] else Lib.decDigits (u / 10) ++ [UInt8.ofNat (48 + u % 10)] := by
  rw [Lib.decDigits]
  split <;> rfl
theorem dec_all : ∀ (d u : Nat), u ≤ d → (Lib.decDigits u).all isDg = true
  | d, u, h => by
    rw [dec_unfold]
    split
    · rename_i hu
      have := dg_nat u hu
      simp [isDg, this]; omega
    · rename_i hu
      cases d with
      | zero => omega
      | succ d =>
        have h1 := dec_all d (u / 10) (by omega)
        have := dg_nat (u % 10) (by omega)
        rw [List.all_append, h1]
        simp [isDg, this]; omega
theorem dec_hor : ∀ (d u : Nat), u ≤ d → horA (Lib.decDigits u) 0 = u
  | d, u, h => by
    rw [dec_unfold]
    split
    · rename_i hu
      have := dg_nat u hu
      show 0 * 10 + ((UInt8.ofNat (48 + u)).toNat - 48) = u
      rw [this]; omega
    · rename_i hu
      cases d with
      | zero => omega
      | succ d =>
        rw [horA_app, dec_hor d (u / 10) (by omega)]
        have := dg_nat (u % 10) (by omega)
        show u / 10 * 10 + ((UInt8.ofNat (48 + u % 10)).toNat - 48) = u
        rw [this]; omega
theorem dec_ne (u : Nat) : Lib.decDigits u ≠ [] := by
  rw [dec_unfold]; split <;> simp
theorem parse_hor : ∀ (l : List UInt8) (a : Nat), l.all isDg = true → horA l a < 1000000000000 → Lib.parseUint10 a l = .ok (horA l a)
  | [], a, _, _ => rfl
  | c :: r, a, h, hb => by
    rw [List.all_cons, Bool.and_eq_true] at h
    have hc : 48 ≤ c.toNat ∧ c.toNat ≤ 57 := of_decide_eq_true h.1
    have e : horA (c :: r) a = horA r (a * 10 + (c.toNat - 48)) := rfl
    have hg := horA_ge r (a * 10 + (c.toNat - 48))
    rw [e] at hb ⊢
    unfold Lib.parseUint10
    rw [if_pos hc, if_neg (by omega), if_neg (by omega)]
    exact parse_hor r _ h.2 hb
theorem atoi_dec {n : Nat} (h : n ≤ 1073741824) : Lib.atoiAll (Lib.decDigits n) = .ok (n : Int) := by
  have h1 := dec_all n n (Nat.le_refl _)
  have h2 := dec_hor n n (Nat.le_refl _)
  have h3 := parse_hor (Lib.decDigits n) 0 h1 (by rw [h2]; omega)
  rw [h2] at h3
  cases hd : Lib.decDigits n with
  | nil => exact absurd hd (dec_ne n)
  | cons c r =>
    rw [hd] at h1 h3
    rw [List.all_cons, Bool.and_eq_true] at h1
    have hc : 48 ≤ c.toNat ∧ c.toNat ≤ 57 := of_decide_eq_true h1.1
    unfold Lib.atoiAll
    simp only
    rw [if_neg (by omega)]
    unfold Lib.parseMag
    rw [if_neg (by simp), h3]
    simp only
    rw [if_neg (by omega), if_neg (by omega), if_neg (by omega)]
/-- The number that a text is, written as it should be. -/
def numR (s : ByteArray) : Option Nat := match Lib.atoiAll s.data.toList with
  | .ok v => if 0 ≤ v ∧ v ≤ 1073741824 ∧ Lib.itoa v = s.data.toList then some v.toNat else none
  | _ => none
theorem numR_iff (s : ByteArray) (n : Nat) : numR s = some n ↔ n ≤ 1073741824 ∧ s.data.toList = Lib.decDigits n := by
  unfold numR
  constructor
  · intro h
    split at h
    · rename_i v hv
      split at h
      · rename_i hc
        injection h with h
        subst h
        obtain ⟨h1, h2, h3⟩ := hc
        refine ⟨by omega, ?_⟩
        rw [← h3]; unfold Lib.itoa; rw [if_neg (by omega)]
      · cases h
    · cases h
  · rintro ⟨h1, h2⟩
    rw [h2, atoi_dec h1]
    simp only
    rw [if_pos]
    · simp
    · refine ⟨by omega, by omega, ?_⟩
      unfold Lib.itoa; rw [if_neg (by omega)]; simp
/-- What a line is as an entry. -/
def entR (s : ByteArray) : Option (Nat × ByteArray) := match numR (pairOf s).1 with
  | some n => if goodB (pairOf s).2 then some (n, (pairOf s).2) else none
  | none => none
end Go.Proofs.YtmdhendfmhhniaaDoor
