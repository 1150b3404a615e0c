/- Contracts: Get and Next of package nums and of the document's answer for it: for every text, one and the same. -/
import Derived.Test.YtmdhendfmhhniaaE
import Derived.Test.YtmdhendfmhhniaaE0
import Derived.Test.YtmdhendfmhhniaaE1
import Derived.Test.YtmdhendfmhhniaaE2
import Derived.Test.YtmdhendfmhhniaaE3
import Derived.Test.YtmdhendfmhhniaaE4
import Derived.Test.YtmdhendfmhhniaaE5
namespace Go.Proofs.Ytmdhendfmhhniaa
open Go.RowKit

theorem lead_cases (b : Int) : leadI b = 0 ∨ leadI b = 1 ∨ leadI b = 2 ∨ leadI b = 3 ∨ leadI b = 4 ∨ leadI b = 5 ∨ leadI b = 6 ∨ leadI b = 7 ∨ leadI b = 8 := by
  unfold leadI
  repeat' (first | omega | split)

theorem fold_get (P : Prop) (s : ByteArray) (k : Nat) (h5 : k = 5 → 1099511627776 < valI s → P) (h : k < 5 → 1099511627776 < valI s → P) (ho : valI s ≤ 1099511627776 → folI (valI s) ≠ k → P) (hk : valI s ≤ 1099511627776 → folI (valI s) = k → P) (hle : k ≤ 5) : P := by
  by_cases hb : 1099511627776 < valI s
  · by_cases h' : k = 5
    · exact h5 h' hb
    · exact h (by omega) hb
  · by_cases hf : folI (valI s) = k
    · exact hk (by omega) hf
    · exact ho (by omega) hf

theorem val_small (s : ByteArray) (k : Nat) (hk : leadI (byt s 0) = k) (h : k < 5) : valI s ≤ 1099511627776 := by
  have l0 := byt_lo s 0; have u0 := byt_hi s 0; have l1 := byt_lo s 1; have u1 := byt_hi s 1; have l2 := byt_lo s 2; have u2 := byt_hi s 2
  have l3 := byt_lo s 3; have u3 := byt_hi s 3; have l4 := byt_lo s 4; have u4 := byt_hi s 4
  rcases (show k = 0 ∨ k = 1 ∨ k = 2 ∨ k = 3 ∨ k = 4 by omega) with rfl | rfl | rfl | rfl | rfl
  · rw [val_0 s hk]; omega
  · rw [val_1 s hk]; omega
  · rw [val_2 s hk]; omega
  · rw [val_3 s hk]; omega
  · rw [val_4 s hk]; omega

theorem get_any (s : ByteArray) (w : World) (hm : s.size ≤ maxLen) :
    Calls Try.prog 24 #[.string s] w fun e w' => e = .returned (.tuple #[.int .i64 (getI s).1, .int .i64 (getI s).2.1, .int .i64 (getI s).2.2]) ∧ Below w.heap.size w w' := by
  by_cases hs : s.size = 0
  · exact get_empty s w hs
  have hs' : 0 < s.size := by omega
  rcases lead_cases (byt s 0) with hk | hk | hk | hk | hk | hk | hk | hk | hk
  case inl => exact fold_get _ s 0 (by omega) (fun _ h => absurd (val_small s 0 hk (by omega)) (by omega)) (get_0_odd s w hs' hm hk) (get_0_ok s w hs' hm hk) (by omega)
  case inr.inl =>
    by_cases hl : s.size ≤ 1
    · exact get_short s 1 w hs' hm hk (by omega) (by omega)
    exact fold_get _ s 1 (by omega) (fun _ h => absurd (val_small s 1 hk (by omega)) (by omega)) (get_1_odd s w (by omega) hm hk) (get_1_ok s w (by omega) hm hk) (by omega)
  case inr.inr.inl =>
    by_cases hl : s.size ≤ 2
    · exact get_short s 2 w hs' hm hk (by omega) (by omega)
    exact fold_get _ s 2 (by omega) (fun _ h => absurd (val_small s 2 hk (by omega)) (by omega)) (get_2_odd s w (by omega) hm hk) (get_2_ok s w (by omega) hm hk) (by omega)
  case inr.inr.inr.inl =>
    by_cases hl : s.size ≤ 3
    · exact get_short s 3 w hs' hm hk (by omega) (by omega)
    exact fold_get _ s 3 (by omega) (fun _ h => absurd (val_small s 3 hk (by omega)) (by omega)) (get_3_odd s w (by omega) hm hk) (get_3_ok s w (by omega) hm hk) (by omega)
  case inr.inr.inr.inr.inl =>
    by_cases hl : s.size ≤ 4
    · exact get_short s 4 w hs' hm hk (by omega) (by omega)
    exact fold_get _ s 4 (by omega) (fun _ h => absurd (val_small s 4 hk (by omega)) (by omega)) (get_4_odd s w (by omega) hm hk) (get_4_ok s w (by omega) hm hk) (by omega)
  case inr.inr.inr.inr.inr.inl =>
    by_cases hl : s.size ≤ 5
    · exact get_short s 5 w hs' hm hk (by omega) (by omega)
    exact fold_get _ s 5 (fun _ => get_5_big s w (by omega) hm hk) (by omega) (get_5_odd s w (by omega) hm hk) (get_5_ok s w (by omega) hm hk) (by omega)
  all_goals exact get_form s _ w hs' hm hk (by omega)

theorem rget_any (s : ByteArray) (w : World) (hm : s.size ≤ maxLen) :
    Calls Try.prog 20 #[.string s] w fun e w' => e = .returned (.tuple #[.int .i64 (getI s).1, .int .i64 (getI s).2.1, .int .i64 (getI s).2.2]) ∧ Below w.heap.size w w' := by
  by_cases hs : s.size = 0
  · exact rget_empty s w hs
  have hs' : 0 < s.size := by omega
  rcases lead_cases (byt s 0) with hk | hk | hk | hk | hk | hk | hk | hk | hk
  case inl => exact fold_get _ s 0 (by omega) (fun _ h => absurd (val_small s 0 hk (by omega)) (by omega)) (rget_0_odd s w hs' hm hk) (rget_0_ok s w hs' hm hk) (by omega)
  case inr.inl =>
    by_cases hl : s.size ≤ 1
    · exact rget_short1 s w hs' hk hl
    exact fold_get _ s 1 (by omega) (fun _ h => absurd (val_small s 1 hk (by omega)) (by omega)) (rget_1_odd s w (by omega) hm hk) (rget_1_ok s w (by omega) hm hk) (by omega)
  case inr.inr.inl =>
    by_cases hl : s.size ≤ 2
    · exact rget_short2 s w hs' hk hl
    exact fold_get _ s 2 (by omega) (fun _ h => absurd (val_small s 2 hk (by omega)) (by omega)) (rget_2_odd s w (by omega) hm hk) (rget_2_ok s w (by omega) hm hk) (by omega)
  case inr.inr.inr.inl =>
    by_cases hl : s.size ≤ 3
    · exact rget_short3 s w hs' hk hl
    exact fold_get _ s 3 (by omega) (fun _ h => absurd (val_small s 3 hk (by omega)) (by omega)) (rget_3_odd s w (by omega) hm hk) (rget_3_ok s w (by omega) hm hk) (by omega)
  case inr.inr.inr.inr.inl =>
    by_cases hl : s.size ≤ 4
    · exact rget_short4 s w hs' hk hl
    exact fold_get _ s 4 (by omega) (fun _ h => absurd (val_small s 4 hk (by omega)) (by omega)) (rget_4_odd s w (by omega) hm hk) (rget_4_ok s w (by omega) hm hk) (by omega)
  case inr.inr.inr.inr.inr.inl =>
    by_cases hl : s.size ≤ 5
    · exact rget_short5 s w hs' hk hl
    exact fold_get _ s 5 (fun _ => rget_5_big s w (by omega) hm hk) (by omega) (rget_5_odd s w (by omega) hm hk) (rget_5_ok s w (by omega) hm hk) (by omega)
  case inr.inr.inr.inr.inr.inr.inl => exact rget_form6 s w hs' hm hk
  case inr.inr.inr.inr.inr.inr.inr.inl => exact rget_form7 s w hs' hm hk
  case inr.inr.inr.inr.inr.inr.inr.inr => exact rget_form8 s w hs' hm hk

/-- The text at the beginning of a text: it, how many bytes, the error's number. -/
def nextI (s : ByteArray) : ByteArray × Int × Int :=
  if (getI s).2.2 ≠ 0 then (⟨#[]⟩, 0, (getI s).2.2) else
  if 262144 < (getI s).1 then (⟨#[]⟩, 0, 6) else
  if (s.size : Int) - (getI s).2.1 < (getI s).1 then (⟨#[]⟩, 0, 3) else
  (s.extract (getI s).2.1.toNat ((getI s).2.1 + (getI s).1).toNat, (getI s).2.1 + (getI s).1, 0)

theorem lead_lo (b : Int) : 0 ≤ leadI b := by rcases lead_cases b with h | h | h | h | h | h | h | h | h <;> omega
theorem ret3s_of {a : ByteArray} {b c : Int} {r : ByteArray × Int × Int} (h : r = (a, b, c)) : Ending.returned (.tuple #[.string a, .int .i64 b, .int .i64 c]) = .returned (.tuple #[.string r.1, .int .i64 r.2.1, .int .i64 r.2.2]) := by rw [h]

theorem val_pos (s : ByteArray) (h5 : leadI (byt s 0) ≤ 5) : 0 ≤ valI s := by
  have l0 := byt_lo s 0; have u0 := byt_hi s 0; have l1 := byt_lo s 1; have u1 := byt_hi s 1; have l2 := byt_lo s 2; have u2 := byt_hi s 2
  have l3 := byt_lo s 3; have u3 := byt_hi s 3; have l4 := byt_lo s 4; have u4 := byt_hi s 4; have l5 := byt_lo s 5; have u5 := byt_hi s 5
  rcases lead_cases (byt s 0) with hk | hk | hk | hk | hk | hk | hk | hk | hk
  · have := lead_rng0 _ l0 u0 hk; rw [val_0 s hk]; omega
  · have := lead_rng1 _ l0 u0 hk; rw [val_1 s hk]; omega
  · have := lead_rng2 _ l0 u0 hk; rw [val_2 s hk]; omega
  · have := lead_rng3 _ l0 u0 hk; rw [val_3 s hk]; omega
  · have := lead_rng4 _ l0 u0 hk; rw [val_4 s hk]; omega
  · have := lead_rng5 _ l0 u0 hk; rw [val_5 s hk]; omega
  all_goals omega

theorem getI_bounds (s : ByteArray) (n k er : Int) (h : getI s = (n, k, er)) : 0 ≤ n ∧ n ≤ 1099511627776 ∧ 0 ≤ k ∧ k ≤ 6 ∧ (er = 0 ∨ er = 2 ∨ er = 3) ∧ (er = 0 → 1 ≤ k ∧ k ≤ s.size) := by
  have hlo := lead_lo (byt s 0)
  unfold getI at h
  split at h
  · cases h; omega
  split at h
  · cases h; omega
  split at h
  · cases h; omega
  split at h
  · cases h; omega
  split at h
  · cases h; omega
  · have hv := val_pos s (by omega)
    injection h with h1 h2
    injection h2 with h2 h3
    subst h1 h2 h3
    refine ⟨hv, by omega, by omega, by omega, .inl rfl, fun _ => ⟨by omega, by omega⟩⟩

theorem get_vars (s : ByteArray) (n k er : Int) (w : World) (hm : s.size ≤ maxLen) (h : getI s = (n, k, er)) :
    Calls Try.prog 24 #[.string s] w fun e w' => e = .returned (.tuple #[.int .i64 n, .int .i64 k, .int .i64 er]) ∧ Below w.heap.size w w' :=
  (get_any s w hm).mono fun e w' ⟨a, b⟩ => ⟨by rw [a, h], b⟩

theorem rget_vars (s : ByteArray) (n k er : Int) (w : World) (hm : s.size ≤ maxLen) (h : getI s = (n, k, er)) :
    Calls Try.prog 20 #[.string s] w fun e w' => e = .returned (.tuple #[.int .i64 n, .int .i64 k, .int .i64 er]) ∧ Below w.heap.size w w' :=
  (rget_any s w hm).mono fun e w' ⟨a, b⟩ => ⟨by rw [a, h], b⟩

end Go.Proofs.Ytmdhendfmhhniaa
