/- Wal, the document's side: Fits, May, Say, Make. -/
import Derived.Test.YtbpaiiljhdohfaaDoorWk
import Derived.Test.YtbpaiiljhdohfaaDoorMf
import Derived.Deep.QuietTactic
import Derived.BigQuiet
namespace Go.Proofs.YtbpaiiljhdohfaaDoor
open Go.RowKit
variable {B n g gl cl : Nat} {vw vk : Value} {S : DS} {w : World}

def MayI (n : Nat) (f z i : Int) : Prop := 0 ≤ i ∧ i < n ∧ (i < f ∨ f + z ≤ i)
instance (n : Nat) (f z i : Int) : Decidable (MayI n f z i) := by unfold MayI; infer_instance
instance (n : Nat) (f z : Int) : Decidable (Fits n f z) := by unfold Fits; infer_instance

set_option maxRecDepth 100000 in
theorem RMay (h : IsR B n g gl cl vw vk S w) (hn : n ≤ 4096) (f z i : Int) (hF : Fits n f z) :
    Calls Tryd.prog 29 #[.pointer (some ⟨g, 0, none⟩), .agg #[.int .i64 f, .int .i64 z], .int .i64 i] w fun e w' => e = .returned (.bool (decide (MayI n f z i))) ∧ Below w.heap.size w w' := by
  have hlt := h.d.lt
  have c0 : (w.alloc (.cells #[.int .i64 f, .int .i64 z] 32)).cell? ⟨g, 0, none⟩ = some (.slice (some ⟨gl, 0, none⟩) n cl) := (((Below.refl w.heap.size w).alloc (Nat.le_refl _) (.cells #[.int .i64 f, .int .i64 z] 32)).cell (p := ⟨g, 0, none⟩) hlt).trans h.d.c0
  clear hlt
  obtain ⟨f0, z2, z65, fz⟩ := hF
  clear h
  by_cases h0 : 0 ≤ i
  · by_cases h1 : i < n
    · by_cases h2 : i < f
      · have hd : MayI n f z i := ⟨h0, h1, .inl h2⟩
        rw [decide_eq_true hd]
        clear hd
        go_enter Tryd.func29, Tryd.ntmps29
        go_wp2_with fail
        go_ret
        exact ⟨rfl, (Below.refl _ _).alloc (Nat.le_refl _) _⟩
      · by_cases h3 : f + z ≤ i
        · have hd : MayI n f z i := ⟨h0, h1, .inr h3⟩
          rw [decide_eq_true hd]
          clear hd
          go_enter Tryd.func29, Tryd.ntmps29
          go_wp2_with fail
          go_ret
          exact ⟨rfl, (Below.refl _ _).alloc (Nat.le_refl _) _⟩
        · have hd : ¬ MayI n f z i := fun ⟨_, _, h⟩ => by omega
          rw [decide_eq_false hd]
          clear hd
          go_enter Tryd.func29, Tryd.ntmps29
          go_wp2_with fail
          go_ret
          exact ⟨rfl, (Below.refl _ _).alloc (Nat.le_refl _) _⟩
    · have hd : ¬ MayI n f z i := fun ⟨_, h, _⟩ => h1 h
      rw [decide_eq_false hd]
      clear hd
      go_enter Tryd.func29, Tryd.ntmps29
      go_wp2_with fail
      go_ret
      exact ⟨rfl, (Below.refl _ _).alloc (Nat.le_refl _) _⟩
  · have hd : ¬ MayI n f z i := fun ⟨h, _⟩ => h0 h
    rw [decide_eq_false hd]
    clear hd
    go_enter Tryd.func29, Tryd.ntmps29
    go_wp2_with fail
    go_ret
    exact ⟨rfl, (Below.refl _ _).alloc (Nat.le_refl _) _⟩

set_option maxRecDepth 100000 in
theorem RFits (h : IsR B n g gl cl vw vk S w) (hn : n ≤ 4096) (f z : Int) :
    Calls Tryd.prog 27 #[.pointer (some ⟨g, 0, none⟩), .agg #[.int .i64 f, .int .i64 z]] w fun e w' => e = .returned (.bool (decide (Fits n f z))) ∧ Below w.heap.size w w' := by
  have hlt := h.d.lt
  have c0 : (w.alloc (.cells #[.int .i64 f, .int .i64 z] 32)).cell? ⟨g, 0, none⟩ = some (.slice (some ⟨gl, 0, none⟩) n cl) := (((Below.refl w.heap.size w).alloc (Nat.le_refl _) (.cells #[.int .i64 f, .int .i64 z] 32)).cell (p := ⟨g, 0, none⟩) hlt).trans h.d.c0
  clear hlt
  clear h
  by_cases h0 : 0 ≤ f
  · by_cases h1 : 2 ≤ z
    · by_cases h2 : z ≤ 65
      · by_cases h3 : f ≤ n - z
        · have hd : Fits n f z := ⟨h0, h1, h2, h3⟩
          rw [decide_eq_true hd]
          clear hd
          go_enter Tryd.func27, Tryd.ntmps27
          go_wp2_with fail
          go_quiet (fail)
          go_wp2_with fail
          go_ret
          exact ⟨rfl, below_drewN ((Below.refl _ _).alloc (Nat.le_refl _) _) _⟩
        · have q3 : decide (f ≤ (n : Int) - z) = false := decide_eq_false h3
          have hd : ¬ Fits n f z := fun ⟨_, _, _, h⟩ => h3 h
          rw [decide_eq_false hd]
          clear hd
          go_enter Tryd.func27, Tryd.ntmps27
          go_wp2_with fail
          go_quiet (fail)
          go_wp2_with fail
          go_ret
          exact ⟨rfl, below_drewN ((Below.refl _ _).alloc (Nat.le_refl _) _) _⟩
      · have q2 : decide (z ≤ 65) = false := decide_eq_false h2
        have hd : ¬ Fits n f z := fun ⟨_, _, h, _⟩ => h2 h
        rw [decide_eq_false hd]
        clear hd
        go_enter Tryd.func27, Tryd.ntmps27
        go_wp2_with fail
        go_quiet (fail)
        go_wp2_with fail
        go_ret
        exact ⟨rfl, below_drewN ((Below.refl _ _).alloc (Nat.le_refl _) _) _⟩
    · have q1 : decide (2 ≤ z) = false := decide_eq_false h1
      have hd : ¬ Fits n f z := fun ⟨_, h, _⟩ => h1 h
      rw [decide_eq_false hd]
      clear hd
      go_enter Tryd.func27, Tryd.ntmps27
      go_wp2_with fail
      go_quiet (fail)
      go_wp2_with fail
      go_ret
      exact ⟨rfl, below_drewN ((Below.refl _ _).alloc (Nat.le_refl _) _) _⟩
  · have q0 : decide (0 ≤ f) = false := decide_eq_false h0
    have hd : ¬ Fits n f z := fun ⟨h, _⟩ => h0 h
    rw [decide_eq_false hd]
    clear hd
    go_enter Tryd.func27, Tryd.ntmps27
    go_wp2_with fail
    go_quiet (fail)
    go_wp2_with fail
    go_ret
    exact ⟨rfl, below_drewN ((Below.refl _ _).alloc (Nat.le_refl _) _) _⟩
end Go.Proofs.YtbpaiiljhdohfaaDoor
