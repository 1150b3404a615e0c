/- Sector: the function values that say which writes are lost. -/
import Derived.Test.YtaionhdamdhjjaaSg
namespace Go.Proofs.Ytaionhdamdhjjaa
open Go.RowKit

/-- Is the write at index k lost? -/
def lostB (kp : List Int) (k : Nat) : Bool := kp.isEmpty || ((kp.getD (k % kp.length) 0).tmod 2 == 0)
theorem fail1_nil (kb : Nat) (a : Option Addr) (kc : Nat) (k : Nat) (i : Int) (s : ByteArray) (w : World) (hk : w.cell? ⟨kb, 0, none⟩ = some (.slice a 0 kc)) :
    Calls Try.prog 47 #[.int .i64 k, .agg #[.int .i64 i, .string s], .pointer (some ⟨kb, 0, none⟩)] w fun e w' => e = .returned (.bool true) ∧ Below w.heap.size w w' := by
  have hlt := World.block_lt_of_cell? w _ hk
  have hk2 : (w.alloc (.cells #[.int .i64 i, .string s] 70)).cell? ⟨kb, 0, none⟩ = some (.slice a 0 kc) := by
    rw [World.cell?_alloc_past _ _ _ hlt]; exact hk
  go_enter Try.func47, Try.ntmps47
  go_wp2_with fail
  go_region
  all_goals (try go_wp2)
  all_goals go_ret
  all_goals exact ⟨rfl, ((Below.refl _ _).alloc (Nat.le_refl _) _).drew⟩
theorem fail1_some (kb b o kn kc : Nat) (zs : List Int) (k : Nat) (i : Int) (s : ByteArray) (w : World) (hk : w.cell? ⟨kb, 0, none⟩ = some (.slice (some ⟨b, o, none⟩) kn kc)) (hn : 0 < kn) (hz : zs.length = kn) (hc : ∀ j, j < zs.length → w.cell? ⟨b, o + j, none⟩ = some (.int .i64 (zs.getD j 0))) (hk9 : k ≤ 100000000) (hkn : kn ≤ 100000000000000) :
    Calls Try.prog 47 #[.int .i64 k, .agg #[.int .i64 i, .string s], .pointer (some ⟨kb, 0, none⟩)] w fun e w' => e = .returned (.bool (lostB zs k)) ∧ Below w.heap.size w w' := by
  have hlt := World.block_lt_of_cell? w _ hk
  have hk2 : (w.alloc (.cells #[.int .i64 i, .string s] 70)).cell? ⟨kb, 0, none⟩ = some (.slice (some ⟨b, o, none⟩) kn kc) := by
    rw [World.cell?_alloc_past _ _ _ hlt]; exact hk
  have hmod : k % kn < kn := Nat.mod_lt _ hn
  obtain ⟨q, hq⟩ : ∃ q, k % kn = q := ⟨_, rfl⟩
  have hrem : (k : Int).tmod (kn : Int) = (q : Int) := by rw [← hq]; rfl
  rw [hq] at hmod
  obtain ⟨v, hv⟩ : ∃ v, zs.getD q 0 = v := ⟨_, rfl⟩
  have hcq : (w.alloc (.cells #[.int .i64 i, .string s] 70)).cell? ⟨b, o + q, none⟩ = some (.int .i64 v) := by
    have := hc q (by omega)
    rw [World.cell?_alloc_past _ _ _ (World.block_lt_of_cell? w _ this), this, hv]
  have hl : lostB zs k = (v.tmod 2 == 0) := by
    unfold lostB
    rw [hz, hq, hv]
    cases zs with
    | nil => simp at hz; omega
    | cons _ _ => rfl
  have hn0 : ((kn : Int) == 0) = false := beq_eq_false_iff_ne.2 (by omega)
  have HL := Lib.hid hl
  have hq1 : (q : Int) < kn := by omega
  clear hl hv hq hz hk hc
  go_enter Try.func47, Try.ntmps47
  go_wp2_with fail
  go_region
  all_goals (try go_wp2)
  all_goals go_ret
  all_goals exact ⟨by rw [HL.out]; rfl, ((Below.refl _ _).alloc (Nat.le_refl _) _).drew⟩
theorem Spoil1_any (kb : Nat) (x : Int) (k : Nat) (i : Int) (s : ByteArray) (w : World) (hk : w.cell? ⟨kb, 0, none⟩ = some (.int .i64 x)) :
    Calls Try.prog 34 #[.int .i64 k, .agg #[.int .i64 i, .string s], .pointer (some ⟨kb, 0, none⟩)] w fun e w' => e = .returned (.bool (i == x)) ∧ Below w.heap.size w w' := by
  have hlt := World.block_lt_of_cell? w _ hk
  have hk2 : (w.alloc (.cells #[.int .i64 i, .string s] 70)).cell? ⟨kb, 0, none⟩ = some (.int .i64 x) := by
    rw [World.cell?_alloc_past _ _ _ hlt]; exact hk
  go_enter Try.func34, Try.ntmps34
  go_wp2_with fail
  all_goals go_ret
  all_goals exact ⟨rfl, (Below.refl _ _).alloc (Nat.le_refl _) _⟩
end Go.Proofs.Ytaionhdamdhjjaa
