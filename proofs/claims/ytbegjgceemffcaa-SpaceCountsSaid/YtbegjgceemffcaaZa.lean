/- Space: a unit's place; whether it is allocated. -/
import Derived.Test.YtbegjgceemffcaaPu
import Derived.Test.YtbegjgceemffcaaV0
namespace Go.Proofs.Ytbegjgceemffcaa
open Go.RowKit Go.Shelf
variable {w w' : World}

set_option maxRecDepth 100000 in
theorem place_n (i : Nat) (hi : i < 5) (w : World) : Calls Try.prog 20 #[.int .i64 i] w fun e w' => e = .returned (.tuple #[.int .i64 0, .int .u8 ((2 ^ i : Nat) : Int)]) ∧ Below w.heap.size w w' := by
  have key : ∀ (i : Int) (r : Int), (i = 0 ∧ r = 1) ∨ (i = 1 ∧ r = 2) ∨ (i = 2 ∧ r = 4) ∨ (i = 3 ∧ r = 8) ∨ (i = 4 ∧ r = 16) → Calls Try.prog 20 #[.int .i64 i] w fun e w' => e = .returned (.tuple #[.int .i64 0, .int .u8 r]) ∧ Below w.heap.size w w' := by
    intro i r h
    rcases h with ⟨rfl, rfl⟩ | ⟨rfl, rfl⟩ | ⟨rfl, rfl⟩ | ⟨rfl, rfl⟩ | ⟨rfl, rfl⟩
    all_goals
      go_enter Try.func20, Try.ntmps20
      go_wp2_with fail
      go_quiet (fail)
      rename_i nq
      go_wp2_with fail
      refine bodyPost_ret (v := .tuple #[.int .i64 0, .int .u8 _]) (by simp [results, Try.results20, go_sem]) rfl ⟨rfl, below_drewN (Below.refl _ _) nq⟩
  refine key i _ ?_
  rcases (show i = 0 ∨ i = 1 ∨ i = 2 ∨ i = 3 ∨ i = 4 by omega) with rfl | rfl | rfl | rfl | rfl <;> simp
/-- Is a unit allocated, where these bits are? -/
def bitS (x : UInt8) (i : Nat) : Bool := x.toNat.testBit i
def spV (x : UInt8) : Value := .agg #[.int .i64 5, .string ⟨#[x]⟩]
set_option maxRecDepth 100000 in
set_option maxHeartbeats 2000000 in
theorem Has_n (x : UInt8) (hx : x = 2 ∨ x = 7) (i : Nat) (hi : i < 5) (w : World) : Calls Try.prog 22 #[spV x, .int .i64 i] w fun e w' => e = .returned (.bool (bitS x i)) ∧ Below w.heap.size w w' := by
  have HP := Lib.hid (fun W => place_n i hi W)
  have hb1 := (Below.refl w.heap.size w).alloc (Nat.le_refl _) (.cells #[.int .i64 5, .string ⟨#[x]⟩] 30)
  have hr1 := World.alloc_heap_new w (.cells #[.int .i64 5, .string ⟨#[x]⟩] 30)
  generalize hW1 : w.alloc (.cells #[.int .i64 5, .string ⟨#[x]⟩] 30) = W1 at hb1 hr1
  have HB1 := Lib.hid hb1; have HR1 := Lib.hid hr1
  have c0 : W1.cell? ⟨w.heap.size, 0, none⟩ = some (.int .i64 5) := cell_of_row hr1
  have hii : (i : Int) < 5 := by omega
  have hi0 : (0 : Int) ≤ i := by omega
  unfold spV
  clear hb1 hr1
  go_enter Try.func22, Try.ntmps22
  go_wp2_with (go_at_call 20; refine (HP.out _).mono ?_)
  rintro e w2 ⟨rfl, hb2⟩
  have c1 : w2.cell? ⟨w.heap.size, 1, none⟩ = some (.string ⟨#[x]⟩) := (World.cell?_of_block (a := ⟨w.heap.size, 1, none⟩) (hb2.block _ (lt_of_some HR1.out))).trans (cell_of_row HR1.out)
  have HB2 := Lib.hid (HB1.out.trans (hb2.mono HB1.out.size))
  clear hb2 hW1 c0 hii hi0 HP
  have key : ∀ p : Int, p = ((2 ^ i : Nat) : Int) → True := fun _ _ => trivial
  rcases hx with rfl | rfl <;> rcases (show i = 0 ∨ i = 1 ∨ i = 2 ∨ i = 3 ∨ i = 4 by omega) with rfl | rfl | rfl | rfl | rfl
  all_goals
    go_wp2_with fail
    go_ret
    exact ⟨rfl, HB2.out⟩
end Go.Proofs.Ytbegjgceemffcaa
