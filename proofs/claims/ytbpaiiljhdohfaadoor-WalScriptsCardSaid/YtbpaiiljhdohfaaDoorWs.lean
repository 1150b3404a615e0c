/- Wal's laws: tame. -/
import Derived.Test.YtbpaiiljhdohfaaDoorWr
import Derived.Deep.RegionHeld3
namespace Go.Proofs.YtbpaiiljhdohfaaDoor
open Go.RowKit
variable {w : World}

/-- A row of changes that came in. -/
def IsLC (w : World) (a : Option Addr) (len : Nat) (zs : List (Int × ByteArray)) : Prop :=
  zs.length = len ∧ (0 < len → ∃ b o, a = some ⟨b, o, none⟩ ∧ b < w.heap.size ∧ ∀ i z, zs[i]? = some z → w.cell? ⟨b, o + i * 2, none⟩ = some (.int .i64 z.1) ∧ w.cell? ⟨b, o + i * 2 + 1, none⟩ = some (.string z.2))
theorem IsLC.below {a : Option Addr} {len : Nat} {zs : List (Int × ByteArray)} {w' : World} (h : IsLC w a len zs) (hb : Below w.heap.size w w') : IsLC w' a len zs :=
  ⟨h.1, fun h0 => by
    obtain ⟨b, o, h1, h2, h3⟩ := h.2 h0
    exact ⟨b, o, h1, Nat.lt_of_lt_of_le h2 hb.size, fun i z hz => by
      obtain ⟨c0, c1⟩ := h3 i z hz
      exact ⟨(hb.cell (p := ⟨b, o + i * 2, none⟩) (by show b < _; exact h2)).trans c0, (hb.cell (p := ⟨b, o + i * 2 + 1, none⟩) (by show b < _; exact h2)).trans c1⟩⟩⟩
def tameR (k : Int) : Int := (k.tmod 6 + 6).tmod 6
theorem tameR_rng (k : Int) : 0 ≤ tameR k ∧ tameR k ≤ 5 ∧ -5 ≤ k.tmod 6 ∧ k.tmod 6 ≤ 5 := by
  have h1 : -5 ≤ k.tmod 6 ∧ k.tmod 6 ≤ 5 := by
    by_cases h : 0 ≤ k
    · rw [Int.tmod_eq_emod_of_nonneg h]; omega
    · have e1 : k.tmod 6 = -((-k).tmod 6) := by rw [← Int.neg_tmod, Int.neg_neg]
      rw [e1, Int.tmod_eq_emod_of_nonneg (by omega)]; omega
  unfold tameR
  rw [Int.tmod_eq_emod_of_nonneg (by omega)]
  omega
def tameSec (k : Int) : Nat := [0, 1, 2, 9, 10, 11].getD (tameR k).toNat 0
def tame1 (c : Int × ByteArray) : Nat × ByteArray := (tameSec c.1, c.2.extract 0 (min c.2.size 512))
def tameL (zs : List (Int × ByteArray)) : List (Nat × ByteArray) := (zs.take 5).map tame1
theorem wpAnyH_weaken {P : Program} {md : Region.Mode} {ops : Array Oper} {Q : Exit → Act → World → Prop} {S S' : World → Prop} (hS : ∀ w, S' w → S w) :
    ∀ (fuel : Nat) (listed : Array Bool) (a : Act) (w : World), wpAnyH P md ops Q S' fuel listed a w → wpAnyH P md ops Q S fuel listed a w
  | 0, _, _, _, h => h
  | fuel + 1, _, _, _, h => ⟨h.1, fun i hi => wpOp_mono (fun a' w' h' => ⟨hS _ h'.1, wpAnyH_weaken hS fuel _ a' w' h'.2⟩) (h.2 i hi)⟩
def TmS (B : Nat) (zs : List (Int × ByteArray)) (w : World) (v i : Value) (wr : World) : Prop :=
  ∃ j : Nat, j ≤ zs.length ∧ j ≤ 5 ∧ i = .int .i64 j ∧ wr.ownsRow B 55 2 v j (flat ((zs.take j).map tame1)) ∧ Below B w wr
theorem tame_step {zs : List (Int × ByteArray)} {j : Nat} {z : Int × ByteArray} (h : zs[j]? = some z) : flat ((zs.take (j + 1)).map tame1) = flat ((zs.take j).map tame1) ++ [Value.int .i64 (tameSec z.1 : Int), Value.string (z.2.extract 0 (min z.2.size 512))] := by
  obtain ⟨h1, h2⟩ := List.getElem?_eq_some_iff.1 h
  rw [List.take_succ_eq_append_getElem h1, List.map_append, flat_append, h2]
  rfl
end Go.Proofs.YtbpaiiljhdohfaaDoor
