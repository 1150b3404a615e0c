/- Vocabularies: the law's comparing of entries; the vocabulary of a text; of a list of merges. -/
import Derived.Test.YtmkaecpecikcaaaGreatDoorV3
import Derived.Test.YtmkaecpecikcaaaGreatDoorY3
import Derived.Test.YtmkaecpecikcaaaGreatDoorV4
import Derived.Test.YtmkaecpecikcaaaGreatDoorPza
import Derived.Laws.StructEq
namespace Go.Proofs.YtmkaecpecikcaaaGreatDoor
open Go.RowKit Go.Shelf Go.Maps
variable {w w' : World}

def SmS (n : Nat) (w : World) (i : Value) (wr : World) : Prop := ∃ k : Nat, k ≤ n ∧ i = .int .i64 k ∧ Below w.heap.size w wr
set_option maxHeartbeats 2000000 in
set_option maxRecDepth 100000 in
theorem same9_any (o1 o2 : Option Addr) (c1 c2 : Nat) (L : List EntB) (w : World) (hL : L.length ≤ 200000) (h1 : EnAt w 50 o1 L) (h2 : EnAt w 56 o2 L) :
    Calls Tryz.prog 8 #[.slice o1 L.length c1, .slice o2 L.length c2] w fun e w' => e = .returned (.bool true) ∧ Below w.heap.size w w' := by
  have H1 := Lib.hid h1; have H2 := Lib.hid h2
  obtain ⟨n, hn⟩ : ∃ n, L.length = n := ⟨_, rfl⟩
  have HN := Lib.hid hn
  rw [hn] at hL ⊢
  clear h1 h2 hn
  go_enter Tryz.func8, Tryz.ntmps8
  go_wp2_with fail
  go_loopw [5] (fun i wr => SmS n w i wr) (fun i _ => n - (intOf i).toNat)
  case atStart => exact ⟨0, Nat.zero_le _, rfl, Below.refl _ _⟩
  case round =>
    obtain ⟨k, hk, rfl, hb⟩ := hrel
    have HB := Lib.hid hb
    clear hb
    by_cases hlt : k < n
    · obtain ⟨p, hp⟩ : ∃ p, L[k]? = some p := ⟨_, List.getElem?_eq_getElem (by rw [HN.out]; exact hlt)⟩
      obtain ⟨g1, cur1, rfl, _, d0, d1⟩ := (H1.out.below HB.out) k p hp
      obtain ⟨g2, cur2, rfl, _, e0, e1⟩ := (H2.out.below HB.out) k p hp
      obtain ⟨p1, p2⟩ := p
      simp only at d0 d1 e0 e1
      have hki : (k : Int) < n := by omega
      clear hp
      go_wp2_with fail
      have hpt : Tryz.prog.eqGuardType Tryz.prog.depth 56 = false := by kernel_rfl
      have hst : Tryz.prog.stoodInHeld 56 = false := by kernel_rfl
      go_quiet (fail)
      rename_i nq
      have HB2 := Lib.hid (below_drewN HB.out nq)
      generalize wr.drewN nq = wd at HB2 ⊢
      go_wp2_with fail
      go_roundw
      case rel => exact ⟨k + 1, by omega, by rw [Int.natCast_succ], HB2.out⟩
      case measure => simp [intOf]; omega
    · have hkn : k = n := by omega
      go_wp2_with fail
      go_ret
      exact ⟨rfl, HB.out⟩
end Go.Proofs.YtmkaecpecikcaaaGreatDoor
