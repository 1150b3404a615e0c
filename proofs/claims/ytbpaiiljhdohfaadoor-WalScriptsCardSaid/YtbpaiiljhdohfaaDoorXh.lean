/- Wal's laws: the comparing of both disks. -/
import Derived.Test.YtbpaiiljhdohfaaDoorXf
namespace Go.Proofs.YtbpaiiljhdohfaaDoor
open Go.RowKit
variable {B n g gd gc cd cc gr gl cl : Nat} {vw vk vr kr : Value} {S : DS} {w : World}

set_option maxHeartbeats 2000000 in
set_option maxRecDepth 100000 in
theorem wsame_any (ha : IsD B n g gd gc cd cc vw vk S w) (hr : IsR B n gr gl cl vr kr S w) (hcur : Cu S) (hn : n ≤ 4096) (hm : S.ws.length ≤ 10000000) :
    Calls Tryd.prog 17 #[.pointer (some ⟨g, 0, none⟩), .pointer (some ⟨gr, 0, none⟩)] w fun e w' => e = .returned (.bool true) ∧ Below w.heap.size w w' := by
  have hni : (n : Int) ≤ 4096 := by omega
  have HA := Lib.hid ha; have HR := Lib.hid hr; have HC := Lib.hid hcur; have HM := Lib.hid hm
  have c4 := hr.d.c4
  have HD := Lib.hid ha.d
  clear ha hr hcur hm
  go_enter Tryd.func17, Tryd.ntmps17
  go_wp2_with fail
  go_quiet ((first | (go_at_call 42; exact Off_q HD.out _)))
  obtain ⟨wX, hX⟩ : ∃ wX, w.drewN nq = wX := ⟨_, rfl⟩
  have hh : wX.heap = w.heap := by rw [← hX]; exact heap_drewN _ _
  have HAX := Lib.hid (HA.out.keep (w' := wX) (fun b _ => by rw [hh]))
  have HRX := Lib.hid (HR.out.keep (w' := wX) (fun b _ => by rw [hh]))
  have HBX : Hid (Below w.heap.size w wX) := Lib.hid (by rw [← hX]; exact below_drewN (Below.refl _ _) nq)
  rw [hX]
  clear hh hX c4
  go_wp2_with fail
  go_loopw [5] (fun kv wz => ∃ j : Nat, j ≤ n ∧ kv = .int .i64 (j : Int) ∧ wz = wX) (fun kv _ => n - (intOf kv).toNat)
  case atStart => exact ⟨0, Nat.zero_le _, rfl, rfl⟩
  case round =>
    obtain ⟨j, hj, rfl, hwr⟩ := hrel
    have hwr := hwr.symm
    subst hwr
    have c0 := HRX.out.d.c0
    by_cases hlt : j < n
    · have hji : (j : Int) < n := by omega
      have hra := ReadD HAX.out (j : Int)
      have hrb := RRead HRX.out HM.out (j : Int)
      rw [read_same HC.out] at hrb
      obtain ⟨x, y⟩ := readS n (j : Int) S
      have HRA := Lib.hid hra; have HRB := Lib.hid hrb
      clear hra hrb
      go_wp2_with (first | (go_at_call 18; refine HRA.out.mono ?_; rintro e w' ⟨rfl, hw'⟩; have hw' := hw'.symm; subst hw'; clear HRA) | (go_at_call 28; refine HRB.out.mono ?_; rintro e w' ⟨rfl, hw'⟩; have hw' := hw'.symm; subst hw'))
      exact ⟨⟨j + 1, by omega, by rw [Int.natCast_succ], by first | rfl | trivial⟩, by simp only [intOf]; omega⟩
    · obtain rfl : j = n := by omega
      have hgt : ¬ (j : Int) < j := by omega
      go_wp2_with fail
      go_ret
      exact ⟨rfl, HBX.out⟩
end Go.Proofs.YtbpaiiljhdohfaaDoor
