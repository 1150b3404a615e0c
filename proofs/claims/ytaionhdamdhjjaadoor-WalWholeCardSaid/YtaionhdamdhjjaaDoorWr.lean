/- Wal's laws: outside, tame. -/
import Derived.Test.YtaionhdamdhjjaaDoorWq
import Derived.Deep.AppendLies
import Derived.Deep.RegionLaw
namespace Go.Proofs.YtaionhdamdhjjaaDoor
open Go.RowKit
variable {B n g gd gc cd cc l f m t : Nat} {vw vk : Value} {S : DS} {w : World}

/-- What lies outside, the first k sectors. -/
def outK (f z : Nat) (cur : List ByteArray) : Nat → ByteArray
  | 0 => ⟨#[]⟩
  | k + 1 => if k < f ∨ f + z ≤ k then outK f z cur k ++ (cur.getD k ⟨#[]⟩).extract 0 8 else outK f z cur k
theorem outK_size (f z : Nat) (cur : List ByteArray) : ∀ k, (outK f z cur k).size ≤ 8 * k
  | 0 => Nat.le_refl _
  | k + 1 => by
    have := outK_size f z cur k
    show (if _ then _ else _ : ByteArray).size ≤ _
    split
    · rw [ByteArray.size_append, ByteArray.size_extract]; omega
    · omega
theorem outK_congr (f z : Nat) (a b : List ByteArray) : ∀ k, (∀ j, j < k → (j < f ∨ f + z ≤ j) → a[j]? = b[j]?) → outK f z a k = outK f z b k
  | 0, _ => rfl
  | k + 1, h => by
    have e := outK_congr f z a b k (fun j hj => h j (by omega))
    show (if _ then _ else _ : ByteArray) = if _ then _ else _
    rw [e]
    by_cases hc : k < f ∨ f + z ≤ k
    · rw [if_pos hc, if_pos hc, List.getD_eq_getElem?_getD, List.getD_eq_getElem?_getD, h k (by omega) hc]
    · rw [if_neg hc, if_neg hc]
set_option maxHeartbeats 1000000 in
set_option maxRecDepth 100000 in
theorem outside_any (hI : IsD B n g gd gc cd cc vw vk S w) (ho : S.off = false) (hz : Sz S) (hn : n ≤ 4096) (f z : Nat) (hf : f ≤ 4096) (hz2 : z ≤ 4096) :
    Calls Tryd.prog 21 #[.pointer (some ⟨g, 0, none⟩), .int .i64 f, .int .i64 z] w fun e w' => e = .returned (.string (outK f z S.cur n)) ∧ w' = w := by
  have hni : (n : Int) ≤ 4096 := by omega
  have HSZ := Lib.hid (Size_any g _ _ _ _ _ _ _ _ _ w hI.d)
  have HI := Lib.hid hI; have HO := Lib.hid ho; have HZ := Lib.hid hz
  have hfi : (f : Int) ≤ 4096 := by omega
  have hzi : (z : Int) ≤ 4096 := by omega
  clear hI ho hz
  go_enter Tryd.func21, Tryd.ntmps21
  go_wp2_with fail
  go_loopw [7, 8] (fun s i wr => ∃ k : Nat, k ≤ n ∧ s = .string (outK f z S.cur k) ∧ i = .int .i64 k ∧ wr = w) (fun _ i _ => n - (intOf i).toNat)
  case atStart => exact ⟨0, Nat.zero_le _, rfl, rfl, rfl⟩
  case round =>
    obtain ⟨k, hk, rfl, rfl, rfl⟩ := hrel
    by_cases hlt : k < n
    · have hki : (k : Int) < n := by omega
      obtain ⟨G, hG⟩ : ∃ G, S.cur.getD k ⟨#[]⟩ = G := ⟨_, rfl⟩
      have hGz : G.size = 512 := by rw [← hG]; exact HZ.out.get _ (by rw [HI.out.lc]; exact hlt)
      have hGi : (G.size : Int) = 512 := by omega
      have HRD := Lib.hid (hG ▸ Read_on HI.out k hlt HO.out)
      obtain ⟨O, hO⟩ : ∃ O, outK f z S.cur k = O := ⟨_, rfl⟩
      have hOz : O.size ≤ 32768 := by rw [← hO]; have := outK_size f z S.cur k; omega
      have hno : ¬ 9223372036854775807 < O.size + (G.extract 0 8).size := by rw [ByteArray.size_extract]; omega
      rw [hO]
      by_cases h1 : k < f
      · have HN : Hid (outK f z S.cur (k + 1) = O ++ G.extract 0 8) := Lib.hid (by rw [← hO, ← hG]; exact if_pos (.inl h1))
        have hd1 : decide ((k : Int) < f) = true := decide_eq_true (by omega)
        clear hO hG
        go_wp2_with (first | (go_at_call 29; refine HSZ.out.mono ?_; rintro e w' ⟨rfl, rfl⟩; clear HSZ) | (go_at_call 23; refine HRD.out.mono ?_; rintro e w' ⟨rfl, rfl⟩; clear HRD))
        exact ⟨⟨k + 1, by omega, by rw [HN.out], by rw [Int.natCast_succ], trivial⟩, by simp [intOf]; omega⟩
      · have hd1 : decide ((k : Int) < f) = false := decide_eq_false (by omega)
        by_cases h2 : f + z ≤ k
        · have HN : Hid (outK f z S.cur (k + 1) = O ++ G.extract 0 8) := Lib.hid (by rw [← hO, ← hG]; exact if_pos (.inr h2))
          have hd2 : (f : Int) + z ≤ k := by omega
          clear hO hG
          go_wp2_with (first | (go_at_call 29; refine HSZ.out.mono ?_; rintro e w' ⟨rfl, rfl⟩; clear HSZ) | (go_at_call 23; refine HRD.out.mono ?_; rintro e w' ⟨rfl, rfl⟩; clear HRD))
          exact ⟨⟨k + 1, by omega, by rw [HN.out], by rw [Int.natCast_succ], trivial⟩, by simp [intOf]; omega⟩
        · have HN : Hid (outK f z S.cur (k + 1) = O) := Lib.hid (by rw [← hO]; exact if_neg (by omega))
          have hd2 : ¬ (f : Int) + z ≤ k := by omega
          clear hO hG
          go_wp2_with (first | (go_at_call 29; refine HSZ.out.mono ?_; rintro e w' ⟨rfl, rfl⟩; clear HSZ))
          exact ⟨⟨k + 1, by omega, by rw [HN.out], by rw [Int.natCast_succ], trivial⟩, by simp [intOf]; omega⟩
    · obtain rfl : k = n := by omega
      have hnk : ¬ (k : Int) < k := by omega
      go_wp2_with (first | (go_at_call 29; refine HSZ.out.mono ?_; rintro e w' ⟨rfl, rfl⟩; clear HSZ))
      go_ret
      exact ⟨rfl, rfl⟩
end Go.Proofs.YtaionhdamdhjjaaDoor
