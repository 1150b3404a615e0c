/- The document's disk: Read, Spoil. -/
import Derived.Test.YtaionhdamdhjjaaUe
namespace Go.Proofs.Ytaionhdamdhjjaa
open Go.RowKit
variable {B n g gl cl : Nat} {vw vk : Value} {S : DS} {w : World}

def readR (n : Nat) (i : Int) (S : DS) : ByteArray × Int := if 0 ≤ i ∧ i < n then (if S.off = true then (⟨#[]⟩, 7) else ((putW S.dur S.ws).getD i.toNat ⟨#[]⟩, 0)) else (⟨#[]⟩, 1)
set_option maxHeartbeats 2000000 in
theorem RRead (h : IsR B n g gl cl vw vk S w) (hm : S.ws.length ≤ 10000000) (i : Int) :
    Calls Try.prog 38 #[.pointer (some ⟨g, 0, none⟩), .int .i64 i] w fun e w' => e = .returned (.tuple #[.string (readR n i S).1, .int .i64 (readR n i S).2]) ∧ w' = w := by
  have c0 := h.d.c0
  by_cases hi : 0 ≤ i ∧ i < n
  · obtain ⟨h0, h1⟩ := hi
    have h1n : ¬ (n : Int) ≤ i := by omega
    have h0n : ¬ i < 0 := by omega
    have c4 := h.d.c4
    cases ho : S.off
    · obtain ⟨k, rfl⟩ : ∃ k : Nat, i = k := ⟨i.toNat, by omega⟩
      have hk : k < n := by omega
      have e0 : readR n k S = ((putW S.dur S.ws).getD k ⟨#[]⟩, 0) := by
        unfold readR
        rw [if_pos ⟨h0, h1⟩, if_neg (by rw [ho]; decide), Int.toNat_natCast]
      rw [e0]
      rw [ho] at c4
      obtain ⟨o, cw, hvw, hcell⟩ := h.wr
      obtain ⟨m, hmm⟩ : ∃ m, S.ws.length = m := ⟨_, rfl⟩
      have hmi : (m : Int) ≤ 10000000 := by omega
      have c1 : w.cell? ⟨g, 1, none⟩ = some (.slice o m cw) := by rw [h.d.c1, hvw, hmm]
      obtain ⟨x, hx⟩ : ∃ x, S.dur[k]? = some x := ⟨_, List.getElem?_eq_getElem (by rw [h.ld]; exact hk)⟩
      have e1 := h.rd.cell _ _ hx
      have HX := Lib.hid (show (putW S.dur (S.ws.take 0)).getD k ⟨#[]⟩ = x by rw [List.getD_eq_getElem?_getD]; show (S.dur[k]?).getD _ = _; rw [hx]; rfl)
      have HC := Lib.hid hcell; have HM := Lib.hid hmm; have HLD := Lib.hid h.ld
      clear h hcell hvw hmm hx hm ho e0
      go_enter Try.func38, Try.ntmps38
      go_wp2_with fail
      go_loopw [6, 7] (fun sv kv wr => ∃ j : Nat, j ≤ m ∧ kv = .int .i64 j ∧ sv = .string ((putW S.dur (S.ws.take j)).getD k ⟨#[]⟩) ∧ wr = w) (fun _ kv _ => m - (intOf kv).toNat)
      case atStart => exact ⟨0, Nat.zero_le _, rfl, by rw [HX.out], rfl⟩
      case round =>
        obtain ⟨j, hj, rfl, rfl, rfl⟩ := hrel
        by_cases hlt : j < m
        · have hji : (j : Int) < m := by omega
          have hj9 : (j : Int) ≤ 10000000 := by omega
          obtain ⟨p, hp⟩ : ∃ p, S.ws[j]? = some p := ⟨_, List.getElem?_eq_getElem (by rw [HM.out]; exact hlt)⟩
          obtain ⟨gw, hgw, q1, q2, q3, d0, d1⟩ := HC.out j p hp
          subst hgw
          have hnx : (putW S.dur (S.ws.take (j + 1))).getD k ⟨#[]⟩ = if p.1 = k then p.2 else (putW S.dur (S.ws.take j)).getD k ⟨#[]⟩ := by
            rw [putW_take _ _ j p hp, List.getD_eq_getElem?_getD, List.getElem?_set]
            by_cases e : p.1 = k
            · rw [if_pos e, if_pos e, if_pos (by rw [putW_length, HLD.out]; omega)]; rfl
            · rw [if_neg e, if_neg e, ← List.getD_eq_getElem?_getD]
          obtain ⟨pi, ps⟩ := p
          by_cases e : pi = k
          · have HNX : Hid ((putW S.dur (S.ws.take (j + 1))).getD k ⟨#[]⟩ = ps) := Lib.hid (by rw [hnx, if_pos e])
            subst e
            clear hnx hp
            go_wp2_with fail
            exact ⟨⟨j + 1, by omega, by rw [Int.natCast_succ], by rw [HNX.out], trivial⟩, by simp [intOf]; omega⟩
          · have HNX : Hid ((putW S.dur (S.ws.take (j + 1))).getD k ⟨#[]⟩ = (putW S.dur (S.ws.take j)).getD k ⟨#[]⟩) := Lib.hid (by rw [hnx, if_neg e])
            have hpe : ¬ (pi : Int) = k := by omega
            have hpb : ((pi : Int) == k) = false := beq_eq_false_iff_ne.2 hpe
            obtain ⟨y, hy⟩ : ∃ y, (putW S.dur (S.ws.take j)).getD k ⟨#[]⟩ = y := ⟨_, rfl⟩
            have HY := Lib.hid hy
            rw [hy]
            clear hnx hp hy
            go_wp2_with fail
            exact ⟨⟨j + 1, by omega, by rw [Int.natCast_succ], by rw [HNX.out, HY.out], trivial⟩, by simp [intOf]; omega⟩
        · obtain rfl : j = m := by omega
          have HE : Hid ((putW S.dur (S.ws.take j)).getD k ⟨#[]⟩ = (putW S.dur S.ws).getD k ⟨#[]⟩) := Lib.hid (by rw [List.take_of_length_le (Nat.le_of_eq HM.out)])
          rw [HE.out]
          obtain ⟨y, hy⟩ : ∃ y, (putW S.dur S.ws).getD k ⟨#[]⟩ = y := ⟨_, rfl⟩
          rw [hy]
          have HY := Lib.hid hy
          clear hy
          go_wp2_with fail
          go_ret2
          exact ⟨by rw [HY.out]; rfl, rfl⟩
    · have e0 : readR n i S = (⟨#[]⟩, 7) := by unfold readR; rw [if_pos ⟨h0, h1⟩, if_pos ho]
      rw [e0]
      rw [ho] at c4
      clear h ho e0
      go_enter Try.func38, Try.ntmps38
      go_wp2_with fail
      go_ret2
      exact ⟨rfl, rfl⟩
  · have e0 : readR n i S = (⟨#[]⟩, 1) := by unfold readR; rw [if_neg hi]
    rw [e0]
    clear h e0
    by_cases h0 : i < 0
    · go_enter Try.func38, Try.ntmps38
      go_wp2_with fail
      go_ret2
      exact ⟨rfl, rfl⟩
    · have h1 : (n : Int) ≤ i := by omega
      have h0' : 0 ≤ i := by omega
      go_enter Try.func38, Try.ntmps38
      go_wp2_with fail
      go_ret2
      exact ⟨rfl, rfl⟩
end Go.Proofs.Ytaionhdamdhjjaa
