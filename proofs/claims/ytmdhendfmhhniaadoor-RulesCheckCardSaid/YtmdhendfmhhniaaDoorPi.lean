/- Merges: ranksOf. -/
import Derived.Test.YtmdhendfmhhniaaDoorPh
namespace Go.Proofs.YtmdhendfmhhniaaDoor
open Go.RowKit Go.Maps

theorem run_make_hint (n : Nat) (w : World) : (Instr.makeMap 126 (some (.int .i64 n))).run Tryd.prog w = .ok (.map (some w.heap.size)) (w.alloc (.map #[] 0)) := by
  simp [Instr.makeMap, go_sem]
def RoS (w : World) (l : List PairB) (i : Value) (wr : World) : Prop :=
  ∃ k : Nat, k ≤ l.length ∧ i = .int .i64 k ∧ IsRk w.heap.size k (l.take k) wr ∧ Below w.heap.size w wr
theorem mapTurned_below {B b : Nat} {w0 w w' : World} (h : w.mapTurned w' b) (hb : Below B w0 w) (hB : B ≤ b) (hs : B ≤ w.heap.size) : Below B w0 w' :=
  hb.grown h.grown hs (fun k e => by cases e; exact hB)
set_option maxHeartbeats 2000000 in
set_option maxRecDepth 100000 in
theorem ranksOf_any (o : Option Addr) (l : List PairB) (cap : Nat) (w : World) (hl : l.length ≤ 100000) (hp : PrAt w 48 o l) (hok : ∀ p ∈ l, OkP p) :
    Calls Tryd.prog 55 #[.slice o l.length cap] w fun e w' => e = .returned (.map (some w.heap.size)) ∧ IsRk w.heap.size l.length l w' ∧ Below w.heap.size w w' := by
  obtain ⟨n, hn⟩ : ∃ n, l.length = n := ⟨_, rfl⟩
  rw [hn] at hl ⊢
  have hmm := run_make_hint n
  have HN := Lib.hid hn; have HP := Lib.hid hp; have HO := Lib.hid hok
  have H0 : Hid (RoS w l (.int .i64 0) (w.alloc (.map #[] 0))) := Lib.hid ⟨0, Nat.zero_le _, rfl, IsRk.new w, (Below.refl _ w).alloc (Nat.le_refl _) _⟩
  clear hn hp hok
  go_enter Tryd.func55, Tryd.ntmps55
  go_wp2_with fail
  go_loopw [13] (fun i wr => RoS w l i wr) (fun i _ => n - (intOf i).toNat)
  case atStart => exact H0.out
  case round =>
    obtain ⟨k, hk, rfl, ⟨D, hD, hD2⟩, hb⟩ := hrel
    rw [HN.out] at hk
    have HD := Lib.hid hD; have HD2 := Lib.hid hD2; have HB := Lib.hid hb
    clear hD hD2 hb H0 hmm
    by_cases hlt : k < n
    · obtain ⟨q, hq⟩ : ∃ q, l[k]? = some q := ⟨_, List.getElem?_eq_getElem (by rw [HN.out]; exact hlt)⟩
      obtain ⟨g, cur, ho, hg, d0, d1⟩ := (HP.out.below HB.out) k q hq
      subst ho
      have HQO := Lib.hid (HO.out q (List.mem_of_getElem? hq))
      have HT := Lib.hid (show l.take (k + 1) = l.take k ++ [q] by rw [List.take_add_one, hq]; rfl)
      have HK2 := Lib.hid (keyB_of HQO.out)
      obtain ⟨q1, q2⟩ := q
      clear hq hg
      simp only at d0 d1
      have HH := Lib.hid ((HD2.out _ HQO.out).1)
      cases hc : (rankN (l.take k) (q1, q2)).isSome with
      | true =>
        go_wp2_with (at_lookup; refine wpList_lookup_own_ok_int _ rfl _ _ 126 rfl 48 3 .i64 keyedP Tryd.underlying126 Tryd.underlying3 (Tryd.zeroValue3 _) w.heap.size k D rfl (HD.out.alloc _) _ (keyB (q1, q2)) rfl HK2.out ?_; intro c hat hwc; rw [HH.out, hc])
        have hr : Hid (IsRk w.heap.size (k + 1) (l.take (k + 1)) (wr.alloc (.cells #[.string q1, .string q2] 48))) := Lib.hid (by
          rw [HT.out]
          exact IsRk.again (IsRk.keep (w := wr) ⟨D, HD.out, HD2.out⟩ (by exact Lib.alloc_old wr _ _ HD.out.lt)) hc)
        have hb2 := HB.out.alloc HB.out.size (.cells #[.string q1, .string q2] 48)
        go_roundw
        case rel => exact ⟨k + 1, by rw [HN.out]; omega, by rw [Int.natCast_succ], hr.out, hb2⟩
        case measure => simp [intOf]; omega
      | false =>
        have hno : rankN (l.take k) (q1, q2) = none := by
          cases h : rankN (l.take k) (q1, q2) with
          | none => rfl
          | some i => rw [h] at hc; cases hc
        have HNO := Lib.hid hno
        have HLN := Lib.hid (show (l.take k).length = k by rw [List.length_take, HN.out]; omega)
        have hwf : Hid ((Lit.int .i64 (k : Int)).wf = true) := Lib.hid (by simp only [Lit.wf, IntKind.min, IntKind.max, IntKind.signed, IntKind.bits, Bool.and_eq_true, decide_eq_true_eq, if_true]; omega)
        clear hno
        go_wp2_with (first
          | (at_lookup; refine wpList_lookup_own_ok_int _ rfl _ _ 126 rfl 48 3 .i64 keyedP Tryd.underlying126 Tryd.underlying3 (Tryd.zeroValue3 _) w.heap.size k D rfl (HD.out.alloc _) _ (keyB (q1, q2)) rfl HK2.out ?_; intro c hat hwc; rw [HH.out, hc])
          | (at_mapUpdate; refine wpList_mapUpdate_in _ rfl _ _ _ 126 rfl 48 3 keyedP Tryd.underlying126 (plainElem Tryd.prog 3) w.heap.size k D rfl (HD.out.alloc _) (by unfold maxLen; omega) _ _ (keyB (q1, q2)) rfl rfl HK2.out (.lit (.int .i64 k)) [] (plainElem_int Tryd.underlying3 hwf.out) ?_; intro w1 hown1 hturn1))
        have hr : Hid (IsRk w.heap.size (k + 1) (l.take (k + 1)) w1) := Lib.hid (by
          rw [HT.out]
          exact IsRk.put HD.out HD2.out HQO.out HNO.out (by rw [HLN.out]; exact hown1))
        have hb2 := mapTurned_below hturn1 (HB.out.alloc HB.out.size (.cells #[.string q1, .string q2] 48)) (Nat.le_refl _) (by have := HB.out.size; simp; omega)
        go_roundw
        case rel => exact ⟨k + 1, by rw [HN.out]; omega, by rw [Int.natCast_succ], hr.out, hb2⟩
        case measure => simp [intOf]; omega
    · have hkn : k = n := by omega
      have hr : Hid (IsRk w.heap.size n l wr) := Lib.hid (by
        have h1 : IsRk w.heap.size k (l.take k) wr := ⟨D, HD.out, HD2.out⟩
        rw [List.take_of_length_le (by rw [HN.out]; omega), hkn] at h1
        exact h1)
      go_wp2_with fail
      go_ret
      exact ⟨rfl, hr.out, HB.out⟩
end Go.Proofs.YtmdhendfmhhniaaDoor
