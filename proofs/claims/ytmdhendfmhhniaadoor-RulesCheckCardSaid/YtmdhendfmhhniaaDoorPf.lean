/- Merges, the document's Rank. -/
import Derived.Test.YtmdhendfmhhniaaDoorPe
import Derived.Laws.StructEq
namespace Go.Proofs.YtmdhendfmhhniaaDoor
open Go.RowKit

def dRank (l : List PairB) (p : PairB) : Int := match rankN l p with | some i => (i : Int) | none => -1
theorem rank_at {l : List PairB} {p q : PairB} {k : Nat} (h : l[k]? = some q) (h0 : rankN (l.take k) p = none) : (q = p → rankN l p = some k) ∧ (q ≠ p → rankN (l.take (k + 1)) p = none) := by
  have e : l.take (k + 1) = l.take k ++ [q] := by rw [List.take_add_one, h]; rfl
  have hk := (List.getElem?_eq_some_iff.1 h).1
  have h1 := rankN_snoc (l.take k) q p
  rw [h0] at h1
  simp only at h1
  have hlen : (l.take k).length = k := by rw [List.length_take]; omega
  refine ⟨fun hq => ?_, fun hq => ?_⟩
  · rw [if_pos hq, hlen, ← e] at h1
    have h2 := rankN_append (l.take (k + 1)) (l.drop (k + 1)) p
    rw [List.take_append_drop, h1] at h2
    exact h2
  · rw [if_neg hq, ← e] at h1; exact h1
theorem under_rp : Tryd.prog.underlying 67 = some (.struct (Tryd.prog.fieldsOf 67)) := by kernel_rfl
theorem held_rp : Tryd.prog.stoodInHeld 67 = false := by kernel_rfl
theorem ba_beq (a b : ByteArray) : (a.toList == b.toList) = decide (a = b) := by
  rw [ByteArray.toList_eq, ByteArray.toList_eq, Bool.eq_iff_iff]
  simp only [beq_iff_eq, decide_eq_true_eq]
  exact ⟨fun h => ByteArray.ext (Array.ext' h), fun h => by rw [h]⟩
theorem run_eq_rp (a b c d : ByteArray) (w : World) : (binOp .eql 67 (.agg #[.string a, .string b]) (.agg #[.string c, .string d])).run Tryd.prog w = .ok (.bool (decide ((a, b) = (c, d)))) w := by
  rw [run_eql_struct, run_equalIn_agg _ _ _ _ _ under_rp held_rp]
  have e1 : (decide ((a, b) = (c, d)) : Bool) = (decide (a = c) && decide (b = d)) := by
    rw [Bool.eq_iff_iff]; simp
  rw [e1]
  simp [Op.eqFields, Program.fieldsOf, Tryd.underlying67, part, go_sem, Tryd.underlying9, ba_beq]
  by_cases h1 : a = c <;> by_cases h2 : b = d <;> simp [h1, h2]
def RkS (w : World) (l : List PairB) (p : PairB) (i : Value) (wr : World) : Prop :=
  ∃ k m : Nat, k ≤ l.length ∧ i = .int .i64 k ∧ rankN (l.take k) p = none ∧ wr = (w.alloc (.cells #[.string p.1, .string p.2] 67)).drewN m
set_option maxHeartbeats 1000000 in
set_option maxRecDepth 100000 in
theorem RRank_any (o : Option Addr) (l : List PairB) (cap : Nat) (p1 p2 : ByteArray) (w : World) (hl : l.length ≤ maxLen) (hp : PrAt w 67 o l) :
    Calls Tryd.prog 33 #[.slice o l.length cap, .agg #[.string p1, .string p2]] w fun e w' => e = .returned (.int .i64 (dRank l (p1, p2))) ∧ Below w.heap.size w w' := by
  obtain ⟨n, hn⟩ : ∃ n, l.length = n := ⟨_, rfl⟩
  rw [hn] at hl ⊢
  unfold maxLen at hl
  have HN := Lib.hid hn; have HP := Lib.hid hp
  have H0 : Hid (RkS w l (p1, p2) (.int .i64 0) (w.alloc (.cells #[.string p1, .string p2] 67))) := Lib.hid ⟨0, 0, Nat.zero_le _, rfl, rfl, rfl⟩
  clear hn hp
  go_enter Tryd.func33, Tryd.ntmps33
  go_wp2_with fail
  go_loopw [5] (fun i wr => RkS w l (p1, p2) i wr) (fun i _ => n - (intOf i).toNat)
  case atStart => exact H0.out
  case round =>
    obtain ⟨k, m, hk, rfl, hr, hw⟩ := hrel
    rw [HN.out] at hk
    have e0 : wr.cell? ⟨w.heap.size, 0, none⟩ = some (.string p1) := by rw [hw]; exact cell_of_row (World.alloc_heap_new w _)
    have e1 : wr.cell? ⟨w.heap.size, 1, none⟩ = some (.string p2) := by rw [hw]; exact cell_of_row (World.alloc_heap_new w _)
    have hb : Below w.heap.size w wr := by rw [hw]; exact below_drewN ((Below.refl _ w).alloc (Nat.le_refl _) _) m
    have HR := Lib.hid hr; have HW := Lib.hid hw; have HB := Lib.hid hb
    clear hr hw hb H0
    by_cases hlt : k < n
    · obtain ⟨q, hq⟩ : ∃ q, l[k]? = some q := ⟨_, List.getElem?_eq_getElem (by rw [HN.out]; exact hlt)⟩
      obtain ⟨g, cur, ho, hg, d0, d1⟩ := (HP.out.below HB.out) k q hq
      subst ho
      obtain ⟨q1, q2⟩ := q
      have HQ := Lib.hid (rank_at hq HR.out)
      clear hq hg
      simp only at d0 d1
      have hgd : Tryd.prog.eqGuardType Tryd.prog.depth 67 = false := by kernel_rfl
      by_cases he : (q1, q2) = (p1, p2)
      · have heq : ∀ W : World, (binOp .eql 67 (.agg #[.string q1, .string q2]) (.agg #[.string p1, .string p2])).run Tryd.prog W = .ok (.bool true) W := fun W => by rw [run_eq_rp, decide_eq_true he]
        have HE := Lib.hid (HQ.out.1 he)
        clear he
        go_wp2_with fail
        go_quiet (fail)
        go_wp2_with fail
        go_ret
        exact ⟨ret_int (by unfold dRank; rw [HE.out]), below_drewN HB.out _⟩
      · have heq : ∀ W : World, (binOp .eql 67 (.agg #[.string q1, .string q2]) (.agg #[.string p1, .string p2])).run Tryd.prog W = .ok (.bool false) W := fun W => by rw [run_eq_rp, decide_eq_false he]
        have HE := Lib.hid (HQ.out.2 he)
        clear he
        go_wp2_with fail
        go_quiet (fail)
        go_wp2_with fail
        go_roundw
        case rel => exact ⟨k + 1, _, by rw [HN.out]; omega, by rw [Int.natCast_succ], HE.out, by rw [HW.out]; simp only [World.drewN_drewN]; rfl⟩
        case measure => simp [intOf]; omega
    · have hkn : k = n := by omega
      have HE := Lib.hid (show rankN l (p1, p2) = none by rw [← HR.out, List.take_of_length_le (by rw [HN.out]; omega)])
      go_wp2_with fail
      go_ret
      exact ⟨ret_int (by unfold dRank; rw [HE.out]), HB.out⟩
end Go.Proofs.YtmdhendfmhhniaaDoor
