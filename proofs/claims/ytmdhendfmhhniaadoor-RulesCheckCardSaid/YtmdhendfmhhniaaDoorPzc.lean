/- Merges: the plain Invalid. -/
import Derived.Test.YtmdhendfmhhniaaDoorPx
namespace Go.Proofs.YtmdhendfmhhniaaDoor
open Go.RowKit
variable {w w' : World}

theorem partOk_snoc (rs : List ByteArray) (q x : ByteArray) : partOk (rs ++ [q]) x = (partOk rs x || decide (q = x)) := by
  unfold partOk
  rw [inB_snoc]
  cases inB rs x <;> cases decide (q = x) <;> simp
theorem partOk_nil (x : ByteArray) : partOk [] x = decide (x.size ≤ 1) := by unfold partOk inB; simp
def RiS (w : World) (l : List PairB) (i : Value) (wr : World) : Prop :=
  ∃ k : Nat, k ≤ l.length ∧ i = .int .i64 k ∧ invM l = invF k (resL (l.take k)) (l.drop k) ∧ Below w.heap.size w wr
def RjS (w : World) (l : List PairB) (k : Nat) (p1 p2 : ByteArray) (a b j : Value) (wr : World) : Prop :=
  ∃ m : Nat, m ≤ k ∧ j = .int .i64 m ∧ a = .bool (partOk (resL (l.take m)) p1) ∧ b = .bool (partOk (resL (l.take m)) p2) ∧ Below w.heap.size w wr
set_option maxHeartbeats 4000000 in
set_option maxRecDepth 100000 in
theorem RInvalid_any (o : Option Addr) (l : List PairB) (cap : Nat) (w : World) (hl : l.length ≤ 100000) (hp : PrAt w 67 o l) (hok : ∀ p ∈ l, p.1.size + p.2.size ≤ maxLen) :
    Calls Tryd.prog 44 #[.slice o l.length cap] w fun e w' => e = .returned (.int .i64 (invM l)) ∧ Below w.heap.size w w' := by
  obtain ⟨n, hn⟩ : ∃ n, l.length = n := ⟨_, rfl⟩
  have H0 : Hid (RiS w l (.int .i64 0) w) := Lib.hid ⟨0, Nat.zero_le _, rfl, rfl, Below.refl _ _⟩
  rw [hn] at hl ⊢
  have HN := Lib.hid hn; have HP := Lib.hid hp; have HO := Lib.hid hok
  clear hn hp hok
  go_enter Tryd.func44, Tryd.ntmps44
  go_wp2_with fail
  go_loopw [3] (fun i wr => RiS w l i wr) (fun i _ => n - (intOf i).toNat)
  case atStart => exact H0.out
  case round =>
    obtain ⟨k, hk, rfl, hin, hb⟩ := hrel
    rw [HN.out] at hk
    have HI := Lib.hid hin; have HB := Lib.hid hb
    clear hin hb H0
    by_cases hlt : k < n
    · obtain ⟨p, hpk⟩ : ∃ p, l[k]? = some p := ⟨_, List.getElem?_eq_getElem (by rw [HN.out]; exact hlt)⟩
      have hsz := HO.out p (List.mem_of_getElem? hpk)
      obtain ⟨g, cur, hob, hcur, c0, c1⟩ := (HP.out.below HB.out) k p hpk
      obtain ⟨p1, p2⟩ := p
      subst hob
      simp only at c0 c1 hsz
      unfold maxLen at hsz
      have hglt := lt_of_some hcur
      have HC0 := Lib.hid c0; have HC1 := Lib.hid c1
      have HE := Lib.hid (show ∀ b1 b2 : Bool, partOk (resL (l.take k)) p1 = b1 → partOk (resL (l.take k)) p2 = b2 → invM l = if b1 && b2 then invF (k + 1) (resL (l.take (k + 1))) (l.drop (k + 1)) else (k : Int) from fun b1 b2 e1 e2 => by
        rw [HI.out, List.drop_eq_getElem_cons (by rw [HN.out]; exact hlt), show l[k]'(by rw [HN.out]; exact hlt) = (p1, p2) from Option.some.inj ((List.getElem?_eq_getElem _).symm.trans hpk)]
        show (if partOk (resL (l.take k)) p1 && partOk (resL (l.take k)) p2 then _ else _) = _
        rw [e1, e2, resL_take hpk])
      have e1 : decide ((p1.size : Int) < 2) = partOk [] p1 := by rw [partOk_nil]; simp; omega
      have e2 : decide ((p2.size : Int) < 2) = partOk [] p2 := by rw [partOk_nil]; simp; omega
      have HE1 := Lib.hid e1; have HE2 := Lib.hid e2
      have HPK := Lib.hid hpk
      clear hcur hpk e1 e2
      go_wp2_with fail
      go_quiet (fail)
      rename_i nq
      have H1 : Hid (RjS w l k p1 p2 (.bool (decide ((p1.size : Int) < 2))) (.bool (decide ((p2.size : Int) < 2))) (.int .i64 0) (wr.drewN nq)) := Lib.hid ⟨0, Nat.zero_le _, rfl, by rw [HE1.out]; rfl, by rw [HE2.out]; rfl, below_drewN HB.out nq⟩
      have HW := Lib.hid (below_drewN HB.out nq)
      have hs0 : wr.heap.size ≤ (wr.drewN nq).heap.size := Nat.le_refl _
      generalize wr.drewN nq = wd at H1 HW hs0 ⊢
      go_wp2_with fail
      go_loopw [4, 5, 6] (fun a b j wq => RjS w l k p1 p2 a b j wq) (fun _ _ j _ => k - (intOf j).toNat)
      case atStart => exact H1.out
      case round =>
        obtain ⟨m, hm, rfl, rfl, rfl, hb⟩ := hrel
        have HB2 := Lib.hid hb
        clear hb H1
        have d0 := (HP.out.below HB2.out)
        by_cases hmk : m < k
        · obtain ⟨q, hqm⟩ : ∃ q, l[m]? = some q := ⟨_, List.getElem?_eq_getElem (by rw [HN.out]; omega)⟩
          have hsq := HO.out q (List.mem_of_getElem? hqm)
          obtain ⟨g', cur', hob', _, q0, q1⟩ := d0 m q hqm
          obtain rfl : g = g' := by injection hob' with h; injection h
          have HRT := Lib.hid (resL_take hqm)
          obtain ⟨s1, s2⟩ := q
          simp only at q0 q1 hsq
          unfold maxLen at hsq
          obtain ⟨g2, cur2, hob2, _, r0, r1⟩ := d0 k _ HPK.out
          obtain rfl : g = g2 := by injection hob2 with h; injection h
          simp only at r0 r1
          have hsq2 : ¬ (9223372036854775807 < s1.size + s2.size) := by omega
          have hlm : m < n := by omega
          have HBQ1 := Lib.hid (ba_beq (s1 ++ s2) p1); have HBQ2 := Lib.hid (ba_beq (s1 ++ s2) p2)
          have HT1 := Lib.hid (show partOk (resL (l.take (m + 1))) p1 = (partOk (resL (l.take m)) p1 || decide (s1 ++ s2 = p1)) by rw [HRT.out]; exact partOk_snoc _ _ _)
          have HT2 := Lib.hid (show partOk (resL (l.take (m + 1))) p2 = (partOk (resL (l.take m)) p2 || decide (s1 ++ s2 = p2)) by rw [HRT.out]; exact partOk_snoc _ _ _)
          clear hob' hob2 hqm d0 c0 c1
          cases ea : partOk (resL (l.take m)) p1 <;> cases eb : partOk (resL (l.take m)) p2
          all_goals
            have HEA := Lib.hid ea; have HEB := Lib.hid eb
            clear ea eb
            go_wp2_with fail
            go_quiet (fail)
            first | (have _h : Below w.heap.size w (wr.drewN nq) := below_drewN HB2.out nq) | rename_i nq
            have HB3 := Lib.hid (below_drewN HB2.out nq)
            go_wp2_with fail
            go_roundw
            case rel => exact ⟨m + 1, by omega, by rw [Int.natCast_succ], by rw [HT1.out, HEA.out, ← HBQ1.out]; first | rfl | simp, by rw [HT2.out, HEB.out, ← HBQ2.out]; first | rfl | simp, HB3.out⟩
            case measure => simp [intOf]; omega
        · have hmk2 : m = k := by omega
          subst hmk2
          cases ea : partOk (resL (l.take m)) p1 <;> cases eb : partOk (resL (l.take m)) p2
          all_goals
            have HF := Lib.hid (HE.out _ _ ea eb)
            clear ea eb c0 c1 d0
            go_wp2_with fail
          · go_ret
            exact ⟨ret_int HF.out.symm, HB2.out⟩
          · go_ret
            exact ⟨ret_int HF.out.symm, HB2.out⟩
          · go_ret
            exact ⟨ret_int HF.out.symm, HB2.out⟩
          · go_roundw
            case rel => exact ⟨m + 1, by rw [HN.out]; omega, by rw [Int.natCast_succ], HF.out, HB2.out⟩
            case measure => simp [intOf]; omega
    · have hkn : k = n := by omega
      have HE := Lib.hid (show invM l = -1 by rw [HI.out, List.drop_of_length_le (by rw [HN.out]; omega)]; rfl)
      go_wp2_with fail
      go_ret
      exact ⟨ret_int HE.out.symm, HB.out⟩
end Go.Proofs.YtmdhendfmhhniaaDoor
