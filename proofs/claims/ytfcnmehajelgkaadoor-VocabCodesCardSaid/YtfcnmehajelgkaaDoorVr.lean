/- Vocabularies: the document's Find and Of. -/
import Derived.Test.YtfcnmehajelgkaaDoorY5
import Derived.Test.YtfcnmehajelgkaaDoorY6
namespace Go.Proofs.YtfcnmehajelgkaaDoor
open Go.RowKit
variable {w w' : World}

def findE : List EntB → ByteArray → Int
  | [], _ => -1
  | p :: l, b => if p.2 = b then (p.1 : Nat) else findE l b
theorem findE_neg : ∀ (l : List EntB) (b : ByteArray), findE l b < 0 ↔ inB (l.map (·.2)) b = false
  | [], b => by simp [findE, inB]
  | p :: l, b => by
    have ih := findE_neg l b
    unfold findE
    have e : inB ((p :: l).map (·.2)) b = (decide (p.2 = b) || inB (l.map (·.2)) b) := rfl
    rw [e]
    by_cases h : p.2 = b
    · rw [if_pos h, decide_eq_true h]; simp
    · rw [if_neg h, decide_eq_false h, Bool.false_or]; exact ih
theorem findE_drop {l : List EntB} {b : ByteArray} {j : Nat} {p : EntB} (h : l[j]? = some p) : findE (l.drop j) b = if p.2 = b then ((p.1 : Nat) : Int) else findE (l.drop (j + 1)) b := by
  have hj := (List.getElem?_eq_some_iff.1 h).1
  rw [List.drop_eq_getElem_cons hj, show l[j] = p from Option.some.inj ((List.getElem?_eq_getElem hj).symm.trans h)]
  rfl
def FdS (l : List EntB) (b : ByteArray) (w : World) (i : Value) (wr : World) : Prop := ∃ j : Nat, j ≤ l.length ∧ i = .int .i64 j ∧ findE l b = findE (l.drop j) b ∧ wr = w
set_option maxHeartbeats 2000000 in
set_option maxRecDepth 100000 in
theorem RFind_any (o : Option Addr) (l : List EntB) (cap : Nat) (b : ByteArray) (w : World) (hl : l.length ≤ 200000) (hp : EnAt w 41 o l) :
    Calls Tryd.prog 15 #[.slice o l.length cap, .string b] w fun e w' => e = .returned (.int .i64 (findE l b)) ∧ w' = w := by
  obtain ⟨n, hn⟩ : ∃ n, l.length = n := ⟨_, rfl⟩
  rw [hn] at hl ⊢
  have HN := Lib.hid hn; have HP := Lib.hid hp
  clear hn hp
  go_enter Tryd.func15, Tryd.ntmps15
  go_wp2_with fail
  go_loopw [5] (fun i wr => FdS l b w i wr) (fun i _ => n - (intOf i).toNat)
  case atStart => exact ⟨0, Nat.zero_le _, rfl, rfl, rfl⟩
  case round =>
    obtain ⟨j, hj, rfl, hf, rfl⟩ := hrel
    rw [HN.out] at hj
    have HF := Lib.hid hf
    clear hf
    by_cases hlt : j < n
    · have hlti : (j : Int) < n := by omega
      obtain ⟨p, hpj⟩ : ∃ p, l[j]? = some p := ⟨_, List.getElem?_eq_getElem (by rw [HN.out]; exact hlt)⟩
      obtain ⟨g, cur, ho, hg, d0, d1⟩ := HP.out j p hpj
      have HD := Lib.hid (findE_drop (b := b) hpj)
      obtain ⟨p1, p2⟩ := p
      simp only at d0 d1 HD
      subst ho
      clear hpj hg
      by_cases he : p2 = b
      · have HR := Lib.hid (show findE l b = (p1 : Nat) by rw [HF.out, HD.out, if_pos he])
        subst he
        go_wp2_with fail
        rw [HR.out]
        exact bodyPost_ret (v := .int .i64 (p1 : Nat)) (by simp [results, Tryd.results15, go_sem]) rfl ⟨rfl, rfl⟩
      · have HR := Lib.hid (show findE l b = findE (l.drop (j + 1)) b by rw [HF.out, HD.out, if_neg he])
        have hne := ba_ne he
        have hnb : (p2.toList == b.toList) = false := beq_eq_false_iff_ne.2 hne
        clear he
        go_wp2_with fail
        go_roundw
        case rel => exact ⟨j + 1, by rw [HN.out]; omega, by rw [Int.natCast_succ], HR.out, rfl⟩
        case measure => simp [intOf]; omega
    · have hlti : ¬ (j : Int) < n := by omega
      have HR := Lib.hid (show findE l b = -1 by rw [HF.out, List.drop_eq_nil_of_le (by rw [HN.out]; omega)]; rfl)
      go_wp2_with fail
      rw [HR.out]
      exact bodyPost_ret (v := .int .i64 (-1)) (by simp [results, Tryd.results15, go_sem]) rfl ⟨rfl, rfl⟩
theorem ofS_row : ∀ n : Fin 94, ofS (n.val + 1) = ofS n.val ++ [(n.val, byteS (33 + n.val))] := by decide +kernel
theorem ofS_len2 : ∀ n : Fin 95, (ofS n.val).length = n.val := by decide +kernel
theorem addE_find (out : List EntB) (s : ByteArray) : addE out s = if goodB s = true ∧ findE out s < 0 then out ++ [(out.length, s)] else out := by
  unfold addE
  cases hg : goodB s with
  | false => simp
  | true =>
    cases hi : inB (out.map (·.2)) s with
    | true =>
      have h : ¬ findE out s < 0 := fun h => by rw [(findE_neg out s).1 h] at hi; cases hi
      simp [h]
    | false =>
      have h := (findE_neg out s).2 hi
      simp [h]
def R1S (w : World) (v c : Value) (wr : World) : Prop := ∃ n : Nat, n ≤ 94 ∧ c = .int .i64 ((33 + n : Nat) : Int) ∧ wr.ownsRow w.heap.size 41 2 v n (flatE (ofS n)) ∧ Below w.heap.size w wr
def wq5Row (l : List PairB) (w w5 : World) (v' : Value) (k : Nat) : Prop := w5.ownsRow w.heap.size 41 2 v' (ofP (l.take (k + 1))).length (flatE (ofP (l.take (k + 1))))
def R2S (l : List PairB) (w : World) (v i : Value) (wr : World) : Prop := ∃ n : Nat, n ≤ l.length ∧ i = .int .i64 n ∧ wr.ownsRow w.heap.size 41 2 v (ofP (l.take n)).length (flatE (ofP (l.take n))) ∧ Below w.heap.size w wr
set_option maxHeartbeats 4000000 in
set_option maxRecDepth 100000 in
theorem ROf_any (o : Option Addr) (l : List PairB) (cap : Nat) (w : World) (hl : l.length ≤ 50000) (hp : PrAt w 70 o l) (hok : ∀ p ∈ l, p.1.size + p.2.size ≤ maxLen) :
    Calls Tryd.prog 10 #[.slice o l.length cap] w fun e w' => ∃ v, e = .returned v ∧ w'.ownsRow w.heap.size 41 2 v (ofP l).length (flatE (ofP l)) ∧ Below w.heap.size w w' := by
  obtain ⟨i1, hi1, hz0, hz1, hz2⟩ := info_parts info_r09
  have HI1 := Lib.hid hi1; have HZ0 := Lib.hid hz0; have HZ1 := Lib.hid hz1; have HZ2 := Lib.hid hz2
  obtain ⟨n0, hn0⟩ : ∃ n, l.length = n := ⟨_, rfl⟩
  have HN := Lib.hid hn0; have HP := Lib.hid hp; have HOK := Lib.hid hok
  rw [hn0] at hl ⊢
  clear hi1 hz0 hz1 hz2 hn0 hp hok
  go_enter Tryd.func10, Tryd.ntmps10
  go_wp2_with fail
  go_loopw [3, 4] (fun v c wr => R1S w v c wr) (fun _ c _ => 127 - (intOf c).toNat)
  case atStart => exact ⟨0, by decide, rfl, World.ownsRow_nil _ _ _ _, Below.refl _ _⟩
  case round =>
    obtain ⟨n, hn, rfl, hrow, hb⟩ := hrel
    have HROW := Lib.hid hrow; have HB := Lib.hid hb
    obtain ⟨o1, cap1, hv1, _⟩ := own_ents hrow
    subst hv1
    obtain ⟨c, hc⟩ : ∃ c : Nat, 33 + n = c := ⟨_, rfl⟩
    have HC := Lib.hid hc
    rw [hc]
    clear hrow hb
    by_cases hlt : n < 94
    · have hc1 : (c : Int) < 127 := by omega
      have hcm : (c : Int) - 33 = (n : Int) := by omega
      obtain ⟨x, hx⟩ : ∃ x, UInt8.ofNat c = x := ⟨_, rfl⟩
      have hxv : (x.toNat : Int) = (c : Int) := by rw [← hx, UInt8.toNat_ofNat']; omega
      have hcv := conv_one wr wr.heap.size x rfl
      rw [hxv] at hcv
      have hw8 : IntKind.u8.wrap (c : Int) = (c : Int) := by rw [IntKind.wrap_u8]; omega
      have HR : Hid (flatE (ofS (n + 1)) = flatE (ofS n) ++ [Value.int .i64 (n : Nat), .string ⟨#[x]⟩]) := Lib.hid (by
        rw [ofS_row ⟨n, hlt⟩, flatE_snoc]
        show _ ++ [_, Value.string (byteS (33 + n))] = _
        unfold byteS; rw [hc, hx])
      clear hx hxv hc
      go_wp2_with (at_builtin; refine wpList_append_own _ rfl _ _ 29 rfl w.heap.size 41 i1 (.agg #[.int .i64 0, .string ⟨#[]⟩]) 2 24 Tryd.underlying29 HI1.out HZ0.out HZ1.out HZ2.out rfl (by decide) _ _ _ rfl ((HROW.out.alloc _).alloc _) ⟨wr.heap.size + 1, 0, none⟩ 1 1 [.int .i64 (n : Nat), .string ⟨#[x]⟩] rfl rfl (by have h := cell_two_new (wr.alloc (.cells #[.int .u8 (c : Int)] 5)) 41 (.int .i64 (n : Nat)) (.string ⟨#[x]⟩); rw [World.size_alloc] at h; exact h) two_memE (by unfold maxLen; omega) (by omega) (by have := HB.out.size; simp; omega) ?_; intro v' w4 hown hgrow _; rw [← HR.out] at hown; have HO4 := Lib.hid hown; have HB4 : Hid (Below w.heap.size w w4) := Lib.hid (((HB.out.alloc HB.out.size _).alloc (by have := HB.out.size; simp; omega) _).grown hgrow (by have := HB.out.size; simp; omega) (own_base HROW.out)); clear hown hgrow)
      have HC1 : Hid (((33 + (n + 1) : Nat) : Int) = (c : Int) + 1) := Lib.hid (by have := HC.out; omega)
      exact ⟨⟨n + 1, by omega, by rw [HC1.out], HO4.out, HB4.out⟩, by simp [intOf]; omega⟩
    · have hn94 : n = 94 := by omega
      subst hn94
      have hc1 : ¬ (c : Int) < 127 := by omega
      clear hlt hc
      obtain ⟨wo, hwo⟩ : ∃ wo, wo = wr := ⟨_, rfl⟩
      subst hwo
      go_wp2_with fail
      go_loopw [3, 5] (fun v i wr => R2S l w v i wr) (fun _ i _ => n0 - (intOf i).toNat)
      case atStart => exact ⟨0, Nat.zero_le _, rfl, by rw [List.take_zero, show (ofP []).length = 94 from ofS_len2 ⟨94, by decide⟩]; exact HROW.out, HB.out⟩
      case round =>
        clear HROW HB
        obtain ⟨k, hk, rfl, hrow, hb⟩ := hrel
        rw [HN.out] at hk
        have HROW := Lib.hid hrow; have HB := Lib.hid hb
        obtain ⟨m, hm⟩ : ∃ m, (ofP (l.take k)).length = m := ⟨_, rfl⟩
        have hm2 : m ≤ 60000 := by have := ofP_len (l.take k); rw [List.length_take, HN.out] at this; omega
        obtain ⟨o2, cap2, hv2, hen⟩ := own_entries hrow
        subst hv2
        have HEN := Lib.hid hen
        rw [hm] at HROW ⊢
        have HM := Lib.hid hm
        have HPW := Lib.hid (HP.out.below hb)
        clear hrow hb hen
        by_cases hlt : k < n0
        · obtain ⟨pq, hpq⟩ : ∃ p, l[k]? = some p := ⟨_, List.getElem?_eq_getElem (by rw [HN.out]; exact hlt)⟩
          obtain ⟨g, cur, ho, hg, d0, d1⟩ := HPW.out k pq hpq
          have hsz := HOK.out pq (List.mem_of_getElem? hpq)
          obtain ⟨q1, q2⟩ := pq
          simp only at d0 d1 hsz
          subst ho
          have hkl : (k : Int) < n0 := by omega
          obtain ⟨x, hx⟩ : ∃ x, q1 ++ q2 = x := ⟨_, rfl⟩
          have hxs : x.size ≤ maxLen := by rw [← hx, ByteArray.size_append]; exact hsz
          have hT : ofP (l.take (k + 1)) = addE (ofP (l.take k)) x := by rw [List.take_add_one, hpq, ← hx]; exact ofP_snoc _ _
          have HT := Lib.hid (hT.trans (addE_find _ _))
          have HG := Lib.hid (fun W => RGood_any x W hxs)
          have HFI := Lib.hid (fun W (hW : EnAt W 41 o2 (ofP (l.take k))) => RFind_any o2 (ofP (l.take k)) cap2 x W (by omega) hW)
          rw [hm] at HFI
          have hcat : ¬ 9223372036854775807 < q1.size + q2.size := by unfold maxLen at hsz; omega
          obtain ⟨fi, hfi⟩ : ∃ f, findE (ofP (l.take k)) x = f := ⟨_, rfl⟩
          rw [hfi] at HFI HT
          obtain ⟨gx, hgx⟩ : ∃ g, goodB x = g := ⟨_, rfl⟩
          rw [hgx] at HG HT
          clear hpq hg hsz hxs hT hfi hgx hm
          go_wp2_with fail
          go_quiet (fail)
          first | (have _h : Below wr.heap.size wr (wr.drewN nq) := below_drewN (Below.refl _ _) nq) | rename_i nq
          have HB2 := Lib.hid (below_drewN HB.out nq)
          have HR2 : Hid ((wr.drewN nq).ownsRow w.heap.size 41 2 (.slice o2 m cap2) m (flatE (ofP (l.take k)))) := Lib.hid (own_below HROW.out (below_drewN (Below.refl _ _) nq))
          have HEN2 := Lib.hid (HEN.out.below (below_drewN (Below.refl _ _) nq))
          generalize wr.drewN nq = wd at HB2 HR2 HEN2 ⊢
          clear d0 d1
          cases gx with
          | false =>
            have HE : Hid (ofP (l.take (k + 1)) = ofP (l.take k)) := Lib.hid (by rw [HT.out]; simp)
            go_wp2_with (go_at_call 26; (with_reducible refine (HG.out _).mono ?_); rintro e w3 ⟨rfl, hw3⟩; have hw3 := hw3.symm; subst hw3)
            go_roundw
            case rel => exact ⟨k + 1, by rw [HN.out]; omega, by rw [Int.natCast_succ], by rw [HE.out, HM.out]; exact HR2.out, HB2.out⟩
            case measure => simp [intOf]; omega
          | true =>
            by_cases hf : fi < 0
            · have HE : Hid (ofP (l.take (k + 1)) = ofP (l.take k) ++ [(m, x)]) := Lib.hid (by rw [HT.out, if_pos ⟨rfl, hf⟩, HM.out])
              have hfb : decide (fi < 0) = true := decide_eq_true hf
              go_wp2_with (first
                | (go_at_call 26; (with_reducible refine (HG.out _).mono ?_); rintro e w3 ⟨rfl, hw3⟩; have hw3 := hw3.symm; subst hw3)
                | (go_at_call 15; (with_reducible refine (HFI.out _ HEN2.out).mono ?_); rintro e w4 ⟨rfl, hw4⟩; have hw4 := hw4.symm; subst hw4)
                | (at_builtin; refine wpList_append_own _ rfl _ _ 29 rfl w.heap.size 41 i1 (.agg #[.int .i64 0, .string ⟨#[]⟩]) 2 24 Tryd.underlying29 HI1.out HZ0.out HZ1.out HZ2.out rfl (by decide) _ _ _ rfl (HR2.out.alloc _) ⟨wd.heap.size, 0, none⟩ 1 1 [.int .i64 (m : Nat), .string x] rfl rfl (cell_two_new _ _ _ _) two_memE (by unfold maxLen; omega) (by omega) (by have := HB2.out.size; simp; omega) ?_; intro v' w5 hown hgrow _; have HO5 := Lib.hid hown; have HB5 : Hid (Below w.heap.size w w5) := Lib.hid ((HB2.out.alloc HB2.out.size _).grown hgrow (by have := HB2.out.size; simp; omega) (own_base HR2.out)); clear hown hgrow))
              have HEND : Hid (wq5Row l w w5 v' k) := Lib.hid (by unfold wq5Row; rw [HE.out, flatE_snoc, List.length_append, HM.out]; exact HO5.out)
              go_roundw
              case rel => first | exact ⟨k + 1, by rw [HN.out]; omega, by rw [Int.natCast_succ], HEND.out, HB5.out⟩ | ((repeat (apply Exists.intro)); exact ⟨⟨k + 1, by rw [HN.out]; omega, by rw [Int.natCast_succ], HEND.out, HB5.out⟩, rfl⟩)
              case measure => first | (simp [intOf]; done) | (simp [intOf]; omega)
            · have HE : Hid (ofP (l.take (k + 1)) = ofP (l.take k)) := Lib.hid (by rw [HT.out, if_neg (fun h => hf h.2)])
              have hfb : decide (fi < 0) = false := decide_eq_false hf
              go_wp2_with (first
                | (go_at_call 26; (with_reducible refine (HG.out _).mono ?_); rintro e w3 ⟨rfl, hw3⟩; have hw3 := hw3.symm; subst hw3)
                | (go_at_call 15; (with_reducible refine (HFI.out _ HEN2.out).mono ?_); rintro e w4 ⟨rfl, hw4⟩; have hw4 := hw4.symm; subst hw4))
              go_roundw
              case rel => exact ⟨k + 1, by rw [HN.out]; omega, by rw [Int.natCast_succ], by rw [HE.out, HM.out]; exact HR2.out, HB2.out⟩
              case measure => simp [intOf]; omega
        · have hkl : ¬ (k : Int) < n0 := by omega
          have HT := Lib.hid (show l.take k = l from List.take_of_length_le (by rw [HN.out]; omega))
          have HRR : Hid (wr.ownsRow w.heap.size 41 2 (.slice o2 m cap2) (ofP l).length (flatE (ofP l))) := Lib.hid (by have h := HROW.out; rw [← HM.out, HT.out] at h; rw [HT.out] at HM; rw [← HM.out]; exact h)
          go_wp2_with fail
          exact bodyPost_ret (v := .slice o2 m cap2) (by simp [results, Tryd.results10, go_sem]) rfl ⟨_, rfl, HRR.out, HB.out⟩
end Go.Proofs.YtfcnmehajelgkaaDoor
