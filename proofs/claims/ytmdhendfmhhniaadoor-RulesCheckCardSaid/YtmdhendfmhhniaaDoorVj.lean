/- Vocabularies: the document's Parse. -/
import Derived.Test.YtmdhendfmhhniaaDoorVi
import Derived.Test.YtmdhendfmhhniaaDoorVe
import Derived.Test.YtmdhendfmhhniaaDoorPf
import Derived.Test.YtmdhendfmhhniaaDoorRo
namespace Go.Proofs.YtmdhendfmhhniaaDoor
open Go.RowKit
variable {w w' : World}

/-- A slice's entries, in its row of type t. -/
def EnAt (w : World) (t : TypeId) (o : Option Addr) (l : List EntB) : Prop :=
  ∀ k p, l[k]? = some p → ∃ g cur, o = some ⟨g, 0, none⟩ ∧ w.heap[g]? = some (.cells cur t (0, 0)) ∧ w.cell? ⟨g, k * 2, none⟩ = some (.int .i64 (p.1 : Nat)) ∧ w.cell? ⟨g, k * 2 + 1, none⟩ = some (.string p.2)
theorem EnAt.below {w w' : World} {t : TypeId} {o : Option Addr} {l : List EntB} (h : EnAt w t o l) (hb : Below w.heap.size w w') : EnAt w' t o l := fun k p hp => by
  obtain ⟨b, cur, h1, h2, h3, h4⟩ := h k p hp
  have e := hb.block _ (lt_of_some h2)
  refine ⟨b, cur, h1, e.trans h2, ?_, ?_⟩
  · unfold World.cell? at h3 ⊢; simp only [e]; exact h3
  · unfold World.cell? at h4 ⊢; simp only [e]; exact h4
theorem flatE_get : ∀ (l : List EntB) (k : Nat) (p : EntB), l[k]? = some p → (flatE l)[k * 2]? = some (.int .i64 (p.1 : Nat)) ∧ (flatE l)[k * 2 + 1]? = some (.string p.2)
  | [], k, p, h => by simp at h
  | q :: l, 0, p, h => by simp at h; subst h; exact ⟨rfl, rfl⟩
  | q :: l, k + 1, p, h => by
    rw [List.getElem?_cons_succ] at h
    have := flatE_get l k p h
    have e : flatE (q :: l) = Value.int .i64 (q.1 : Nat) :: Value.string q.2 :: flatE l := rfl
    rw [e, show (k + 1) * 2 = k * 2 + 1 + 1 by omega]
    simpa only [List.getElem?_cons_succ] using this
theorem own_entries {w : World} {B : Nat} {t : TypeId} {v : Value} {l : List EntB} (h : w.ownsRow B t 2 v l.length (flatE l)) : ∃ o cap, v = .slice o l.length cap ∧ EnAt w t o l := by
  rcases h.2 with ⟨h1, h2⟩ | ⟨g, cap, cur, h1, _, hg, hn, _, hz, ht⟩
  · exact ⟨none, 0, by rw [h1, h2], fun k p hp => by have := (List.getElem?_eq_some_iff.1 hp).1; omega⟩
  · refine ⟨some ⟨g, 0, none⟩, cap, h1, fun k p hp => ⟨g, cur, rfl, hg, ?_, ?_⟩⟩
    · have h3 := (flatE_get l k p hp).1
      have hk := (List.getElem?_eq_some_iff.1 hp).1
      rw [← ht, List.getElem?_take, if_pos (by omega), Array.getElem?_toList] at h3
      rw [cell_of_row hg]; exact h3
    · have h3 := (flatE_get l k p hp).2
      have hk := (List.getElem?_eq_some_iff.1 hp).1
      rw [← ht, List.getElem?_take, if_pos (by omega), Array.getElem?_toList] at h3
      rw [cell_of_row hg]; exact h3
theorem tok_at {l : List EntB} {q : EntB} {b : ByteArray} {k : Nat} (h : l[k]? = some q) (h0 : inB ((l.take k).map (·.2)) b = false) : (q.2 = b → inB (l.map (·.2)) b = true) ∧ (q.2 ≠ b → inB ((l.take (k + 1)).map (·.2)) b = false) := by
  refine ⟨fun e => List.any_eq_true.2 ⟨q.2, List.mem_map.2 ⟨q, List.mem_of_getElem? h, rfl⟩, decide_eq_true e⟩, fun e => ?_⟩
  rw [List.take_add_one, h, List.map_append, show ((some q).toList.map (·.2)) = [q.2] from rfl, inB_snoc, h0]
  simp [e]
theorem lastE_at {l : List EntB} {m : Nat} {p : EntB} (hm : l.length = m + 1) (h : l[m]? = some p) : lastE l = (p.1 : Int) := by
  unfold lastE
  rw [List.getLast?_eq_getElem?, hm, show m + 1 - 1 = m by omega, h]
theorem RLineV_some {x : ByteArray} {p : EntB} (hs : x.size ≤ 262144) (h : entR x = some p) (w : World) :
    Calls Tryd.prog 71 #[.string x] w fun e w' => e = .returned (.tuple #[.agg #[.int .i64 (p.1 : Nat), .string p.2], .bool true]) ∧ Below w.heap.size w w' := by
  refine (RLineV x w hs).mono ?_
  rintro e w' ⟨X, T, rfl, hE, hb⟩
  obtain ⟨rfl, rfl⟩ := hE p h
  rw [h]; exact ⟨rfl, hb⟩
theorem RLineV_none {x : ByteArray} (hs : x.size ≤ 262144) (h : entR x = none) (w : World) :
    Calls Tryd.prog 71 #[.string x] w fun e w' => ∃ X T, e = .returned (.tuple #[.agg #[.int .i64 X, .string T], .bool false]) ∧ Below w.heap.size w w' := by
  refine (RLineV x w hs).mono ?_
  rintro e w' ⟨X, T, rfl, hE, hb⟩
  rw [h]; exact ⟨X, T, rfl, hb⟩
theorem RLineV_all {x : ByteArray} (hs : x.size ≤ 262144) : ∃ g, ∀ w : World,
    Calls Tryd.prog 71 #[.string x] w fun e w' => ∃ X T, e = .returned (.tuple #[.agg #[.int .i64 X, .string T], .bool g]) ∧ Below w.heap.size w w' := by
  refine ⟨(entR x).isSome, fun w => (RLineV x w hs).mono ?_⟩
  rintro e w' ⟨X, T, rfl, hE, hb⟩
  exact ⟨X, T, rfl, hb⟩
theorem info_r09 : (Tryd.prog.info? 41).map (fun i => (i.zero, i.size, i.bytes)) = some (some (.agg #[.int .i64 0, .string ⟨#[]⟩]), 2, 24) := by kernel_rfl
def MpV (w : World) (S : ByteArray) (v f n : Value) (wr : World) : Prop :=
  ∃ (k m : Nat) (out : List EntB), k ≤ S.size ∧ out.length = m ∧ f = .int .i64 k ∧ n = .int .i64 ((m : Int) + 1) ∧ wr.ownsRow w.heap.size 41 2 v m (flatE out) ∧ restF rdV S 0 [] = restF rdV S k out ∧ m ≤ 4096 ∧ Below w.heap.size w wr
def MsV (S : ByteArray) (k : Nat) (wo : World) (t : Value) (wr : World) : Prop :=
  ∃ j : Nat, k ≤ j ∧ j ≤ nlAt S k ∧ t = .int .i64 j ∧ wr = wo
def MvS (out : List EntB) (b : ByteArray) (m : Nat) (wl : World) (i : Value) (wr : World) : Prop :=
  ∃ (j q : Nat), j ≤ m ∧ i = .int .i64 j ∧ inB ((out.take j).map (·.2)) b = false ∧ wr = wl.drewN q
set_option maxHeartbeats 8000000 in
set_option maxRecDepth 100000 in
theorem RParseV_any (S : ByteArray) (w : World) (hS : S.size ≤ 262144) :
    Calls Tryd.prog 45 #[.string S] w fun e w' => ∃ v, e = .returned (.tuple #[v, .int .i64 (parseV S).2.1, .int .i64 (parseV S).2.2]) ∧ w'.ownsRow w.heap.size 41 2 v (parseV S).1.length (flatE (parseV S).1) ∧ Below w.heap.size w w' := by
  have hSi : (S.size : Int) ≤ 262144 := by omega
  have hpm : parseV S = restF rdV S 0 [] := parseL_eq rdV (by omega)
  have HPM := Lib.hid hpm
  obtain ⟨i1, hi1, hz0, hz1, hz2⟩ := info_parts info_r09
  have HI1 := Lib.hid hi1; have HZ0 := Lib.hid hz0; have HZ1 := Lib.hid hz1; have HZ2 := Lib.hid hz2
  clear hpm hi1 hz0 hz1 hz2
  go_enter Tryd.func45, Tryd.ntmps45
  go_wp2_with fail
  go_loopw [5, 6, 7] (fun v f n wr => MpV w S v f n wr) (fun _ f _ _ => S.size - (intOf f).toNat)
  case atStart => exact ⟨0, 0, [], Nat.zero_le _, rfl, rfl, rfl, World.ownsRow_nil _ _ _ _, rfl, Nat.zero_le _, Below.refl _ _⟩
  case round =>
    obtain ⟨k, m, out, hk, hm, rfl, rfl, hrow, hrest, hm4, hb⟩ := hrel
    have HROW := Lib.hid hrow; have HREST := Lib.hid hrest; have HB := Lib.hid hb; have HM := Lib.hid hm
    clear hrow hrest hb hm
    by_cases hlt : k < S.size
    · have hkS : (k : Int) < S.size := by omega
      have hge := nlAt_ge S k
      have hnle := nlAt_le (s := S) (k := k) hk
      obtain ⟨t, ht⟩ : ∃ t, nlAt S k = t := ⟨_, rfl⟩
      have HT := Lib.hid ht
      obtain ⟨x, hx⟩ : ∃ x, S.extract k t = x := ⟨_, rfl⟩
      have hxs : x.size ≤ 262144 := by rw [← hx]; simp; omega
      have hst := restV_step (out := out) hlt
      rw [ht, HM.out] at hst
      have HE2 : Hid (∀ e, lineV out S k = .inr e → restF rdV S 0 [] = ([], (m : Int) + 1, e)) := Lib.hid (fun e h => by rw [HREST.out, hst, h])
      have HP2 : Hid (∀ p, lineV out S k = .inl p → restF rdV S 0 [] = restF rdV S (t + 1) (out ++ [p])) := Lib.hid (fun p h => by rw [HREST.out, hst, h])
      have HL6 : Hid (4096 ≤ m → lineV out S k = .inr 6) := Lib.hid (fun h => by unfold lineV; rw [if_pos (by rw [HM.out]; exact h)])
      have HLe : Hid (m < 4096 → t = S.size → lineV out S k = .inr 2) := Lib.hid (fun h h' => by unfold lineV; rw [if_neg (by rw [HM.out]; omega), if_pos (by rw [ht]; exact h')])
      have HLX : Hid (m < 4096 → t < S.size → lineV out S k = rdV out x) := Lib.hid (fun h h' => by unfold lineV; rw [if_neg (by rw [HM.out]; omega), if_neg (by rw [ht]; omega), ht, hx])
      have HNOT : Hid (∀ j, k ≤ j → j < t → ∀ hjs : j < S.size, S[j] ≠ 10) := Lib.hid (fun j h1 h2 hjs => nl_not h1 (by rw [ht]; exact h2) hjs)
      have HAT : Hid (∀ h : t < S.size, S[t] = 10) := Lib.hid (by subst ht; exact nl_at _ k rfl hk)
      have HX := Lib.hid hx
      have HXS := Lib.hid hxs
      rw [ht] at hge hnle
      clear ht hst hx hxs
      obtain ⟨wo, hwo⟩ : ∃ wo, wo = wr := ⟨_, rfl⟩
      subst hwo
      go_wp2_with fail
      go_loopw [8] (fun t wq => MsV S k wo t wq) (fun t _ => S.size - (intOf t).toNat)
      case atStart => exact ⟨k, Nat.le_refl _, by rw [HT.out]; exact hge, rfl, rfl⟩
      case round =>
        obtain ⟨j, hkj, hjt, rfl, rfl⟩ := hrel
        rw [HT.out] at hjt
        by_cases hj : j < t
        · have hjs : j < S.size := by omega
          have hjsi : (j : Int) < S.size := by omega
          have hc10 : ¬ (S[j].toNat : Int) = 10 := fun e => HNOT.out j hkj hj hjs (UInt8.toNat_inj.1 (by show S[j].toNat = 10; omega))
          go_wp2_with fail
          go_roundw
          case rel => exact ⟨j + 1, by omega, by rw [HT.out]; omega, by rw [Int.natCast_succ], rfl⟩
          case measure => simp [intOf]; omega
        · have hjt2 : j = t := by omega
          subst hjt2
          have HOUT : Hid (∀ W, Below w.heap.size w W → ∀ e : Int, restF rdV S 0 [] = ([], (m : Int) + 1, e) → ∃ v, Ending.returned (.tuple #[.slice none 0 0, .int .i64 ((m : Int) + 1), .int .i64 e]) = .returned (.tuple #[v, .int .i64 (parseV S).2.1, .int .i64 (parseV S).2.2]) ∧ W.ownsRow w.heap.size 41 2 v (parseV S).1.length (flatE (parseV S).1) ∧ Below w.heap.size w W) := Lib.hid (fun W hW e he => ⟨.slice none 0 0, by rw [HPM.out, he], by rw [HPM.out, he]; exact World.ownsRow_nil _ _ _ _, hW⟩)
          by_cases hmm : m < 4096
          · have hmi : (m : Int) + 1 ≤ 4096 := by omega
            by_cases hts : j = S.size
            · have HE := Lib.hid (HE2.out _ (HLe.out hmm hts))
              obtain ⟨g, hgl⟩ := RLineV_all HXS.out
              rw [← HX.out] at hgl
              have HLN := Lib.hid hgl
              subst hts
              clear HNOT HAT hgl
              go_wp2_with (go_at_call 71; (with_reducible refine (HLN.out _).mono ?_); rintro e w2 ⟨X, T, rfl, hb2⟩; have HB2 := Lib.hid (HB.out.trans (hb2.mono HB.out.size)); clear hb2)
              refine bodyPost_ret (v := .tuple #[.slice none 0 0, .int .i64 ((m : Int) + 1), .int .i64 2]) (by simp [results, Tryd.results45, go_sem]) rfl (HOUT.out _ (HB2.out.alloc HB2.out.size _) 2 HE.out)
            · have hjs : j < S.size := by omega
              have hjsi : (j : Int) < S.size := by omega
              have hjne : ¬ (j : Int) = S.size := by omega
              have hc10 : (S[j].toNat : Int) = 10 := by rw [HAT.out hjs]; rfl
              have hrd := HLX.out hmm hjs
              clear HNOT HAT HLe HL6 HLX
              cases hen : entR x with
              | none =>
                have HE := Lib.hid (HE2.out _ (hrd.trans (by unfold rdV; rw [hen])))
                have hln := fun W => RLineV_none HXS.out hen W
                rw [← HX.out] at hln
                have HLN := Lib.hid hln
                clear hln hrd hen
                go_wp2_with (go_at_call 71; (with_reducible refine (HLN.out _).mono ?_); rintro e w2 ⟨X, T, rfl, hb2⟩; have HB2 := Lib.hid (HB.out.trans (hb2.mono HB.out.size)); clear hb2)
                refine bodyPost_ret (v := .tuple #[.slice none 0 0, .int .i64 ((m : Int) + 1), .int .i64 2]) (by simp [results, Tryd.results45, go_sem]) rfl (HOUT.out _ (HB2.out.alloc HB2.out.size _) 2 HE.out)
              | some p =>
                obtain ⟨a, b⟩ := p
                have hln := fun W => RLineV_some HXS.out hen W
                rw [← HX.out] at hln
                have HLN := Lib.hid hln
                have hrd2 : lineV out S k = if (a : Int) ≤ lastE out then .inr 12 else if inB (out.map (·.2)) b then .inr 10 else .inl (a, b) := hrd.trans (by unfold rdV; rw [hen])
                have HL12 : Hid ((a : Int) ≤ lastE out → lineV out S k = .inr 12) := Lib.hid (fun h => by rw [hrd2, if_pos h])
                have HL10 : Hid (lastE out < (a : Int) → inB (out.map (·.2)) b = true → lineV out S k = .inr 10) := Lib.hid (fun h h2 => by rw [hrd2, if_neg (by omega), if_pos h2])
                have HLp : Hid (lastE out < (a : Int) → inB (out.map (·.2)) b = false → lineV out S k = .inl (a, b)) := Lib.hid (fun h h2 => by rw [hrd2, if_neg (by omega), h2]; rfl)
                clear hln hrd hen hrd2
                go_wp2_with (go_at_call 71; (with_reducible refine (HLN.out _).mono ?_); rintro e w2 ⟨rfl, hb2⟩; have HB2 := Lib.hid (HB.out.trans (hb2.mono HB.out.size)); have HR2 := Lib.hid (own_below HROW.out hb2); clear hb2)
                obtain ⟨W3, hW3⟩ : ∃ W3, w2.alloc (.cells #[.int .i64 (a : Nat), .string b] 41) = W3 := ⟨_, rfl⟩
                have hrow3 : W3.heap[w2.heap.size]? = some (.cells #[.int .i64 (a : Nat), .string b] 41 (0, 0)) := by rw [← hW3]; exact World.alloc_heap_new w2 _
                have HB3 : Hid (Below w.heap.size w W3) := Lib.hid (by rw [← hW3]; exact HB2.out.alloc HB2.out.size _)
                have HR3 : Hid (W3.ownsRow w.heap.size 41 2 u5 m (flatE out)) := Lib.hid (by rw [← hW3]; exact HR2.out.alloc _)
                rw [hW3]
                obtain ⟨o, cap, hv, hpr⟩ := own_entries (t := 41) (l := out) (by rw [HM.out]; exact HR3.out)
                rw [HM.out] at hv
                subst hv
                have HPR := Lib.hid hpr; have HRW3 := Lib.hid hrow3
                have c0 : W3.cell? ⟨w2.heap.size, 0, none⟩ = some (.int .i64 (a : Nat)) := cell_of_row hrow3
                clear hW3 hpr hrow3 HR2 HB2 HLN HROW HB
                rcases Nat.eq_zero_or_pos m with hm0 | hmp
                · have hle : lastE out < (a : Int) := by
                    have : out = [] := List.length_eq_zero_iff.1 (by rw [HM.out, hm0])
                    rw [this]; unfold lastE; simp; omega
                  have HLt := Lib.hid (HL10.out hle); have HLq := Lib.hid (HLp.out hle)
                  have hmn : ¬ (0 : Int) < m := by omega
                  have hmb : decide ((0 : Int) < m) = false := decide_eq_false hmn
                  have hmN : ¬ 0 < m := by omega
                  have hmB : decide (0 < m) = false := decide_eq_false hmN
                  have HM0 := Lib.hid hm0
                  clear hle hm0 HL12 HL10 HLp
                  go_wp2_with fail
                  go_quiet (fail)
                  clear c0 hmn hmb hmN hmB
                  go_wp2_with fail
                  go_loopw [11] (fun i wq => MvS out b m W3 i wq) (fun i _ => m - (intOf i).toNat)
                  case atStart => exact ⟨0, _, Nat.zero_le _, rfl, rfl, rfl⟩
                  case round =>
                    obtain ⟨y, q, hy, rfl, hno, hw⟩ := hrel
                    have HNO := Lib.hid hno; have HW := Lib.hid hw
                    have HBW : Hid (Below W3.heap.size W3 wr) := Lib.hid (by rw [hw]; exact below_drewN (Below.refl _ _) q)
                    have hrw : wr.heap[w2.heap.size]? = some (.cells #[.int .i64 (a : Nat), .string b] 41 (0, 0)) := (HBW.out.block _ (lt_of_some HRW3.out)).trans HRW3.out
                    have c0 : wr.cell? ⟨w2.heap.size, 0, none⟩ = some (.int .i64 (a : Nat)) := cell_of_row hrw
                    have c1 : wr.cell? ⟨w2.heap.size, 1, none⟩ = some (.string b) := cell_of_row hrw
                    clear hno hw hrw
                    by_cases hlm : y < m
                    · have hlmi : (y : Int) < m := by omega
                      obtain ⟨pq, hpq⟩ : ∃ p, out[y]? = some p := ⟨_, List.getElem?_eq_getElem (by rw [HM.out]; exact hlm)⟩
                      obtain ⟨g1, cur1, ho1, _, d0, d1⟩ := (HPR.out.below HBW.out) y pq hpq
                      first | subst ho1 | cases ho1
                      have HQ := Lib.hid (tok_at (b := b) hpq HNO.out)
                      obtain ⟨q1, q2⟩ := pq
                      simp only at d0 d1
                      clear hpq
                      by_cases he : q2 = b
                      · have HE := Lib.hid (HE2.out _ (HLt.out (HQ.out.1 he)))
                        have het : ∀ x : ByteArray, x = q2 → x = b := fun x h => h.trans he
                        subst he
                        clear het
                        go_wp2_with fail
                        go_quiet (fail)
                        first | (have _h : Below W3.heap.size W3 (wr.drewN nq) := below_drewN HBW.out nq) | rename_i nq
                        have HF := Lib.hid (below_drewN (HB3.out.trans (HBW.out.mono HB3.out.size)) nq)
                        generalize wr.drewN nq = wd at HF ⊢
                        clear c0 c1 d0 d1
                        go_wp2_with fail
                        refine bodyPost_ret (v := .tuple #[.slice none 0 0, .int .i64 ((m : Int) + 1), .int .i64 10]) (by simp [results, Tryd.results45, go_sem]) rfl (HOUT.out _ HF.out 10 HE.out)
                      · have hbe : (q2.toList == b.toList) = false := beq_eq_false_iff_ne.2 (ba_ne he)
                        have hbn := ba_ne he
                        have HE := Lib.hid (HQ.out.2 he)
                        clear he
                        go_wp2_with fail
                        go_quiet (fail)
                        first | (have _h : Below W3.heap.size W3 (wr.drewN nq) := below_drewN HBW.out nq) | rename_i nq
                        have HWN : Hid (∃ q, wr.drewN nq = W3.drewN q) := Lib.hid ⟨_, by rw [HW.out]; simp only [World.drewN_drewN]; rfl⟩
                        generalize wr.drewN nq = wd at HWN ⊢
                        clear c0 c1 d0 d1
                        go_wp2_with fail
                        go_roundw
                        case rel =>
                          obtain ⟨q', hq'⟩ := HWN.out
                          exact ⟨y + 1, q', by omega, by rw [Int.natCast_succ], HE.out, hq'⟩
                        case measure => simp [intOf]; omega
                    · have hym : y = m := by omega
                      subst hym
                      have hrn : inB (out.map (·.2)) b = false := by rw [← HNO.out, List.take_of_length_le (by rw [HM.out]; exact Nat.le_refl _)]
                      have HE := Lib.hid (HP2.out _ (HLq.out hrn))
                      have HRq := Lib.hid (own_below HR3.out HBW.out)
                      have HBq := Lib.hid (HB3.out.trans (HBW.out.mono HB3.out.size))
                      clear hrn
                      go_wp2_with (at_builtin; refine wpList_append_own _ rfl _ _ 29 rfl w.heap.size 41 i1 (.agg #[.int .i64 0, .string ⟨#[]⟩]) 2 24 Tryd.underlying29 HI1.out HZ0.out HZ1.out HZ2.out rfl (by decide) _ _ _ rfl (HRq.out.alloc _) ⟨wr.heap.size, 0, none⟩ 1 1 [.int .i64 (a : Nat), .string b] rfl rfl (cell_two_new _ _ _ _) two_memE (by unfold maxLen; omega) (by omega) (by have := HBq.out.size; simp; omega) ?_; intro v' w4 hown hgrow _)
                      have HEND : Hid (MpV w S v' (.int .i64 ((j : Int) + 1)) (.int .i64 ((y : Int) + 1 + 1)) w4) := Lib.hid ⟨j + 1, y + 1, out ++ [(a, b)], by omega, by rw [List.length_append, HM.out]; rfl, by rw [Int.natCast_succ], by rw [Int.natCast_succ], by rw [flatE_snoc]; exact hown, HE.out, by omega, (HBq.out.alloc HBq.out.size _).grown hgrow (by have := HBq.out.size; simp; omega) (own_base HRq.out)⟩
                      clear hown hgrow
                      go_wp2_with fail
                      go_roundw
                      case rel => first | exact HEND.out | ((repeat (apply Exists.intro)); exact ⟨HEND.out, rfl⟩)
                      case measure => first | (simp [intOf]; done) | (simp [intOf]; omega)
                · obtain ⟨m1, hm1⟩ : ∃ m1, m = m1 + 1 := ⟨m - 1, by omega⟩
                  obtain ⟨pl, hpl⟩ : ∃ p, out[m1]? = some p := ⟨_, List.getElem?_eq_getElem (by rw [HM.out]; omega)⟩
                  obtain ⟨g1, cur1, ho1, _, d0, d1⟩ := HPR.out m1 pl hpl
                  have hla := lastE_at (by rw [HM.out]; exact hm1) hpl
                  obtain ⟨pi, pt⟩ := pl
                  simp only at d0 hla
                  subst ho1
                  have hmn : (0 : Int) < m := by omega
                  have hmb : decide ((0 : Int) < m) = true := decide_eq_true hmn
                  have hmw : IntKind.i64.wrap ((m : Int) - 1) = (m1 : Int) := by rw [IntWalk.i64_in _ (by omega)]; omega
                  have hms : (m : Int) - 1 = (m1 : Int) := by omega
                  have hm1l : (m1 : Int) < m := by omega
                  have hm10 : 0 ≤ (m1 : Int) := by omega
                  have HMS := Lib.hid hm1
                  by_cases hle : (a : Int) ≤ pi
                  · have HE := Lib.hid (HE2.out _ (HL12.out (by rw [hla]; exact hle)))
                    clear hm1 hpl hla d1
                    go_wp2_with fail
                    go_quiet (fail)
                    first | (have _h : Below W3.heap.size W3 (W3.drewN nq) := below_drewN (Below.refl _ _) nq) | rename_i nq
                    have HF := Lib.hid (below_drewN HB3.out nq)
                    generalize W3.drewN nq = wd at HF ⊢
                    clear c0 d0 hmw hms hmn hmb
                    go_wp2_with fail
                    refine bodyPost_ret (v := .tuple #[.slice none 0 0, .int .i64 ((m : Int) + 1), .int .i64 12]) (by simp [results, Tryd.results45, go_sem]) rfl (HOUT.out _ HF.out 12 HE.out)
                  · have hle2 : lastE out < (a : Int) := by rw [hla]; omega
                    have HLt := Lib.hid (HL10.out hle2); have HLq := Lib.hid (HLp.out hle2)
                    have hleN : ¬ a ≤ pi := by omega
                    have hleB : decide ((a : Int) ≤ pi) = false := decide_eq_false hle
                    have hleC : decide (a ≤ pi) = false := decide_eq_false hleN
                    clear hm1 hpl hla d1 hle2 HL12 HL10 HLp
                    go_wp2_with fail
                    go_quiet (fail)
                    clear c0 d0 hmw hms hmn hmb hm1l hm10
                    go_wp2_with fail
                    clear hle hleN hleB hleC
                    go_loopw [11] (fun i wq => MvS out b m W3 i wq) (fun i _ => m - (intOf i).toNat)
                    case atStart => exact ⟨0, _, Nat.zero_le _, rfl, rfl, rfl⟩
                    case round =>
                      obtain ⟨y, q, hy, rfl, hno, hw⟩ := hrel
                      have HNO := Lib.hid hno; have HW := Lib.hid hw
                      have HBW : Hid (Below W3.heap.size W3 wr) := Lib.hid (by rw [hw]; exact below_drewN (Below.refl _ _) q)
                      have hrw : wr.heap[w2.heap.size]? = some (.cells #[.int .i64 (a : Nat), .string b] 41 (0, 0)) := (HBW.out.block _ (lt_of_some HRW3.out)).trans HRW3.out
                      have c0 : wr.cell? ⟨w2.heap.size, 0, none⟩ = some (.int .i64 (a : Nat)) := cell_of_row hrw
                      have c1 : wr.cell? ⟨w2.heap.size, 1, none⟩ = some (.string b) := cell_of_row hrw
                      clear hno hw hrw
                      by_cases hlm : y < m
                      · have hlmi : (y : Int) < m := by omega
                        obtain ⟨pq, hpq⟩ : ∃ p, out[y]? = some p := ⟨_, List.getElem?_eq_getElem (by rw [HM.out]; exact hlm)⟩
                        obtain ⟨g1, cur1, ho1, _, d0, d1⟩ := (HPR.out.below HBW.out) y pq hpq
                        first | subst ho1 | cases ho1
                        have HQ := Lib.hid (tok_at (b := b) hpq HNO.out)
                        obtain ⟨q1, q2⟩ := pq
                        simp only at d0 d1
                        clear hpq
                        by_cases he : q2 = b
                        · have HE := Lib.hid (HE2.out _ (HLt.out (HQ.out.1 he)))
                          have het : ∀ x : ByteArray, x = q2 → x = b := fun x h => h.trans he
                          subst he
                          clear het
                          go_wp2_with fail
                          go_quiet (fail)
                          first | (have _h : Below W3.heap.size W3 (wr.drewN nq) := below_drewN HBW.out nq) | rename_i nq
                          have HF := Lib.hid (below_drewN (HB3.out.trans (HBW.out.mono HB3.out.size)) nq)
                          generalize wr.drewN nq = wd at HF ⊢
                          clear c0 c1 d0 d1
                          go_wp2_with fail
                          refine bodyPost_ret (v := .tuple #[.slice none 0 0, .int .i64 ((m : Int) + 1), .int .i64 10]) (by simp [results, Tryd.results45, go_sem]) rfl (HOUT.out _ HF.out 10 HE.out)
                        · have hbe : (q2.toList == b.toList) = false := beq_eq_false_iff_ne.2 (ba_ne he)
                          have hbn := ba_ne he
                          have HE := Lib.hid (HQ.out.2 he)
                          clear he
                          go_wp2_with fail
                          go_quiet (fail)
                          first | (have _h : Below W3.heap.size W3 (wr.drewN nq) := below_drewN HBW.out nq) | rename_i nq
                          have HWN : Hid (∃ q, wr.drewN nq = W3.drewN q) := Lib.hid ⟨_, by rw [HW.out]; simp only [World.drewN_drewN]; rfl⟩
                          generalize wr.drewN nq = wd at HWN ⊢
                          clear c0 c1 d0 d1
                          go_wp2_with fail
                          go_roundw
                          case rel =>
                            obtain ⟨q', hq'⟩ := HWN.out
                            exact ⟨y + 1, q', by omega, by rw [Int.natCast_succ], HE.out, hq'⟩
                          case measure => simp [intOf]; omega
                      · have hym : y = m := by omega
                        subst hym
                        have hrn : inB (out.map (·.2)) b = false := by rw [← HNO.out, List.take_of_length_le (by rw [HM.out]; exact Nat.le_refl _)]
                        have HE := Lib.hid (HP2.out _ (HLq.out hrn))
                        have HRq := Lib.hid (own_below HR3.out HBW.out)
                        have HBq := Lib.hid (HB3.out.trans (HBW.out.mono HB3.out.size))
                        clear hrn
                        go_wp2_with (at_builtin; refine wpList_append_own _ rfl _ _ 29 rfl w.heap.size 41 i1 (.agg #[.int .i64 0, .string ⟨#[]⟩]) 2 24 Tryd.underlying29 HI1.out HZ0.out HZ1.out HZ2.out rfl (by decide) _ _ _ rfl (HRq.out.alloc _) ⟨wr.heap.size, 0, none⟩ 1 1 [.int .i64 (a : Nat), .string b] rfl rfl (cell_two_new _ _ _ _) two_memE (by unfold maxLen; omega) (by omega) (by have := HBq.out.size; simp; omega) ?_; intro v' w4 hown hgrow _)
                        have HEND : Hid (MpV w S v' (.int .i64 ((j : Int) + 1)) (.int .i64 ((y : Int) + 1 + 1)) w4) := Lib.hid ⟨j + 1, y + 1, out ++ [(a, b)], by omega, by rw [List.length_append, HM.out]; rfl, by rw [Int.natCast_succ], by rw [Int.natCast_succ], by rw [flatE_snoc]; exact hown, HE.out, by omega, (HBq.out.alloc HBq.out.size _).grown hgrow (by have := HBq.out.size; simp; omega) (own_base HRq.out)⟩
                        clear hown hgrow
                        go_wp2_with fail
                        go_roundw
                        case rel => first | exact HEND.out | ((repeat (apply Exists.intro)); exact ⟨HEND.out, rfl⟩)
                        case measure => first | (simp [intOf]; done) | (simp [intOf]; omega)
          · have hm6 : m = 4096 := by omega
            subst hm6
            have HE := Lib.hid (HE2.out _ (HL6.out (Nat.le_refl _)))
            by_cases hts : j = S.size
            · have htsi : (j : Int) = S.size := by omega
              go_wp2_with fail
              refine bodyPost_ret (v := .tuple #[.slice none 0 0, .int .i64 4097, .int .i64 6]) (by simp [results, Tryd.results45, go_sem]) rfl (HOUT.out _ HB.out 6 HE.out)
            · have hjs : j < S.size := by omega
              have hjsi : (j : Int) < S.size := by omega
              have hc10 : (S[j].toNat : Int) = 10 := by rw [HAT.out hjs]; rfl
              go_wp2_with fail
              refine bodyPost_ret (v := .tuple #[.slice none 0 0, .int .i64 4097, .int .i64 6]) (by simp [results, Tryd.results45, go_sem]) rfl (HOUT.out _ HB.out 6 HE.out)
    · have hkS : k = S.size := by omega
      have HE := Lib.hid (show restF rdV S 0 [] = (out, 0, 0) by rw [HREST.out, restF_end rdV out (by omega)])
      obtain ⟨o, cap, hv, _⟩ := own_entries (by rw [← HM.out] at HROW; exact HROW.out)
      go_wp2_with fail
      refine bodyPost_ret (v := .tuple #[u5, .int .i64 0, .int .i64 0]) (by simp [results, Tryd.results45, go_sem]) rfl ⟨u5, by rw [HPM.out, HE.out], by rw [HPM.out, HE.out, HM.out]; exact HROW.out, HB.out⟩
end Go.Proofs.YtmdhendfmhhniaaDoor
