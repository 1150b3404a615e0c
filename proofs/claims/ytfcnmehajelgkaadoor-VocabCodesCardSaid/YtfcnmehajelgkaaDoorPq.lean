/- Merges, the document's Split. -/
import Derived.Test.YtfcnmehajelgkaaDoorY5
import Derived.Deep.AppendLies
import Derived.Deep.DrawnRows
namespace Go.Proofs.YtfcnmehajelgkaaDoor
open Go.RowKit Go.Maps
variable {w w' w'' : World} {P : List ByteArray} {word : ByteArray} {l : List PairB}

theorem info_str : (Tryd.prog.info? 9).map (fun i => (i.zero, i.size, i.bytes)) = some (some (.string ⟨#[]⟩), 1, 16) := by kernel_rfl
def strsV (P : List ByteArray) : List Value := P.map Value.string
theorem strsV_length (P : List ByteArray) : (strsV P).length = P.length := List.length_map ..
theorem own_texts {B : Nat} {v : Value} (h : w.ownsRow B 9 1 v P.length (strsV P)) : ∃ o cap, v = .slice o P.length cap ∧ StAt w o P := by
  rcases h.2 with ⟨h1, h2⟩ | ⟨g, cap, cur, h1, _, hg, hn, _, hz, ht⟩
  · exact ⟨none, 0, by rw [h1, h2], fun k p hp => by have := (List.getElem?_eq_some_iff.1 hp).1; omega⟩
  · refine ⟨some ⟨g, 0, none⟩, cap, h1, fun k p hp => ⟨g, cur, rfl, hg, ?_⟩⟩
    have hk := (List.getElem?_eq_some_iff.1 hp).1
    have h3 : (strsV P)[k]? = some (.string p) := by unfold strsV; rw [List.getElem?_map, hp]; rfl
    rw [← ht, List.getElem?_take, if_pos (by omega), Array.getElem?_toList] at h3
    exact h3
theorem strsV_snoc (P : List ByteArray) (p : ByteArray) : strsV (P ++ [p]) = strsV P ++ [Value.string p] := by unfold strsV; rw [List.map_append]; rfl
def BtS (w : World) (word : ByteArray) (v i : Value) (wr : World) : Prop :=
  ∃ k : Nat, k ≤ word.size ∧ i = .int .i64 k ∧ wr.ownsRow w.heap.size 9 1 v k (strsV ((bytesB word).take k)) ∧ Below w.heap.size w wr
theorem bytesB_at {k : Nat} (h : k < word.size) : (bytesB word)[k]? = some (word.extract k (k + 1)) := by
  unfold bytesB
  rw [List.getElem?_map, List.getElem?_eq_getElem (by rw [size_len]; exact h)]
  have : word.extract k (k + 1) = ⟨#[word[k]]⟩ := by
    apply ByteArray.ext
    rw [ByteArray.data_extract]
    apply Array.ext'
    rw [Array.toList_extract, List.extract_eq_take_drop, drop_at word k h, show k + 1 - k = 1 by omega]
    rfl
  rw [this]; rfl
def dB (x : Int) : Int := if x = noR then -1 else x
def lenV : Value → Nat
  | .slice _ n _ => n
  | _ => 0
def SqS (l : List PairB) (word : ByteArray) (T : List ByteArray) (w : World) (v : Value) (wr : World) : Prop :=
  ∃ (P : List ByteArray) (o : Option Addr) (n cap : Nat), n = P.length ∧ v = .slice o n cap ∧ StAt wr o P ∧ catB P = word.data.toList ∧ splitN P.length l P = T ∧ P.length ≤ 4096 ∧ Below w.heap.size w wr
def BeS (l : List PairB) (P : List ByteArray) (W0 : World) (i be : Value) (wr : World) : Prop :=
  ∃ (k : Nat) (x : Int), (k + 1 ≤ P.length ∨ k = 0) ∧ i = .int .i64 k ∧ x = bestI l (P.take (k + 1)) ∧ be = .int .i64 (dB x) ∧ Below W0.heap.size W0 wr
def NxS (a b : ByteArray) (P : List ByteArray) (w1 : World) (v i : Value) (wr : World) : Prop :=
  ∃ (Q : List ByteArray) (k : Nat), i = .int .i64 k ∧ k ≤ P.length ∧ Q.length ≤ k ∧ Q ++ mergeL a b (P.drop k) = mergeL a b P ∧ wr.ownsRow w1.heap.size 9 1 v Q.length (strsV Q) ∧ Below w1.heap.size w1 wr
set_option maxHeartbeats 2000000 in
set_option maxRecDepth 100000 in
theorem RSplit_any (o : Option Addr) (l : List PairB) (cap : Nat) (word : ByteArray) (w : World) (hl : l.length ≤ 100000) (hp : PrAt w 70 o l) (hws : word.size ≤ maxLen) :
    Calls Tryd.prog 14 #[.slice o l.length cap, .string word] w fun e w' => ∃ o' cap', e = .returned (.slice o' (splitP l word).length cap') ∧ StAt w' o' (splitP l word) ∧ Below w.heap.size w w' := by
  unfold maxLen at hws
  obtain ⟨n, hn⟩ : ∃ n, l.length = n := ⟨_, rfl⟩
  obtain ⟨i0, hi0, hz0, hs0, hy0⟩ := info_parts info_str
  have HI0 := Lib.hid hi0; have HZ0 := Lib.hid hz0; have HS0 := Lib.hid hs0; have HY0 := Lib.hid hy0
  clear hi0 hz0 hs0 hy0
  by_cases h1 : 4096 < word.size
  · have hend : Hid (splitP l word = []) := Lib.hid (by unfold splitP; rw [if_pos h1])
    rw [hn]
    go_enter Tryd.func14, Tryd.ntmps14
    go_wp2_with fail
    go_ret
    rw [hend.out]
    exact ⟨none, 0, rfl, StAt.nil _, Below.refl _ _⟩
  have h2 : word.size ≤ 4096 := by omega
  have HTT := Lib.hid (show splitP l word = splitN (bytesB word).length l (bytesB word) by unfold splitP; rw [if_neg h1, bytesB_length]; rfl)
  have HP := Lib.hid hp; have HN := Lib.hid hn
  obtain ⟨T, hT⟩ : ∃ T, splitP l word = T := ⟨_, rfl⟩
  rw [hT] at HTT ⊢
  rw [hn]
  have H0 : Hid (BtS w word (.slice none 0 0) (.int .i64 0) w) := Lib.hid ⟨0, Nat.zero_le _, rfl, World.ownsRow_nil _ _ _ _, Below.refl _ _⟩
  clear hp hT hn
  go_enter Tryd.func14, Tryd.ntmps14
  go_wp2_with fail
  go_loopw [5, 6] (fun v i wr => BtS w word v i wr) (fun _ i _ => word.size - (intOf i).toNat)
  case atStart => exact H0.out
  case round =>
    obtain ⟨k, hk, rfl, hv, hb⟩ := hrel
    have HV := Lib.hid hv; have HB := Lib.hid hb
    clear hv hb H0
    by_cases hlt : k < word.size
    · have hEX := Lib.hid (bytesB_at hlt)
      obtain ⟨c, hc⟩ : ∃ c, word.extract k (k + 1) = c := ⟨_, rfl⟩
      rw [hc] at hEX
      go_wp2_with (at_builtin; refine wpList_append_own _ rfl _ _ 37 rfl w.heap.size 9 i0 (.string ⟨#[]⟩) 1 16 Tryd.underlying37 HI0.out HZ0.out HS0.out HY0.out rfl (by decide) _ _ _ rfl (HV.out.alloc _) ⟨wr.heap.size, 0, none⟩ 1 1 [.string c] rfl rfl (cell_one_new _ _ _) (by intro u hu; simp at hu; subst hu; rfl) (by unfold maxLen; omega) (by omega) (by have := HB.out.size; simp; omega) ?_)
      intro v' w2 hown hgrow _
      have hend : Hid (BtS w word v' (.int .i64 ((k : Int) + 1)) w2) := Lib.hid ⟨k + 1, by omega, by rw [Int.natCast_succ],
        by rw [List.take_add_one, hEX.out]; exact strsV_snoc _ _ ▸ hown, (HB.out.alloc HB.out.size _).grown hgrow (by have := HB.out.size; simp; omega) (own_base HV.out)⟩
      clear hown hgrow
      go_wp2_with fail
      go_roundw
      case rel => exact hend.out
      case measure => simp [intOf]; omega
    · have hkn : k = word.size := by omega
      have hv2 := HV.out
      rw [hkn, List.take_of_length_le (by rw [bytesB_length]; exact Nat.le_refl _)] at hv2
      obtain ⟨o1, cap1, hov, hst⟩ := own_texts (P := bytesB word) (by rw [bytesB_length]; exact hv2)
      have H1 : Hid (SqS l word T w (.slice o1 (bytesB word).length cap1) wr) := Lib.hid ⟨_, o1, _, cap1, rfl, rfl, hst, catB_bytes word, HTT.out.symm, by rw [bytesB_length]; exact h2, HB.out⟩
      rw [hov]
      clear hv2 hst hov hkn
      go_wp2_with fail
      go_loopw [5] (fun v wr => SqS l word T w v wr) (fun v _ => lenV v)
      case atStart => exact H1.out
      case round =>
        obtain ⟨P, oP, m, cP, hm, rfl, hst, hcat, hsp, hPl, hbel⟩ := hrel
        obtain ⟨w0, hw0⟩ : ∃ w0, w0 = wr := ⟨_, rfl⟩
        subst hw0
        have HST := Lib.hid hst; have HCAT := Lib.hid hcat; have HSP := Lib.hid hsp; have HBL := Lib.hid hbel; have HM := Lib.hid hm
        have hm4 : m ≤ 4096 := by omega
        have HB3 : Hid (BeS l P w0 (.int .i64 0) (.int .i64 (-1)) w0) := Lib.hid ⟨0, noR, .inr rfl, rfl, (bestI_one l P).symm, rfl, Below.refl _ _⟩
        clear hst hcat hsp hbel hPl hm H1
        go_wp2_with fail
        go_loopw [8, 7] (fun i be wr => BeS l P w0 i be wr) (fun i _ _ => m - (intOf i).toNat)
        case atStart => exact HB3.out
        case round =>
          obtain ⟨k, x, hk, rfl, hx, rfl, hb3⟩ := hrel
          rw [← HM.out] at hk
          have HX := Lib.hid hx; have HB := Lib.hid hb3
          clear hx hb3 HB3
          obtain ⟨k1, hk1⟩ : ∃ k1, k + 1 = k1 := ⟨_, rfl⟩
          have hK1 : (k : Int) + 1 = (k1 : Int) := by omega
          have HK1 := Lib.hid hk1
          by_cases hlt : k1 < m
          · obtain ⟨p, hp⟩ : ∃ p, P[k]? = some p := ⟨_, List.getElem?_eq_getElem (by rw [← HM.out]; omega)⟩
            obtain ⟨q, hq⟩ : ∃ q, P[k1]? = some q := ⟨_, List.getElem?_eq_getElem (by rw [← HM.out]; omega)⟩
            obtain ⟨b, hob, d0, hbl⟩ := (HST.out.below HB.out).cell hp
            obtain ⟨b', hob', d1, _⟩ := (HST.out.below HB.out).cell hq
            have hbb : b = b' := by rw [hob] at hob'; injection hob' with h; injection h
            subst hbb
            subst hob
            have HSTEP := Lib.hid (bestI_to (l := l) hl hp (by rw [hk1]; exact hq))
            have HRK := Lib.hid (RRank_any o l cap p q (World.drew wr) (by unfold maxLen; omega) (((HP.out.below HBL.out).below HB.out).same fun _ _ _ _ => rfl))
            have hxb := bestI_bd l hl (P.take (k + 1))
            rw [← HX.out] at hxb
            have hkk : k < m := by omega
            have hki : (k : Int) < m := by omega
            have hk1i : (k1 : Int) < m := by omega
            have hw1 : IntKind.i64.wrap ((k1 : Nat) : Int) = ((k1 : Nat) : Int) := by rw [IntKind.wrap_i64]; omega
            have hw2 : IntKind.i64.wrap ((k : Int) + 1) = ((k1 : Nat) : Int) := by rw [IntKind.wrap_i64]; omega
            have HXB := Lib.hid hxb
            rw [HN.out] at HRK
            clear hp hq hob' hk1 hxb hk
            go_wp2_with fail
            refine wp_region_still_tail 11 (by kernel_rfl) (by kernel_rfl) ?_
            change wpStill _ _ (World.drew _) _ _ _
            simp only [List.take_succ_cons, List.take_zero, List.drop_succ_cons, List.drop_zero]
            repeat still_step
            try refine wpStill_nil ?_
            change wpList _ _ _ _ _ (World.drew _)
            go_wp2_with (go_at_call 31; refine HRK.out.mono ?_)
            first | rintro e w2 rfl hb2 | rintro e w2 ⟨rfl, hb2⟩
            have HB2 : Hid (Below w0.heap.size w0 w2) := Lib.hid ((below_drewN HB.out 1).trans (hb2.mono HB.out.size))
            clear hb2
            have hnext : ∀ y, y = min x (rkI l (p, q)) → Hid (BeS l P w0 (.int .i64 ((k : Int) + 1)) (.int .i64 (dB y)) w2) := fun y hy => Lib.hid
              ⟨k + 1, y, by have := HK1.out; rw [← HM.out]; left; omega, by rw [Int.natCast_succ], by rw [HSTEP.out, ← HX.out, hy], rfl, HB2.out⟩
            cases hr : rankN l (p, q) with
            | none =>
              have e1 : dRank l (p, q) = -1 := by unfold dRank; rw [hr]
              have e2 := hnext x (by unfold rkI; rw [hr]; have := HXB.out.2; show x = min x noR; omega)
              rw [e1]
              clear e1 hnext hr
              rw [hK1] at e2
              go_wp2_with fail
              go_roundw
              case rel => exact e2.out
              case measure => simp [intOf]; omega
            | some j =>
              have hj : j < 100000 := by have := (rankN_lt hr).1; omega
              have e1 : dRank l (p, q) = j := by unfold dRank; rw [hr]
              have e3 : rkI l (p, q) = j := by unfold rkI; rw [hr]
              rw [e1]
              rw [e3] at hnext
              clear e1 e3 hr
              by_cases hxn : x = noR
              · have e2 := hnext j (by rw [hxn]; unfold noR; omega)
                have e4 : dB (j : Int) = j := by unfold dB noR; rw [if_neg (by omega)]
                have e5 : dB x = -1 := by unfold dB; rw [if_pos hxn]
                rw [e4, hK1] at e2
                rw [e5]
                clear e4 e5 hnext hxn
                go_wp2_with fail
                go_roundw
                case rel => exact e2.out
                case measure => simp [intOf]; omega
              · have e5 : dB x = x := by unfold dB; rw [if_neg hxn]
                have hx0 : 0 ≤ x := HXB.out.1
                rw [e5]
                by_cases hjx : (j : Int) < x
                · have e2 := hnext j (by omega)
                  have e4 : dB (j : Int) = j := by unfold dB noR; rw [if_neg (by omega)]
                  rw [e4, hK1] at e2
                  clear e4 e5 hnext hxn
                  go_wp2_with fail
                  go_roundw
                  case rel => exact e2.out
                  case measure => simp [intOf]; omega
                · have e2 := hnext x (by omega)
                  rw [e5, hK1] at e2
                  clear e5 hnext hxn
                  go_wp2_with fail
                  go_roundw
                  case rel => exact e2.out
                  case measure => simp [intOf]; omega
          · have hk1b : k1 ≤ 4097 := by rcases hk with h | h <;> omega
            have hk1c : (m : Int) ≤ k1 := by omega
            have HXP := Lib.hid (show x = bestI l P by rw [HX.out, List.take_of_length_le (by rw [← HM.out]; omega)])
            have HB2 := HB
            by_cases hb : bestI l P = noR
            · have HD := Lib.hid (show T = P by rw [← HSP.out]; exact splitP_done hb)
              have e5 : dB x = -1 := by unfold dB; rw [if_pos (by rw [HXP.out]; exact hb)]
              rw [e5]
              clear e5 hb hk1
              go_wp2_with fail
              go_ret
              rw [HD.out, ← HM.out]
              exact ⟨oP, cP, rfl, HST.out.below HB.out, HBL.out.trans (HB.out.mono HBL.out.size)⟩
            · obtain ⟨k0, a, b, q1, q2, q3⟩ := bestI_at l hl P hb
              obtain ⟨hpa, hge, hrl, hat⟩ := pairAt_of q3 hb
              have hst := splitP_step hl hb
              rw [hpa] at hst
              have HSTEP := Lib.hid hst
              have HLT := Lib.hid (mergeL_lt a b P k0 q1 q2)
              obtain ⟨r, hr⟩ : ∃ r : Nat, bestI l P = r := ⟨(bestI l P).toNat, by omega⟩
              have e5 : dB x = r := by unfold dB; rw [if_neg (by rw [HXP.out]; exact hb), HXP.out, hr]
              rw [hr] at hrl hat
              rw [Int.toNat_natCast] at hrl hat
              rw [HN.out] at hrl
              rw [e5]
              obtain ⟨w1, hw1⟩ : ∃ w1, w1 = wr := ⟨_, rfl⟩
              subst hw1
              have hPw := (HP.out.below HBL.out).below HB.out
              obtain ⟨bl, cur, hob, hcur, e0, e1⟩ := hPw r (a, b) hat
              have hbl : bl < w1.heap.size := lt_of_some hcur
              subst hob
              simp only at e0 e1
              have HE0 := Lib.hid e0; have HE1 := Lib.hid e1
              have hri : (r : Int) < n := by omega
              have HSTW := Lib.hid (HST.out.below HB.out)
              have HBW := Lib.hid (HBL.out.trans (HB.out.mono HBL.out.size))
              have H4 : Hid (NxS a b P w1 (.slice none 0 0) (.int .i64 0) w1) := Lib.hid ⟨[], 0, rfl, Nat.zero_le _, Nat.le_refl _, rfl, World.ownsRow_nil _ _ _ _, Below.refl _ _⟩
              clear e5 hb q1 q2 q3 hpa hge hat hst hcur hr hPw e0 e1 hk1 hk
              go_wp2_with fail
              go_loopw [10, 11] (fun v i wr => NxS a b P w1 v i wr) (fun _ i _ => m - (intOf i).toNat)
              case atStart => exact H4.out
              case round =>
                obtain ⟨Q, i, rfl, him, hqi, hmg, hv, hb4⟩ := hrel
                have HQ := Lib.hid hv; have HB4 := Lib.hid hb4; have HMG := Lib.hid hmg
                rw [← HM.out] at him
                clear hv hb4 hmg H4
                obtain ⟨qn, hqn⟩ : ∃ qn, Q.length = qn := ⟨_, rfl⟩
                have HQN := Lib.hid hqn
                rw [hqn] at hqi
                clear hqn
                by_cases hlt4 : i < m
                · obtain ⟨p, hp⟩ : ∃ p, P[i]? = some p := ⟨_, List.getElem?_eq_getElem (by rw [← HM.out]; exact hlt4)⟩
                  obtain ⟨b3, hob3, d0, hbl3⟩ := HSTW.out.cell hp
                  subst hob3
                  have c0 := (HB4.out.cell (p := ⟨b3, i, none⟩) hbl3).trans d0
                  have c1 := (HB4.out.cell (p := ⟨bl, r * 2, none⟩) hbl).trans HE0.out
                  have c2 := (HB4.out.cell (p := ⟨bl, r * 2 + 1, none⟩) hbl).trans HE1.out
                  have hpd : P.drop i = p :: P.drop (i + 1) := by rw [List.drop_eq_getElem_cons (by rw [← HM.out]; exact hlt4), (List.getElem?_eq_some_iff.1 hp).2]
                  have HPD := Lib.hid hpd
                  obtain ⟨i1, hi1⟩ : ∃ i1, i + 1 = i1 := ⟨_, rfl⟩
                  have hI1 : (i : Int) + 1 = (i1 : Int) := by omega
                  have hw1 : IntKind.i64.wrap ((i1 : Nat) : Int) = ((i1 : Nat) : Int) := by rw [IntKind.wrap_i64]; omega
                  have hw2 : IntKind.i64.wrap ((i : Int) + 1) = ((i1 : Nat) : Int) := by rw [IntKind.wrap_i64]; omega
                  have hmi : (i : Int) < m := by omega
                  have HI1 := Lib.hid hi1
                  clear d0 hpd
                  have hno : (∀ q, P[i + 1]? = some q → ¬ (p = a ∧ q = b)) → ∀ v' w2, w2.ownsRow w1.heap.size 9 1 v' (qn + 1) (strsV Q ++ [.string p]) → Below w1.heap.size w1 w2 → NxS a b P w1 v' (.int .i64 ((i1 : Nat) : Int)) w2 := fun hn v' w2 ho hbw => by
                    refine ⟨Q ++ [p], i1, rfl, by rw [← HM.out]; omega, by rw [List.length_append, HQN.out]; show qn + 1 ≤ i1; omega, ?_, by rw [List.length_append, HQN.out, strsV_snoc]; exact ho, hbw⟩
                    rw [← HMG.out, HPD.out, mergeL_no (fun q hq => hn q (by rwa [List.head?_drop] at hq)), List.append_assoc, ← hi1]; rfl
                  have HNO := Lib.hid hno
                  clear hno hi1
                  by_cases hl2 : i1 < m
                  · obtain ⟨q, hq⟩ : ∃ q, P[i1]? = some q := ⟨_, List.getElem?_eq_getElem (by rw [← HM.out]; exact hl2)⟩
                    obtain ⟨b4, hob4, d1, hbl4⟩ := HSTW.out.cell hq
                    have hbb : b3 = b4 := by injection hob4 with h; injection h
                    subst hbb
                    have c3 := (HB4.out.cell (p := ⟨b3, i1, none⟩) hbl4).trans d1
                    have hmi1 : (i1 : Int) < m := by omega
                    clear d1 hob4
                    by_cases hpa : p = a
                    · by_cases hqb : q = b
                      · have hyes : ∀ v' w2, w2.ownsRow w1.heap.size 9 1 v' (qn + 1) (strsV Q ++ [.string (p ++ q)]) → Below w1.heap.size w1 w2 → NxS a b P w1 v' (.int .i64 ((i1 : Int) + 1)) w2 := fun v' w2 ho hbw => by
                          have hi1 := HI1.out
                          refine ⟨Q ++ [p ++ q], i1 + 1, by rw [Int.natCast_succ], by rw [← HM.out]; omega, by rw [List.length_append, HQN.out]; show qn + 1 ≤ i1 + 1; omega, ?_, by rw [List.length_append, HQN.out, strsV_snoc]; exact ho, hbw⟩
                          have hd2 : P.drop (i + 1) = q :: P.drop (i1 + 1) := by rw [hi1, List.drop_eq_getElem_cons (by rw [← HM.out]; exact hl2), (List.getElem?_eq_some_iff.1 hq).2]
                          rw [← HMG.out, HPD.out, hd2]
                          have : mergeL a b (p :: q :: P.drop (i1 + 1)) = (p ++ q) :: mergeL a b (P.drop (i1 + 1)) := by
                            conv => lhs; unfold mergeL
                            rw [if_pos ⟨hpa, hqb⟩]
                          rw [this, List.append_assoc]; rfl
                        have HYES := Lib.hid hyes
                        have hps : p.size ≤ 4096 := Nat.le_trans (part_ok HCAT.out hp) h2
                        have hqs : q.size ≤ 4096 := Nat.le_trans (part_ok HCAT.out hq) h2
                        have hsum : ¬ (9223372036854775807 < p.size + q.size) := by omega
                        clear hyes
                        subst hpa hqb
                        go_wp2_with fail
                        go_quiet (fail)
                        rename_i nq
                        have HQ2 := Lib.hid (show (wr.drewN nq).ownsRow w1.heap.size 9 1 u10 Q.length (strsV Q) from HQ.out)
                        have HB5 := Lib.hid (below_drewN HB4.out nq)
                        have c0' : (wr.drewN nq).cell? ⟨b3, i, none⟩ = some (.string p) := c0
                        have c3' : (wr.drewN nq).cell? ⟨b3, i1, none⟩ = some (.string q) := c3
                        generalize wr.drewN nq = wd at HQ2 HB5 c0' c3' ⊢
                        rw [HQN.out] at HQ2
                        obtain ⟨pq, hpq⟩ : ∃ pq, p ++ q = pq := ⟨_, rfl⟩
                        rw [hpq] at HYES
                        have HOW : Hid (((World.drew wd).alloc (.cells #[.string pq] 9)).ownsRow w1.heap.size 9 1 u10 qn (strsV Q)) := Lib.hid (World.ownsRow.alloc (show (World.drew wd).ownsRow w1.heap.size 9 1 u10 qn (strsV Q) from HQ2.out) _)
                        have HNEW := Lib.hid (World.news_of_block (w := (World.drew wd).alloc (.cells #[.string pq] 9)) (show ((World.drew wd).alloc (.cells #[.string pq] 9)).heap[wd.heap.size]? = _ from World.alloc_heap_new (World.drew wd) (.cells #[.string pq] 9)))
                        have HWS : Hid (((World.drew wd).alloc (.cells #[.string pq] 9)).heap.size = wd.heap.size + 1) := Lib.hid (by show (wd.heap.push _).size = _; simp)
                        have HBS2 : Hid (w1.heap.size ≤ ((World.drew wd).alloc (.cells #[.string pq] 9)).heap.size) := Lib.hid (by rw [HWS.out]; have := HB5.out.size; omega)
                        have HMX : Hid (qn + 1 ≤ maxLen) := Lib.hid (by unfold maxLen; omega)
                        have HBY : Hid ((qn + 1) * 16 ≤ 140737488355328) := Lib.hid (by omega)
                        have HI1' := HI0; have HZ1' := HZ0; have HS1' := HS0; have HY1' := HY0
                        clear HI0 HZ0 HS0 HY0
                        go_wp2_with fail
                        go_region_law (refine step_append_lies ((World.drew wd).alloc (.cells #[.string pq] 9)) rfl (.tmp 99) (.tmp 110) 37 rfl w1.heap.size 9 i0 _ 1 16 Tryd.underlying37 HI1'.out HZ1'.out HS1'.out HY1'.out rfl (by decide) u10 qn (strsV Q) (by simp [Act.eval]) HOW.out ⟨wd.heap.size, 0, none⟩ 1 1 [Value.string pq] (by simp [Act.eval]) rfl HNEW.out (by intro u hu; simp at hu; subst hu; rfl) (by decide) HMX.out HBY.out HBS2.out (wd.heap.size + 1) HWS.out ?_; intro gx cx w3 hown hgrow hat hlt; have HOWN := Lib.hid hown; have HG := Lib.hid hgrow; clear hown hgrow hat hlt)
                        all_goals
                          have hend : Hid (NxS p q P w1 (.slice (some ⟨gx, 0, none⟩) (qn + 1) cx) (.int .i64 ((i1 : Int) + 1)) w3) := Lib.hid (HYES.out _ w3 HOWN.out (((below_drewN HB5.out 1).alloc HB5.out.size _).grown HG.out (by have := HB5.out.size; simp; omega) (own_base HQ2.out)))
                          go_wp2_with fail
                          go_roundw
                          case rel => exact hend.out
                          case measure => simp [intOf]; omega
                      · have hne2 : ¬ q.toList = b.toList := fun h => hqb (by have := ba_beq q b; rw [beq_iff_eq.2 h] at this; exact of_decide_eq_true this.symm)
                        have hne1 : (q.toList == b.toList) = false := by rw [ba_beq]; exact decide_eq_false hqb
                        have HC := Lib.hid (HNO.out (fun q' hq' h => hqb (by rw [HI1.out, hq] at hq'; injection hq' with hq'; rw [hq']; exact h.2)))
                        subst hpa
                        clear hqb hq
                        go_wp2_with fail
                        go_quiet (fail)
                        rename_i nq
                        have HQ2 := Lib.hid (show (wr.drewN nq).ownsRow w1.heap.size 9 1 u10 Q.length (strsV Q) from HQ.out)
                        have HB5 := Lib.hid (below_drewN HB4.out nq)
                        have c0' : (wr.drewN nq).cell? ⟨b3, i, none⟩ = some (.string p) := c0
                        generalize wr.drewN nq = wd at HQ2 HB5 c0' ⊢
                        rw [HQN.out] at HQ2
                        go_wp2_with (at_builtin; refine wpList_append_own _ rfl _ _ 37 rfl w1.heap.size 9 i0 (.string ⟨#[]⟩) 1 16 Tryd.underlying37 HI0.out HZ0.out HS0.out HY0.out rfl (by decide) _ _ _ rfl (HQ2.out.alloc _) ⟨wd.heap.size, 0, none⟩ 1 1 [.string p] rfl rfl (cell_one_new _ _ _) (by intro u hu; simp at hu; subst hu; rfl) (by unfold maxLen; omega) (by omega) (by have := HB5.out.size; simp; omega) ?_)
                        intro v' w2 hown hgrow _
                        have hend : Hid (NxS p b P w1 v' (.int .i64 ((i1 : Nat) : Int)) w2) := Lib.hid (HC.out v' w2 hown ((HB5.out.alloc HB5.out.size _).grown hgrow (by have := HB5.out.size; simp; omega) (own_base HQ2.out)))
                        clear hown hgrow
                        go_wp2_with fail
                        go_roundw
                        case rel => exact hend.out
                        case measure => simp [intOf]; omega
                    · have hne2 : ¬ p.toList = a.toList := fun h => hpa (by have := ba_beq p a; rw [beq_iff_eq.2 h] at this; exact of_decide_eq_true this.symm)
                      have hne1 : (p.toList == a.toList) = false := by rw [ba_beq]; exact decide_eq_false hpa
                      have HC := Lib.hid (HNO.out (fun q' hq' h => hpa h.1))
                      clear hpa hq
                      go_wp2_with fail
                      go_quiet (fail)
                      rename_i nq
                      have HQ2 := Lib.hid (show (wr.drewN nq).ownsRow w1.heap.size 9 1 u10 Q.length (strsV Q) from HQ.out)
                      have HB5 := Lib.hid (below_drewN HB4.out nq)
                      have c0' : (wr.drewN nq).cell? ⟨b3, i, none⟩ = some (.string p) := c0
                      generalize wr.drewN nq = wd at HQ2 HB5 c0' ⊢
                      rw [HQN.out] at HQ2
                      go_wp2_with (at_builtin; refine wpList_append_own _ rfl _ _ 37 rfl w1.heap.size 9 i0 (.string ⟨#[]⟩) 1 16 Tryd.underlying37 HI0.out HZ0.out HS0.out HY0.out rfl (by decide) _ _ _ rfl (HQ2.out.alloc _) ⟨wd.heap.size, 0, none⟩ 1 1 [.string p] rfl rfl (cell_one_new _ _ _) (by intro u hu; simp at hu; subst hu; rfl) (by unfold maxLen; omega) (by omega) (by have := HB5.out.size; simp; omega) ?_)
                      intro v' w2 hown hgrow _
                      have hend : Hid (NxS a b P w1 v' (.int .i64 ((i1 : Nat) : Int)) w2) := Lib.hid (HC.out v' w2 hown ((HB5.out.alloc HB5.out.size _).grown hgrow (by have := HB5.out.size; simp; omega) (own_base HQ2.out)))
                      clear hown hgrow
                      go_wp2_with fail
                      go_roundw
                      case rel => exact hend.out
                      case measure => simp [intOf]; omega
                  · have HC := Lib.hid (HNO.out (fun q' hq' _ => by have := (List.getElem?_eq_some_iff.1 hq').1; rw [← HM.out, HI1.out] at this; omega))
                    go_wp2_with fail
                    go_quiet (fail)
                    rename_i nq
                    have HQ2 := Lib.hid (show (wr.drewN nq).ownsRow w1.heap.size 9 1 u10 Q.length (strsV Q) from HQ.out)
                    have HB5 := Lib.hid (below_drewN HB4.out nq)
                    have c0' : (wr.drewN nq).cell? ⟨b3, i, none⟩ = some (.string p) := c0
                    generalize wr.drewN nq = wd at HQ2 HB5 c0' ⊢
                    rw [HQN.out] at HQ2
                    go_wp2_with (at_builtin; refine wpList_append_own _ rfl _ _ 37 rfl w1.heap.size 9 i0 (.string ⟨#[]⟩) 1 16 Tryd.underlying37 HI0.out HZ0.out HS0.out HY0.out rfl (by decide) _ _ _ rfl (HQ2.out.alloc _) ⟨wd.heap.size, 0, none⟩ 1 1 [.string p] rfl rfl (cell_one_new _ _ _) (by intro u hu; simp at hu; subst hu; rfl) (by unfold maxLen; omega) (by omega) (by have := HB5.out.size; simp; omega) ?_)
                    intro v' w2 hown hgrow _
                    have hend : Hid (NxS a b P w1 v' (.int .i64 ((i1 : Nat) : Int)) w2) := Lib.hid (HC.out v' w2 hown ((HB5.out.alloc HB5.out.size _).grown hgrow (by have := HB5.out.size; simp; omega) (own_base HQ2.out)))
                    clear hown hgrow
                    go_wp2_with fail
                    go_roundw
                    case rel => exact hend.out
                    case measure => simp [intOf]; omega
                · have him2 : i = P.length := by have := HM.out; omega
                  have hmq := HMG.out
                  rw [him2, List.drop_length] at hmq
                  have hmq2 : mergeL a b P = Q := by rw [← hmq]; show Q ++ [] = Q; rw [List.append_nil]
                  obtain ⟨o5, cap5, hov, hst5⟩ := own_texts HQ.out
                  have hend : Hid (SqS l word T w (.slice o5 Q.length cap5) wr) := Lib.hid ⟨Q, o5, _, cap5, rfl, rfl, hst5, by rw [← hmq2, mergeL_cat]; exact HCAT.out, by rw [← hmq2, ← HSTEP.out]; exact HSP.out, by rw [← hmq2]; have := mergeL_le a b P; have := HM.out; omega, HBW.out.trans (HB4.out.mono HBW.out.size)⟩
                  have hms : Hid (Q.length < m) := Lib.hid (by rw [← hmq2, HM.out]; exact HLT.out)
                  rw [hov]
                  clear him2 hmq hmq2 hov hst5
                  go_wp2_with fail
                  exact ⟨hend.out, hms.out⟩
end Go.Proofs.YtfcnmehajelgkaaDoor
