/- Vocabularies: the law on a word's numbers. -/
import Derived.Test.YtfcnmehajelgkaaDoorVab
namespace Go.Proofs.YtfcnmehajelgkaaDoor
open Go.RowKit Go.Shelf Go.Maps
variable {w w' : World}

theorem pr_blk {B : Nat} {t : TypeId} {o : Option Addr} {n c s : Nat} {xs : List Value} (h : w.ownsRow B t s (.slice o n c) n xs) : ∀ g, o = some ⟨g, 0, none⟩ → g < w.heap.size := fun g hg => by
  subst hg
  exact own_lt_blk h g rfl
set_option maxHeartbeats 16000000 in
set_option maxRecDepth 100000 in
theorem LCodes_any (o : Option Addr) (l : List PairB) (c : Nat) (word : ByteArray) (ia : Option Addr) (ids : List Int) (ic : Nat) (w : World) (hl : l.length ≤ maxLen) (hi : InAt w o l) (hsm : ∀ q ∈ l, SmP q) (hws : word.size ≤ maxLen) (hint : IsInts w (.slice ia ids.length ic) ids) (hcap : ids.length ≤ ic) (hwf : ∀ z ∈ ids, (Lit.int .i64 z).wf = true) (hw : StrAt w) :
    Calls Tryd.prog 3 #[.slice o l.length c, .string word, .slice ia ids.length ic] w fun e w' => e = .returned (.bool true) ∧ Below w.heap.size w w' := by
  have HS := Lib.hid (speaks9_any w hw)
  have HI := Lib.hid hi; have HSM := Lib.hid hsm; have HIN := Lib.hid hint; have HWF := Lib.hid hwf
  obtain ⟨n0, hn0⟩ : ∃ n, l.length = n := ⟨_, rfl⟩
  have HN0 := Lib.hid hn0
  rw [hn0] at hl ⊢
  have him : ids.length ≤ 17592186044415 := by
    obtain ⟨a, b, _, h, _⟩ := hint
    exact h
  obtain ⟨ni, hni⟩ : ∃ n, ids.length = n := ⟨_, rfl⟩
  have HNI := Lib.hid hni
  rw [hni] at him hcap HIN ⊢
  unfold maxLen at hws
  clear hi hsm hwf hn0 hni hw hint
  go_enter Tryd.func3, Tryd.ntmps3
  go_wp2_with (go_at_call 8; refine HS.out.mono ?_)
  rintro e w1 ⟨rfl, hb1⟩
  have HF := Lib.hid (pairs9_any o l c w1 (by rw [HN0.out]; exact hl) (fun k p hp => by
    obtain ⟨b, i, rfl, c0, c1⟩ := HI.out k p hp
    have hlt : b < w.heap.size := World.block_lt_of_cell? w _ c0
    exact ⟨b, i, rfl, (hb1.cell (p := ⟨b, i + k * 2, none⟩) hlt).trans c0, (hb1.cell (p := ⟨b, i + k * 2 + 1, none⟩) hlt).trans c1⟩))
  rw [HN0.out] at HF
  have HB1 := Lib.hid hb1
  clear hb1
  have hW : ∃ W : ByteArray, W.size ≤ 200 ∧ ((200 < word.size ∧ word.extract 0 200 = W) ∨ (¬ 200 < word.size ∧ word = W)) := by
    by_cases hbig : 200 < word.size
    · exact ⟨_, by simp; omega, .inl ⟨hbig, rfl⟩⟩
    · exact ⟨word, by omega, .inr ⟨hbig, rfl⟩⟩
  obtain ⟨W, hWs, hWc⟩ := hW
  have HWS := Lib.hid hWs
  rcases hWc with ⟨hbig, hWe⟩ | ⟨hbig, hWe⟩
  · have hbi : (200 : Int) < word.size := by omega
    have hbi2 : (200 : Int) ≤ word.size := by omega
    go_wp2_with (go_at_call 9; refine HF.out.mono ?_)
    first | rintro e w2 ⟨va, vb, rfl, ra, rb, hb2⟩ | rintro e w2 va vb rfl ra rb hb2
    obtain ⟨oa, ca, rfl, pa⟩ := own_pairs ra
    obtain ⟨ob, cb, rfl, pb⟩ := own_pairs rb
    have hsA : ∀ q ∈ l.take 60, SmP q := fun q hq => HSM.out q (List.mem_of_mem_take hq)
    have hlA : (l.take 60).length ≤ 60 := List.length_take_le _ _
    generalize l.take 60 = A at ra rb pa pb hsA hlA ⊢
    have hblA := pr_blk ra
    have HB2 := Lib.hid (HB1.out.trans (hb2.mono HB1.out.size)); have HPA := Lib.hid pa; have HPB := Lib.hid pb
    have hsum : ∀ q ∈ A, q.1.size + q.2.size ≤ maxLen := fun q hq => by
      have h1 := (hsA q hq).1; have h2 := (hsA q hq).2; unfold maxLen; omega
    have hvo := ofP_voc A
    have hll := ofP_len A
    have hge : 94 ≤ (ofP A).length := by
      obtain ⟨m, hm, _⟩ := fold_pre A (ofS 94)
      have h94 := ofS_len2 ⟨94, by decide⟩
      unfold ofP
      rw [hm, List.length_append]
      simp only at h94
      omega
    have HOB := Lib.hid (ROf_any ob A cb w2 (by omega) pb hsum)
    have HOA := Lib.hid (fun (V : World) (hV : Below w2.heap.size w2 V) => Of_any oa A ca V (by omega) (HPA.out.below hV) hsum)
    have hspl := split200 (l := A) (by omega) (s := W) (by omega)
    obtain ⟨P, hP⟩ : ∃ P, splitP A W = P := ⟨_, rfl⟩
    have HENC := Lib.hid (fun (b : Nat) (L : List EntB) (x : Int) (V : World) (h0 : 0 ≤ x) (h1 : x ≤ 100000) (hL : OkL L) (hp : PrAt V 48 oa A) (hpb : ∀ g, oa = some ⟨g, 0, none⟩ → g ≠ b) (h : IxSt b L x V) => Encode_any b L x oa A ca W V h0 h1 hL (by omega) hp (fun p hp => (hsA p hp).ok) (by omega) hpb hspl.1 hspl.2.1 hspl.2.2 h)
    have HRS := Lib.hid (fun (V : World) (hp : PrAt V 70 ob A) => RSplit_any ob A cb W V (by omega) hp (by unfold maxLen; omega))
    rw [hP] at HENC HRS hspl
    obtain ⟨n, hn⟩ : ∃ n, P.length = n := ⟨_, rfl⟩
    have HN := Lib.hid hn
    have hn4 : n ≤ 4096 := by rw [← hn]; exact hspl.2.2
    rw [hn] at HENC HRS
    have HBA := Lib.hid hblA
    obtain ⟨na, hna⟩ : ∃ n, A.length = n := ⟨_, rfl⟩
    rw [hna] at hlA HOA HOB HENC HRS hll ⊢
    generalize ofP A = L at hvo hll hge HOA HOB
    obtain ⟨nL, hnL⟩ : ∃ n, L.length = n := ⟨_, rfl⟩
    have HNL := Lib.hid hnL; have HVO := Lib.hid hvo
    rw [hnL] at hll hge HOA HOB
    have HL0 : Hid (0 < nL) := Lib.hid (by omega)
    have HOKL := Lib.hid (hvo.okL (by omega))
    have HL64 : Hid (∀ e ∈ L, e.2.size ≤ 64) := Lib.hid (fun e he => by
      obtain ⟨j, hj⟩ := List.getElem?_of_mem he
      exact (goodB_size (hvo j e hj).2.1).2)
    clear ra rb pa pb hsA hb2 HF hsum hvo hspl hP hn hna hnL hblA
    go_wp2_with (go_at_call 10; refine HOB.out.mono ?_)
    first | rintro e w3 ⟨vw, rfl, rw3, hb3⟩ | rintro e w3 vw rfl rw3 hb3
    obtain ⟨ow, cw, rfl, ew⟩ := own_entries (l := L) (by rw [HNL.out]; exact rw3)
    have hbw : ∀ g, ow = some ⟨g, 0, none⟩ → g < w3.heap.size := pr_blk (n := nL) (by have := rw3; rw [HNL.out] at this; exact this)
    have HEW := Lib.hid ew; have HBW := Lib.hid hbw; have HB3 := Lib.hid hb3
    rw [HNL.out]
    clear rw3 ew hbw hb3
    go_wp2_with (go_at_call 12; refine (HOA.out _ HB3.out).mono ?_)
    first | rintro e w4 ⟨vx, rfl, rx, hb4⟩ | rintro e w4 vx rfl rx hb4
    obtain ⟨gx, cx, rfl, ex, _, hBx, hgx⟩ := own_entC (l := L) (by rw [HNL.out]; exact rx) (by rw [HNL.out]; exact HL0.out)
    have HB4 := Lib.hid (HB3.out.trans (hb4.mono HB3.out.size)); have HEW4 := Lib.hid (HEW.out.below hb4); have HB4' := Lib.hid hb4
    have HNEW := Lib.hid (New_any gx cx L w4 (by rw [HNL.out]; omega) ex)
    rw [HNL.out] at HNEW
    rw [HNL.out]
    clear rx hb4 ex hBx hgx
    go_wp2_with (go_at_call 11; refine HNEW.out.mono ?_)
    first | rintro e w5 ⟨N, v, rfl, hNs, hrow, hown, hb5⟩ | rintro e w5 N v rfl hNs hrow hown hb5
    obtain ⟨g2, c2, rfl, hen2, _, hBg2, hgl2⟩ := own_entC (l := L) (by rw [HNL.out]; exact hown) (by rw [HNL.out]; exact HL0.out)
    have hNg : g2 ≠ N := fun e => by
      subst e
      obtain ⟨gg, cur, e1, e2, _, _⟩ := hen2 0 (L[0]'(by rw [HNL.out]; exact HL0.out)) (List.getElem?_eq_getElem _)
      injection e1 with e1
      have e1 : g2 = gg := congrArg Addr.block e1
      subst e1
      rw [hrow] at e2
      injection e2 with e2
      injection e2 with _ e2
      exact absurd e2 (by decide)
    have HSTt : Hid (IxSt N L 0 w5) := Lib.hid (.inl ⟨g2, c2, hrow, hen2, hgl2, hNg⟩)
    have HB5 := Lib.hid (HB4.out.trans (hb5.mono HB4.out.size)); have HEW5 := Lib.hid (HEW4.out.below hb5)
    have HNS := Lib.hid hNs; have HS5 := Lib.hid hb5.size
    have HN4 : Hid (w2.heap.size ≤ N ∧ w3.heap.size ≤ N) := Lib.hid ⟨by have := HB4.out.size; omega, by have := HB4'.out.size; omega⟩
    have HE5 := Lib.hid (HENC.out N L 0 w5 (by decide) (by decide) HOKL.out (HPA.out.below HB5.out) (fun g hg => by have := HBA.out g hg; have := HN4.out.1; omega) HSTt.out)
    clear hrow hown hb5 hen2 hBg2 hgl2 hNg hNs
    go_wp2_with (go_at_call 13; refine HE5.out.mono ?_)
    first | rintro e w6 ⟨hend, hix, hfr⟩ | rintro e w6 hend hix hfr
    have HIX6 := Lib.hid hix
    have HKP6 : Hid (∀ j, j < w5.heap.size → j ≠ N → w6.heap[j]? = w5.heap[j]?) := Lib.hid hfr.block
    have HS6 := Lib.hid hfr.size
    have HB2w6 : Hid (Below w2.heap.size w2 w6) := Lib.hid (HB5.out.trans ⟨hfr.low.os, hfr.low.tape, hfr.low.output, hfr.size, fun k hk => hfr.block k (by have := HB5.out.size; omega) (by have := HN4.out.1; omega)⟩)
    have HEW6 : Hid (EnAt w6 41 ow L) := Lib.hid (fun k p hp => by
      obtain ⟨g, cur, e1, e2, e3, e4⟩ := HEW5.out k p hp
      have hgl := HBW.out g e1
      have hb := hfr.block g (lt_of_some e2) (by have := HN4.out.2; omega)
      exact ⟨g, cur, e1, hb.trans e2, (World.cell?_of_block (a := ⟨g, k * 2, none⟩) hb).trans e3, (World.cell?_of_block (a := ⟨g, k * 2 + 1, none⟩) hb).trans e4⟩)
    unfold EcEnd at hend
    obtain ⟨og, ng, cg, he, hgf, hgt, hgc⟩ : ∃ og ng cg, e = .returned (.tuple #[.slice og ng cg, .bool (allE L P)]) ∧ (allE L P = false → ng = 0) ∧ (allE L P = true → ng = n) ∧ ∀ k : Nat, k < ng → ∃ g : Nat, og = some ⟨g, 0, none⟩ ∧ g < w6.heap.size ∧ w6.cell? ⟨g, k, none⟩ = some (.int .i64 (idE L (P.getD k ⟨#[]⟩))) := by
      cases hall : allE L P with
      | false =>
        rw [hall, if_neg (by decide)] at hend
        exact ⟨none, 0, 0, hend, fun _ => rfl, fun h => (by cases h), fun k hk => absurd hk (Nat.not_lt_zero _)⟩
      | true =>
        rw [hall, if_pos rfl] at hend
        obtain ⟨gi, he, _, hrow⟩ := hend
        refine ⟨some ⟨gi, 0, none⟩, n, n, he, fun h => (by cases h), fun _ => rfl, fun k hk => ⟨gi, rfl, hrow.lt, ?_⟩⟩
        obtain ⟨cur, c1, c2, c3⟩ := hrow
        rw [cell_of_row c1]; exact c3 k hk
    subst he
    have HGF := Lib.hid hgf; have HGT := Lib.hid hgt; have HGC := Lib.hid hgc
    have HRS6 := Lib.hid (HRS.out w6 (HPB.out.below HB2w6.out))
    obtain ⟨t, ht⟩ : ∃ t, allE L P = t := ⟨_, rfl⟩
    have HT := Lib.hid ht
    rw [ht]
    clear hix hfr HE5 HSTt hend hgf hgt hgc ht HENC HOA HOB HNEW HEW HEW4 HEW5 HPA HB3 HB4'
    go_wp2_with (go_at_call 14; refine HRS6.out.mono ?_)
    first | rintro e w7 ⟨op, cp, rfl, hst, hb7⟩ | rintro e w7 op cp rfl hst hb7
    have HST := Lib.hid hst; have HB7 := Lib.hid hb7; have HEW7 := Lib.hid (HEW6.out.below hb7)
    clear hst hb7
    have HFD : Hid (∀ s : ByteArray, Calls Tryd.prog 15 #[.slice ow nL cw, .string s] w7 fun e w' => e = .returned (.int .i64 (idE L s)) ∧ w' = w7) := Lib.hid (fun s => by
      have := RFind_any ow L cw s w7 (by rw [HNL.out]; omega) HEW7.out
      rw [HNL.out, findE_id] at this
      exact this)
    go_wp2_with fail
    go_loopw [14, 15] (fun t i wr => C1S L P n w7 t i wr) (fun _ i _ => n - (intOf i).toNat)
    case atStart => exact ⟨0, Nat.zero_le _, rfl, rfl, rfl⟩
    case round =>
      obtain ⟨k, hk, rfl, rfl, hwr⟩ := hrel
      have hwr := hwr.symm
      subst hwr
      by_cases hlt : k < n
      · obtain ⟨s, hs⟩ : ∃ s, P[k]? = some s := ⟨_, List.getElem?_eq_getElem (by rw [HN.out]; exact hlt)⟩
        obtain ⟨gp, rfl, d0, _⟩ := HST.out.cell hs
        have htk : P.take (k + 1) = P.take k ++ [s] := by rw [List.take_add_one, hs]; rfl
        have HSN : Hid (allE L (P.take (k + 1)) = (allE L (P.take k) && decide (0 ≤ idE L s))) := Lib.hid (by rw [htk, allE_snoc])
        have hki : (k : Int) < n := by omega
        obtain ⟨z, hz⟩ : ∃ z, idE L s = z := ⟨_, rfl⟩
        have HFS := Lib.hid (HFD.out s)
        rw [hz] at HFS HSN
        clear hs htk hz
        cases hal : allE L (P.take k) with
        | false =>
          rw [hal] at HSN
          clear hal
          go_wp2_with fail
          go_roundw
          case rel => exact ⟨k + 1, by omega, by rw [Int.natCast_succ], by rw [HSN.out]; rfl, rfl⟩
          case measure => first | (simp [intOf]; done) | (simp [intOf]; omega)
        | true =>
          rw [hal] at HSN
          clear hal
          by_cases hz0 : 0 ≤ z
          · go_wp2_with (go_at_call 15; refine HFS.out.mono ?_; rintro e wf ⟨rfl, rfl⟩)
            go_roundw
            case rel => exact ⟨k + 1, by omega, by rw [Int.natCast_succ], by rw [HSN.out]; simp [hz0], rfl⟩
            case measure => first | (simp [intOf]; done) | (simp [intOf]; omega)
          · go_wp2_with (go_at_call 15; refine HFS.out.mono ?_; rintro e wf ⟨rfl, rfl⟩)
            go_roundw
            case rel => exact ⟨k + 1, by omega, by rw [Int.natCast_succ], by rw [HSN.out]; simp [hz0], rfl⟩
            case measure => first | (simp [intOf]; done) | (simp [intOf]; omega)
      · have hkn : k = n := by omega
        subst hkn
        have htl : P.take k = P := List.take_of_length_le (by rw [HN.out]; exact Nat.le_refl _)
        rw [htl, HT.out]
        clear htl hlt
        cases t with
        | false =>
          obtain rfl : ng = 0 := HGF.out HT.out
          go_wp2_with fail
          go_loopw [16] (fun i wr => i = .int .i64 0 ∧ wr = w7) (fun _ _ => 0)
          case atStart => exact ⟨rfl, rfl⟩
          case round =>
            obtain ⟨rfl, hwr⟩ := hrel
            have hwr := hwr.symm
            subst hwr
            have HB8 : Hid (Below w7.heap.size w7 w7) := Lib.hid (Below.refl _ _)
            have HEW8 := Lib.hid (HEW7.out.below HB8.out)
            have HIX8 := Lib.hid ((HIX6.out.below HB7.out).below HB8.out)
            have HBw : Hid (Below w.heap.size w w7) := Lib.hid (HB2.out.trans ((HB2w6.out.trans ((HB7.out.mono HB2w6.out.size).trans (HB8.out.mono (Nat.le_trans HB2w6.out.size HB7.out.size)))).mono HB2.out.size))
            have HIN8 := Lib.hid (HIN.out.below HBw.out)
            have HN8 : Hid (N < w7.heap.size) := Lib.hid (by obtain ⟨m1, m2, h1, _⟩ := HIX8.out; exact lt_of_some h1)
            go_wp2_with fail
            go_loopw [17, 18, 19] (fun s t i wr => C3S L ids ni w7 s t i wr) (fun _ _ i _ => 50 - (intOf i).toNat)
            case atStart => exact ⟨0, ⟨#[]⟩, Nat.zero_le _, by omega, rfl, rfl, rfl, by decide, fun _ => rfl, rfl⟩
            case round =>
              obtain ⟨k3, T, hk3, hk50, rfl, rfl, rfl, hTs, hTd, hwr3⟩ := hrel
              have hwr3 := hwr3.symm
              subst hwr3
              have HTD := Lib.hid hTd
              clear hTd
              by_cases hlt3 : k3 < ni ∧ k3 < 50
              · obtain ⟨h3a, h3b⟩ := hlt3
                have h3ai : (k3 : Int) < ni := by omega
                have h3bi : (k3 : Int) < 50 := by omega
                obtain ⟨z, hz⟩ : ∃ z, ids[k3]? = some z := ⟨_, List.getElem?_eq_getElem (by rw [HNI.out]; exact h3a)⟩
                obtain ⟨ja, jc, hji, _, hjc⟩ := HIN8.out
                injection hji with hj1 hj2 hj3
                subst hj1
                obtain ⟨bi, oi, rfl, hbi, hcell⟩ := hjc (by rw [HNI.out]; omega)
                have d0 := hcell k3 (by rw [HNI.out]; exact h3a)
                rw [List.getD_eq_getElem?_getD, hz] at d0
                simp only [Option.getD_some] at d0
                have htk : ids.take (k3 + 1) = ids.take k3 ++ [z] := by rw [List.take_add_one, hz]; rfl
                have HSN : Hid (allI L (ids.take (k3 + 1)) = (allI L (ids.take k3) && (lkI L z).isSome)) := Lib.hid (by rw [htk, allI_snoc])
                have HSD : Hid (decT L (ids.take (k3 + 1)) = decT L (ids.take k3) ++ tokI L z) := Lib.hid (by rw [htk, decT_snoc])
                have HLK := Lib.hid (voc_lk HVO.out z)
                rw [HNL.out] at HLK
                clear hcell hz htk hj2 hj3 hbi hjc
                cases hal : allI L (ids.take k3) with
                | false =>
                  rw [hal] at HSN
                  clear hal
                  have HEND : Hid (C3S L ids ni w7 (.string T) (.bool false) (.int .i64 ((k3 : Int) + 1)) w7) := Lib.hid ⟨k3 + 1, T, by omega, by omega, by rw [Int.natCast_succ], by rw [HSN.out]; rfl, rfl, by omega, fun h => (by rw [HSN.out] at h; cases h), rfl⟩
                  go_wp2_with fail
                  go_roundw
                  case rel => first | exact HEND.out | ((repeat (apply Exists.intro)); exact ⟨HEND.out, rfl⟩)
                  case measure => first | (simp [intOf]; done) | (simp [intOf]; omega)
                | true =>
                  rw [hal] at HSN
                  have HTD2 : Hid (T.data.toList = decT L (ids.take k3)) := Lib.hid (HTD.out hal)
                  clear hal
                  by_cases hz0 : 0 ≤ z
                  · by_cases hz1 : z < nL
                    · obtain ⟨m, rfl⟩ : ∃ m : Nat, z = (m : Int) := ⟨z.toNat, by omega⟩
                      have hml : m < nL := by omega
                      obtain ⟨q, hq⟩ : ∃ q, L[m]? = some q := ⟨_, List.getElem?_eq_getElem (by rw [HNL.out]; exact hml)⟩
                      have hlk : lkI L (m : Int) = some q := by rw [HLK.out, if_pos (by omega)]; simpa using hq
                      obtain ⟨gw, cur, rfl, _, e0, e1⟩ := HEW8.out m q hq
                      have hqs : q.2.size ≤ 64 := HL64.out q (List.mem_of_getElem? hq)
                      have hcat : ¬ (9223372036854775807 < T.size + q.2.size) := by omega
                      have HEND : Hid (C3S L ids ni w7 (.string (T ++ q.2)) (.bool true) (.int .i64 ((k3 : Int) + 1)) w7) := Lib.hid ⟨k3 + 1, T ++ q.2, by omega, by omega, by rw [Int.natCast_succ], by rw [HSN.out, hlk]; rfl, rfl, by rw [ByteArray.size_append]; omega, fun _ => by
                        rw [HSD.out, ← HTD2.out]
                        unfold tokI
                        rw [hlk]
                        simp, rfl⟩
                      clear hq hlk
                      go_wp2_with fail
                      go_roundw
                      case rel => first | exact HEND.out | ((repeat (apply Exists.intro)); exact ⟨HEND.out, rfl⟩)
                      case measure => first | (simp [intOf]; done) | (simp [intOf]; omega)
                    · have hno : lkI L z = none := by rw [HLK.out, if_neg (by omega)]
                      have HEND : Hid (C3S L ids ni w7 (.string T) (.bool false) (.int .i64 ((k3 : Int) + 1)) w7) := Lib.hid ⟨k3 + 1, T, by omega, by omega, by rw [Int.natCast_succ], by rw [HSN.out, hno]; rfl, rfl, by omega, fun h => (by rw [HSN.out, hno] at h; cases h), rfl⟩
                      clear hno
                      go_wp2_with fail
                      go_roundw
                      case rel => first | exact HEND.out | ((repeat (apply Exists.intro)); exact ⟨HEND.out, rfl⟩)
                      case measure => first | (simp [intOf]; done) | (simp [intOf]; omega)
                  · have hno : lkI L z = none := by rw [HLK.out, if_neg (by omega)]
                    have HEND : Hid (C3S L ids ni w7 (.string T) (.bool false) (.int .i64 ((k3 : Int) + 1)) w7) := Lib.hid ⟨k3 + 1, T, by omega, by omega, by rw [Int.natCast_succ], by rw [HSN.out, hno]; rfl, rfl, by omega, fun h => (by rw [HSN.out, hno] at h; cases h), rfl⟩
                    clear hno
                    go_wp2_with fail
                    go_roundw
                    case rel => first | exact HEND.out | ((repeat (apply Exists.intro)); exact ⟨HEND.out, rfl⟩)
                    case measure => first | (simp [intOf]; done) | (simp [intOf]; omega)
              · have HPR : Hid (ids.take k3 = ids.take 50) := Lib.hid (by
                  rcases Nat.lt_or_ge k3 ni with h | h
                  · rw [show k3 = 50 by omega]
                  · rw [List.take_of_length_le (by rw [HNI.out]; omega), List.take_of_length_le (by rw [HNI.out]; omega)])
                obtain ⟨mn, hmn⟩ : ∃ mn, min ni 50 = mn := ⟨_, rfl⟩
                have hmni : min (ni : Int) 50 = (mn : Int) := by omega
                have hlen : (ids.take 50).length = mn := by rw [List.length_take, HNI.out]; omega
                have hcut : IsInts w7 (.slice ia mn ic) (ids.take 50) := by
                  obtain ⟨ja, jc, hji, hjl, hjc⟩ := HIN8.out
                  injection hji with e1 e2 e3
                  subst e1; subst e3
                  refine ⟨ia, ic, by rw [hlen], by rw [hlen]; omega, fun h0 => ?_⟩
                  obtain ⟨b, o, e4, e5, e6⟩ := hjc (by rw [HNI.out]; omega)
                  refine ⟨b, o, e4, e5, fun j hj => ?_⟩
                  rw [hlen] at hj
                  rw [e6 j (by rw [HNI.out]; omega)]
                  simp [List.getD, List.getElem?_take_of_lt (show j < 50 by omega)]
                rw [HPR.out] at HTD ⊢
                have hk3 : k3 = mn := by omega
                have hmnl : mn ≤ ni := by omega
                have hmnli : (mn : Int) ≤ ni := by omega
                have HCUT := Lib.hid hcut; have HLEN := Lib.hid hlen
                have hmc : mn ≤ ic := by omega
                have hmci : (mn : Int) ≤ ic := by omega
                clear hcut hlen hlt3 hmn
                obtain ⟨v9, w9, hap, hb9, hv9⟩ := app_ints HCUT.out
                have h9 : ∃ (o9 : Option Addr) (c9 : Nat), v9 = .slice o9 mn c9 ∧ InK w9 o9 (ids.take 50) ∧ ∀ g, o9 = some ⟨g, 0, none⟩ → 0 < (ids.take 50).length → g ≠ N := by
                  rcases hv9 with ⟨hz, a, c, rfl⟩ | ⟨b, c, rfl, h0, hbb, hcells⟩
                  · have hm0 : mn = 0 := by rw [← HLEN.out, hz]; rfl
                    refine ⟨a, c, by rw [hm0], fun k z hk => ?_, fun g _ h => ?_⟩
                    · rw [hz] at hk; cases hk
                    · rw [hz] at h; exact absurd h (by decide)
                  · refine ⟨some ⟨b, 0, none⟩, c, by rw [HLEN.out], fun k z hk => ?_, fun g hg _ => ?_⟩
                    · have hkl := (List.getElem?_eq_some_iff.1 hk).1
                      have hc := hcells k hkl
                      rw [Nat.zero_add, List.getD_eq_getElem?_getD, hk] at hc
                      exact ⟨b, rfl, World.block_lt_of_cell? w9 _ hc, hc⟩
                    · injection hg with hg
                      have hg : b = g := congrArg Addr.block hg
                      have := HN8.out
                      omega
                obtain ⟨o9, c9, rfl, hin9, hpb9⟩ := h9
                have HIX9 := Lib.hid (HIX8.out.below hb9)
                have HB9w := Lib.hid (HBw.out.trans (hb9.mono HBw.out.size))
                have HDC := Lib.hid (Decode_any N L (0 + 1) o9 (ids.take 50) c9 w9 (by decide) (by decide) HOKL.out HL64.out (by rw [HLEN.out]; omega) (fun z hz => HWF.out z (List.mem_of_mem_take hz)) hin9 hpb9 (.inr HIX9.out))
                rw [HLEN.out] at HDC
                have HAP := Lib.hid hap
                clear hap hb9 hv9 hin9 hpb9
                go_wp2_with (first
                  | (at_builtin; refine wpList_append_eq rfl _ _ 23 rfl _ _ rfl rfl (.slice o9 mn c9) w9 HAP.out ?_)
                  | (go_at_call 16; refine HDC.out.mono ?_))
                all_goals
                  first | rintro e w10 ⟨hdc, hix10, hfr10⟩ | rintro e w10 hdc hix10 hfr10
                  have HBF : Hid (Below w.heap.size w w10) := Lib.hid (HB9w.out.trans ⟨hfr10.low.os, hfr10.low.tape, hfr10.low.output, hfr10.size, fun j hj => hfr10.block j (by have := HB9w.out.size; omega) (by have := HN4.out.1; have := HB2.out.size; omega)⟩)
                  clear hix10 hfr10
                  unfold DcEnd at hdc
                  cases hall : allI L (ids.take 50) with
                  | false =>
                    rw [hall, if_neg (by decide)] at hdc
                    subst hdc
                    go_wp2_with fail
                    go_ret
                    exact ⟨rfl, HBF.out⟩
                  | true =>
                    rw [hall, if_pos rfl] at hdc
                    subst hdc
                    have hTe : (⟨(decT L (ids.take 50)).toArray⟩ : ByteArray) = T := by rw [← HTD.out hall]
                    rw [hTe]
                    go_wp2_with fail
                    go_ret
                    exact ⟨rfl, HBF.out⟩
        | true =>
          obtain rfl : ng = k := HGT.out HT.out
          have HFD2 : Hid (∀ (s : ByteArray) (V : World) (y : Nat), Below w7.heap.size w7 V → Calls Tryd.prog 15 #[.slice ow nL cw, .string s] (V.drewN y) fun e w' => e = .returned (.int .i64 (idE L s)) ∧ ∃ q, w' = V.drewN q) := Lib.hid (fun s V y hV => by
            have := RFind_any ow L cw s (V.drewN y) (by rw [HNL.out]; omega) (HEW7.out.below (below_drewN hV y))
            rw [HNL.out, findE_id] at this
            exact this.mono fun e w' ⟨a, b⟩ => ⟨a, y, b⟩)
          go_wp2_with fail
          go_loopw [16] (fun i wr => C2S ng w7 i wr) (fun i _ => ng - (intOf i).toNat)
          case atStart => exact ⟨0, Nat.zero_le _, rfl, Below.refl _ _⟩
          case round =>
            obtain ⟨k2, hk2, rfl, hb8⟩ := hrel
            have HB8 := Lib.hid hb8
            by_cases hlt2 : k2 < ng
            · obtain ⟨s, hs⟩ : ∃ s, P[k2]? = some s := ⟨_, List.getElem?_eq_getElem (by rw [HN.out]; exact hlt2)⟩
              obtain ⟨gp, rfl, d0, hgp⟩ := HST.out.cell hs
              obtain ⟨go, rfl, hgo, c0⟩ := HGC.out k2 hlt2
              have hgd : P.getD k2 ⟨#[]⟩ = s := by rw [List.getD_eq_getElem?_getD, hs]; rfl
              rw [hgd] at c0
              have d1 : wr.cell? ⟨gp, k2, none⟩ = some (.string s) := (World.cell?_of_block (a := ⟨gp, k2, none⟩) (hb8.block gp hgp)).trans d0
              have c1 : wr.cell? ⟨go, k2, none⟩ = some (.int .i64 (idE L s)) := (World.cell?_of_block (a := ⟨go, k2, none⟩) ((hb8.block go (Nat.lt_of_lt_of_le hgo HB7.out.size)).trans (HB7.out.block go hgo))).trans c0
              have hki2 : (k2 : Int) < ng := by omega
              have HFQ : Hid (∀ y : Nat, Calls Tryd.prog 15 #[.slice ow nL cw, .string s] (wr.drewN y) fun e w' => e = .returned (.int .i64 (idE L s)) ∧ ∃ q, w' = wr.drewN q) := Lib.hid (fun y => HFD2.out s wr y HB8.out)
              obtain ⟨z, hz⟩ : ∃ z, idE L s = z := ⟨_, rfl⟩
              rw [hz] at c1 HFQ
              clear hs hgd d0 c0 hgp hgo hb8 hz
              go_wp2_with fail
              go_quiet ((go_at_call 15; exact HFQ.out _))
              rename_i nq
              have HB9 := Lib.hid (below_drewN HB8.out nq)
              generalize wr.drewN nq = wd at HB9 ⊢
              have HEND : Hid (C2S ng w7 (.int .i64 ((k2 : Int) + 1)) wd) := Lib.hid ⟨k2 + 1, by omega, by rw [Int.natCast_succ], HB9.out⟩
              go_wp2_with fail
              go_roundw
              case rel => first | exact HEND.out | ((repeat (apply Exists.intro)); exact ⟨HEND.out, rfl⟩)
              case measure => first | (simp [intOf]; done) | (simp [intOf]; omega)
            · have hkn2 : k2 = ng := by omega
              subst hkn2
              clear hb8
              obtain ⟨wd, hwd⟩ : ∃ wd, wd = wr := ⟨_, rfl⟩
              subst hwd
              have HEW8 := Lib.hid (HEW7.out.below HB8.out)
              have HIX8 := Lib.hid ((HIX6.out.below HB7.out).below HB8.out)
              have HBw : Hid (Below w.heap.size w wd) := Lib.hid (HB2.out.trans ((HB2w6.out.trans ((HB7.out.mono HB2w6.out.size).trans (HB8.out.mono (Nat.le_trans HB2w6.out.size HB7.out.size)))).mono HB2.out.size))
              have HIN8 := Lib.hid (HIN.out.below HBw.out)
              have HN8 : Hid (N < wd.heap.size) := Lib.hid (by obtain ⟨m1, m2, h1, _⟩ := HIX8.out; exact lt_of_some h1)
              go_wp2_with fail
              go_loopw [17, 18, 19] (fun s t i wr => C3S L ids ni wd s t i wr) (fun _ _ i _ => 50 - (intOf i).toNat)
              case atStart => exact ⟨0, ⟨#[]⟩, Nat.zero_le _, by omega, rfl, rfl, rfl, by decide, fun _ => rfl, rfl⟩
              case round =>
                obtain ⟨k3, T, hk3, hk50, rfl, rfl, rfl, hTs, hTd, hwr3⟩ := hrel
                have hwr3 := hwr3.symm
                subst hwr3
                have HTD := Lib.hid hTd
                clear hTd
                by_cases hlt3 : k3 < ni ∧ k3 < 50
                · obtain ⟨h3a, h3b⟩ := hlt3
                  have h3ai : (k3 : Int) < ni := by omega
                  have h3bi : (k3 : Int) < 50 := by omega
                  obtain ⟨z, hz⟩ : ∃ z, ids[k3]? = some z := ⟨_, List.getElem?_eq_getElem (by rw [HNI.out]; exact h3a)⟩
                  obtain ⟨ja, jc, hji, _, hjc⟩ := HIN8.out
                  injection hji with hj1 hj2 hj3
                  subst hj1
                  obtain ⟨bi, oi, rfl, hbi, hcell⟩ := hjc (by rw [HNI.out]; omega)
                  have d0 := hcell k3 (by rw [HNI.out]; exact h3a)
                  rw [List.getD_eq_getElem?_getD, hz] at d0
                  simp only [Option.getD_some] at d0
                  have htk : ids.take (k3 + 1) = ids.take k3 ++ [z] := by rw [List.take_add_one, hz]; rfl
                  have HSN : Hid (allI L (ids.take (k3 + 1)) = (allI L (ids.take k3) && (lkI L z).isSome)) := Lib.hid (by rw [htk, allI_snoc])
                  have HSD : Hid (decT L (ids.take (k3 + 1)) = decT L (ids.take k3) ++ tokI L z) := Lib.hid (by rw [htk, decT_snoc])
                  have HLK := Lib.hid (voc_lk HVO.out z)
                  rw [HNL.out] at HLK
                  clear hcell hz htk hj2 hj3 hbi hjc
                  cases hal : allI L (ids.take k3) with
                  | false =>
                    rw [hal] at HSN
                    clear hal
                    have HEND : Hid (C3S L ids ni wd (.string T) (.bool false) (.int .i64 ((k3 : Int) + 1)) wd) := Lib.hid ⟨k3 + 1, T, by omega, by omega, by rw [Int.natCast_succ], by rw [HSN.out]; rfl, rfl, by omega, fun h => (by rw [HSN.out] at h; cases h), rfl⟩
                    go_wp2_with fail
                    go_roundw
                    case rel => first | exact HEND.out | ((repeat (apply Exists.intro)); exact ⟨HEND.out, rfl⟩)
                    case measure => first | (simp [intOf]; done) | (simp [intOf]; omega)
                  | true =>
                    rw [hal] at HSN
                    have HTD2 : Hid (T.data.toList = decT L (ids.take k3)) := Lib.hid (HTD.out hal)
                    clear hal
                    by_cases hz0 : 0 ≤ z
                    · by_cases hz1 : z < nL
                      · obtain ⟨m, rfl⟩ : ∃ m : Nat, z = (m : Int) := ⟨z.toNat, by omega⟩
                        have hml : m < nL := by omega
                        obtain ⟨q, hq⟩ : ∃ q, L[m]? = some q := ⟨_, List.getElem?_eq_getElem (by rw [HNL.out]; exact hml)⟩
                        have hlk : lkI L (m : Int) = some q := by rw [HLK.out, if_pos (by omega)]; simpa using hq
                        obtain ⟨gw, cur, rfl, _, e0, e1⟩ := HEW8.out m q hq
                        have hqs : q.2.size ≤ 64 := HL64.out q (List.mem_of_getElem? hq)
                        have hcat : ¬ (9223372036854775807 < T.size + q.2.size) := by omega
                        have HEND : Hid (C3S L ids ni wd (.string (T ++ q.2)) (.bool true) (.int .i64 ((k3 : Int) + 1)) wd) := Lib.hid ⟨k3 + 1, T ++ q.2, by omega, by omega, by rw [Int.natCast_succ], by rw [HSN.out, hlk]; rfl, rfl, by rw [ByteArray.size_append]; omega, fun _ => by
                          rw [HSD.out, ← HTD2.out]
                          unfold tokI
                          rw [hlk]
                          simp, rfl⟩
                        clear hq hlk
                        go_wp2_with fail
                        go_roundw
                        case rel => first | exact HEND.out | ((repeat (apply Exists.intro)); exact ⟨HEND.out, rfl⟩)
                        case measure => first | (simp [intOf]; done) | (simp [intOf]; omega)
                      · have hno : lkI L z = none := by rw [HLK.out, if_neg (by omega)]
                        have HEND : Hid (C3S L ids ni wd (.string T) (.bool false) (.int .i64 ((k3 : Int) + 1)) wd) := Lib.hid ⟨k3 + 1, T, by omega, by omega, by rw [Int.natCast_succ], by rw [HSN.out, hno]; rfl, rfl, by omega, fun h => (by rw [HSN.out, hno] at h; cases h), rfl⟩
                        clear hno
                        go_wp2_with fail
                        go_roundw
                        case rel => first | exact HEND.out | ((repeat (apply Exists.intro)); exact ⟨HEND.out, rfl⟩)
                        case measure => first | (simp [intOf]; done) | (simp [intOf]; omega)
                    · have hno : lkI L z = none := by rw [HLK.out, if_neg (by omega)]
                      have HEND : Hid (C3S L ids ni wd (.string T) (.bool false) (.int .i64 ((k3 : Int) + 1)) wd) := Lib.hid ⟨k3 + 1, T, by omega, by omega, by rw [Int.natCast_succ], by rw [HSN.out, hno]; rfl, rfl, by omega, fun h => (by rw [HSN.out, hno] at h; cases h), rfl⟩
                      clear hno
                      go_wp2_with fail
                      go_roundw
                      case rel => first | exact HEND.out | ((repeat (apply Exists.intro)); exact ⟨HEND.out, rfl⟩)
                      case measure => first | (simp [intOf]; done) | (simp [intOf]; omega)
                · have HPR : Hid (ids.take k3 = ids.take 50) := Lib.hid (by
                    rcases Nat.lt_or_ge k3 ni with h | h
                    · rw [show k3 = 50 by omega]
                    · rw [List.take_of_length_le (by rw [HNI.out]; omega), List.take_of_length_le (by rw [HNI.out]; omega)])
                  obtain ⟨mn, hmn⟩ : ∃ mn, min ni 50 = mn := ⟨_, rfl⟩
                  have hmni : min (ni : Int) 50 = (mn : Int) := by omega
                  have hlen : (ids.take 50).length = mn := by rw [List.length_take, HNI.out]; omega
                  have hcut : IsInts wd (.slice ia mn ic) (ids.take 50) := by
                    obtain ⟨ja, jc, hji, hjl, hjc⟩ := HIN8.out
                    injection hji with e1 e2 e3
                    subst e1; subst e3
                    refine ⟨ia, ic, by rw [hlen], by rw [hlen]; omega, fun h0 => ?_⟩
                    obtain ⟨b, o, e4, e5, e6⟩ := hjc (by rw [HNI.out]; omega)
                    refine ⟨b, o, e4, e5, fun j hj => ?_⟩
                    rw [hlen] at hj
                    rw [e6 j (by rw [HNI.out]; omega)]
                    simp [List.getD, List.getElem?_take_of_lt (show j < 50 by omega)]
                  rw [HPR.out] at HTD ⊢
                  have hk3 : k3 = mn := by omega
                  have hmnl : mn ≤ ni := by omega
                  have hmnli : (mn : Int) ≤ ni := by omega
                  have HCUT := Lib.hid hcut; have HLEN := Lib.hid hlen
                  have hmc : mn ≤ ic := by omega
                  have hmci : (mn : Int) ≤ ic := by omega
                  clear hcut hlen hlt3 hmn
                  obtain ⟨v9, w9, hap, hb9, hv9⟩ := app_ints HCUT.out
                  have h9 : ∃ (o9 : Option Addr) (c9 : Nat), v9 = .slice o9 mn c9 ∧ InK w9 o9 (ids.take 50) ∧ ∀ g, o9 = some ⟨g, 0, none⟩ → 0 < (ids.take 50).length → g ≠ N := by
                    rcases hv9 with ⟨hz, a, c, rfl⟩ | ⟨b, c, rfl, h0, hbb, hcells⟩
                    · have hm0 : mn = 0 := by rw [← HLEN.out, hz]; rfl
                      refine ⟨a, c, by rw [hm0], fun k z hk => ?_, fun g _ h => ?_⟩
                      · rw [hz] at hk; cases hk
                      · rw [hz] at h; exact absurd h (by decide)
                    · refine ⟨some ⟨b, 0, none⟩, c, by rw [HLEN.out], fun k z hk => ?_, fun g hg _ => ?_⟩
                      · have hkl := (List.getElem?_eq_some_iff.1 hk).1
                        have hc := hcells k hkl
                        rw [Nat.zero_add, List.getD_eq_getElem?_getD, hk] at hc
                        exact ⟨b, rfl, World.block_lt_of_cell? w9 _ hc, hc⟩
                      · injection hg with hg
                        have hg : b = g := congrArg Addr.block hg
                        have := HN8.out
                        omega
                  obtain ⟨o9, c9, rfl, hin9, hpb9⟩ := h9
                  have HIX9 := Lib.hid (HIX8.out.below hb9)
                  have HB9w := Lib.hid (HBw.out.trans (hb9.mono HBw.out.size))
                  have HDC := Lib.hid (Decode_any N L (0 + 1) o9 (ids.take 50) c9 w9 (by decide) (by decide) HOKL.out HL64.out (by rw [HLEN.out]; omega) (fun z hz => HWF.out z (List.mem_of_mem_take hz)) hin9 hpb9 (.inr HIX9.out))
                  rw [HLEN.out] at HDC
                  have HAP := Lib.hid hap
                  clear hap hb9 hv9 hin9 hpb9
                  go_wp2_with (first
                    | (at_builtin; refine wpList_append_eq rfl _ _ 23 rfl _ _ rfl rfl (.slice o9 mn c9) w9 HAP.out ?_)
                    | (go_at_call 16; refine HDC.out.mono ?_))
                  all_goals
                    first | rintro e w10 ⟨hdc, hix10, hfr10⟩ | rintro e w10 hdc hix10 hfr10
                    have HBF : Hid (Below w.heap.size w w10) := Lib.hid (HB9w.out.trans ⟨hfr10.low.os, hfr10.low.tape, hfr10.low.output, hfr10.size, fun j hj => hfr10.block j (by have := HB9w.out.size; omega) (by have := HN4.out.1; have := HB2.out.size; omega)⟩)
                    clear hix10 hfr10
                    unfold DcEnd at hdc
                    cases hall : allI L (ids.take 50) with
                    | false =>
                      rw [hall, if_neg (by decide)] at hdc
                      subst hdc
                      go_wp2_with fail
                      go_ret
                      exact ⟨rfl, HBF.out⟩
                    | true =>
                      rw [hall, if_pos rfl] at hdc
                      subst hdc
                      have hTe : (⟨(decT L (ids.take 50)).toArray⟩ : ByteArray) = T := by rw [← HTD.out hall]
                      rw [hTe]
                      go_wp2_with fail
                      go_ret
                      exact ⟨rfl, HBF.out⟩
  · have hWe := hWe.symm
    subst hWe
    have hbi : ¬ (200 : Int) < W.size := by omega
    go_wp2_with (go_at_call 9; refine HF.out.mono ?_)
    first | rintro e w2 ⟨va, vb, rfl, ra, rb, hb2⟩ | rintro e w2 va vb rfl ra rb hb2
    obtain ⟨oa, ca, rfl, pa⟩ := own_pairs ra
    obtain ⟨ob, cb, rfl, pb⟩ := own_pairs rb
    have hsA : ∀ q ∈ l.take 60, SmP q := fun q hq => HSM.out q (List.mem_of_mem_take hq)
    have hlA : (l.take 60).length ≤ 60 := List.length_take_le _ _
    generalize l.take 60 = A at ra rb pa pb hsA hlA ⊢
    have hblA := pr_blk ra
    have HB2 := Lib.hid (HB1.out.trans (hb2.mono HB1.out.size)); have HPA := Lib.hid pa; have HPB := Lib.hid pb
    have hsum : ∀ q ∈ A, q.1.size + q.2.size ≤ maxLen := fun q hq => by
      have h1 := (hsA q hq).1; have h2 := (hsA q hq).2; unfold maxLen; omega
    have hvo := ofP_voc A
    have hll := ofP_len A
    have hge : 94 ≤ (ofP A).length := by
      obtain ⟨m, hm, _⟩ := fold_pre A (ofS 94)
      have h94 := ofS_len2 ⟨94, by decide⟩
      unfold ofP
      rw [hm, List.length_append]
      simp only at h94
      omega
    have HOB := Lib.hid (ROf_any ob A cb w2 (by omega) pb hsum)
    have HOA := Lib.hid (fun (V : World) (hV : Below w2.heap.size w2 V) => Of_any oa A ca V (by omega) (HPA.out.below hV) hsum)
    have hspl := split200 (l := A) (by omega) (s := W) (by omega)
    obtain ⟨P, hP⟩ : ∃ P, splitP A W = P := ⟨_, rfl⟩
    have HENC := Lib.hid (fun (b : Nat) (L : List EntB) (x : Int) (V : World) (h0 : 0 ≤ x) (h1 : x ≤ 100000) (hL : OkL L) (hp : PrAt V 48 oa A) (hpb : ∀ g, oa = some ⟨g, 0, none⟩ → g ≠ b) (h : IxSt b L x V) => Encode_any b L x oa A ca W V h0 h1 hL (by omega) hp (fun p hp => (hsA p hp).ok) (by omega) hpb hspl.1 hspl.2.1 hspl.2.2 h)
    have HRS := Lib.hid (fun (V : World) (hp : PrAt V 70 ob A) => RSplit_any ob A cb W V (by omega) hp (by unfold maxLen; omega))
    rw [hP] at HENC HRS hspl
    obtain ⟨n, hn⟩ : ∃ n, P.length = n := ⟨_, rfl⟩
    have HN := Lib.hid hn
    have hn4 : n ≤ 4096 := by rw [← hn]; exact hspl.2.2
    rw [hn] at HENC HRS
    have HBA := Lib.hid hblA
    obtain ⟨na, hna⟩ : ∃ n, A.length = n := ⟨_, rfl⟩
    rw [hna] at hlA HOA HOB HENC HRS hll ⊢
    generalize ofP A = L at hvo hll hge HOA HOB
    obtain ⟨nL, hnL⟩ : ∃ n, L.length = n := ⟨_, rfl⟩
    have HNL := Lib.hid hnL; have HVO := Lib.hid hvo
    rw [hnL] at hll hge HOA HOB
    have HL0 : Hid (0 < nL) := Lib.hid (by omega)
    have HOKL := Lib.hid (hvo.okL (by omega))
    have HL64 : Hid (∀ e ∈ L, e.2.size ≤ 64) := Lib.hid (fun e he => by
      obtain ⟨j, hj⟩ := List.getElem?_of_mem he
      exact (goodB_size (hvo j e hj).2.1).2)
    clear ra rb pa pb hsA hb2 HF hsum hvo hspl hP hn hna hnL hblA
    go_wp2_with (go_at_call 10; refine HOB.out.mono ?_)
    first | rintro e w3 ⟨vw, rfl, rw3, hb3⟩ | rintro e w3 vw rfl rw3 hb3
    obtain ⟨ow, cw, rfl, ew⟩ := own_entries (l := L) (by rw [HNL.out]; exact rw3)
    have hbw : ∀ g, ow = some ⟨g, 0, none⟩ → g < w3.heap.size := pr_blk (n := nL) (by have := rw3; rw [HNL.out] at this; exact this)
    have HEW := Lib.hid ew; have HBW := Lib.hid hbw; have HB3 := Lib.hid hb3
    rw [HNL.out]
    clear rw3 ew hbw hb3
    go_wp2_with (go_at_call 12; refine (HOA.out _ HB3.out).mono ?_)
    first | rintro e w4 ⟨vx, rfl, rx, hb4⟩ | rintro e w4 vx rfl rx hb4
    obtain ⟨gx, cx, rfl, ex, _, hBx, hgx⟩ := own_entC (l := L) (by rw [HNL.out]; exact rx) (by rw [HNL.out]; exact HL0.out)
    have HB4 := Lib.hid (HB3.out.trans (hb4.mono HB3.out.size)); have HEW4 := Lib.hid (HEW.out.below hb4); have HB4' := Lib.hid hb4
    have HNEW := Lib.hid (New_any gx cx L w4 (by rw [HNL.out]; omega) ex)
    rw [HNL.out] at HNEW
    rw [HNL.out]
    clear rx hb4 ex hBx hgx
    go_wp2_with (go_at_call 11; refine HNEW.out.mono ?_)
    first | rintro e w5 ⟨N, v, rfl, hNs, hrow, hown, hb5⟩ | rintro e w5 N v rfl hNs hrow hown hb5
    obtain ⟨g2, c2, rfl, hen2, _, hBg2, hgl2⟩ := own_entC (l := L) (by rw [HNL.out]; exact hown) (by rw [HNL.out]; exact HL0.out)
    have hNg : g2 ≠ N := fun e => by
      subst e
      obtain ⟨gg, cur, e1, e2, _, _⟩ := hen2 0 (L[0]'(by rw [HNL.out]; exact HL0.out)) (List.getElem?_eq_getElem _)
      injection e1 with e1
      have e1 : g2 = gg := congrArg Addr.block e1
      subst e1
      rw [hrow] at e2
      injection e2 with e2
      injection e2 with _ e2
      exact absurd e2 (by decide)
    have HSTt : Hid (IxSt N L 0 w5) := Lib.hid (.inl ⟨g2, c2, hrow, hen2, hgl2, hNg⟩)
    have HB5 := Lib.hid (HB4.out.trans (hb5.mono HB4.out.size)); have HEW5 := Lib.hid (HEW4.out.below hb5)
    have HNS := Lib.hid hNs; have HS5 := Lib.hid hb5.size
    have HN4 : Hid (w2.heap.size ≤ N ∧ w3.heap.size ≤ N) := Lib.hid ⟨by have := HB4.out.size; omega, by have := HB4'.out.size; omega⟩
    have HE5 := Lib.hid (HENC.out N L 0 w5 (by decide) (by decide) HOKL.out (HPA.out.below HB5.out) (fun g hg => by have := HBA.out g hg; have := HN4.out.1; omega) HSTt.out)
    clear hrow hown hb5 hen2 hBg2 hgl2 hNg hNs
    go_wp2_with (go_at_call 13; refine HE5.out.mono ?_)
    first | rintro e w6 ⟨hend, hix, hfr⟩ | rintro e w6 hend hix hfr
    have HIX6 := Lib.hid hix
    have HKP6 : Hid (∀ j, j < w5.heap.size → j ≠ N → w6.heap[j]? = w5.heap[j]?) := Lib.hid hfr.block
    have HS6 := Lib.hid hfr.size
    have HB2w6 : Hid (Below w2.heap.size w2 w6) := Lib.hid (HB5.out.trans ⟨hfr.low.os, hfr.low.tape, hfr.low.output, hfr.size, fun k hk => hfr.block k (by have := HB5.out.size; omega) (by have := HN4.out.1; omega)⟩)
    have HEW6 : Hid (EnAt w6 41 ow L) := Lib.hid (fun k p hp => by
      obtain ⟨g, cur, e1, e2, e3, e4⟩ := HEW5.out k p hp
      have hgl := HBW.out g e1
      have hb := hfr.block g (lt_of_some e2) (by have := HN4.out.2; omega)
      exact ⟨g, cur, e1, hb.trans e2, (World.cell?_of_block (a := ⟨g, k * 2, none⟩) hb).trans e3, (World.cell?_of_block (a := ⟨g, k * 2 + 1, none⟩) hb).trans e4⟩)
    unfold EcEnd at hend
    obtain ⟨og, ng, cg, he, hgf, hgt, hgc⟩ : ∃ og ng cg, e = .returned (.tuple #[.slice og ng cg, .bool (allE L P)]) ∧ (allE L P = false → ng = 0) ∧ (allE L P = true → ng = n) ∧ ∀ k : Nat, k < ng → ∃ g : Nat, og = some ⟨g, 0, none⟩ ∧ g < w6.heap.size ∧ w6.cell? ⟨g, k, none⟩ = some (.int .i64 (idE L (P.getD k ⟨#[]⟩))) := by
      cases hall : allE L P with
      | false =>
        rw [hall, if_neg (by decide)] at hend
        exact ⟨none, 0, 0, hend, fun _ => rfl, fun h => (by cases h), fun k hk => absurd hk (Nat.not_lt_zero _)⟩
      | true =>
        rw [hall, if_pos rfl] at hend
        obtain ⟨gi, he, _, hrow⟩ := hend
        refine ⟨some ⟨gi, 0, none⟩, n, n, he, fun h => (by cases h), fun _ => rfl, fun k hk => ⟨gi, rfl, hrow.lt, ?_⟩⟩
        obtain ⟨cur, c1, c2, c3⟩ := hrow
        rw [cell_of_row c1]; exact c3 k hk
    subst he
    have HGF := Lib.hid hgf; have HGT := Lib.hid hgt; have HGC := Lib.hid hgc
    have HRS6 := Lib.hid (HRS.out w6 (HPB.out.below HB2w6.out))
    obtain ⟨t, ht⟩ : ∃ t, allE L P = t := ⟨_, rfl⟩
    have HT := Lib.hid ht
    rw [ht]
    clear hix hfr HE5 HSTt hend hgf hgt hgc ht HENC HOA HOB HNEW HEW HEW4 HEW5 HPA HB3 HB4'
    go_wp2_with (go_at_call 14; refine HRS6.out.mono ?_)
    first | rintro e w7 ⟨op, cp, rfl, hst, hb7⟩ | rintro e w7 op cp rfl hst hb7
    have HST := Lib.hid hst; have HB7 := Lib.hid hb7; have HEW7 := Lib.hid (HEW6.out.below hb7)
    clear hst hb7
    have HFD : Hid (∀ s : ByteArray, Calls Tryd.prog 15 #[.slice ow nL cw, .string s] w7 fun e w' => e = .returned (.int .i64 (idE L s)) ∧ w' = w7) := Lib.hid (fun s => by
      have := RFind_any ow L cw s w7 (by rw [HNL.out]; omega) HEW7.out
      rw [HNL.out, findE_id] at this
      exact this)
    go_wp2_with fail
    go_loopw [14, 15] (fun t i wr => C1S L P n w7 t i wr) (fun _ i _ => n - (intOf i).toNat)
    case atStart => exact ⟨0, Nat.zero_le _, rfl, rfl, rfl⟩
    case round =>
      obtain ⟨k, hk, rfl, rfl, hwr⟩ := hrel
      have hwr := hwr.symm
      subst hwr
      by_cases hlt : k < n
      · obtain ⟨s, hs⟩ : ∃ s, P[k]? = some s := ⟨_, List.getElem?_eq_getElem (by rw [HN.out]; exact hlt)⟩
        obtain ⟨gp, rfl, d0, _⟩ := HST.out.cell hs
        have htk : P.take (k + 1) = P.take k ++ [s] := by rw [List.take_add_one, hs]; rfl
        have HSN : Hid (allE L (P.take (k + 1)) = (allE L (P.take k) && decide (0 ≤ idE L s))) := Lib.hid (by rw [htk, allE_snoc])
        have hki : (k : Int) < n := by omega
        obtain ⟨z, hz⟩ : ∃ z, idE L s = z := ⟨_, rfl⟩
        have HFS := Lib.hid (HFD.out s)
        rw [hz] at HFS HSN
        clear hs htk hz
        cases hal : allE L (P.take k) with
        | false =>
          rw [hal] at HSN
          clear hal
          go_wp2_with fail
          go_roundw
          case rel => exact ⟨k + 1, by omega, by rw [Int.natCast_succ], by rw [HSN.out]; rfl, rfl⟩
          case measure => first | (simp [intOf]; done) | (simp [intOf]; omega)
        | true =>
          rw [hal] at HSN
          clear hal
          by_cases hz0 : 0 ≤ z
          · go_wp2_with (go_at_call 15; refine HFS.out.mono ?_; rintro e wf ⟨rfl, rfl⟩)
            go_roundw
            case rel => exact ⟨k + 1, by omega, by rw [Int.natCast_succ], by rw [HSN.out]; simp [hz0], rfl⟩
            case measure => first | (simp [intOf]; done) | (simp [intOf]; omega)
          · go_wp2_with (go_at_call 15; refine HFS.out.mono ?_; rintro e wf ⟨rfl, rfl⟩)
            go_roundw
            case rel => exact ⟨k + 1, by omega, by rw [Int.natCast_succ], by rw [HSN.out]; simp [hz0], rfl⟩
            case measure => first | (simp [intOf]; done) | (simp [intOf]; omega)
      · have hkn : k = n := by omega
        subst hkn
        have htl : P.take k = P := List.take_of_length_le (by rw [HN.out]; exact Nat.le_refl _)
        rw [htl, HT.out]
        clear htl hlt
        cases t with
        | false =>
          obtain rfl : ng = 0 := HGF.out HT.out
          go_wp2_with fail
          go_loopw [16] (fun i wr => i = .int .i64 0 ∧ wr = w7) (fun _ _ => 0)
          case atStart => exact ⟨rfl, rfl⟩
          case round =>
            obtain ⟨rfl, hwr⟩ := hrel
            have hwr := hwr.symm
            subst hwr
            have HB8 : Hid (Below w7.heap.size w7 w7) := Lib.hid (Below.refl _ _)
            have HEW8 := Lib.hid (HEW7.out.below HB8.out)
            have HIX8 := Lib.hid ((HIX6.out.below HB7.out).below HB8.out)
            have HBw : Hid (Below w.heap.size w w7) := Lib.hid (HB2.out.trans ((HB2w6.out.trans ((HB7.out.mono HB2w6.out.size).trans (HB8.out.mono (Nat.le_trans HB2w6.out.size HB7.out.size)))).mono HB2.out.size))
            have HIN8 := Lib.hid (HIN.out.below HBw.out)
            have HN8 : Hid (N < w7.heap.size) := Lib.hid (by obtain ⟨m1, m2, h1, _⟩ := HIX8.out; exact lt_of_some h1)
            go_wp2_with fail
            go_loopw [17, 18, 19] (fun s t i wr => C3S L ids ni w7 s t i wr) (fun _ _ i _ => 50 - (intOf i).toNat)
            case atStart => exact ⟨0, ⟨#[]⟩, Nat.zero_le _, by omega, rfl, rfl, rfl, by decide, fun _ => rfl, rfl⟩
            case round =>
              obtain ⟨k3, T, hk3, hk50, rfl, rfl, rfl, hTs, hTd, hwr3⟩ := hrel
              have hwr3 := hwr3.symm
              subst hwr3
              have HTD := Lib.hid hTd
              clear hTd
              by_cases hlt3 : k3 < ni ∧ k3 < 50
              · obtain ⟨h3a, h3b⟩ := hlt3
                have h3ai : (k3 : Int) < ni := by omega
                have h3bi : (k3 : Int) < 50 := by omega
                obtain ⟨z, hz⟩ : ∃ z, ids[k3]? = some z := ⟨_, List.getElem?_eq_getElem (by rw [HNI.out]; exact h3a)⟩
                obtain ⟨ja, jc, hji, _, hjc⟩ := HIN8.out
                injection hji with hj1 hj2 hj3
                subst hj1
                obtain ⟨bi, oi, rfl, hbi, hcell⟩ := hjc (by rw [HNI.out]; omega)
                have d0 := hcell k3 (by rw [HNI.out]; exact h3a)
                rw [List.getD_eq_getElem?_getD, hz] at d0
                simp only [Option.getD_some] at d0
                have htk : ids.take (k3 + 1) = ids.take k3 ++ [z] := by rw [List.take_add_one, hz]; rfl
                have HSN : Hid (allI L (ids.take (k3 + 1)) = (allI L (ids.take k3) && (lkI L z).isSome)) := Lib.hid (by rw [htk, allI_snoc])
                have HSD : Hid (decT L (ids.take (k3 + 1)) = decT L (ids.take k3) ++ tokI L z) := Lib.hid (by rw [htk, decT_snoc])
                have HLK := Lib.hid (voc_lk HVO.out z)
                rw [HNL.out] at HLK
                clear hcell hz htk hj2 hj3 hbi hjc
                cases hal : allI L (ids.take k3) with
                | false =>
                  rw [hal] at HSN
                  clear hal
                  have HEND : Hid (C3S L ids ni w7 (.string T) (.bool false) (.int .i64 ((k3 : Int) + 1)) w7) := Lib.hid ⟨k3 + 1, T, by omega, by omega, by rw [Int.natCast_succ], by rw [HSN.out]; rfl, rfl, by omega, fun h => (by rw [HSN.out] at h; cases h), rfl⟩
                  go_wp2_with fail
                  go_roundw
                  case rel => first | exact HEND.out | ((repeat (apply Exists.intro)); exact ⟨HEND.out, rfl⟩)
                  case measure => first | (simp [intOf]; done) | (simp [intOf]; omega)
                | true =>
                  rw [hal] at HSN
                  have HTD2 : Hid (T.data.toList = decT L (ids.take k3)) := Lib.hid (HTD.out hal)
                  clear hal
                  by_cases hz0 : 0 ≤ z
                  · by_cases hz1 : z < nL
                    · obtain ⟨m, rfl⟩ : ∃ m : Nat, z = (m : Int) := ⟨z.toNat, by omega⟩
                      have hml : m < nL := by omega
                      obtain ⟨q, hq⟩ : ∃ q, L[m]? = some q := ⟨_, List.getElem?_eq_getElem (by rw [HNL.out]; exact hml)⟩
                      have hlk : lkI L (m : Int) = some q := by rw [HLK.out, if_pos (by omega)]; simpa using hq
                      obtain ⟨gw, cur, rfl, _, e0, e1⟩ := HEW8.out m q hq
                      have hqs : q.2.size ≤ 64 := HL64.out q (List.mem_of_getElem? hq)
                      have hcat : ¬ (9223372036854775807 < T.size + q.2.size) := by omega
                      have HEND : Hid (C3S L ids ni w7 (.string (T ++ q.2)) (.bool true) (.int .i64 ((k3 : Int) + 1)) w7) := Lib.hid ⟨k3 + 1, T ++ q.2, by omega, by omega, by rw [Int.natCast_succ], by rw [HSN.out, hlk]; rfl, rfl, by rw [ByteArray.size_append]; omega, fun _ => by
                        rw [HSD.out, ← HTD2.out]
                        unfold tokI
                        rw [hlk]
                        simp, rfl⟩
                      clear hq hlk
                      go_wp2_with fail
                      go_roundw
                      case rel => first | exact HEND.out | ((repeat (apply Exists.intro)); exact ⟨HEND.out, rfl⟩)
                      case measure => first | (simp [intOf]; done) | (simp [intOf]; omega)
                    · have hno : lkI L z = none := by rw [HLK.out, if_neg (by omega)]
                      have HEND : Hid (C3S L ids ni w7 (.string T) (.bool false) (.int .i64 ((k3 : Int) + 1)) w7) := Lib.hid ⟨k3 + 1, T, by omega, by omega, by rw [Int.natCast_succ], by rw [HSN.out, hno]; rfl, rfl, by omega, fun h => (by rw [HSN.out, hno] at h; cases h), rfl⟩
                      clear hno
                      go_wp2_with fail
                      go_roundw
                      case rel => first | exact HEND.out | ((repeat (apply Exists.intro)); exact ⟨HEND.out, rfl⟩)
                      case measure => first | (simp [intOf]; done) | (simp [intOf]; omega)
                  · have hno : lkI L z = none := by rw [HLK.out, if_neg (by omega)]
                    have HEND : Hid (C3S L ids ni w7 (.string T) (.bool false) (.int .i64 ((k3 : Int) + 1)) w7) := Lib.hid ⟨k3 + 1, T, by omega, by omega, by rw [Int.natCast_succ], by rw [HSN.out, hno]; rfl, rfl, by omega, fun h => (by rw [HSN.out, hno] at h; cases h), rfl⟩
                    clear hno
                    go_wp2_with fail
                    go_roundw
                    case rel => first | exact HEND.out | ((repeat (apply Exists.intro)); exact ⟨HEND.out, rfl⟩)
                    case measure => first | (simp [intOf]; done) | (simp [intOf]; omega)
              · have HPR : Hid (ids.take k3 = ids.take 50) := Lib.hid (by
                  rcases Nat.lt_or_ge k3 ni with h | h
                  · rw [show k3 = 50 by omega]
                  · rw [List.take_of_length_le (by rw [HNI.out]; omega), List.take_of_length_le (by rw [HNI.out]; omega)])
                obtain ⟨mn, hmn⟩ : ∃ mn, min ni 50 = mn := ⟨_, rfl⟩
                have hmni : min (ni : Int) 50 = (mn : Int) := by omega
                have hlen : (ids.take 50).length = mn := by rw [List.length_take, HNI.out]; omega
                have hcut : IsInts w7 (.slice ia mn ic) (ids.take 50) := by
                  obtain ⟨ja, jc, hji, hjl, hjc⟩ := HIN8.out
                  injection hji with e1 e2 e3
                  subst e1; subst e3
                  refine ⟨ia, ic, by rw [hlen], by rw [hlen]; omega, fun h0 => ?_⟩
                  obtain ⟨b, o, e4, e5, e6⟩ := hjc (by rw [HNI.out]; omega)
                  refine ⟨b, o, e4, e5, fun j hj => ?_⟩
                  rw [hlen] at hj
                  rw [e6 j (by rw [HNI.out]; omega)]
                  simp [List.getD, List.getElem?_take_of_lt (show j < 50 by omega)]
                rw [HPR.out] at HTD ⊢
                have hk3 : k3 = mn := by omega
                have hmnl : mn ≤ ni := by omega
                have hmnli : (mn : Int) ≤ ni := by omega
                have HCUT := Lib.hid hcut; have HLEN := Lib.hid hlen
                have hmc : mn ≤ ic := by omega
                have hmci : (mn : Int) ≤ ic := by omega
                clear hcut hlen hlt3 hmn
                obtain ⟨v9, w9, hap, hb9, hv9⟩ := app_ints HCUT.out
                have h9 : ∃ (o9 : Option Addr) (c9 : Nat), v9 = .slice o9 mn c9 ∧ InK w9 o9 (ids.take 50) ∧ ∀ g, o9 = some ⟨g, 0, none⟩ → 0 < (ids.take 50).length → g ≠ N := by
                  rcases hv9 with ⟨hz, a, c, rfl⟩ | ⟨b, c, rfl, h0, hbb, hcells⟩
                  · have hm0 : mn = 0 := by rw [← HLEN.out, hz]; rfl
                    refine ⟨a, c, by rw [hm0], fun k z hk => ?_, fun g _ h => ?_⟩
                    · rw [hz] at hk; cases hk
                    · rw [hz] at h; exact absurd h (by decide)
                  · refine ⟨some ⟨b, 0, none⟩, c, by rw [HLEN.out], fun k z hk => ?_, fun g hg _ => ?_⟩
                    · have hkl := (List.getElem?_eq_some_iff.1 hk).1
                      have hc := hcells k hkl
                      rw [Nat.zero_add, List.getD_eq_getElem?_getD, hk] at hc
                      exact ⟨b, rfl, World.block_lt_of_cell? w9 _ hc, hc⟩
                    · injection hg with hg
                      have hg : b = g := congrArg Addr.block hg
                      have := HN8.out
                      omega
                obtain ⟨o9, c9, rfl, hin9, hpb9⟩ := h9
                have HIX9 := Lib.hid (HIX8.out.below hb9)
                have HB9w := Lib.hid (HBw.out.trans (hb9.mono HBw.out.size))
                have HDC := Lib.hid (Decode_any N L (0 + 1) o9 (ids.take 50) c9 w9 (by decide) (by decide) HOKL.out HL64.out (by rw [HLEN.out]; omega) (fun z hz => HWF.out z (List.mem_of_mem_take hz)) hin9 hpb9 (.inr HIX9.out))
                rw [HLEN.out] at HDC
                have HAP := Lib.hid hap
                clear hap hb9 hv9 hin9 hpb9
                go_wp2_with (first
                  | (at_builtin; refine wpList_append_eq rfl _ _ 23 rfl _ _ rfl rfl (.slice o9 mn c9) w9 HAP.out ?_)
                  | (go_at_call 16; refine HDC.out.mono ?_))
                all_goals
                  first | rintro e w10 ⟨hdc, hix10, hfr10⟩ | rintro e w10 hdc hix10 hfr10
                  have HBF : Hid (Below w.heap.size w w10) := Lib.hid (HB9w.out.trans ⟨hfr10.low.os, hfr10.low.tape, hfr10.low.output, hfr10.size, fun j hj => hfr10.block j (by have := HB9w.out.size; omega) (by have := HN4.out.1; have := HB2.out.size; omega)⟩)
                  clear hix10 hfr10
                  unfold DcEnd at hdc
                  cases hall : allI L (ids.take 50) with
                  | false =>
                    rw [hall, if_neg (by decide)] at hdc
                    subst hdc
                    go_wp2_with fail
                    go_ret
                    exact ⟨rfl, HBF.out⟩
                  | true =>
                    rw [hall, if_pos rfl] at hdc
                    subst hdc
                    have hTe : (⟨(decT L (ids.take 50)).toArray⟩ : ByteArray) = T := by rw [← HTD.out hall]
                    rw [hTe]
                    go_wp2_with fail
                    go_ret
                    exact ⟨rfl, HBF.out⟩
        | true =>
          obtain rfl : ng = k := HGT.out HT.out
          have HFD2 : Hid (∀ (s : ByteArray) (V : World) (y : Nat), Below w7.heap.size w7 V → Calls Tryd.prog 15 #[.slice ow nL cw, .string s] (V.drewN y) fun e w' => e = .returned (.int .i64 (idE L s)) ∧ ∃ q, w' = V.drewN q) := Lib.hid (fun s V y hV => by
            have := RFind_any ow L cw s (V.drewN y) (by rw [HNL.out]; omega) (HEW7.out.below (below_drewN hV y))
            rw [HNL.out, findE_id] at this
            exact this.mono fun e w' ⟨a, b⟩ => ⟨a, y, b⟩)
          go_wp2_with fail
          go_loopw [16] (fun i wr => C2S ng w7 i wr) (fun i _ => ng - (intOf i).toNat)
          case atStart => exact ⟨0, Nat.zero_le _, rfl, Below.refl _ _⟩
          case round =>
            obtain ⟨k2, hk2, rfl, hb8⟩ := hrel
            have HB8 := Lib.hid hb8
            by_cases hlt2 : k2 < ng
            · obtain ⟨s, hs⟩ : ∃ s, P[k2]? = some s := ⟨_, List.getElem?_eq_getElem (by rw [HN.out]; exact hlt2)⟩
              obtain ⟨gp, rfl, d0, hgp⟩ := HST.out.cell hs
              obtain ⟨go, rfl, hgo, c0⟩ := HGC.out k2 hlt2
              have hgd : P.getD k2 ⟨#[]⟩ = s := by rw [List.getD_eq_getElem?_getD, hs]; rfl
              rw [hgd] at c0
              have d1 : wr.cell? ⟨gp, k2, none⟩ = some (.string s) := (World.cell?_of_block (a := ⟨gp, k2, none⟩) (hb8.block gp hgp)).trans d0
              have c1 : wr.cell? ⟨go, k2, none⟩ = some (.int .i64 (idE L s)) := (World.cell?_of_block (a := ⟨go, k2, none⟩) ((hb8.block go (Nat.lt_of_lt_of_le hgo HB7.out.size)).trans (HB7.out.block go hgo))).trans c0
              have hki2 : (k2 : Int) < ng := by omega
              have HFQ : Hid (∀ y : Nat, Calls Tryd.prog 15 #[.slice ow nL cw, .string s] (wr.drewN y) fun e w' => e = .returned (.int .i64 (idE L s)) ∧ ∃ q, w' = wr.drewN q) := Lib.hid (fun y => HFD2.out s wr y HB8.out)
              obtain ⟨z, hz⟩ : ∃ z, idE L s = z := ⟨_, rfl⟩
              rw [hz] at c1 HFQ
              clear hs hgd d0 c0 hgp hgo hb8 hz
              go_wp2_with fail
              go_quiet ((go_at_call 15; exact HFQ.out _))
              rename_i nq
              have HB9 := Lib.hid (below_drewN HB8.out nq)
              generalize wr.drewN nq = wd at HB9 ⊢
              have HEND : Hid (C2S ng w7 (.int .i64 ((k2 : Int) + 1)) wd) := Lib.hid ⟨k2 + 1, by omega, by rw [Int.natCast_succ], HB9.out⟩
              go_wp2_with fail
              go_roundw
              case rel => first | exact HEND.out | ((repeat (apply Exists.intro)); exact ⟨HEND.out, rfl⟩)
              case measure => first | (simp [intOf]; done) | (simp [intOf]; omega)
            · have hkn2 : k2 = ng := by omega
              subst hkn2
              clear hb8
              obtain ⟨wd, hwd⟩ : ∃ wd, wd = wr := ⟨_, rfl⟩
              subst hwd
              have HEW8 := Lib.hid (HEW7.out.below HB8.out)
              have HIX8 := Lib.hid ((HIX6.out.below HB7.out).below HB8.out)
              have HBw : Hid (Below w.heap.size w wd) := Lib.hid (HB2.out.trans ((HB2w6.out.trans ((HB7.out.mono HB2w6.out.size).trans (HB8.out.mono (Nat.le_trans HB2w6.out.size HB7.out.size)))).mono HB2.out.size))
              have HIN8 := Lib.hid (HIN.out.below HBw.out)
              have HN8 : Hid (N < wd.heap.size) := Lib.hid (by obtain ⟨m1, m2, h1, _⟩ := HIX8.out; exact lt_of_some h1)
              go_wp2_with fail
              go_loopw [17, 18, 19] (fun s t i wr => C3S L ids ni wd s t i wr) (fun _ _ i _ => 50 - (intOf i).toNat)
              case atStart => exact ⟨0, ⟨#[]⟩, Nat.zero_le _, by omega, rfl, rfl, rfl, by decide, fun _ => rfl, rfl⟩
              case round =>
                obtain ⟨k3, T, hk3, hk50, rfl, rfl, rfl, hTs, hTd, hwr3⟩ := hrel
                have hwr3 := hwr3.symm
                subst hwr3
                have HTD := Lib.hid hTd
                clear hTd
                by_cases hlt3 : k3 < ni ∧ k3 < 50
                · obtain ⟨h3a, h3b⟩ := hlt3
                  have h3ai : (k3 : Int) < ni := by omega
                  have h3bi : (k3 : Int) < 50 := by omega
                  obtain ⟨z, hz⟩ : ∃ z, ids[k3]? = some z := ⟨_, List.getElem?_eq_getElem (by rw [HNI.out]; exact h3a)⟩
                  obtain ⟨ja, jc, hji, _, hjc⟩ := HIN8.out
                  injection hji with hj1 hj2 hj3
                  subst hj1
                  obtain ⟨bi, oi, rfl, hbi, hcell⟩ := hjc (by rw [HNI.out]; omega)
                  have d0 := hcell k3 (by rw [HNI.out]; exact h3a)
                  rw [List.getD_eq_getElem?_getD, hz] at d0
                  simp only [Option.getD_some] at d0
                  have htk : ids.take (k3 + 1) = ids.take k3 ++ [z] := by rw [List.take_add_one, hz]; rfl
                  have HSN : Hid (allI L (ids.take (k3 + 1)) = (allI L (ids.take k3) && (lkI L z).isSome)) := Lib.hid (by rw [htk, allI_snoc])
                  have HSD : Hid (decT L (ids.take (k3 + 1)) = decT L (ids.take k3) ++ tokI L z) := Lib.hid (by rw [htk, decT_snoc])
                  have HLK := Lib.hid (voc_lk HVO.out z)
                  rw [HNL.out] at HLK
                  clear hcell hz htk hj2 hj3 hbi hjc
                  cases hal : allI L (ids.take k3) with
                  | false =>
                    rw [hal] at HSN
                    clear hal
                    have HEND : Hid (C3S L ids ni wd (.string T) (.bool false) (.int .i64 ((k3 : Int) + 1)) wd) := Lib.hid ⟨k3 + 1, T, by omega, by omega, by rw [Int.natCast_succ], by rw [HSN.out]; rfl, rfl, by omega, fun h => (by rw [HSN.out] at h; cases h), rfl⟩
                    go_wp2_with fail
                    go_roundw
                    case rel => first | exact HEND.out | ((repeat (apply Exists.intro)); exact ⟨HEND.out, rfl⟩)
                    case measure => first | (simp [intOf]; done) | (simp [intOf]; omega)
                  | true =>
                    rw [hal] at HSN
                    have HTD2 : Hid (T.data.toList = decT L (ids.take k3)) := Lib.hid (HTD.out hal)
                    clear hal
                    by_cases hz0 : 0 ≤ z
                    · by_cases hz1 : z < nL
                      · obtain ⟨m, rfl⟩ : ∃ m : Nat, z = (m : Int) := ⟨z.toNat, by omega⟩
                        have hml : m < nL := by omega
                        obtain ⟨q, hq⟩ : ∃ q, L[m]? = some q := ⟨_, List.getElem?_eq_getElem (by rw [HNL.out]; exact hml)⟩
                        have hlk : lkI L (m : Int) = some q := by rw [HLK.out, if_pos (by omega)]; simpa using hq
                        obtain ⟨gw, cur, rfl, _, e0, e1⟩ := HEW8.out m q hq
                        have hqs : q.2.size ≤ 64 := HL64.out q (List.mem_of_getElem? hq)
                        have hcat : ¬ (9223372036854775807 < T.size + q.2.size) := by omega
                        have HEND : Hid (C3S L ids ni wd (.string (T ++ q.2)) (.bool true) (.int .i64 ((k3 : Int) + 1)) wd) := Lib.hid ⟨k3 + 1, T ++ q.2, by omega, by omega, by rw [Int.natCast_succ], by rw [HSN.out, hlk]; rfl, rfl, by rw [ByteArray.size_append]; omega, fun _ => by
                          rw [HSD.out, ← HTD2.out]
                          unfold tokI
                          rw [hlk]
                          simp, rfl⟩
                        clear hq hlk
                        go_wp2_with fail
                        go_roundw
                        case rel => first | exact HEND.out | ((repeat (apply Exists.intro)); exact ⟨HEND.out, rfl⟩)
                        case measure => first | (simp [intOf]; done) | (simp [intOf]; omega)
                      · have hno : lkI L z = none := by rw [HLK.out, if_neg (by omega)]
                        have HEND : Hid (C3S L ids ni wd (.string T) (.bool false) (.int .i64 ((k3 : Int) + 1)) wd) := Lib.hid ⟨k3 + 1, T, by omega, by omega, by rw [Int.natCast_succ], by rw [HSN.out, hno]; rfl, rfl, by omega, fun h => (by rw [HSN.out, hno] at h; cases h), rfl⟩
                        clear hno
                        go_wp2_with fail
                        go_roundw
                        case rel => first | exact HEND.out | ((repeat (apply Exists.intro)); exact ⟨HEND.out, rfl⟩)
                        case measure => first | (simp [intOf]; done) | (simp [intOf]; omega)
                    · have hno : lkI L z = none := by rw [HLK.out, if_neg (by omega)]
                      have HEND : Hid (C3S L ids ni wd (.string T) (.bool false) (.int .i64 ((k3 : Int) + 1)) wd) := Lib.hid ⟨k3 + 1, T, by omega, by omega, by rw [Int.natCast_succ], by rw [HSN.out, hno]; rfl, rfl, by omega, fun h => (by rw [HSN.out, hno] at h; cases h), rfl⟩
                      clear hno
                      go_wp2_with fail
                      go_roundw
                      case rel => first | exact HEND.out | ((repeat (apply Exists.intro)); exact ⟨HEND.out, rfl⟩)
                      case measure => first | (simp [intOf]; done) | (simp [intOf]; omega)
                · have HPR : Hid (ids.take k3 = ids.take 50) := Lib.hid (by
                    rcases Nat.lt_or_ge k3 ni with h | h
                    · rw [show k3 = 50 by omega]
                    · rw [List.take_of_length_le (by rw [HNI.out]; omega), List.take_of_length_le (by rw [HNI.out]; omega)])
                  obtain ⟨mn, hmn⟩ : ∃ mn, min ni 50 = mn := ⟨_, rfl⟩
                  have hmni : min (ni : Int) 50 = (mn : Int) := by omega
                  have hlen : (ids.take 50).length = mn := by rw [List.length_take, HNI.out]; omega
                  have hcut : IsInts wd (.slice ia mn ic) (ids.take 50) := by
                    obtain ⟨ja, jc, hji, hjl, hjc⟩ := HIN8.out
                    injection hji with e1 e2 e3
                    subst e1; subst e3
                    refine ⟨ia, ic, by rw [hlen], by rw [hlen]; omega, fun h0 => ?_⟩
                    obtain ⟨b, o, e4, e5, e6⟩ := hjc (by rw [HNI.out]; omega)
                    refine ⟨b, o, e4, e5, fun j hj => ?_⟩
                    rw [hlen] at hj
                    rw [e6 j (by rw [HNI.out]; omega)]
                    simp [List.getD, List.getElem?_take_of_lt (show j < 50 by omega)]
                  rw [HPR.out] at HTD ⊢
                  have hk3 : k3 = mn := by omega
                  have hmnl : mn ≤ ni := by omega
                  have hmnli : (mn : Int) ≤ ni := by omega
                  have HCUT := Lib.hid hcut; have HLEN := Lib.hid hlen
                  have hmc : mn ≤ ic := by omega
                  have hmci : (mn : Int) ≤ ic := by omega
                  clear hcut hlen hlt3 hmn
                  obtain ⟨v9, w9, hap, hb9, hv9⟩ := app_ints HCUT.out
                  have h9 : ∃ (o9 : Option Addr) (c9 : Nat), v9 = .slice o9 mn c9 ∧ InK w9 o9 (ids.take 50) ∧ ∀ g, o9 = some ⟨g, 0, none⟩ → 0 < (ids.take 50).length → g ≠ N := by
                    rcases hv9 with ⟨hz, a, c, rfl⟩ | ⟨b, c, rfl, h0, hbb, hcells⟩
                    · have hm0 : mn = 0 := by rw [← HLEN.out, hz]; rfl
                      refine ⟨a, c, by rw [hm0], fun k z hk => ?_, fun g _ h => ?_⟩
                      · rw [hz] at hk; cases hk
                      · rw [hz] at h; exact absurd h (by decide)
                    · refine ⟨some ⟨b, 0, none⟩, c, by rw [HLEN.out], fun k z hk => ?_, fun g hg _ => ?_⟩
                      · have hkl := (List.getElem?_eq_some_iff.1 hk).1
                        have hc := hcells k hkl
                        rw [Nat.zero_add, List.getD_eq_getElem?_getD, hk] at hc
                        exact ⟨b, rfl, World.block_lt_of_cell? w9 _ hc, hc⟩
                      · injection hg with hg
                        have hg : b = g := congrArg Addr.block hg
                        have := HN8.out
                        omega
                  obtain ⟨o9, c9, rfl, hin9, hpb9⟩ := h9
                  have HIX9 := Lib.hid (HIX8.out.below hb9)
                  have HB9w := Lib.hid (HBw.out.trans (hb9.mono HBw.out.size))
                  have HDC := Lib.hid (Decode_any N L (0 + 1) o9 (ids.take 50) c9 w9 (by decide) (by decide) HOKL.out HL64.out (by rw [HLEN.out]; omega) (fun z hz => HWF.out z (List.mem_of_mem_take hz)) hin9 hpb9 (.inr HIX9.out))
                  rw [HLEN.out] at HDC
                  have HAP := Lib.hid hap
                  clear hap hb9 hv9 hin9 hpb9
                  go_wp2_with (first
                    | (at_builtin; refine wpList_append_eq rfl _ _ 23 rfl _ _ rfl rfl (.slice o9 mn c9) w9 HAP.out ?_)
                    | (go_at_call 16; refine HDC.out.mono ?_))
                  all_goals
                    first | rintro e w10 ⟨hdc, hix10, hfr10⟩ | rintro e w10 hdc hix10 hfr10
                    have HBF : Hid (Below w.heap.size w w10) := Lib.hid (HB9w.out.trans ⟨hfr10.low.os, hfr10.low.tape, hfr10.low.output, hfr10.size, fun j hj => hfr10.block j (by have := HB9w.out.size; omega) (by have := HN4.out.1; have := HB2.out.size; omega)⟩)
                    clear hix10 hfr10
                    unfold DcEnd at hdc
                    cases hall : allI L (ids.take 50) with
                    | false =>
                      rw [hall, if_neg (by decide)] at hdc
                      subst hdc
                      go_wp2_with fail
                      go_ret
                      exact ⟨rfl, HBF.out⟩
                    | true =>
                      rw [hall, if_pos rfl] at hdc
                      subst hdc
                      have hTe : (⟨(decT L (ids.take 50)).toArray⟩ : ByteArray) = T := by rw [← HTD.out hall]
                      rw [hTe]
                      go_wp2_with fail
                      go_ret
                      exact ⟨rfl, HBF.out⟩
end Go.Proofs.YtfcnmehajelgkaaDoor
