/- Vocabularies: a list that is valid, each word of signs there and back: the law. -/
import Derived.Test.YtdpfpdpaamjefaaDoorVbb
namespace Go.Proofs.YtdpfpdpaamjefaaDoor
open Go.RowKit Go.Shelf Go.Maps
variable {w w' : World}

set_option linter.unusedSimpArgs false
set_option linter.unusedVariables false
set_option maxHeartbeats 16000000 in
set_option maxRecDepth 100000 in
theorem LBack_any (o : Option Addr) (l : List PairB) (c : Nat) (word : ByteArray) (w : World) (hl : l.length ≤ maxLen) (hi : InAt w o l) (hsm : ∀ q ∈ l, SmP q) (hws : word.size ≤ maxLen) (hw : StrAt w) :
    Calls Tryd.prog 3 #[.slice o l.length c, .string word] w fun e w' => e = .returned (.bool true) ∧ Below w.heap.size w w' := by
  obtain ⟨i1, hi1, hz0, hz1, hz2⟩ := info_parts byteInfo
  have HI1 := Lib.hid hi1; have HZ0 := Lib.hid hz0; have HZ1 := Lib.hid hz1; have HZ2 := Lib.hid hz2
  have HS := Lib.hid (speaks9_any w hw)
  have HI := Lib.hid hi; have HSM := Lib.hid hsm
  obtain ⟨n0, hn0⟩ : ∃ n, l.length = n := ⟨_, rfl⟩
  have HN0 := Lib.hid hn0
  rw [hn0] at hl ⊢
  unfold maxLen at hws
  clear hi hsm hn0 hw hi1 hz0 hz1 hz2
  go_enter Tryd.func3, Tryd.ntmps3
  go_wp2_with (go_at_call 4; refine HS.out.mono ?_)
  rintro e w1 ⟨rfl, hb1⟩
  have HB1 := Lib.hid hb1
  have H0 : Hid (BcS word w1 (.slice none 0 0) (.int .i64 0) w1) := Lib.hid ⟨0, Nat.zero_le _, Nat.zero_le _, rfl, ⟨rfl, .inl ⟨rfl, rfl⟩⟩, fun _ => rfl, Below.refl _ _⟩
  clear hb1
  go_wp2_with fail
  go_loopw [5, 6] (fun v i wr => BcS word w1 v i wr) (fun _ i _ => 500 - (intOf i).toNat)
  case atStart => exact H0.out
  case round =>
    obtain ⟨k, hk, hk5, rfl, hrow, hnil, hb⟩ := hrel
    have HROW := Lib.hid hrow; have HNIL := Lib.hid hnil; have HB := Lib.hid hb
    clear hrow hnil hb H0
    by_cases hlt : k < word.size ∧ k < 500
    · obtain ⟨h1, h2⟩ := hlt
      have h1i : (k : Int) < word.size := by omega
      have h2i : (k : Int) < 500 := by omega
      have HSN := Lib.hid (wordL_snoc (s := word) h1)
      have HSG := Lib.hid (sgn_nat word[k])
      have hval : (33 + (word[k].toNat : Int) % 94) = ((sgn word[k]).toNat : Int) := by rw [HSG.out]; omega
      have HVAL := Lib.hid hval
      clear hval
      go_wp2_with (at_builtin; refine wpList_append_own _ rfl _ _ 24 rfl w1.heap.size 5 i1 (.int .u8 0) 1 1 Tryd.underlying24 HI1.out HZ0.out HZ1.out HZ2.out rfl (by decide) _ _ _ rfl (HROW.out.alloc _) ⟨wr.heap.size, 0, none⟩ 1 1 [.int .u8 (33 + (word[k].toNat : Int) % 94)] rfl rfl (World.news_of_block (World.alloc_heap_new _ _)) (fun u hu => by simp at hu; subst hu; rfl) (by unfold maxLen; omega) (by omega) (by have := HB.out.size; simp; omega) ?_; intro v' w3 hown hgrow _)
      have HEND : Hid (BcS word w1 v' (.int .i64 ((k : Int) + 1)) w3) := Lib.hid ⟨k + 1, h1, by omega, by rw [Int.natCast_succ], by
        rw [HSN.out, byteCells_app]
        have e : Lib.byteCells [sgn word[k]] = [.int .u8 (33 + (word[k].toNat : Int) % 94)] := by rw [HVAL.out]; rfl
        rw [e]; exact hown, fun h => absurd h (Nat.succ_ne_zero _), (HB.out.alloc HB.out.size _).grown hgrow (by have := HB.out.size; simp; omega) (own_base HROW.out)⟩
      clear hown hgrow
      go_wp2_with fail
      go_roundw
      case rel => first | exact HEND.out | ((repeat (apply Exists.intro)); exact ⟨HEND.out, rfl⟩)
      case measure => simp [intOf]; omega
    · have hkw : k ≤ 500 := hk5
      have HSGN := Lib.hid (wordL_sg (s := word) (k := k))
      have hTl := wordL_len hk
      obtain ⟨T, hT⟩ : ∃ T : ByteArray, (⟨(wordL word k).toArray⟩ : ByteArray) = T := ⟨_, rfl⟩
      have hTd : T.data.toList = wordL word k := by rw [← hT]
      have hTs : T.size = k := by rw [← size_len, hTd, hTl]
      obtain ⟨ob, cb, hu, hbl, hcv⟩ : ∃ ob cb, u5 = .slice ob k cb ∧ (∀ g, ob = some ⟨g, 0, none⟩ → g < wr.heap.size) ∧ ∀ W : World, (∀ g, ob = some ⟨g, 0, none⟩ → W.heap[g]? = wr.heap[g]?) → (convert 24 9 (.slice ob k cb)).run Tryd.prog W = .ok (.string T) W := by
        rcases Nat.eq_zero_or_pos k with h0 | h0
        · subst h0
          refine ⟨none, 0, HNIL.out rfl, fun g hg => (by cases hg), fun W _ => ?_⟩
          have : T = ⟨#[]⟩ := by rw [← hT]; rfl
          rw [this]
          rfl
        · obtain ⟨g, cap, hv, hcv⟩ := own_bytes HROW.out hTl h0
          refine ⟨_, cap, hv, fun g2 hg => ?_, fun W hW => ?_⟩
          · injection hg with hg
            have hg : g = g2 := congrArg Addr.block hg
            subst hg
            exact own_lt_blk HROW.out _ (by rw [hv]; rfl)
          · rw [← hT]; exact hcv W (hW g rfl)
      subst hu
      have HSG2 : Hid (∀ c ∈ T.data.toList, 33 ≤ (c.toNat : Int) ∧ (c.toNat : Int) ≤ 126) := Lib.hid (by rw [hTd]; exact HSGN.out)
      have HBL := Lib.hid hbl; have HCV := Lib.hid hcv; have HTS := Lib.hid hTs
      have HBw1 := Lib.hid (HB1.out.trans (HB.out.mono HB1.out.size))
      have HF := Lib.hid (pairs9_any o l c wr (by rw [HN0.out]; exact hl) (fun j p hp => by
        obtain ⟨b, i, rfl, c0, c1⟩ := HI.out j p hp
        have hlt : b < w.heap.size := World.block_lt_of_cell? w _ c0
        exact ⟨b, i, rfl, (HBw1.out.cell (p := ⟨b, i + j * 2, none⟩) hlt).trans c0, (HBw1.out.cell (p := ⟨b, i + j * 2 + 1, none⟩) hlt).trans c1⟩))
      rw [HN0.out] at HF
      clear hT hTd hTs hbl hcv hTl HSGN HNIL HROW
      rcases (show ¬ (k : Int) < word.size ∨ (k : Int) < word.size ∧ ¬ (k : Int) < 500 by omega) with hx | ⟨hx, hx5⟩
      all_goals
        go_wp2_with (go_at_call 5; refine HF.out.mono ?_)
        first | rintro e w2 va vb rfl ra rb hb2 | rintro e w2 ⟨va, vb, rfl, ra, rb, hb2⟩
        try rw [← List.length_take] at ra rb
        obtain ⟨oa, ca, rfl, pa⟩ := own_pairs ra
        have hsA : ∀ q ∈ l.take 60, SmP q := fun q hq => HSM.out q (List.mem_of_mem_take hq)
        have hlA : (l.take 60).length ≤ 60 := List.length_take_le _ _
        generalize l.take 60 = A at ra rb pa hsA hlA ⊢
        have HB2 := Lib.hid (HBw1.out.trans (hb2.mono HBw1.out.size)); have HPA := Lib.hid pa; have HSA := Lib.hid hsA
        have HBL2 : Hid (∀ g, ob = some ⟨g, 0, none⟩ → g < w2.heap.size) := Lib.hid (fun g hg => Nat.lt_of_lt_of_le (HBL.out g hg) hb2.size)
        have HCV2 : Hid (∀ W : World, (∀ g, ob = some ⟨g, 0, none⟩ → W.heap[g]? = w2.heap[g]?) → (convert 24 9 (.slice ob k cb)).run Tryd.prog W = .ok (.string T) W) := Lib.hid (fun W hW => HCV.out W (fun g hg => (hW g hg).trans (hb2.block g (HBL.out g hg))))
        obtain ⟨na, hna⟩ : ∃ n, A.length = n := ⟨_, rfl⟩
        have HNA := Lib.hid hna
        rw [hna] at hlA ⊢
        have H02 : Hid (GcS na w2 (.slice none 0 0) (.int .i64 0) w2) := Lib.hid ⟨0, [], Nat.zero_le _, Nat.le_refl _, rfl, fun q hq => (by cases hq), ⟨rfl, .inl ⟨rfl, rfl⟩⟩, Below.refl _ _⟩
        clear ra rb pa hsA hb2 hna HF HBL HCV
        go_wp2_with fail
        go_loopw [9, 10] (fun v i wr => GcS na w2 v i wr) (fun _ i _ => na - (intOf i).toNat)
        case atStart => exact H02.out
        case round =>
          obtain ⟨j, G, hj, hGj, rfl, hGd, hrow, hb⟩ := hrel
          have HROW := Lib.hid hrow; have HB2r := Lib.hid hb; have HGD := Lib.hid hGd
          clear hrow hb hGd H02
          by_cases hlt : j < na
          · obtain ⟨p, hp⟩ : ∃ p, A[j]? = some p := ⟨_, List.getElem?_eq_getElem (by rw [HNA.out]; exact hlt)⟩
            obtain ⟨p1, p2⟩ := p
            obtain ⟨ga, cura, rfl, hga, c0, c1⟩ := HPA.out.below HB2r.out j _ hp
            simp only at c0 c1
            have hji : (j : Int) < na := by omega
            have hsp := HSA.out _ (List.mem_of_getElem? hp)
            have hz1 : p1.size ≤ 140737488351232 := hsp.1
            have hz2 : p2.size ≤ 140737488351232 := hsp.2
            have HGA : Hid (∀ y : Nat, Calls Tryd.prog 6 #[.string p1] (wr.drewN y) fun e w' => e = .returned (.bool (goodB p1)) ∧ ∃ q, w' = wr.drewN q) := Lib.hid (fun y => (Good_any p1 (wr.drewN y) (by unfold maxLen; omega)).mono fun e w' ⟨a, b⟩ => ⟨a, y, b⟩)
            have HGB : Hid (∀ y : Nat, Calls Tryd.prog 6 #[.string p2] (wr.drewN y) fun e w' => e = .returned (.bool (goodB p2)) ∧ ∃ q, w' = wr.drewN q) := Lib.hid (fun y => (Good_any p2 (wr.drewN y) (by unfold maxLen; omega)).mono fun e w' ⟨a, b⟩ => ⟨a, y, b⟩)
            have HNO : Hid (∀ q, GcS na w2 u9 (.int .i64 ((j : Int) + 1)) (wr.drewN q)) := Lib.hid (fun q => ⟨j + 1, G, hlt, by omega, by rw [Int.natCast_succ], HGD.out, own_below HROW.out (below_drewN (Below.refl _ _) q), below_drewN HB2r.out q⟩)
            clear hp
            cases hg1 : goodB p1 with
            | false =>
              rw [hg1] at HGA
              clear hg1
              go_wp2_with fail
              go_quiet (first | (go_at_call 6; with_reducible exact HGA.out _) | (go_at_call 6; with_reducible exact HGB.out _))
              have HEND := Lib.hid (HNO.out nq)
              generalize wr.drewN nq = wd at HEND ⊢
              go_wp2_with fail
              go_roundw
              case rel => first | exact HEND.out | ((repeat (apply Exists.intro)); exact ⟨HEND.out, rfl⟩)
              case measure => first | (simp [intOf]; done) | (simp [intOf]; omega)
            | true =>
              cases hg2 : goodB p2 with
              | false =>
                rw [hg1] at HGA
                rw [hg2] at HGB
                clear hg1 hg2
                go_wp2_with fail
                go_quiet (first | (go_at_call 6; with_reducible exact HGA.out _) | (go_at_call 6; with_reducible exact HGB.out _))
                have HEND := Lib.hid (HNO.out nq)
                generalize wr.drewN nq = wd at HEND ⊢
                go_wp2_with fail
                go_roundw
                case rel => first | exact HEND.out | ((repeat (apply Exists.intro)); exact ⟨HEND.out, rfl⟩)
                case measure => first | (simp [intOf]; done) | (simp [intOf]; omega)
              | true =>
                by_cases hsz : p1.size + p2.size ≤ 64
                · have hszi : (p1.size : Int) + p2.size ≤ 64 := by omega
                  have HGA4 : Hid (∀ V : World, Calls Tryd.prog 6 #[.string p1] V fun e w' => e = .returned (.bool true) ∧ w' = V) := Lib.hid (fun V => by have := Good_any p1 V (by unfold maxLen; omega); rw [hg1] at this; exact this)
                  have HGB4 : Hid (∀ V : World, Calls Tryd.prog 6 #[.string p2] V fun e w' => e = .returned (.bool true) ∧ w' = V) := Lib.hid (fun V => by have := Good_any p2 V (by unfold maxLen; omega); rw [hg2] at this; exact this)
                  obtain ⟨z, hz⟩ : ∃ z, invM (G ++ [(p1, p2)]) = z := ⟨_, rfl⟩
                  have HIV : Hid (∀ (V : World) (o5 : Option Addr) (c5 : Nat), PrAt V 31 o5 (G ++ [(p1, p2)]) → Calls Tryd.prog 7 #[.slice o5 (G ++ [(p1, p2)]).length c5] V fun e w' => e = .returned (.int .i64 z) ∧ Below V.heap.size V w') := Lib.hid (fun V o5 c5 hp5 => by
                    have := Invalid_any o5 (G ++ [(p1, p2)]) c5 V (by simp; omega) hp5 (fun q hq => by
                      rw [List.mem_append] at hq
                      rcases hq with hq | hq
                      · have := (HGD.out q hq).2.2; unfold maxLen; omega
                      · rw [List.mem_singleton] at hq; subst hq; unfold maxLen; simp only; omega)
                    rw [hz] at this
                    exact this)
                  have HGN : Hid (∀ q ∈ G ++ [(p1, p2)], GdP q) := Lib.hid (fun q hq => by
                    rw [List.mem_append] at hq
                    rcases hq with hq | hq
                    · exact HGD.out q hq
                    · rw [List.mem_singleton] at hq; subst hq; exact ⟨hg1, hg2, hsz⟩)
                  have HSV : Hid (∀ V, Below wr.heap.size wr V → (fun w' : World => w'.cell? ⟨ga, j * 2, none⟩ = some (.string p1) ∧ w'.cell? ⟨ga, j * 2 + 1, none⟩ = some (.string p2)) V) := Lib.hid (fun V hV => ⟨(World.cell?_of_block (a := ⟨ga, j * 2, none⟩) (hV.block ga (lt_of_some hga))).trans c0, (World.cell?_of_block (a := ⟨ga, j * 2 + 1, none⟩) (hV.block ga (lt_of_some hga))).trans c1⟩)
                  have HS1 : Hid ((fun w' : World => w'.cell? ⟨ga, j * 2, none⟩ = some (.string p1) ∧ w'.cell? ⟨ga, j * 2 + 1, none⟩ = some (.string p2)) wr.drew) := Lib.hid (HSV.out _ (Below.refl _ _).drew)
                  have HWR : Hid (IntKind.i64.wrap ((p1.size : Int) + p2.size) = (p1.size : Int) + p2.size) := Lib.hid (IntWalk.i64_in _ (by omega))
                  have HDC : Hid (decide ((p1.size : Int) + p2.size ≤ 64) = true) := Lib.hid (decide_eq_true hszi)
                  clear hg1 hg2 hz HGA HGB
                  go_wp2_with fail
                  refine wp_region_held_drew (S := (fun w' : World => w'.cell? ⟨ga, j * 2, none⟩ = some (.string p1) ∧ w'.cell? ⟨ga, j * 2 + 1, none⟩ = some (.string p2))) (by kernel_rfl) HS1.out (fun hHeld => ?_)
                  refine wpAnyH_take (i := 0) (v := ?_) rfl (by kernel_rfl) (by kernel_rfl) (by kernel_rfl) (fun _ _ _ h => h) (Or.inl ⟨by kernel_rfl, ?_⟩) (HS1.out) ?_
                  rotate_left
                  · intro wq hSw; (try dsimp only at hSw); go_simp; (try simp only [HWR.out]); (try simp only [HDC.out]); try with_reducible rfl
                  try simp only [Act.put, List.setIfInBounds_toArray, List.set_cons_zero, List.set_cons_succ]
                  refine wpAnyH_take (i := 1) (v := ?_) rfl (by kernel_rfl) (by kernel_rfl) (by kernel_rfl) (fun _ _ _ h => h) (Or.inl ⟨by kernel_rfl, ?_⟩) (HS1.out) ?_
                  rotate_left
                  · intro wq hSw; (try dsimp only at hSw); go_simp; (try simp only [HWR.out]); (try simp only [HDC.out]); try with_reducible rfl
                  try simp only [Act.put, List.setIfInBounds_toArray, List.set_cons_zero, List.set_cons_succ]
                  refine wpAnyH_take (i := 2) (v := ?_) rfl (by kernel_rfl) (by kernel_rfl) (by kernel_rfl) (fun _ _ _ h => h) (Or.inl ⟨by kernel_rfl, ?_⟩) (HS1.out) ?_
                  rotate_left
                  · intro wq hSw; (try dsimp only at hSw); go_simp; (try simp only [HWR.out]); (try simp only [HDC.out]); try with_reducible rfl
                  try simp only [Act.put, List.setIfInBounds_toArray, List.set_cons_zero, List.set_cons_succ]
                  refine wpAnyH_take (i := 3) (v := ?_) rfl (by kernel_rfl) (by kernel_rfl) (by kernel_rfl) (fun _ _ _ h => h) (Or.inl ⟨by kernel_rfl, ?_⟩) (HS1.out) ?_
                  rotate_left
                  · intro wq hSw; (try dsimp only at hSw); go_simp; (try simp only [HWR.out]); (try simp only [HDC.out]); try with_reducible rfl
                  try simp only [Act.put, List.setIfInBounds_toArray, List.set_cons_zero, List.set_cons_succ]
                  refine wpAnyH_take (i := 4) (v := ?_) rfl (by kernel_rfl) (by kernel_rfl) (by kernel_rfl) (fun _ _ _ h => h) (Or.inl ⟨by kernel_rfl, ?_⟩) (HS1.out) ?_
                  rotate_left
                  · intro wq hSw; (try dsimp only at hSw); go_simp; (try simp only [HWR.out]); (try simp only [HDC.out]); try with_reducible rfl
                  try simp only [Act.put, List.setIfInBounds_toArray, List.set_cons_zero, List.set_cons_succ]
                  refine wpAnyH_ready (rs := [5]) (by kernel_rfl) (by simp) ?_
                  refine AllReadyH.cons (o := _) rfl (fun K hK => ?_) AllReadyH.nil
                  go_simp
                  go_at_call 6
                  refine (HGA4.out _).mono ?_
                  rintro e w5 ⟨rfl, hw5⟩
                  subst hw5
                  refine hK.out _ _ HS1.out (fun _ => ?_)
                  try simp only [Act.put, List.setIfInBounds_toArray, List.set_cons_zero, List.set_cons_succ]
                  refine wpAnyH_take (i := 6) (v := ?_) rfl (by kernel_rfl) (by kernel_rfl) (by kernel_rfl) (fun _ _ _ h => h) (Or.inl ⟨by kernel_rfl, ?_⟩) (HS1.out) ?_
                  rotate_left
                  · intro wq hSw; (try dsimp only at hSw); go_simp; (try simp only [HWR.out]); (try simp only [HDC.out]); try with_reducible rfl
                  try simp only [Act.put, List.setIfInBounds_toArray, List.set_cons_zero, List.set_cons_succ]
                  refine wpAnyH_take (i := 7) (v := ?_) rfl (by kernel_rfl) (by kernel_rfl) (by kernel_rfl) (fun _ _ _ h => h) (Or.inl ⟨by kernel_rfl, ?_⟩) (HS1.out) ?_
                  rotate_left
                  · intro wq hSw; (try dsimp only at hSw); go_simp; (try simp only [HWR.out]); (try simp only [HDC.out]); try with_reducible rfl
                  try simp only [Act.put, List.setIfInBounds_toArray, List.set_cons_zero, List.set_cons_succ]
                  refine wpAnyH_take (i := 8) (v := ?_) rfl (by kernel_rfl) (by kernel_rfl) (by kernel_rfl) (fun _ _ _ h => h) (Or.inl ⟨by kernel_rfl, ?_⟩) (HS1.out) ?_
                  rotate_left
                  · intro wq hSw; (try dsimp only at hSw); go_simp; (try simp only [HWR.out]); (try simp only [HDC.out]); try with_reducible rfl
                  try simp only [Act.put, List.setIfInBounds_toArray, List.set_cons_zero, List.set_cons_succ]
                  refine wpAnyH_take (i := 9) (v := ?_) rfl (by kernel_rfl) (by kernel_rfl) (by kernel_rfl) (fun _ _ _ h => h) (Or.inl ⟨by kernel_rfl, ?_⟩) (HS1.out) ?_
                  rotate_left
                  · intro wq hSw; (try dsimp only at hSw); go_simp; (try simp only [HWR.out]); (try simp only [HDC.out]); try with_reducible rfl
                  try simp only [Act.put, List.setIfInBounds_toArray, List.set_cons_zero, List.set_cons_succ]
                  refine wpAnyH_take (i := 10) (v := ?_) rfl (by kernel_rfl) (by kernel_rfl) (by kernel_rfl) (fun _ _ _ h => h) (Or.inl ⟨by kernel_rfl, ?_⟩) (HS1.out) ?_
                  rotate_left
                  · intro wq hSw; (try dsimp only at hSw); go_simp; (try simp only [HWR.out]); (try simp only [HDC.out]); try with_reducible rfl
                  try simp only [Act.put, List.setIfInBounds_toArray, List.set_cons_zero, List.set_cons_succ]
                  refine wpAnyH_take (i := 11) (v := ?_) rfl (by kernel_rfl) (by kernel_rfl) (by kernel_rfl) (fun _ _ _ h => h) (Or.inl ⟨by kernel_rfl, ?_⟩) (HS1.out) ?_
                  rotate_left
                  · intro wq hSw; (try dsimp only at hSw); go_simp; (try simp only [HWR.out]); (try simp only [HDC.out]); try with_reducible rfl
                  try simp only [Act.put, List.setIfInBounds_toArray, List.set_cons_zero, List.set_cons_succ]
                  refine wpAnyH_ready (rs := [12]) (by kernel_rfl) (by simp) ?_
                  refine AllReadyH.cons (o := _) rfl (fun K hK => ?_) AllReadyH.nil
                  go_simp
                  go_at_call 6
                  refine (HGB4.out _).mono ?_
                  rintro e w5 ⟨rfl, hw5⟩
                  subst hw5
                  refine hK.out _ _ HS1.out (fun _ => ?_)
                  try simp only [Act.put, List.setIfInBounds_toArray, List.set_cons_zero, List.set_cons_succ]
                  refine wpAnyH_take (i := 13) (v := ?_) rfl (by kernel_rfl) (by kernel_rfl) (by kernel_rfl) (fun _ _ _ h => h) (Or.inl ⟨by kernel_rfl, ?_⟩) (HS1.out) ?_
                  rotate_left
                  · intro wq hSw; (try dsimp only at hSw); go_simp; (try simp only [HWR.out]); (try simp only [HDC.out]); try with_reducible rfl
                  try simp only [Act.put, List.setIfInBounds_toArray, List.set_cons_zero, List.set_cons_succ]
                  refine wpAnyH_take (i := 14) (v := ?_) rfl (by kernel_rfl) (by kernel_rfl) (by kernel_rfl) (fun _ _ _ h => h) (Or.inl ⟨by kernel_rfl, ?_⟩) (HS1.out) ?_
                  rotate_left
                  · intro wq hSw; (try dsimp only at hSw); go_simp; (try simp only [HWR.out]); (try simp only [HDC.out]); try with_reducible rfl
                  try simp only [Act.put, List.setIfInBounds_toArray, List.set_cons_zero, List.set_cons_succ]
                  refine wpAnyH_take (i := 15) (v := ?_) rfl (by kernel_rfl) (by kernel_rfl) (by kernel_rfl) (fun _ _ _ h => h) (Or.inl ⟨by kernel_rfl, ?_⟩) (HS1.out) ?_
                  rotate_left
                  · intro wq hSw; (try dsimp only at hSw); go_simp; (try simp only [HWR.out]); (try simp only [HDC.out]); try with_reducible rfl
                  try simp only [Act.put, List.setIfInBounds_toArray, List.set_cons_zero, List.set_cons_succ]
                  refine wpAnyH_take (i := 16) (v := ?_) rfl (by kernel_rfl) (by kernel_rfl) (by kernel_rfl) (fun _ _ _ h => h) (Or.inl ⟨by kernel_rfl, ?_⟩) (HS1.out) ?_
                  rotate_left
                  · intro wq hSw; (try dsimp only at hSw); go_simp; (try simp only [HWR.out]); (try simp only [HDC.out]); try with_reducible rfl
                  try simp only [Act.put, List.setIfInBounds_toArray, List.set_cons_zero, List.set_cons_succ]
                  refine wpAnyH_take (i := 17) (v := ?_) rfl (by kernel_rfl) (by kernel_rfl) (by kernel_rfl) (fun _ _ _ h => h) (Or.inl ⟨by kernel_rfl, ?_⟩) (HS1.out) ?_
                  rotate_left
                  · intro wq hSw; (try dsimp only at hSw); go_simp; (try simp only [HWR.out]); (try simp only [HDC.out]); try with_reducible rfl
                  try simp only [Act.put, List.setIfInBounds_toArray, List.set_cons_zero, List.set_cons_succ]
                  refine wpAnyH_take (i := 18) (v := ?_) rfl (by kernel_rfl) (by kernel_rfl) (by kernel_rfl) (fun _ _ _ h => h) (Or.inl ⟨by kernel_rfl, ?_⟩) (HS1.out) ?_
                  rotate_left
                  · intro wq hSw; (try dsimp only at hSw); go_simp; (try simp only [HWR.out]); (try simp only [HDC.out]); try with_reducible rfl
                  try simp only [Act.put, List.setIfInBounds_toArray, List.set_cons_zero, List.set_cons_succ]
                  refine wpAnyH_take (i := 19) (v := ?_) rfl (by kernel_rfl) (by kernel_rfl) (by kernel_rfl) (fun _ _ _ h => h) (Or.inl ⟨by kernel_rfl, ?_⟩) (HS1.out) ?_
                  rotate_left
                  · intro wq hSw; (try dsimp only at hSw); go_simp; (try simp only [HWR.out]); (try simp only [HDC.out]); try with_reducible rfl
                  try simp only [Act.put, List.setIfInBounds_toArray, List.set_cons_zero, List.set_cons_succ]
                  refine wpAnyH_take (i := 20) (v := ?_) rfl (by kernel_rfl) (by kernel_rfl) (by kernel_rfl) (fun _ _ _ h => h) (Or.inl ⟨by kernel_rfl, ?_⟩) (HS1.out) ?_
                  rotate_left
                  · intro wq hSw; (try dsimp only at hSw); go_simp; (try simp only [HWR.out]); (try simp only [HDC.out]); try with_reducible rfl
                  try simp only [Act.put, List.setIfInBounds_toArray, List.set_cons_zero, List.set_cons_succ]
                  refine wpAnyH_take (i := 21) (v := ?_) rfl (by kernel_rfl) (by kernel_rfl) (by kernel_rfl) (fun _ _ _ h => h) (Or.inl ⟨by kernel_rfl, ?_⟩) (HS1.out) ?_
                  rotate_left
                  · intro wq hSw; (try dsimp only at hSw); go_simp; (try simp only [HWR.out]); (try simp only [HDC.out]); try with_reducible rfl
                  try simp only [Act.put, List.setIfInBounds_toArray, List.set_cons_zero, List.set_cons_succ]
                  refine wpAnyH_take (i := 22) (v := ?_) rfl (by kernel_rfl) (by kernel_rfl) (by kernel_rfl) (fun _ _ _ h => h) (Or.inl ⟨by kernel_rfl, ?_⟩) (HS1.out) ?_
                  rotate_left
                  · intro wq hSw; (try dsimp only at hSw); go_simp; (try simp only [HWR.out]); (try simp only [HDC.out]); try with_reducible rfl
                  try simp only [Act.put, List.setIfInBounds_toArray, List.set_cons_zero, List.set_cons_succ]
                  refine wpAnyH_take (i := 23) (v := ?_) rfl (by kernel_rfl) (by kernel_rfl) (by kernel_rfl) (fun _ _ _ h => h) (Or.inl ⟨by kernel_rfl, ?_⟩) (HS1.out) ?_
                  rotate_left
                  · intro wq hSw; (try dsimp only at hSw); go_simp; (try simp only [HWR.out]); (try simp only [HDC.out]); try with_reducible rfl
                  try simp only [Act.put, List.setIfInBounds_toArray, List.set_cons_zero, List.set_cons_succ]
                  refine wpAnyH_take (i := 24) (v := ?_) rfl (by kernel_rfl) (by kernel_rfl) (by kernel_rfl) (fun _ _ _ h => h) (Or.inl ⟨by kernel_rfl, ?_⟩) (HS1.out) ?_
                  rotate_left
                  · intro wq hSw; (try dsimp only at hSw); go_simp; (try simp only [HWR.out]); (try simp only [HDC.out]); try with_reducible rfl
                  try simp only [Act.put, List.setIfInBounds_toArray, List.set_cons_zero, List.set_cons_succ]
                  refine wpAnyH_take (i := 25) (v := ?_) rfl (by kernel_rfl) (by kernel_rfl) (by kernel_rfl) (fun _ _ _ h => h) (Or.inl ⟨by kernel_rfl, ?_⟩) (HS1.out) ?_
                  rotate_left
                  · intro wq hSw; (try dsimp only at hSw); go_simp; (try simp only [HWR.out]); (try simp only [HDC.out]); try with_reducible rfl
                  try simp only [Act.put, List.setIfInBounds_toArray, List.set_cons_zero, List.set_cons_succ]
                  refine wpAnyH_take (i := 26) (v := ?_) rfl (by kernel_rfl) (by kernel_rfl) (by kernel_rfl) (fun _ _ _ h => h) (Or.inl ⟨by kernel_rfl, ?_⟩) (HS1.out) ?_
                  rotate_left
                  · intro wq hSw; (try dsimp only at hSw); go_simp; (try simp only [HWR.out]); (try simp only [HDC.out]); try with_reducible rfl
                  try simp only [Act.put, List.setIfInBounds_toArray, List.set_cons_zero, List.set_cons_succ]
                  refine wpAnyH_take (i := 27) (v := ?_) rfl (by kernel_rfl) (by kernel_rfl) (by kernel_rfl) (fun _ _ _ h => h) (Or.inl ⟨by kernel_rfl, ?_⟩) (HS1.out) ?_
                  rotate_left
                  · intro wq hSw; (try dsimp only at hSw); go_simp; (try simp only [HWR.out]); (try simp only [HDC.out]); try with_reducible rfl
                  try simp only [Act.put, List.setIfInBounds_toArray, List.set_cons_zero, List.set_cons_succ]
                  refine wpAnyH_take (i := 28) (v := ?_) rfl (by kernel_rfl) (by kernel_rfl) (by kernel_rfl) (fun _ _ _ h => h) (Or.inl ⟨by kernel_rfl, ?_⟩) (HS1.out) ?_
                  rotate_left
                  · intro wq hSw; (try dsimp only at hSw); go_simp; (try simp only [HWR.out]); (try simp only [HDC.out]); try with_reducible rfl
                  try simp only [Act.put, List.setIfInBounds_toArray, List.set_cons_zero, List.set_cons_succ]
                  refine wpAnyH_take (i := 29) (v := ?_) rfl (by kernel_rfl) (by kernel_rfl) (by kernel_rfl) (fun _ _ _ h => h) (Or.inl ⟨by kernel_rfl, ?_⟩) (HS1.out) ?_
                  rotate_left
                  · intro wq hSw; (try dsimp only at hSw); go_simp; (try simp only [HWR.out]); (try simp only [HDC.out]); try with_reducible rfl
                  try simp only [Act.put, List.setIfInBounds_toArray, List.set_cons_zero, List.set_cons_succ]
                  refine wpAnyH_take (i := 30) (v := ?_) rfl (by kernel_rfl) (by kernel_rfl) (by kernel_rfl) (fun _ _ _ h => h) (Or.inl ⟨by kernel_rfl, ?_⟩) (HS1.out) ?_
                  rotate_left
                  · intro wq hSw; (try dsimp only at hSw); go_simp; (try simp only [HWR.out]); (try simp only [HDC.out]); try with_reducible rfl
                  try simp only [Act.put, List.setIfInBounds_toArray, List.set_cons_zero, List.set_cons_succ]
                  refine wpAnyH_take (i := 32) (v := ?_) rfl (by kernel_rfl) (by kernel_rfl) (by kernel_rfl) (fun _ _ _ h => h) (Or.inl ⟨by kernel_rfl, ?_⟩) (HS1.out) ?_
                  rotate_left
                  · intro wq hSw; (try dsimp only at hSw); go_simp; (try simp only [HWR.out]); (try simp only [HDC.out]); try with_reducible rfl
                  try simp only [Act.put, List.setIfInBounds_toArray, List.set_cons_zero, List.set_cons_succ]
                  refine wpAnyH_take (i := 34) (v := ?_) rfl (by kernel_rfl) (by kernel_rfl) (by kernel_rfl) (fun _ _ _ h => h) (Or.inl ⟨by kernel_rfl, ?_⟩) (HS1.out) ?_
                  rotate_left
                  · intro wq hSw; (try dsimp only at hSw); go_simp; (try simp only [HWR.out]); (try simp only [HDC.out]); try with_reducible rfl
                  try simp only [Act.put, List.setIfInBounds_toArray, List.set_cons_zero, List.set_cons_succ]
                  refine wpAnyH_take (i := 35) (v := ?_) rfl (by kernel_rfl) (by kernel_rfl) (by kernel_rfl) (fun _ _ _ h => h) (Or.inl ⟨by kernel_rfl, ?_⟩) (HS1.out) ?_
                  rotate_left
                  · intro wq hSw; (try dsimp only at hSw); go_simp; (try simp only [HWR.out]); (try simp only [HDC.out]); try with_reducible rfl
                  try simp only [Act.put, List.setIfInBounds_toArray, List.set_cons_zero, List.set_cons_succ]
                  refine wpAnyH_take (i := 36) (v := ?_) rfl (by kernel_rfl) (by kernel_rfl) (by kernel_rfl) (fun _ _ _ h => h) (Or.inl ⟨by kernel_rfl, ?_⟩) (HS1.out) ?_
                  rotate_left
                  · intro wq hSw; (try dsimp only at hSw); go_simp; (try simp only [HWR.out]); (try simp only [HDC.out]); try with_reducible rfl
                  try simp only [Act.put, List.setIfInBounds_toArray, List.set_cons_zero, List.set_cons_succ]
                  refine wpAnyH_take (i := 37) (v := ?_) rfl (by kernel_rfl) (by kernel_rfl) (by kernel_rfl) (fun _ _ _ h => h) (Or.inl ⟨by kernel_rfl, ?_⟩) (HS1.out) ?_
                  rotate_left
                  · intro wq hSw; (try dsimp only at hSw); go_simp; (try simp only [HWR.out]); (try simp only [HDC.out]); try with_reducible rfl
                  try simp only [Act.put, List.setIfInBounds_toArray, List.set_cons_zero, List.set_cons_succ]
                  refine wpAnyH_ready (rs := [31, 38]) (by kernel_rfl) (by simp) ?_
                  refine ready_yes (o := _) rfl (by kernel_rfl) (fun K hK => ?_) (ready_yes (o := _) rfl (by kernel_rfl) (fun K hK => ?_) AllReadyH.nil)
                  · go_simp
                    have hb1 : Below wr.heap.size wr ((wr.alloc (.cells #[] 31)).drew) := ((Below.refl _ _).alloc (Nat.le_refl _) _).drew
                    have L1 := (show ((wr.alloc (.cells #[] 31)).drew).ownsRow wr.heap.size 31 2 (.slice (some ⟨wr.heap.size, 0, none⟩) 0 0) ([] : List PairB).length (flatP []) from lit_none wr.drew)
                    have hG1 := own_below HROW.out hb1
                    refine hK.out _ _ (HSV.out _ hb1) (fun _ => ?_)
                    try simp only [Act.put, List.setIfInBounds_toArray, List.set_cons_zero, List.set_cons_succ]
                    have hN1 : wr.heap.size < ((wr.alloc (.cells #[] 31)).drew).heap.size := by simp
                    have hN0 : wr.heap.size ≤ wr.heap.size := Nat.le_refl _
                    have hGl : ∀ q, u9.ownBlock = some q → q < wr.heap.size := fun q hq => own_lt_blk HROW.out q hq
                    generalize (wr.alloc (.cells #[] 31)).drew = V1 at hb1 L1 hG1 hN1 ⊢
                    refine wpAnyH_ready (rs := [33, 38]) (by kernel_rfl) (by simp) ?_
                    refine ready_yes (o := _) rfl (by kernel_rfl) (fun K hK => ?_) (ready_yes (o := _) rfl (by kernel_rfl) (fun K hK => ?_) AllReadyH.nil)
                    · refine wp_app_pairs (.tmp 78) (.tmp 79) rfl _ _ _ u9 [] G (by simp [Act.eval, Act.put]) L1 (by simp [Act.eval, Act.put]) hG1 (by simp; omega) (Nat.le_of_lt hN1) ?_
                      intro v3 w3 hown3 hg3
                      rw [List.nil_append] at hown3
                      have hb3 : Below wr.heap.size wr w3 := hb1.grown hg3 hb1.size (fun q hq => by injection hq with hq; subst hq; first | exact Nat.le_refl _ | (simp; omega))
                      have hBa : wr.heap.size ≤ wr.heap.size := hN0
                      refine hK.out _ _ (HSV.out _ hb3) (fun _ => ?_)
                      try simp only [Act.put, List.setIfInBounds_toArray, List.set_cons_zero, List.set_cons_succ]
                      refine wpAnyH_ready (rs := [38]) (by kernel_rfl) (by simp) ?_
                      refine ready_yes (o := _) rfl (by kernel_rfl) (fun K hK => ?_) AllReadyH.nil
                      go_simp
                      have hb4 : Below wr.heap.size wr (w3.alloc (.cells #[.string p1, .string p2] 31)) := hb3.alloc hb3.size _
                      have O4 := lit_one w3 (p1, p2)
                      have A4 := hown3.alloc (.cells #[.string p1, .string p2] 31)
                      have hN4 : wr.heap.size ≤ (w3.alloc (.cells #[.string p1, .string p2] 31)).heap.size := Nat.le_trans (Nat.le_of_lt hN1) (Nat.le_trans hg3.size (by simp))
                      simp only at O4
                      refine hK.out _ _ (HSV.out _ hb4) (fun _ => ?_)
                      try simp only [Act.put, List.setIfInBounds_toArray, List.set_cons_zero, List.set_cons_succ]
                      generalize w3.alloc (.cells #[.string p1, .string p2] 31) = V4 at hb4 O4 A4 hN4 ⊢
                      generalize w3.heap.size = N4 at O4 ⊢
                      clear hown3 hg3
                      refine wpAnyH_ready (rs := [39]) (by kernel_rfl) (by simp) ?_
                      refine ready_yes (o := _) rfl (by kernel_rfl) (fun K hK => ?_) AllReadyH.nil
                      refine wp_app_pairs (.tmp 80) (.tmp 85) rfl _ _ _ _ G [(p1, p2)] (by simp [Act.eval, Act.put]) A4 (by simp [Act.eval, Act.put]) O4 (by simp; omega) (hN4) ?_
                      intro v5 w5 hown5 hg5
                      have hb5 : Below wr.heap.size wr w5 := hb4.grown hg5 hb4.size (fun q hq => Nat.le_trans hBa (own_base A4 q hq))
                      refine hK.out _ _ (HSV.out _ hb5) (fun _ => ?_)
                      try simp only [Act.put, List.setIfInBounds_toArray, List.set_cons_zero, List.set_cons_succ]
                      obtain ⟨o5, c5, hv5, hp5⟩ := own_pairs hown5
                      subst hv5
                      have HIV5 := Lib.hid (HIV.out w5 o5 c5 hp5)
                      simp only [List.length_append, List.length_cons, List.length_nil, Nat.zero_add] at HIV5
                      clear hown5 hg5 hp5
                      refine wpAnyH_ready (rs := [40]) (by kernel_rfl) (by simp) ?_
                      refine ready_yes (o := _) rfl (by kernel_rfl) (fun K hK => ?_) AllReadyH.nil
                      go_simp
                      go_at_call 7
                      refine HIV5.out.mono ?_
                      rintro e w6 ⟨rfl, hb6⟩
                      have hbw6 : Below wr.heap.size wr w6 := hb5.trans (hb6.mono hb5.size)
                      refine hK.out _ _ (HSV.out _ hbw6) (fun _ => ?_)
                      try simp only [Act.put, List.setIfInBounds_toArray, List.set_cons_zero, List.set_cons_succ]
                      refine wpAnyH_ready (rs := [41]) (by kernel_rfl) (by simp) ?_
                      refine ready_yes (o := _) rfl (by kernel_rfl) (fun K hK => ?_) AllReadyH.nil
                      go_simp
                      refine hK.out _ _ (HSV.out _ hbw6) (fun _ => ?_)
                      try simp only [Act.put, List.setIfInBounds_toArray, List.set_cons_zero, List.set_cons_succ]
                      refine wpAnyH_ready (rs := [42]) (by kernel_rfl) (by simp) ?_
                      refine ready_yes (o := _) rfl (by kernel_rfl) (fun K hK => ?_) AllReadyH.nil
                      go_simp
                      refine hK.out _ _ (HSV.out _ hbw6) (fun _ => ?_)
                      try simp only [Act.put, List.setIfInBounds_toArray, List.set_cons_zero, List.set_cons_succ]
                      refine wpAnyH_done (by kernel_rfl) ?_ _
                      have HBW6 := Lib.hid hbw6
                      clear hb6 hbw6 hb5 HIV5
                      have HNO6 : Hid (GcS na w2 u9 (.int .i64 ((j : Int) + 1)) w6) := Lib.hid ⟨j + 1, G, hlt, by omega, by rw [Int.natCast_succ], HGD.out, own_below HROW.out HBW6.out, HB2r.out.trans (HBW6.out.mono HB2r.out.size)⟩
                      have c0' := (HSV.out w6 HBW6.out).1
                      have c1' := (HSV.out w6 HBW6.out).2
                      clear HS1 HSV HIV HGA4 HGB4 c0 c1 hHeld
                      by_cases hz1 : z = -1
                      · subst hz1
                        have HR6 := Lib.hid (own_below HROW.out HBW6.out)
                        have HB26 := Lib.hid (HB2r.out.trans (HBW6.out.mono HB2r.out.size))
                        go_wp2_with (at_builtin; refine wpList_app_pairs rfl _ _ rfl w2.heap.size w6.heap.size u9 _ G [(p1, p2)] rfl (HR6.out.alloc _) rfl (lit_one w6 (p1, p2)) (by simp; omega) (Nat.le_trans HB26.out.size (by simp)) ?_; intro v7 w7 hown7 hg7)
                        have HEND : Hid (GcS na w2 v7 (.int .i64 ((j : Int) + 1)) w7) := Lib.hid ⟨j + 1, G ++ [(p1, p2)], hlt, by rw [List.length_append]; simp; omega, by rw [Int.natCast_succ], HGN.out, hown7, (HB26.out.alloc HB26.out.size _).grown hg7 (Nat.le_trans HB26.out.size (by simp)) (own_base HR6.out)⟩
                        clear hown7 hg7
                        go_wp2_with fail
                        go_roundw
                        case rel => first | exact HEND.out | ((repeat (apply Exists.intro)); exact ⟨HEND.out, rfl⟩)
                        case measure => first | (simp [intOf]; done) | (simp [intOf]; omega)
                      · go_wp2_with fail
                        go_roundw
                        case rel => first | exact HNO6.out | ((repeat (apply Exists.intro)); exact ⟨HNO6.out, rfl⟩)
                        case measure => first | (simp [intOf]; done) | (simp [intOf]; omega)
                    · go_simp
                      have hb2 : Below wr.heap.size wr (V1.alloc (.cells #[.string p1, .string p2] 31)) := hb1.alloc hb1.size _
                      have O2 := lit_one V1 (p1, p2)
                      have L2 := L1.alloc (.cells #[.string p1, .string p2] 31)
                      have hG2 := hG1.alloc (.cells #[.string p1, .string p2] 31)
                      have hN2 : wr.heap.size ≤ (V1.alloc (.cells #[.string p1, .string p2] 31)).heap.size := Nat.le_trans (Nat.le_of_lt hN1) (by simp)
                      have hne : wr.heap.size ≠ V1.heap.size := Nat.ne_of_lt hN1
                      simp only at O2
                      refine hK.out _ _ (HSV.out _ hb2) (fun _ => ?_)
                      try simp only [Act.put, List.setIfInBounds_toArray, List.set_cons_zero, List.set_cons_succ]
                      generalize V1.alloc (.cells #[.string p1, .string p2] 31) = V2 at hb2 O2 L2 hG2 hN2 ⊢
                      generalize V1.heap.size = N2 at O2 hne hN1 ⊢
                      refine wpAnyH_ready (rs := [33]) (by kernel_rfl) (by simp) ?_
                      refine ready_yes (o := _) rfl (by kernel_rfl) (fun K hK => ?_) AllReadyH.nil
                      refine wp_app_pairs (.tmp 78) (.tmp 79) rfl _ _ _ u9 [] G (by simp [Act.eval, Act.put]) L2 (by simp [Act.eval, Act.put]) hG2 (by simp; omega) (hN2) ?_
                      intro v3 w3 hown3 hg3
                      rw [List.nil_append] at hown3
                      have hb3 : Below wr.heap.size wr w3 := hb2.grown hg3 hb2.size (fun q hq => by injection hq with hq; subst hq; first | exact Nat.le_refl _ | (simp; omega))
                      have hBa : wr.heap.size ≤ wr.heap.size := hN0
                      have O3 := O2.kept hg3 (.inr (fun e => hne (by injection e with e; exact e.symm)))
                      have hN3 : wr.heap.size ≤ w3.heap.size := Nat.le_trans hN2 hg3.size
                      refine hK.out _ _ (HSV.out _ hb3) (fun _ => ?_)
                      try simp only [Act.put, List.setIfInBounds_toArray, List.set_cons_zero, List.set_cons_succ]
                      clear hg3
                      refine wpAnyH_ready (rs := [39]) (by kernel_rfl) (by simp) ?_
                      refine ready_yes (o := _) rfl (by kernel_rfl) (fun K hK => ?_) AllReadyH.nil
                      refine wp_app_pairs (.tmp 80) (.tmp 85) rfl _ _ _ _ G [(p1, p2)] (by simp [Act.eval, Act.put]) hown3 (by simp [Act.eval, Act.put]) O3 (by simp; omega) (hN3) ?_
                      intro v5 w5 hown5 hg5
                      have hb5 : Below wr.heap.size wr w5 := hb3.grown hg5 hb3.size (fun q hq => Nat.le_trans hBa (own_base hown3 q hq))
                      refine hK.out _ _ (HSV.out _ hb5) (fun _ => ?_)
                      try simp only [Act.put, List.setIfInBounds_toArray, List.set_cons_zero, List.set_cons_succ]
                      obtain ⟨o5, c5, hv5, hp5⟩ := own_pairs hown5
                      subst hv5
                      have HIV5 := Lib.hid (HIV.out w5 o5 c5 hp5)
                      simp only [List.length_append, List.length_cons, List.length_nil, Nat.zero_add] at HIV5
                      clear hown5 hg5 hp5
                      refine wpAnyH_ready (rs := [40]) (by kernel_rfl) (by simp) ?_
                      refine ready_yes (o := _) rfl (by kernel_rfl) (fun K hK => ?_) AllReadyH.nil
                      go_simp
                      go_at_call 7
                      refine HIV5.out.mono ?_
                      rintro e w6 ⟨rfl, hb6⟩
                      have hbw6 : Below wr.heap.size wr w6 := hb5.trans (hb6.mono hb5.size)
                      refine hK.out _ _ (HSV.out _ hbw6) (fun _ => ?_)
                      try simp only [Act.put, List.setIfInBounds_toArray, List.set_cons_zero, List.set_cons_succ]
                      refine wpAnyH_ready (rs := [41]) (by kernel_rfl) (by simp) ?_
                      refine ready_yes (o := _) rfl (by kernel_rfl) (fun K hK => ?_) AllReadyH.nil
                      go_simp
                      refine hK.out _ _ (HSV.out _ hbw6) (fun _ => ?_)
                      try simp only [Act.put, List.setIfInBounds_toArray, List.set_cons_zero, List.set_cons_succ]
                      refine wpAnyH_ready (rs := [42]) (by kernel_rfl) (by simp) ?_
                      refine ready_yes (o := _) rfl (by kernel_rfl) (fun K hK => ?_) AllReadyH.nil
                      go_simp
                      refine hK.out _ _ (HSV.out _ hbw6) (fun _ => ?_)
                      try simp only [Act.put, List.setIfInBounds_toArray, List.set_cons_zero, List.set_cons_succ]
                      refine wpAnyH_done (by kernel_rfl) ?_ _
                      have HBW6 := Lib.hid hbw6
                      clear hb6 hbw6 hb5 HIV5
                      have HNO6 : Hid (GcS na w2 u9 (.int .i64 ((j : Int) + 1)) w6) := Lib.hid ⟨j + 1, G, hlt, by omega, by rw [Int.natCast_succ], HGD.out, own_below HROW.out HBW6.out, HB2r.out.trans (HBW6.out.mono HB2r.out.size)⟩
                      have c0' := (HSV.out w6 HBW6.out).1
                      have c1' := (HSV.out w6 HBW6.out).2
                      clear HS1 HSV HIV HGA4 HGB4 c0 c1 hHeld
                      by_cases hz1 : z = -1
                      · subst hz1
                        have HR6 := Lib.hid (own_below HROW.out HBW6.out)
                        have HB26 := Lib.hid (HB2r.out.trans (HBW6.out.mono HB2r.out.size))
                        go_wp2_with (at_builtin; refine wpList_app_pairs rfl _ _ rfl w2.heap.size w6.heap.size u9 _ G [(p1, p2)] rfl (HR6.out.alloc _) rfl (lit_one w6 (p1, p2)) (by simp; omega) (Nat.le_trans HB26.out.size (by simp)) ?_; intro v7 w7 hown7 hg7)
                        have HEND : Hid (GcS na w2 v7 (.int .i64 ((j : Int) + 1)) w7) := Lib.hid ⟨j + 1, G ++ [(p1, p2)], hlt, by rw [List.length_append]; simp; omega, by rw [Int.natCast_succ], HGN.out, hown7, (HB26.out.alloc HB26.out.size _).grown hg7 (Nat.le_trans HB26.out.size (by simp)) (own_base HR6.out)⟩
                        clear hown7 hg7
                        go_wp2_with fail
                        go_roundw
                        case rel => first | exact HEND.out | ((repeat (apply Exists.intro)); exact ⟨HEND.out, rfl⟩)
                        case measure => first | (simp [intOf]; done) | (simp [intOf]; omega)
                      · go_wp2_with fail
                        go_roundw
                        case rel => first | exact HNO6.out | ((repeat (apply Exists.intro)); exact ⟨HNO6.out, rfl⟩)
                        case measure => first | (simp [intOf]; done) | (simp [intOf]; omega)
                  · go_simp
                    have hb1 : Below wr.heap.size wr ((wr.alloc (.cells #[.string p1, .string p2] 31)).drew) := ((Below.refl _ _).alloc (Nat.le_refl _) _).drew
                    have O1 := (show ((wr.alloc (.cells #[.string p1, .string p2] 31)).drew).ownsRow wr.heap.size 31 2 (.slice (some ⟨wr.heap.size, 0, none⟩) 1 1) [(p1, p2)].length (flatP [(p1, p2)]) from lit_one wr.drew (p1, p2))
                    have hG1 := own_below HROW.out hb1
                    refine hK.out _ _ (HSV.out _ hb1) (fun _ => ?_)
                    try simp only [Act.put, List.setIfInBounds_toArray, List.set_cons_zero, List.set_cons_succ]
                    have hN1 : wr.heap.size < ((wr.alloc (.cells #[.string p1, .string p2] 31)).drew).heap.size := by simp
                    have hN0 : wr.heap.size ≤ wr.heap.size := Nat.le_refl _
                    have hGl : ∀ q, u9.ownBlock = some q → q < wr.heap.size := fun q hq => own_lt_blk HROW.out q hq
                    generalize (wr.alloc (.cells #[.string p1, .string p2] 31)).drew = V1 at hb1 O1 hG1 hN1 ⊢
                    refine wpAnyH_ready (rs := [31]) (by kernel_rfl) (by simp) ?_
                    refine ready_yes (o := _) rfl (by kernel_rfl) (fun K hK => ?_) AllReadyH.nil
                    go_simp
                    have hb2 : Below wr.heap.size wr (V1.alloc (.cells #[] 31)) := hb1.alloc hb1.size _
                    have L2 := lit_none V1
                    have O2 := O1.alloc (.cells #[] 31)
                    have hG2 := hG1.alloc (.cells #[] 31)
                    have hN2 : V1.heap.size ≤ (V1.alloc (.cells #[] 31)).heap.size := by simp
                    have hne : wr.heap.size ≠ V1.heap.size := Nat.ne_of_lt hN1
                    refine hK.out _ _ (HSV.out _ hb2) (fun _ => ?_)
                    try simp only [Act.put, List.setIfInBounds_toArray, List.set_cons_zero, List.set_cons_succ]
                    generalize V1.alloc (.cells #[] 31) = V2 at hb2 O2 L2 hG2 hN2 ⊢
                    generalize V1.heap.size = N2 at L2 hne hN1 hN2 ⊢
                    refine wpAnyH_ready (rs := [33]) (by kernel_rfl) (by simp) ?_
                    refine ready_yes (o := _) rfl (by kernel_rfl) (fun K hK => ?_) AllReadyH.nil
                    refine wp_app_pairs (.tmp 78) (.tmp 79) rfl _ _ _ u9 [] G (by simp [Act.eval, Act.put]) L2 (by simp [Act.eval, Act.put]) hG2 (by simp; omega) (hN2) ?_
                    intro v3 w3 hown3 hg3
                    rw [List.nil_append] at hown3
                    have hb3 : Below wr.heap.size wr w3 := hb2.grown hg3 hb2.size (fun q hq => by injection hq with hq; subst hq; first | exact Nat.le_refl _ | (simp; omega))
                    have hBa : wr.heap.size ≤ N2 := Nat.le_trans hN0 (Nat.le_of_lt hN1)
                    have O3 := O2.kept hg3 (.inr (fun e => hne (by injection e with e)))
                    have hN3 : N2 ≤ w3.heap.size := Nat.le_trans hN2 hg3.size
                    refine hK.out _ _ (HSV.out _ hb3) (fun _ => ?_)
                    try simp only [Act.put, List.setIfInBounds_toArray, List.set_cons_zero, List.set_cons_succ]
                    clear hg3
                    refine wpAnyH_ready (rs := [39]) (by kernel_rfl) (by simp) ?_
                    refine ready_yes (o := _) rfl (by kernel_rfl) (fun K hK => ?_) AllReadyH.nil
                    refine wp_app_pairs (.tmp 80) (.tmp 85) rfl _ _ _ _ G [(p1, p2)] (by simp [Act.eval, Act.put]) hown3 (by simp [Act.eval, Act.put]) O3 (by simp; omega) (hN3) ?_
                    intro v5 w5 hown5 hg5
                    have hb5 : Below wr.heap.size wr w5 := hb3.grown hg5 hb3.size (fun q hq => Nat.le_trans hBa (own_base hown3 q hq))
                    refine hK.out _ _ (HSV.out _ hb5) (fun _ => ?_)
                    try simp only [Act.put, List.setIfInBounds_toArray, List.set_cons_zero, List.set_cons_succ]
                    obtain ⟨o5, c5, hv5, hp5⟩ := own_pairs hown5
                    subst hv5
                    have HIV5 := Lib.hid (HIV.out w5 o5 c5 hp5)
                    simp only [List.length_append, List.length_cons, List.length_nil, Nat.zero_add] at HIV5
                    clear hown5 hg5 hp5
                    refine wpAnyH_ready (rs := [40]) (by kernel_rfl) (by simp) ?_
                    refine ready_yes (o := _) rfl (by kernel_rfl) (fun K hK => ?_) AllReadyH.nil
                    go_simp
                    go_at_call 7
                    refine HIV5.out.mono ?_
                    rintro e w6 ⟨rfl, hb6⟩
                    have hbw6 : Below wr.heap.size wr w6 := hb5.trans (hb6.mono hb5.size)
                    refine hK.out _ _ (HSV.out _ hbw6) (fun _ => ?_)
                    try simp only [Act.put, List.setIfInBounds_toArray, List.set_cons_zero, List.set_cons_succ]
                    refine wpAnyH_ready (rs := [41]) (by kernel_rfl) (by simp) ?_
                    refine ready_yes (o := _) rfl (by kernel_rfl) (fun K hK => ?_) AllReadyH.nil
                    go_simp
                    refine hK.out _ _ (HSV.out _ hbw6) (fun _ => ?_)
                    try simp only [Act.put, List.setIfInBounds_toArray, List.set_cons_zero, List.set_cons_succ]
                    refine wpAnyH_ready (rs := [42]) (by kernel_rfl) (by simp) ?_
                    refine ready_yes (o := _) rfl (by kernel_rfl) (fun K hK => ?_) AllReadyH.nil
                    go_simp
                    refine hK.out _ _ (HSV.out _ hbw6) (fun _ => ?_)
                    try simp only [Act.put, List.setIfInBounds_toArray, List.set_cons_zero, List.set_cons_succ]
                    refine wpAnyH_done (by kernel_rfl) ?_ _
                    have HBW6 := Lib.hid hbw6
                    clear hb6 hbw6 hb5 HIV5
                    have HNO6 : Hid (GcS na w2 u9 (.int .i64 ((j : Int) + 1)) w6) := Lib.hid ⟨j + 1, G, hlt, by omega, by rw [Int.natCast_succ], HGD.out, own_below HROW.out HBW6.out, HB2r.out.trans (HBW6.out.mono HB2r.out.size)⟩
                    have c0' := (HSV.out w6 HBW6.out).1
                    have c1' := (HSV.out w6 HBW6.out).2
                    clear HS1 HSV HIV HGA4 HGB4 c0 c1 hHeld
                    by_cases hz1 : z = -1
                    · subst hz1
                      have HR6 := Lib.hid (own_below HROW.out HBW6.out)
                      have HB26 := Lib.hid (HB2r.out.trans (HBW6.out.mono HB2r.out.size))
                      go_wp2_with (at_builtin; refine wpList_app_pairs rfl _ _ rfl w2.heap.size w6.heap.size u9 _ G [(p1, p2)] rfl (HR6.out.alloc _) rfl (lit_one w6 (p1, p2)) (by simp; omega) (Nat.le_trans HB26.out.size (by simp)) ?_; intro v7 w7 hown7 hg7)
                      have HEND : Hid (GcS na w2 v7 (.int .i64 ((j : Int) + 1)) w7) := Lib.hid ⟨j + 1, G ++ [(p1, p2)], hlt, by rw [List.length_append]; simp; omega, by rw [Int.natCast_succ], HGN.out, hown7, (HB26.out.alloc HB26.out.size _).grown hg7 (Nat.le_trans HB26.out.size (by simp)) (own_base HR6.out)⟩
                      clear hown7 hg7
                      go_wp2_with fail
                      go_roundw
                      case rel => first | exact HEND.out | ((repeat (apply Exists.intro)); exact ⟨HEND.out, rfl⟩)
                      case measure => first | (simp [intOf]; done) | (simp [intOf]; omega)
                    · go_wp2_with fail
                      go_roundw
                      case rel => first | exact HNO6.out | ((repeat (apply Exists.intro)); exact ⟨HNO6.out, rfl⟩)
                      case measure => first | (simp [intOf]; done) | (simp [intOf]; omega)
                · have hszi : ¬ (p1.size : Int) + p2.size ≤ 64 := by omega
                  rw [hg1] at HGA
                  rw [hg2] at HGB
                  clear hg1 hg2
                  have hd1 : decide ((p1.size : Int) + p2.size ≤ 64) = false := decide_eq_false hszi
                  have hd2 : decide (p1.size + p2.size ≤ 64) = false := decide_eq_false hsz
                  go_wp2_with fail
                  go_quiet (first | (go_at_call 6; with_reducible exact HGA.out _) | (go_at_call 6; with_reducible exact HGB.out _))
                  have HEND := Lib.hid (HNO.out nq)
                  generalize wr.drewN nq = wd at HEND ⊢
                  go_wp2_with fail
                  go_roundw
                  case rel => first | exact HEND.out | ((repeat (apply Exists.intro)); exact ⟨HEND.out, rfl⟩)
                  case measure => first | (simp [intOf]; done) | (simp [intOf]; omega)
          · have hjn : ¬ (j : Int) < na := by omega
            have hg60 : G.length ≤ 60 := by omega
            obtain ⟨og, cg, rfl, hpg⟩ := own_pairs HROW.out
            have hblG := pr_blk HROW.out
            have hsum : ∀ q ∈ G, q.1.size + q.2.size ≤ maxLen := fun q hq => by have := (HGD.out q hq).2.2; unfold maxLen; omega
            have hokp : ∀ q ∈ G, OkP q := fun q hq => by
              have := (HGD.out q hq).2.2
              exact ⟨by unfold maxLen; omega, by unfold maxLen; omega⟩
            have hts : T.size ≤ 4096 := by rw [HTS.out]; omega
            have hvo := ofP_voc G
            have hll := ofP_len G
            have hge : 94 ≤ (ofP G).length := by
              obtain ⟨m, hm, _⟩ := fold_pre G (ofS 94)
              have h94 := ofS_len2 ⟨94, by decide⟩
              unfold ofP
              rw [hm, List.length_append]
              simp only at h94
              omega
            have hspl := split200 (l := G) (by omega) (s := T) hts
            have hPe : splitP G T = splitB G T := by unfold splitP; rw [if_neg (by omega)]
            have hin := parts_in (G := G) (by omega) HGD.out HSG2.out
            have hback := back_of_in hvo hin
            have hallE := all_of_in hin
            have hcat := splitB_cat G T
            have hcnt := splitB_nonempty (l := G) (by omega) T
            rw [hPe] at hspl
            have HOF := Lib.hid (Of_any og G cg wr (by omega) hpg hsum)
            have HENC := Lib.hid (fun (b : Nat) (L : List EntB) (x : Int) (V : World) (h0 : 0 ≤ x) (h1 : x ≤ 100000) (hL : OkL L) (hp : PrAt V 31 og G) (hpb : ∀ g, og = some ⟨g, 0, none⟩ → g ≠ b) (h : IxSt b L x V) => Encode_any b L x og G cg T V h0 h1 hL (by omega) hp hokp hts hpb (by rw [hPe]; exact hspl.1) (by rw [hPe]; exact hspl.2.1) (by rw [hPe]; exact hspl.2.2) h)
            rw [hPe] at HENC
            obtain ⟨P, hP⟩ : ∃ P, splitB G T = P := ⟨_, rfl⟩
            rw [hP] at HENC hspl hback hallE hcat hcnt
            obtain ⟨n, hn⟩ : ∃ n, P.length = n := ⟨_, rfl⟩
            rw [hn] at HENC hcnt
            have HN := Lib.hid hn
            obtain ⟨ng, hng⟩ : ∃ n, G.length = n := ⟨_, rfl⟩
            rw [hng] at hg60 HOF HENC hll ⊢
            generalize ofP G = L at hvo hll hge HOF hback hallE
            obtain ⟨nL, hnL⟩ : ∃ n, L.length = n := ⟨_, rfl⟩
            rw [hnL] at hll hge HOF
            have HNL := Lib.hid hnL; have HVO := Lib.hid hvo
            have HL0 : Hid (0 < nL) := Lib.hid (by omega)
            have HOKL := Lib.hid (hvo.okL (by omega))
            have HL64 : Hid (∀ e ∈ L, e.2.size ≤ 64) := Lib.hid (fun e he => by
              obtain ⟨j, hj⟩ := List.getElem?_of_mem he
              exact (goodB_size (hvo j e hj).2.1).2)
            have hcntk : n ≤ k := by rw [HTS.out] at hcnt; exact hcnt
            have hcntki : (n : Int) ≤ k := by omega
            have HTB : Hid ((⟨(decT L (P.map (idE L))).toArray⟩ : ByteArray) = T) := Lib.hid (by
              rw [hback.2, hcat])
            have HALLI := Lib.hid hback.1; have HALLE := Lib.hid hallE
            have HPG := Lib.hid hpg; have HBG := Lib.hid hblG
            have hn4 : n ≤ 4000 := by omega
            clear hpg hblG hsum hokp hvo hspl hPe hin hback hallE hcat hcnt hP hn hng hnL HROW
            go_wp2_with (go_at_call 9; refine HOF.out.mono ?_)
            first | rintro e w4 vx rfl rx hb4 | rintro e w4 ⟨vx, rfl, rx, hb4⟩
            obtain ⟨gx, cx, rfl, ex, _, hBx, hgx⟩ := own_entC (l := L) (by rw [HNL.out]; exact rx) (by rw [HNL.out]; exact HL0.out)
            have HB4 := Lib.hid hb4
            have HNEW := Lib.hid (New_any gx cx L w4 (by rw [HNL.out]; omega) ex)
            rw [HNL.out] at HNEW
            try rw [HNL.out]
            clear rx hb4 ex hBx hgx HOF
            go_wp2_with (go_at_call 8; refine HNEW.out.mono ?_)
            first | rintro e w5 N v rfl hNs hrow hown hb5 | rintro e w5 ⟨N, v, rfl, hNs, hrow, hown, hb5⟩
            obtain ⟨g2, c2, rfl, hen2, _, hBg2, hgl2⟩ := own_entC (l := L) (by rw [HNL.out]; exact hown) (by rw [HNL.out]; exact HL0.out)
            have hNg : g2 ≠ N := fun e => by
              subst e
              obtain ⟨gg, cur, e1, e2, _, _⟩ := hen2 0 (L[0]'(by rw [HNL.out]; exact HL0.out)) (List.getElem?_eq_getElem _)
              injection e1 with e1
              have e1 : g2 = gg := congrArg Addr.block e1
              subst e1
              rw [hrow] at e2
              injection e2 with e2
              injection e2 with _ e2
              exact absurd e2 (by decide)
            have HSTt : Hid (IxSt N L 0 w5) := Lib.hid (.inl ⟨g2, c2, hrow, hen2, hgl2, hNg⟩)
            have HB5 := Lib.hid (HB4.out.trans (hb5.mono HB4.out.size))
            have HN4 : Hid (wr.heap.size ≤ N) := Lib.hid (by have := HB4.out.size; omega)
            have HE5 := Lib.hid (HENC.out N L 0 w5 (by decide) (by decide) HOKL.out (HPG.out.below HB5.out) (fun g hg => by have := HBG.out g hg; have := HN4.out; omega) HSTt.out)
            have hcv5 := HCV2.out w5 (fun g hg => (HB5.out.block g (Nat.lt_of_lt_of_le (HBL2.out g hg) HB2r.out.size)).trans (HB2r.out.block g (HBL2.out g hg)))
            clear hrow hown hb5 hen2 hBg2 hgl2 hNg hNs HENC HNEW
            go_wp2_with (go_at_call 10; refine HE5.out.mono ?_)
            first | rintro e w6 hend hix hfr | rintro e w6 ⟨hend, hix, hfr⟩
            have HIX6 := Lib.hid hix
            have HF6 := Lib.hid hfr
            unfold EcEnd at hend
            rw [HALLE.out, if_pos rfl] at hend
            obtain ⟨gi, rfl, hgi, hids⟩ := hend
            have HINK : Hid (InK w6 (some ⟨gi, 0, none⟩) (P.map (idE L))) := Lib.hid (fun q z hz => by
              rw [List.getElem?_map] at hz
              obtain ⟨s, hs, rfl⟩ := Option.map_eq_some_iff.1 hz
              have hql := (List.getElem?_eq_some_iff.1 hs).1
              obtain ⟨cur, c1, c2, c3⟩ := hids
              refine ⟨gi, rfl, lt_of_some c1, ?_⟩
              rw [cell_of_row c1, c3 q (by rw [← HN.out]; exact hql)]
              show some (Value.int .i64 (idE L (P.getD q ⟨#[]⟩))) = _
              rw [List.getD_eq_getElem?_getD, hs]; rfl)
            have hNi : gi ≠ N := by
              have h5 : N < w5.heap.size := by
                obtain ⟨gb, cap, h1, _⟩ | ⟨m1, m2, h1, _⟩ := HSTt.out <;> exact lt_of_some h1
              omega
            have HWF : Hid (∀ z ∈ P.map (idE L), (Lit.int .i64 z).wf = true) := Lib.hid (fun z hz => by
              rw [List.mem_map] at hz
              obtain ⟨s, _, rfl⟩ := hz
              unfold idE
              cases hlk : lookE (fun e : EntB => e.2) L s with
              | none => simp only; decide
              | some q =>
                have hq : q ∈ L := List.mem_of_find?_eq_some hlk
                obtain ⟨j, hj⟩ := List.getElem?_of_mem hq
                have h1 := (HVO.out j q hj).1
                have hjl := (List.getElem?_eq_some_iff.1 hj).1
                rw [HNL.out] at hjl
                exact wf_small (by omega))
            have HDC := Lib.hid (Decode_any N L (0 + 1) (some ⟨gi, 0, none⟩) (P.map (idE L)) n w6 (by decide) (by decide) HOKL.out HL64.out (by rw [List.length_map, HN.out]; exact hn4) HWF.out HINK.out (fun g hg _ => by injection hg with hg; have hg : gi = g := congrArg Addr.block hg; omega) (.inr HIX6.out))
            rw [List.length_map, HN.out] at HDC
            clear hix hfr hids hcv5 HE5
            go_wp2_with (go_at_call 11; refine HDC.out.mono ?_)
            first | rintro e w7 hdc hix7 hfr7 | rintro e w7 ⟨hdc, hix7, hfr7⟩
            unfold DcEnd at hdc
            rw [HALLI.out, if_pos rfl, HTB.out] at hdc
            subst hdc
            have hF7 : FrM N wr w7 := (FrM.of_below HB5.out).trans (HF6.out.trans hfr7)
            have hcv7 := HCV2.out w7 (fun g hg => (hF7.block g (Nat.lt_of_lt_of_le (HBL2.out g hg) HB2r.out.size) (by have := HN4.out; have := HBL2.out g hg; have := HB2r.out.size; omega)).trans (HB2r.out.block g (HBL2.out g hg)))
            have HAS := Lib.hid (Asked_any N L (0 + 1 + 1) w7 (by decide) hix7)
            have HBF : Hid (Below w.heap.size w w7) := Lib.hid (HB2.out.trans ((HB2r.out.trans ⟨hF7.low.os, hF7.low.tape, hF7.low.output, hF7.size, fun q hq => hF7.block q (by have := HB2r.out.size; omega) (by have := HN4.out; have := HB2r.out.size; omega)⟩).mono HB2.out.size))
            clear hix7 hfr7 hF7 HDC
            go_wp2_with (go_at_call 12; refine HAS.out.mono ?_; rintro e w8 ⟨rfl, rfl⟩)
            go_ret
            exact ⟨rfl, HBF.out⟩
end Go.Proofs.YtdpfpdpaamjefaaDoor
