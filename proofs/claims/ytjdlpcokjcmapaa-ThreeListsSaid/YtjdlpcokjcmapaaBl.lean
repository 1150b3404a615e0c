/- Three texts: Lines. -/
import Derived.Test.YtjdlpcokjcmapaaBk
set_option linter.unusedVariables false
set_option linter.unusedSimpArgs false
namespace Go.Proofs.Ytjdlpcokjcmapaa
open Go.RowKit Go.Maps Go.WideShapes
variable {w w' : World}

theorem nm_at {o : Option Addr} {l : List Int} {k : Nat} (h : NmAt w o l) (hk : k < l.length) : ∃ b i, o = some ⟨b, i, none⟩ ∧ w.cell? ⟨b, i + k, none⟩ = some (.int .i64 (l.getD k 0)) := h k hk
def LiS (B0 B1 bm bh : Nat) (B O T : List ByteArray) (w0 : World) (i j k t : Value) (wr : World) : Prop :=
  ∃ n : Nat, n ≤ B.length ∧ t = .int .i64 n ∧ i = .int .i64 (lnF B O T n).1.1 ∧ j = .int .i64 (lnF B O T n).1.2.1 ∧ k = .int .i64 (lnF B O T n).1.2.2 ∧ LnI B0 B1 bm bh (lnF B O T n).2.1 (lnF B O T n).2.2 wr ∧ Below B0 w0 wr
set_option maxHeartbeats 8000000 in
set_option maxRecDepth 100000 in
theorem Lines_any (oB oO oT : Option Addr) (B O T : List ByteArray) (cB cO cT : Nat) (w : World) (hlB : B.length ≤ 4096) (hlO : O.length ≤ 4096) (hlT : T.length ≤ 4096) (hcB : B.length ≤ cB) (hcO : O.length ≤ cO) (hcT : T.length ≤ cT) (hB : TxAt w oB B) (hO : TxAt w oO O) (hT : TxAt w oT T) :
    Calls Try.prog 13 #[.slice oB B.length cB, .slice oO O.length cO, .slice oT T.length cT] w fun e w' => ∃ v1 a c, e = .returned (.tuple #[v1, .slice a (lnE B O T).2 c, .int .i64 0]) ∧ w'.ownsRow w.heap.size 9 1 v1 (linesO B O T).length (strV (linesO B O T)) ∧ Below w.heap.size w w' := by
  have h1 := Match_at oB oO B O cB cO w hlB hlO hB hO
  have h2 := fun W (hW : Below w.heap.size w W) => Match_at oB oT B T cB cT W hlB hlT (hB.below hW) (hT.below hW)
  have HTB := Lib.hid hB; have HTO := Lib.hid hO; have HTT := Lib.hid hT
  have HPL := Lib.hid (match_len B O); have HQL := Lib.hid (match_len B T)
  have HOK := Lib.hid (lnF_ok B O T)
  obtain ⟨nB, hnB⟩ : ∃ n, B.length = n := ⟨_, rfl⟩
  obtain ⟨nO, hnO⟩ : ∃ n, O.length = n := ⟨_, rfl⟩
  obtain ⟨nT, hnT⟩ : ∃ n, T.length = n := ⟨_, rfl⟩
  have HNB := Lib.hid hnB; have HNO := Lib.hid hnO; have HNT := Lib.hid hnT
  rw [match_len] at h1
  simp only [match_len] at h2
  rw [hnB, hnO] at h1
  rw [hnB] at HPL HQL HOK hlB hcB
  rw [hnO] at hlO hcO
  rw [hnT] at hlT hcT
  simp only [hnB, hnT] at h2
  simp only [hnB, hnO, hnT]
  have H1 := Lib.hid h1; have H2 := Lib.hid h2
  clear h1 h2 hnB hnO hnT hB hO hT
  have FIRST : Hid (1 = 1) := Lib.hid rfl
  go_enter Try.func13, Try.ntmps13
  go_upto_region 7 with (first
    | (clear FIRST; go_at_call 26; (with_reducible refine H1.out.mono ?_); rintro e w1 ⟨op, cp, rfl, hnp, hb⟩; have HNP := Lib.hid hnp; have HB1 := Lib.hid hb; clear hnp hb H1)
    | (go_at_call 26; (with_reducible refine (H2.out _ HB1.out).mono ?_); rintro e w2 ⟨oq, cq, rfl, hnq, hb⟩; have HNQ := Lib.hid hnq; have HNP2 := Lib.hid (HNP.out.below hb); have HB2 := Lib.hid (HB1.out.trans (hb.mono HB1.out.size)); clear hnq hb H2))
  go_wp2_with fail
  obtain ⟨W3, hW3⟩ : ∃ W, (w2.alloc (.cells #[.slice none 0 0] 22)).alloc (.cells #[.slice none 0 0] 32) = W := ⟨_, rfl⟩
  obtain ⟨B0, hB0e⟩ : ∃ g, w2.heap.size = g := ⟨_, rfl⟩
  have hBl3 : Below B0 w2 W3 := by rw [← hW3, ← hB0e]; exact ((Below.refl _ w2).alloc (Nat.le_refl _) _).alloc (by simp) _
  have hI0 : LnI B0 W3.heap.size B0 (B0 + 1) [] 0 W3 := by
    have hs : W3.heap.size = B0 + 2 := by rw [← hW3, ← hB0e]; simp
    have hb1 : W3.heap[B0]? = some (.cells #[.slice none 0 0] 22 (0, 0)) := by
      rw [← hW3, Lib.alloc_old _ _ _ (by simp; omega), ← hB0e]; exact World.alloc_heap_new w2 _
    have hb2 : W3.heap[B0 + 1]? = some (.cells #[.slice none 0 0] 32 (0, 0)) := by
      have h := World.alloc_heap_new (w2.alloc (.cells #[.slice none 0 0] 22)) (.cells #[.slice none 0 0] 32)
      rw [← hW3, ← hB0e]; simpa using h
    exact ⟨⟨Nat.le_refl _, by omega⟩, ⟨by omega, by omega⟩, Nat.le_refl _, by omega, ⟨_, hb1, World.ownsRow_nil _ _ _ _⟩, _, [], hb2, World.ownsRow_nil _ _ _ _⟩
  rw [hW3, hB0e]
  obtain ⟨B1, hB1e⟩ : ∃ g, W3.heap.size = g := ⟨_, rfl⟩
  rw [hB1e] at hI0
  obtain ⟨bh, hbhe⟩ : ∃ g, B0 + 1 = g := ⟨_, rfl⟩
  rw [hbhe] at hI0 ⊢
  have HB2' : Hid (w.heap.size ≤ B0) := Lib.hid (by rw [← hB0e]; exact HB2.out.size)
  have hTB : ∀ W, Below B0 w2 W → TxAt W oB B := fun W hW => (HTB.out.below HB2.out).below (by rw [hB0e]; exact hW)
  have hTO : ∀ W, Below B0 w2 W → TxAt W oO O := fun W hW => (HTO.out.below HB2.out).below (by rw [hB0e]; exact hW)
  have hTT : ∀ W, Below B0 w2 W → TxAt W oT T := fun W hW => (HTT.out.below HB2.out).below (by rw [hB0e]; exact hW)
  have hNP : ∀ W, Below B0 w2 W → NmAt W op (matchL B O) := fun W hW => HNP2.out.below (by rw [hB0e]; exact hW)
  have hNQ : ∀ W, Below B0 w2 W → NmAt W oq (matchL B T) := fun W hW => HNQ.out.below (by rw [hB0e]; exact hW)
  have KTB := Lib.hid hTB; have KTO := Lib.hid hTO; have KTT := Lib.hid hTT; have KNP := Lib.hid hNP; have KNQ := Lib.hid hNQ
  have HBE : Hid (∀ W, Below B0 w2 W → Below w.heap.size w W) := Lib.hid (fun W hW => HB2.out.trans (hW.mono (by rw [← hB0e]; exact HB2.out.size)))
  have H0 : Hid (LiS B0 B1 B0 bh B O T w2 (.int .i64 0) (.int .i64 0) (.int .i64 0) (.int .i64 0) W3) := Lib.hid ⟨0, Nat.zero_le _, rfl, rfl, rfl, rfl, hI0, hBl3⟩
  clear hW3 hBl3 hI0 hB0e hB1e hbhe hTB hTO hTT hNP hNQ HNP HNP2 HNQ HB1 HB2 HTB HTO HTT
  go_loopw [15, 16, 17, 43] (fun i j k t wr => LiS B0 B1 B0 bh B O T w2 i j k t wr) (fun _ _ _ t _ => nB - (intOf t).toNat)
  case atStart => exact H0.out
  case round =>
    obtain ⟨n, hn, rfl, rfl, rfl, rfl, hI, hb⟩ := hrel
    rw [HNB.out] at hn
    have hok := HOK.out n hn
    by_cases hlt : n < nB
    · have hnx := hok.told (by rw [HNB.out]; exact hlt)
      have HNEXT : Hid (lnF B O T (n + 1) = lnStp B O T n ((matchL B O).getD n 0) ((matchL B T).getD n 0) (lnF B O T n)) := Lib.hid rfl
      obtain ⟨b0, i0, ho, c0⟩ := nm_at (KNP.out _ hb) (by rw [HPL.out]; exact hlt)
      obtain ⟨b1, i1, ho1, d0⟩ := nm_at (KNQ.out _ hb) (by rw [HQL.out]; exact hlt)
      subst ho ho1
      obtain ⟨zs, hz⟩ : ∃ s, B[n]? = some s := ⟨_, List.getElem?_eq_getElem (by rw [HNB.out]; exact hlt)⟩
      obtain ⟨hzs, b2, i2, ho2, e0⟩ := tx_at (KTB.out _ hb) hz
      have hzb : itB B n = zs := by rw [it_get (by rw [HNB.out]; exact hlt)] at hz; injection hz
      have HZS := Lib.hid hzs
      subst ho2
      obtain ⟨P, hP⟩ : ∃ P, (matchL B O).getD n 0 = P := ⟨_, rfl⟩
      obtain ⟨Q, hQ⟩ : ∃ P, (matchL B T).getD n 0 = P := ⟨_, rfl⟩
      rw [hP] at c0 hnx HNEXT
      rw [hQ] at d0 hnx HNEXT
      obtain ⟨h1, h2⟩ := hnx
      obtain ⟨⟨⟨si, sj, sk⟩, so, sn⟩, hst⟩ : ∃ s, lnF B O T n = s := ⟨_, rfl⟩
      rw [hst] at hok HNEXT h1 h2 hI ⊢
      dsimp only at h1 h2 hI ⊢
      have HI := Lib.hid hI; have HBB := Lib.hid hb; have HKK := Lib.hid hok; have HZ := Lib.hid hzb
      have hni : (n : Int) < nB := by omega
      have HLT := Lib.hid hlt
      clear hP hQ hst hI hb hok hz hzb hzs H0 hlt
      rcases h1 with rfl | ⟨x, rfl, x1, x2, _⟩
      · have HN1 : Hid (lnF B O T (n + 1) = ((si, sj, sk), (so, sn))) := Lib.hid (by rw [HNEXT.out]; unfold lnStp; rw [if_pos (by left; omega)])
        clear HNEXT h2
        go_wp2_with fail
        go_quiet (fail)
        (first | (have _h : Nat := nq; clear _h) | rename_i nq)
        go_wp2_with fail
        go_roundw
        case rel => exact ⟨n + 1, by rw [HNB.out]; exact HLT.out, by go_num, by rw [HN1.out], by rw [HN1.out], by rw [HN1.out], by rw [HN1.out]; exact HI.out.below (below_drewN (Below.refl _ _) _), below_drewN HBB.out _⟩
        case measure => simp [intOf]; have := HLT.out; omega
      · rcases h2 with rfl | ⟨y, rfl, y1, y2, _⟩
        · have HN1 : Hid (lnF B O T (n + 1) = ((si, sj, sk), (so, sn))) := Lib.hid (by rw [HNEXT.out]; unfold lnStp; rw [if_pos (by right; omega)])
          have hx0 : ¬ ((x : Int) < 0) := by omega
          clear HNEXT
          go_wp2_with fail
          go_quiet (fail)
          (first | (have _h : Nat := nq; clear _h) | rename_i nq)
          go_wp2_with fail
          go_roundw
          case rel => exact ⟨n + 1, by rw [HNB.out]; exact HLT.out, by go_num, by rw [HN1.out], by rw [HN1.out], by rw [HN1.out], by rw [HN1.out]; exact HI.out.below (below_drewN (Below.refl _ _) _), below_drewN HBB.out _⟩
          case measure => simp [intOf]; have := HLT.out; omega
        · have hx0 : ¬ ((x : Int) < 0) := by omega
          have hy0 : ¬ ((y : Int) < 0) := by omega
          rw [HNO.out] at x2
          rw [HNT.out] at y2
          have hin := HKK.out.i
          dsimp only at hin
          have f1 : (0 : Int) ≤ si := by omega
          have f2 : (si : Int) ≤ n := by omega
          have f3 : (n : Int) ≤ cB := by omega
          have f4 : (sj : Int) ≤ x := by omega
          have f5 : (x : Int) ≤ cO := by omega
          have f6 : (sk : Int) ≤ y := by omega
          have f7 : (y : Int) ≤ cT := by omega
          go_wp2_with fail
          go_quiet (fail)
          (first | (have _h : Nat := nq; clear _h) | rename_i nq)
          have hId := HI.out.below (below_drewN (Below.refl _ _) nq)
          have hbd : Below B0 w2 (wr.drewN nq) := below_drewN HBB.out nq
          generalize wr.drewN nq = wd at hId hbd ⊢
          have HID := Lib.hid hId; have HBD := Lib.hid hbd
          clear hId hbd c0 d0 e0
          go_upto_region 16 with fail
          refine wp_region_held_drew (S := fun w' => True) (by kernel_rfl) trivial (fun _ => ?_)
          refine wpAnyH_take (i := 0) (v := ?_) rfl (by kernel_rfl) (by kernel_rfl) (by kernel_rfl) (fun _ _ _ h => h) (Or.inl ⟨by rfl, ?_⟩) trivial ?_
          rotate_left
          · intro wq hSw; (try dsimp only at hSw); go_split_ands; go_simp; try with_reducible rfl
          try simp only [Act.put, List.setIfInBounds_toArray, List.set_cons_zero, List.set_cons_succ, List.getElem_toArray, List.getElem_cons_zero, List.getElem_cons_succ]
          refine wpAnyH_take (i := 1) (v := ?_) rfl (by kernel_rfl) (by kernel_rfl) (by kernel_rfl) (fun _ _ _ h => h) (Or.inl ⟨by rfl, ?_⟩) trivial ?_
          rotate_left
          · intro wq hSw; (try dsimp only at hSw); go_split_ands; go_simp; try with_reducible rfl
          try simp only [Act.put, List.setIfInBounds_toArray, List.set_cons_zero, List.set_cons_succ, List.getElem_toArray, List.getElem_cons_zero, List.getElem_cons_succ]
          refine wpAnyH_take (i := 2) (v := ?_) rfl (by kernel_rfl) (by kernel_rfl) (by kernel_rfl) (fun _ _ _ h => h) (Or.inl ⟨by rfl, ?_⟩) trivial ?_
          rotate_left
          · intro wq hSw; (try dsimp only at hSw); go_split_ands; go_simp; try with_reducible rfl
          try simp only [Act.put, List.setIfInBounds_toArray, List.set_cons_zero, List.set_cons_succ, List.getElem_toArray, List.getElem_cons_zero, List.getElem_cons_succ]
          refine wpAnyH_take (i := 3) (v := ?_) rfl (by kernel_rfl) (by kernel_rfl) (by kernel_rfl) (fun _ _ _ h => h) (Or.inl ⟨by rfl, ?_⟩) trivial ?_
          rotate_left
          · intro wq hSw; (try dsimp only at hSw); go_split_ands; go_simp; try with_reducible rfl
          try simp only [Act.put, List.setIfInBounds_toArray, List.set_cons_zero, List.set_cons_succ, List.getElem_toArray, List.getElem_cons_zero, List.getElem_cons_succ]
          refine wpAnyH_take (i := 4) (v := ?_) rfl (by kernel_rfl) (by kernel_rfl) (by kernel_rfl) (fun _ _ _ h => h) (Or.inl ⟨by rfl, ?_⟩) trivial ?_
          rotate_left
          · intro wq hSw; (try dsimp only at hSw); go_split_ands; go_simp; try with_reducible rfl
          try simp only [Act.put, List.setIfInBounds_toArray, List.set_cons_zero, List.set_cons_succ, List.getElem_toArray, List.getElem_cons_zero, List.getElem_cons_succ]
          refine wpAnyH_take (i := 5) (v := ?_) rfl (by kernel_rfl) (by kernel_rfl) (by kernel_rfl) (fun _ _ _ h => h) (Or.inl ⟨by rfl, ?_⟩) trivial ?_
          rotate_left
          · intro wq hSw; (try dsimp only at hSw); go_split_ands; go_simp; try with_reducible rfl
          try simp only [Act.put, List.setIfInBounds_toArray, List.set_cons_zero, List.set_cons_succ, List.getElem_toArray, List.getElem_cons_zero, List.getElem_cons_succ]
          refine wpAnyH_take (i := 6) (v := ?_) rfl (by kernel_rfl) (by kernel_rfl) (by kernel_rfl) (fun _ _ _ h => h) (Or.inl ⟨by rfl, ?_⟩) trivial ?_
          rotate_left
          · intro wq hSw; (try dsimp only at hSw); go_split_ands; go_simp; try with_reducible rfl
          try simp only [Act.put, List.setIfInBounds_toArray, List.set_cons_zero, List.set_cons_succ, List.getElem_toArray, List.getElem_cons_zero, List.getElem_cons_succ]
          refine wpAnyH_take (i := 7) (v := ?_) rfl (by kernel_rfl) (by kernel_rfl) (by kernel_rfl) (fun _ _ _ h => h) (Or.inl ⟨by rfl, ?_⟩) trivial ?_
          rotate_left
          · intro wq hSw; (try dsimp only at hSw); go_split_ands; go_simp; try with_reducible rfl
          try simp only [Act.put, List.setIfInBounds_toArray, List.set_cons_zero, List.set_cons_succ, List.getElem_toArray, List.getElem_cons_zero, List.getElem_cons_succ]
          refine wpAnyH_take (i := 8) (v := ?_) rfl (by kernel_rfl) (by kernel_rfl) (by kernel_rfl) (fun _ _ _ h => h) (Or.inl ⟨by rfl, ?_⟩) trivial ?_
          rotate_left
          · intro wq hSw; (try dsimp only at hSw); go_split_ands; go_simp; try with_reducible rfl
          try simp only [Act.put, List.setIfInBounds_toArray, List.set_cons_zero, List.set_cons_succ, List.getElem_toArray, List.getElem_cons_zero, List.getElem_cons_succ]
          refine wpAnyH_take (i := 9) (v := ?_) rfl (by kernel_rfl) (by kernel_rfl) (by kernel_rfl) (fun _ _ _ h => h) (Or.inl ⟨by rfl, ?_⟩) trivial ?_
          rotate_left
          · intro wq hSw; (try dsimp only at hSw); go_split_ands; go_simp; try with_reducible rfl
          try simp only [Act.put, List.setIfInBounds_toArray, List.set_cons_zero, List.set_cons_succ, List.getElem_toArray, List.getElem_cons_zero, List.getElem_cons_succ]
          refine wpAnyH_take (i := 10) (v := ?_) rfl (by kernel_rfl) (by kernel_rfl) (by kernel_rfl) (fun _ _ _ h => h) (Or.inl ⟨by rfl, ?_⟩) trivial ?_
          rotate_left
          · intro wq hSw; (try dsimp only at hSw); go_split_ands; go_simp; try with_reducible rfl
          try simp only [Act.put, List.setIfInBounds_toArray, List.set_cons_zero, List.set_cons_succ, List.getElem_toArray, List.getElem_cons_zero, List.getElem_cons_succ]
          refine wpAnyH_take (i := 11) (v := ?_) rfl (by kernel_rfl) (by kernel_rfl) (by kernel_rfl) (fun _ _ _ h => h) (Or.inl ⟨by rfl, ?_⟩) trivial ?_
          rotate_left
          · intro wq hSw; (try dsimp only at hSw); go_split_ands; go_simp; try with_reducible rfl
          try simp only [Act.put, List.setIfInBounds_toArray, List.set_cons_zero, List.set_cons_succ, List.getElem_toArray, List.getElem_cons_zero, List.getElem_cons_succ]
          refine wpAnyH_take (i := 12) (v := ?_) rfl (by kernel_rfl) (by kernel_rfl) (by kernel_rfl) (fun _ _ _ h => h) (Or.inl ⟨by rfl, ?_⟩) trivial ?_
          rotate_left
          · intro wq hSw; (try dsimp only at hSw); go_split_ands; go_simp; try with_reducible rfl
          try simp only [Act.put, List.setIfInBounds_toArray, List.set_cons_zero, List.set_cons_succ, List.getElem_toArray, List.getElem_cons_zero, List.getElem_cons_succ]
          refine wpAnyH_ready (rs := [13]) (by kernel_rfl) (by simp) ?_
          refine AllReadyH.cons (o := _) rfl (fun K hK => ?_) AllReadyH.nil
          go_simp
          have hbdd : Below B0 w2 wd.drew := HBD.out.drew
          have hS1 := tx_cut (i := si) (n := n) (c := cB) (KTB.out _ hbdd) hin (by rw [HNB.out]; omega) (by rw [HNB.out]; exact hcB)
          have hX1 := tx_cut (i := sj) (n := x) (c := cO) (KTO.out _ hbdd) x1 (by rw [HNO.out]; omega) (by rw [HNO.out]; exact hcO)
          have hY1 := tx_cut (i := sk) (n := y) (c := cT) (KTT.out _ hbdd) y1 (by rw [HNT.out]; omega) (by rw [HNT.out]; exact hcT)
          have hlen := HKK.out.len; have hnum := HKK.out.num
          dsimp only at hlen hnum
          have hPC := piece_any B0 B1 B0 bh sn so _ _ _ _ _ _ (cB - si) (cO - sj) (cT - sk) wd.drew (by rw [cut_len (by rw [HNB.out]; omega)]; omega) (by rw [cut_len (by rw [HNO.out]; omega)]; omega) (by rw [cut_len (by rw [HNT.out]; omega)]; omega) hS1 hX1 hY1 (by omega) (by omega) (HID.out.below ((Below.refl _ _).drew))
          rw [cut_len (l := B) (by rw [HNB.out]; omega), cut_len (l := O) (by rw [HNO.out]; omega), cut_len (l := T) (by rw [HNT.out]; omega)] at hPC
          simp only [Option.map_some, Addr.add_mid] at hPC
          have HN1 : Hid (lnF B O T (n + 1) = ((n + 1, x + 1, y + 1), (pcO so (cutL B si n) (cutL O sj x) (cutL T sk y) ++ [zs], pcN sn (cutL B si n) (cutL O sj x) (cutL T sk y)))) := Lib.hid (by
            rw [HNEXT.out]; unfold lnStp; rw [if_neg (by omega), HZ.out]; rfl)
          have hol : (pcO so (cutL B si n) (cutL O sj x) (cutL T sk y)).length ≤ 1000000 := by
            have h := pcO_len so (cutL B si n) (cutL O sj x) (cutL T sk y)
            rw [cut_len (l := O) (by rw [HNO.out]; omega), cut_len (l := T) (by rw [HNT.out]; omega)] at h
            omega
          refine hPC.mono ?_
          rintro e w4 ⟨rfl, hI4, hb4⟩
          obtain ⟨out4, hout4⟩ : ∃ l, pcO so (cutL B si n) (cutL O sj x) (cutL T sk y) = l := ⟨_, rfl⟩
          obtain ⟨nb4, hnb4⟩ : ∃ l, pcN sn (cutL B si n) (cutL O sj x) (cutL T sk y) = l := ⟨_, rfl⟩
          rw [hout4] at hI4 hol HN1
          rw [hnb4] at hI4 HN1
          have HI4 := Lib.hid hI4; have HB4 := Lib.hid (hbdd.trans hb4)
          clear hS1 hX1 hY1 hPC hI4 hb4 hbdd hout4 hnb4 HNEXT
          refine hK.out _ _ trivial (fun _ => ?_)
          refine wpAnyH_done (by kernel_rfl) ?_ _
          -- the item itself
          have hI5 := HI4.out.below ((Below.refl _ w4).alloc (Nat.le_refl _) (.cells #[.string zs] 9))
          obtain ⟨v, hbm, hown⟩ := hI5.box
          have hzt : TxAt (w4.alloc (.cells #[.string zs] 9)) (some ⟨w4.heap.size, 0, none⟩) [zs] := fun k hk => by
            have hk0 : k = 0 := by simp at hk; omega
            subst hk0
            exact ⟨HZS.out, _, 0, rfl, by rw [cell_of_row (World.alloc_heap_new w4 _)]; rfl⟩
          obtain ⟨v', w5, hr, hrow, hg, _⟩ := app_row 1 hown hzt (by omega) (by simp) hI5.size
          obtain ⟨av, cv, hvv, _⟩ := own_at hrow
          subst hvv
          have hbm1 : w5.heap[B0]? = some (.cells #[v] 22 (0, 0)) := (hg.block B0 (lt_of_some hbm) (fun e => by have h1 := (hown.lt B0 e.symm).1; have h2 := hI5.lt1; omega)).trans hbm
          have cm4 : w4.cell? ⟨B0, 0, none⟩ = some v := by
            obtain ⟨v2, hv2, _⟩ := HI4.out.box
            have e := (Lib.alloc_old w4 (.cells #[.string zs] 9) _ (lt_of_some hv2)).trans hv2
            rw [hbm] at e
            injection e with e; injection e with e _ _; injection e with e; injection e with e
            rw [cell_of_row hv2, e]; rfl
          have cm1 : w5.cell? ⟨B0, 0, none⟩ = some v := by rw [cell_of_row hbm1]; rfl
          have fm1 : w5.frozen? ⟨B0, 0, none⟩ = false := by simp [World.frozen?, hbm1]
          obtain ⟨hE1, hE2⟩ := hI5.setM hbm hown hg (out' := out4 ++ [zs]) (by unfold strV; rw [List.map_append]; exact hrow) (by rw [List.length_append])
          have HE1 := Lib.hid hE1
          have HE2 := Lib.hid ((HB4.out.alloc (by have h1 := HI4.out.lt1; have h2 := HI4.out.size; omega) (.cells #[.string zs] 9)).trans hE2)
          have HR := Lib.hid hr
          clear hE1 hE2 hr hrow hg hbm hown hbm1 hI5 hzt
          have g1 : IntKind.i64.wrap ((n : Int) + 1) = ((n + 1 : Nat) : Int) := by rw [IntWalk.i64_in _ (by omega)]; omega
          have g2 : IntKind.i64.wrap ((x : Int) + 1) = ((x + 1 : Nat) : Int) := by rw [IntWalk.i64_in _ (by omega)]; omega
          have g3 : IntKind.i64.wrap ((y : Int) + 1) = ((y + 1 : Nat) : Int) := by rw [IntWalk.i64_in _ (by omega)]; omega
          obtain ⟨n1, hn1⟩ : ∃ k, n + 1 = k := ⟨_, rfl⟩
          obtain ⟨x1', hx1'⟩ : ∃ k, x + 1 = k := ⟨_, rfl⟩
          obtain ⟨y1', hy1'⟩ : ∃ k, y + 1 = k := ⟨_, rfl⟩
          rw [hn1] at g1; rw [hx1'] at g2; rw [hy1'] at g3
          have HNN1 := Lib.hid hn1; have HXX1 := Lib.hid hx1'; have HYY1 := Lib.hid hy1'
          clear hn1 hx1' hy1' hx0 hy0 f1 f2 f3 f4 f5 f6 f7
          go_wp2_with (at_builtin; refine Lib.wpList_append_run _ rfl _ _ _ _ rfl _ _ rfl rfl _ _ (HR.out _) ?_)
          have HN2 : lnF B O T n1 = ((n1, x1', y1'), (out4 ++ [zs], nb4)) := by rw [← HNN1.out, HN1.out, HXX1.out, HYY1.out]
          refine ⟨⟨n1, by rw [HNB.out, ← HNN1.out]; exact HLT.out, rfl, by rw [HN2], by rw [HN2], by rw [HN2], by rw [HN2]; exact HE1.out, HE2.out⟩, ?_⟩
          have := HLT.out; have := HNN1.out
          simp [intOf]; omega
    · obtain rfl : n = nB := by omega
      obtain ⟨⟨⟨si, sj, sk⟩, so, sn⟩, hst⟩ : ∃ s, lnF B O T n = s := ⟨_, rfl⟩
      rw [hst] at hok hI ⊢
      dsimp only at hI ⊢
      have HEQ : Hid (lnE B O T = (pcO so (cutL B si n) (cutL O sj nO) (cutL T sk nT), pcN sn (cutL B si n) (cutL O sj nO) (cutL T sk nT))) := Lib.hid (by
        unfold lnE; rw [HNB.out, HNO.out, HNT.out, hst])
      have HI := Lib.hid hI; have HBB := Lib.hid hb; have HKK := Lib.hid hok
      have hin := hok.i; have hj := hok.j; have hk := hok.k
      dsimp only at hin hj hk
      rw [HNO.out] at hj
      rw [HNT.out] at hk
      have f2 : (si : Int) ≤ n := by omega
      have f4 : (sj : Int) ≤ nO := by omega
      have f6 : (sk : Int) ≤ nT := by omega
      clear hst hI hb hok H0 hlt
      go_upto_region 20 with fail
      refine wp_region_held_drew (S := fun w' => True) (by kernel_rfl) trivial (fun _ => ?_)
      refine wpAnyH_take (i := 0) (v := ?_) rfl (by kernel_rfl) (by kernel_rfl) (by kernel_rfl) (fun _ _ _ h => h) (Or.inl ⟨by rfl, ?_⟩) trivial ?_
      rotate_left
      · intro wq hSw; (try dsimp only at hSw); go_split_ands; go_simp; try with_reducible rfl
      try simp only [Act.put, List.setIfInBounds_toArray, List.set_cons_zero, List.set_cons_succ, List.getElem_toArray, List.getElem_cons_zero, List.getElem_cons_succ]
      refine wpAnyH_take (i := 1) (v := ?_) rfl (by kernel_rfl) (by kernel_rfl) (by kernel_rfl) (fun _ _ _ h => h) (Or.inl ⟨by rfl, ?_⟩) trivial ?_
      rotate_left
      · intro wq hSw; (try dsimp only at hSw); go_split_ands; go_simp; try with_reducible rfl
      try simp only [Act.put, List.setIfInBounds_toArray, List.set_cons_zero, List.set_cons_succ, List.getElem_toArray, List.getElem_cons_zero, List.getElem_cons_succ]
      refine wpAnyH_take (i := 2) (v := ?_) rfl (by kernel_rfl) (by kernel_rfl) (by kernel_rfl) (fun _ _ _ h => h) (Or.inl ⟨by rfl, ?_⟩) trivial ?_
      rotate_left
      · intro wq hSw; (try dsimp only at hSw); go_split_ands; go_simp; try with_reducible rfl
      try simp only [Act.put, List.setIfInBounds_toArray, List.set_cons_zero, List.set_cons_succ, List.getElem_toArray, List.getElem_cons_zero, List.getElem_cons_succ]
      refine wpAnyH_take (i := 3) (v := ?_) rfl (by kernel_rfl) (by kernel_rfl) (by kernel_rfl) (fun _ _ _ h => h) (Or.inl ⟨by rfl, ?_⟩) trivial ?_
      rotate_left
      · intro wq hSw; (try dsimp only at hSw); go_split_ands; go_simp; try with_reducible rfl
      try simp only [Act.put, List.setIfInBounds_toArray, List.set_cons_zero, List.set_cons_succ, List.getElem_toArray, List.getElem_cons_zero, List.getElem_cons_succ]
      refine wpAnyH_take (i := 4) (v := ?_) rfl (by kernel_rfl) (by kernel_rfl) (by kernel_rfl) (fun _ _ _ h => h) (Or.inl ⟨by rfl, ?_⟩) trivial ?_
      rotate_left
      · intro wq hSw; (try dsimp only at hSw); go_split_ands; go_simp; try with_reducible rfl
      try simp only [Act.put, List.setIfInBounds_toArray, List.set_cons_zero, List.set_cons_succ, List.getElem_toArray, List.getElem_cons_zero, List.getElem_cons_succ]
      refine wpAnyH_take (i := 5) (v := ?_) rfl (by kernel_rfl) (by kernel_rfl) (by kernel_rfl) (fun _ _ _ h => h) (Or.inl ⟨by rfl, ?_⟩) trivial ?_
      rotate_left
      · intro wq hSw; (try dsimp only at hSw); go_split_ands; go_simp; try with_reducible rfl
      try simp only [Act.put, List.setIfInBounds_toArray, List.set_cons_zero, List.set_cons_succ, List.getElem_toArray, List.getElem_cons_zero, List.getElem_cons_succ]
      refine wpAnyH_take (i := 6) (v := ?_) rfl (by kernel_rfl) (by kernel_rfl) (by kernel_rfl) (fun _ _ _ h => h) (Or.inl ⟨by rfl, ?_⟩) trivial ?_
      rotate_left
      · intro wq hSw; (try dsimp only at hSw); go_split_ands; go_simp; try with_reducible rfl
      try simp only [Act.put, List.setIfInBounds_toArray, List.set_cons_zero, List.set_cons_succ, List.getElem_toArray, List.getElem_cons_zero, List.getElem_cons_succ]
      refine wpAnyH_take (i := 7) (v := ?_) rfl (by kernel_rfl) (by kernel_rfl) (by kernel_rfl) (fun _ _ _ h => h) (Or.inl ⟨by rfl, ?_⟩) trivial ?_
      rotate_left
      · intro wq hSw; (try dsimp only at hSw); go_split_ands; go_simp; try with_reducible rfl
      try simp only [Act.put, List.setIfInBounds_toArray, List.set_cons_zero, List.set_cons_succ, List.getElem_toArray, List.getElem_cons_zero, List.getElem_cons_succ]
      refine wpAnyH_take (i := 8) (v := ?_) rfl (by kernel_rfl) (by kernel_rfl) (by kernel_rfl) (fun _ _ _ h => h) (Or.inl ⟨by rfl, ?_⟩) trivial ?_
      rotate_left
      · intro wq hSw; (try dsimp only at hSw); go_split_ands; go_simp; try with_reducible rfl
      try simp only [Act.put, List.setIfInBounds_toArray, List.set_cons_zero, List.set_cons_succ, List.getElem_toArray, List.getElem_cons_zero, List.getElem_cons_succ]
      refine wpAnyH_take (i := 9) (v := ?_) rfl (by kernel_rfl) (by kernel_rfl) (by kernel_rfl) (fun _ _ _ h => h) (Or.inl ⟨by rfl, ?_⟩) trivial ?_
      rotate_left
      · intro wq hSw; (try dsimp only at hSw); go_split_ands; go_simp; try with_reducible rfl
      try simp only [Act.put, List.setIfInBounds_toArray, List.set_cons_zero, List.set_cons_succ, List.getElem_toArray, List.getElem_cons_zero, List.getElem_cons_succ]
      refine wpAnyH_ready (rs := [10]) (by kernel_rfl) (by simp) ?_
      refine AllReadyH.cons (o := _) rfl (fun K hK => ?_) AllReadyH.nil
      go_simp
      have hbdd : Below B0 w2 wr.drew := HBB.out.drew
      have hS1 := tx_cut (i := si) (n := n) (c := cB) (KTB.out _ hbdd) hin (by rw [HNB.out]; exact Nat.le_refl _) (by rw [HNB.out]; exact hcB)
      have hX1 := tx_cut (i := sj) (n := nO) (c := cO) (KTO.out _ hbdd) hj (by rw [HNO.out]; exact Nat.le_refl _) (by rw [HNO.out]; exact hcO)
      have hY1 := tx_cut (i := sk) (n := nT) (c := cT) (KTT.out _ hbdd) hk (by rw [HNT.out]; exact Nat.le_refl _) (by rw [HNT.out]; exact hcT)
      have hlen := HKK.out.len; have hnum := HKK.out.num
      dsimp only at hlen hnum
      have hPC := piece_any B0 B1 B0 bh sn so _ _ _ _ _ _ (cB - si) (cO - sj) (cT - sk) wr.drew (by rw [cut_len (by rw [HNB.out]; exact Nat.le_refl _)]; omega) (by rw [cut_len (by rw [HNO.out]; exact Nat.le_refl _)]; omega) (by rw [cut_len (by rw [HNT.out]; exact Nat.le_refl _)]; omega) hS1 hX1 hY1 (by omega) (by omega) (HI.out.below ((Below.refl _ _).drew))
      rw [cut_len (l := B) (by rw [HNB.out]; exact Nat.le_refl _), cut_len (l := O) (by rw [HNO.out]; exact Nat.le_refl _), cut_len (l := T) (by rw [HNT.out]; exact Nat.le_refl _)] at hPC
      refine hPC.mono ?_
      rintro e w4 ⟨rfl, hI4, hb4⟩
      generalize (if cB = si then oB else Option.map (fun x => x.add si) oB) = zS
      generalize (if cO = sj then oO else Option.map (fun x => x.add sj) oO) = zO
      generalize (if cT = sk then oT else Option.map (fun x => x.add sk) oT) = zT
      obtain ⟨oE, hoE⟩ : ∃ l, pcO so (cutL B si n) (cutL O sj nO) (cutL T sk nT) = l := ⟨_, rfl⟩
      obtain ⟨nE, hnE⟩ : ∃ l, pcN sn (cutL B si n) (cutL O sj nO) (cutL T sk nT) = l := ⟨_, rfl⟩
      rw [hoE] at hI4 HEQ
      rw [hnE] at hI4 HEQ
      have HB4 := Lib.hid (HBE.out _ (hbdd.trans hb4))
      obtain ⟨v, hbm, hvr⟩ := hI4.box
      obtain ⟨u, hs, hbh, hur⟩ := hI4.boxh
      obtain ⟨au, cu, hue, _⟩ := (show ∃ a c, u = .slice a nE c ∧ True by
        rcases hur.2 with ⟨h1, h2⟩ | ⟨g, c, _, h1, _⟩
        · exact ⟨none, 0, by rw [h1, h2], trivial⟩
        · exact ⟨_, c, h1, trivial⟩)
      subst hue
      have cm : w4.cell? ⟨B0, 0, none⟩ = some v := by rw [cell_of_row hbm]; rfl
      have ch : w4.cell? ⟨bh, 0, none⟩ = some (.slice au nE cu) := by rw [cell_of_row hbh]; rfl
      have HVR := Lib.hid (own_lower hvr (by have h1 := hI4.le1.1; have h2 := hI4.lt1.1; have h3 := HB2'.out; omega : w.heap.size ≤ B1))
      have HNM : Hid (nE ≤ 10000) := Lib.hid (by rw [← hnE]; have := pcN_le sn (cutL B si n) (cutL O sj nO) (cutL T sk nT); omega)
      clear hS1 hX1 hY1 hPC hI4 hb4 hbdd hoE hnE hbm hvr hbh hur f2 f4 f6
      refine hK.out _ _ trivial (fun _ => ?_)
      refine wpAnyH_done (by kernel_rfl) ?_ _
      have hnm := HNM.out
      by_cases h0 : 0 < nE
      · have hLO : Hid (linesO B O T = []) := Lib.hid (by unfold linesO; rw [HEQ.out, if_neg (by dsimp only; omega)])
        have h0i : (0 : Int) < nE := by omega
        go_wp2_with fail
        go_quiet (fail)
        (first | (have _h : Nat := nq; clear _h) | rename_i nq)
        have HB5 := Lib.hid (below_drewN HB4.out nq)
        go_wp2_with fail
        refine bodyPost_ret (v := .tuple #[.slice none 0 0, .slice au nE cu, .int .i64 0]) (by simp [results, Try.results13, go_sem]) rfl ?_
        refine ⟨_, au, cu, by rw [HEQ.out], ?_, HB5.out⟩
        rw [hLO.out]; exact World.ownsRow_nil _ _ _ _
      · obtain rfl : nE = 0 := by omega
        have hLO : Hid (linesO B O T = oE) := Lib.hid (by unfold linesO; rw [HEQ.out, if_pos rfl])
        go_wp2_with fail
        refine bodyPost_ret (v := .tuple #[v, .slice none 0 0, .int .i64 0]) (by simp [results, Try.results13, go_sem]) rfl ?_
        refine ⟨_, none, 0, by rw [HEQ.out], ?_, HB4.out⟩
        rw [hLO.out]; exact HVR.out
end Go.Proofs.Ytjdlpcokjcmapaa
