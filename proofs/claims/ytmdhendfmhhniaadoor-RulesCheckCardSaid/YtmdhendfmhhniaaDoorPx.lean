/- Merges: Invalid. -/
import Derived.Test.YtmdhendfmhhniaaDoorPw
import Derived.Test.YtmdhendfmhhniaaDoorPi
namespace Go.Proofs.YtmdhendfmhhniaaDoor
open Go.RowKit Go.Maps
variable {w w' : World}

def InS (w : World) (l : List PairB) (i : Value) (wr : World) : Prop :=
  ∃ k : Nat, k ≤ l.length ∧ i = .int .i64 k ∧ invM l = invF k (resL (l.take k)) (l.drop k) ∧ IsTx w.heap.size k (resL (l.take k)) wr ∧ wr.cell? ⟨w.heap.size + 1, 0, none⟩ = some (.map (some w.heap.size)) ∧ Below w.heap.size w wr
theorem resL_take {l : List PairB} {k : Nat} {p : PairB} (h : l[k]? = some p) : resL (l.take (k + 1)) = resL (l.take k) ++ [p.1 ++ p.2] := by
  rw [List.take_add_one, h]; unfold resL; rw [List.map_append]; rfl
set_option maxHeartbeats 4000000 in
set_option maxRecDepth 100000 in
theorem Invalid_any (o : Option Addr) (l : List PairB) (cap : Nat) (w : World) (hl : l.length ≤ 100000) (hp : PrAt w 48 o l) (hok : ∀ p ∈ l, p.1.size + p.2.size ≤ maxLen) :
    Calls Tryd.prog 18 #[.slice o l.length cap] w fun e w' => e = .returned (.int .i64 (invM l)) ∧ Below w.heap.size w w' := by
  obtain ⟨n, hn⟩ : ∃ n, l.length = n := ⟨_, rfl⟩
  rw [hn] at hl ⊢
  have hmm := @run_makeMap Tryd.prog
  obtain ⟨W, hW⟩ : ∃ W, (w.alloc (.map #[] 0)).alloc (.cells #[.map (some w.heap.size)] 88) = W := ⟨_, rfl⟩
  have hb : Below w.heap.size w W := by rw [← hW]; exact ((Below.refl _ _).alloc (Nat.le_refl _) _).alloc (by simp) _
  have hs : IsTx w.heap.size 0 [] W := by rw [← hW]; exact (IsTx.new w).keep (Lib.alloc_old _ _ _ (by simp))
  have hk : W.cell? ⟨w.heap.size + 1, 0, none⟩ = some (.map (some w.heap.size)) := by
    rw [← hW]
    have := World.alloc_heap_new (w.alloc (.map #[] 0)) (.cells #[.map (some w.heap.size)] 88)
    rw [World.size_alloc] at this
    exact cell_of_row this
  have HN := Lib.hid hn; have HP := Lib.hid hp; have HO := Lib.hid hok
  have H0 : Hid (InS w l (.int .i64 0) W) := Lib.hid ⟨0, Nat.zero_le _, rfl, rfl, hs, hk, hb⟩
  clear hb hs hk hn hp hok
  go_enter Tryd.func18, Tryd.ntmps18
  go_wp2_with fail
  clear hW
  go_loopw [11] (fun i wr => InS w l i wr) (fun i _ => n - (intOf i).toNat)
  case atStart => exact H0.out
  case round =>
    obtain ⟨k, hk, rfl, hin, htx, hbox, hb⟩ := hrel
    rw [HN.out] at hk
    have HIN := Lib.hid hin; have HTX := Lib.hid htx; have HB := Lib.hid hb
    clear hin htx hb H0 hmm
    by_cases hlt : k < n
    · obtain ⟨q, hq⟩ : ∃ q, l[k]? = some q := ⟨_, List.getElem?_eq_getElem (by rw [HN.out]; exact hlt)⟩
      obtain ⟨g, cur, ho, hg, d0, d1⟩ := (HP.out.below HB.out) k q hq
      subst ho
      have hsz := HO.out q (List.mem_of_getElem? hq)
      have HRT := Lib.hid (resL_take hq)
      have hdr : l.drop k = q :: l.drop (k + 1) := by rw [List.drop_eq_getElem_cons (by rw [HN.out]; exact hlt), (List.getElem?_eq_some_iff.1 hq).2]
      have hst : invM l = if partOk (resL (l.take k)) q.1 && partOk (resL (l.take k)) q.2 then invF (k + 1) (resL (l.take k) ++ [q.1 ++ q.2]) (l.drop (k + 1)) else (k : Int) := by rw [HIN.out, hdr]; rfl
      have HST := Lib.hid hst
      have HSZ := Lib.hid hsz
      obtain ⟨q1, q2⟩ := q
      simp only at d0 d1
      have hs1 : q1.size ≤ maxLen := by have : q1.size + q2.size ≤ maxLen := hsz; omega
      have hs2 : q2.size ≤ maxLen := by have : q1.size + q2.size ≤ maxLen := hsz; omega
      obtain ⟨W1, hW1⟩ : ∃ W1, wr.alloc (.cells #[.string q1, .string q2] 48) = W1 := ⟨_, rfl⟩
      have hb1 : Below wr.heap.size wr W1 := by rw [← hW1]; exact (Below.refl _ _).alloc (Nat.le_refl _) _
      have i0 : W1.cell? ⟨wr.heap.size, 0, none⟩ = some (.string q1) := by rw [← hW1]; exact cell_of_row (World.alloc_heap_new wr _)
      have i1 : W1.cell? ⟨wr.heap.size, 1, none⟩ = some (.string q2) := by rw [← hW1]; exact cell_of_row (World.alloc_heap_new wr _)
      have hbl : w.heap.size + 1 < wr.heap.size := World.block_lt_of_cell? wr _ hbox
      have HBX := Lib.hid hbox
      have HE1 : Hid (∀ V, Below wr.heap.size wr V → Calls Tryd.prog 37 #[.string q1, .pointer (some ⟨w.heap.size + 1, 0, none⟩)] V fun e w' => e = .returned (.bool (partOk (resL (l.take k)) q1)) ∧ Below V.heap.size V w') := Lib.hid (fun V hV => exists_any _ _ _ _ q1 V hs1 ((hV.cell (p := ⟨w.heap.size + 1, 0, none⟩) hbl).trans HBX.out) (HTX.out.keep (hV.block _ HTX.out.lt)))
      have HE2 : Hid (∀ V, Below wr.heap.size wr V → Calls Tryd.prog 37 #[.string q2, .pointer (some ⟨w.heap.size + 1, 0, none⟩)] V fun e w' => e = .returned (.bool (partOk (resL (l.take k)) q2)) ∧ Below V.heap.size V w') := Lib.hid (fun V hV => exists_any _ _ _ _ q2 V hs2 ((hV.cell (p := ⟨w.heap.size + 1, 0, none⟩) hbl).trans HBX.out) (HTX.out.keep (hV.block _ HTX.out.lt)))
      have HB1 := Lib.hid hb1
      clear hq hg hdr hst hsz hb1 hbox
      cases c1 : partOk (resL (l.take k)) q1 with
      | false =>
        rw [c1] at HE1
        have HE := Lib.hid (show invM l = k by rw [HST.out, c1]; rfl)
        clear HE2 c1
        go_wp2_with (go_at_call 37; refine (HE1.out _ HB1.out).mono ?_; rintro e w2 ⟨rfl, hb2⟩)
        go_ret
        exact ⟨ret_int HE.out.symm, HB.out.trans ((HB1.out.trans (hb2.mono HB1.out.size)).mono HB.out.size)⟩
      | true =>
        cases c2 : partOk (resL (l.take k)) q2 with
        | false =>
          rw [c1] at HE1; rw [c2] at HE2
          have HE := Lib.hid (show invM l = k by rw [HST.out, c1, c2]; rfl)
          clear c1 c2
          go_wp2_with (first
            | (go_at_call 37; (with_reducible refine (HE1.out _ HB1.out).mono ?_); rintro e w2 ⟨rfl, hb2⟩; clear HE1; have j1 : w2.cell? ⟨wr.heap.size, 1, none⟩ = some (.string q2) := (hb2.cell (p := ⟨wr.heap.size, 1, none⟩) (World.block_lt_of_cell? _ _ i1)).trans i1; have HB2 := Lib.hid (HB1.out.trans (hb2.mono HB1.out.size)); clear hb2)
            | (go_at_call 37; (with_reducible refine (HE2.out _ HB2.out).mono ?_); rintro e w3 ⟨rfl, hb3⟩; clear HE2; have HB3 := Lib.hid (HB2.out.trans (hb3.mono HB2.out.size)); clear hb3))
          go_ret
          exact ⟨ret_int HE.out.symm, HB.out.trans (HB3.out.mono HB.out.size)⟩
        | true =>
          rw [c1] at HE1; rw [c2] at HE2
          have HE := Lib.hid (show invM l = invF (k + 1) (resL (l.take (k + 1))) (l.drop (k + 1)) by rw [HST.out, c1, c2, HRT.out]; rfl)
          have hlt2 : k < 100000 := by omega
          have HKQ := Lib.hid (keyS (s := q1 ++ q2) (by rw [app_size]; exact HSZ.out))
          have HRES := Lib.hid (fun V => result_any q1 q2 V HSZ.out)
          clear c1 c2
          go_wp2_with (first
            | (go_at_call 37; (with_reducible refine (HE1.out _ HB1.out).mono ?_); rintro e w2 ⟨rfl, hb2⟩; clear HE1; have j1 : w2.cell? ⟨wr.heap.size, 1, none⟩ = some (.string q2) := (hb2.cell (p := ⟨wr.heap.size, 1, none⟩) (World.block_lt_of_cell? _ _ i1)).trans i1; have HJ0 := Lib.hid ((hb2.cell (p := ⟨wr.heap.size, 0, none⟩) (World.block_lt_of_cell? _ _ i0)).trans i0); have HJ1 := Lib.hid j1; have HB2 := Lib.hid (HB1.out.trans (hb2.mono HB1.out.size)); clear hb2)
            | (go_at_call 37; (with_reducible refine (HE2.out _ HB2.out).mono ?_); rintro e w3 ⟨rfl, hb3⟩; clear HE2; have k0 : w3.cell? ⟨wr.heap.size, 0, none⟩ = some (.string q1) := (hb3.cell (p := ⟨wr.heap.size, 0, none⟩) (World.block_lt_of_cell? _ _ HJ0.out)).trans HJ0.out; have k1 : w3.cell? ⟨wr.heap.size, 1, none⟩ = some (.string q2) := (hb3.cell (p := ⟨wr.heap.size, 1, none⟩) (World.block_lt_of_cell? _ _ HJ1.out)).trans HJ1.out; have HB3 := Lib.hid (HB2.out.trans (hb3.mono HB2.out.size)); have kb : w3.cell? ⟨w.heap.size + 1, 0, none⟩ = some (.map (some w.heap.size)) := (HB3.out.cell (p := ⟨w.heap.size + 1, 0, none⟩) hbl).trans HBX.out; clear hb3))
          obtain ⟨D, hD, hD2⟩ := HTX.out.keep (HB3.out.block _ HTX.out.lt)
          have HD := Lib.hid hD; have HD2 := Lib.hid hD2
          clear hD hD2
          go_region_with (go_at_call 38; (with_reducible refine (HRES.out _).mono ?_); rintro e w4 ⟨rfl, hb4⟩; have hD4 : w4.ownsMap Tryd.prog 9 unitElem w.heap.size k D := (by obtain ⟨es, ck, z1, z2⟩ := HD.out; exact ⟨es, ck, (hb4.block _ (lt_of_some z1)).trans z1, z2⟩); obtain ⟨w5, hrun, ho5, ht5⟩ := hD4.store keyedS Tryd.underlying88 (by unfold maxLen; omega) HKQ.out unitElem_mk; have kb4 : w4.cell? ⟨w.heap.size + 1, 0, none⟩ = some (.map (some w.heap.size)) := (hb4.cell (p := ⟨w.heap.size + 1, 0, none⟩) (World.block_lt_of_cell? _ _ kb)).trans kb; have HO5 := Lib.hid ho5; have HT5 := Lib.hid ht5; have HB4 := Lib.hid hb4; clear hD4 ho5 ht5 hb4)
          all_goals
            have hb34 : Below w.heap.size w w4 := HB.out.trans (((below_drewN HB3.out 1).trans (HB4.out.mono HB3.out.size)).mono HB.out.size)
            have hc5 : w5.cell? ⟨w.heap.size + 1, 0, none⟩ = some (.map (some w.heap.size)) := (World.cell?_of_block (a := ⟨w.heap.size + 1, 0, none⟩) (HT5.out.grown.block (w.heap.size + 1) (show w.heap.size + 1 < w4.heap.size from World.block_lt_of_cell? _ _ kb4) (fun e => by injection e with e; omega))).trans kb4
            have hend : Hid (InS w l (.int .i64 ((k : Int) + 1)) w5) := Lib.hid ⟨k + 1, by rw [HN.out]; omega, by rw [Int.natCast_succ], HE.out, by rw [HRT.out]; exact IsTx.put HD.out HD2.out HO5.out, hc5, mapTurned_below HT5.out hb34 (Nat.le_refl _) hb34.size⟩
            clear hb34 hc5
            go_wp2_with fail
            go_roundw
            case rel => exact hend.out
            case measure => simp [intOf]; omega
    · have hkn : k = n := by omega
      have HE := Lib.hid (show invM l = -1 by rw [HIN.out, List.drop_of_length_le (by rw [HN.out]; omega)]; rfl)
      go_wp2_with fail
      go_ret
      exact ⟨ret_int HE.out.symm, HB.out⟩
end Go.Proofs.YtmdhendfmhhniaaDoor
