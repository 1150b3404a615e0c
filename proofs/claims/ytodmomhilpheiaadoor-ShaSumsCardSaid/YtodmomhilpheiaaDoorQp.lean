/- The law ShaParts, at whatever world that has the package's variables. -/
import Derived.Test.YtodmomhilpheiaaDoorQo
import Derived.Laws.AppendOwn
namespace Go.Proofs.YtodmomhilpheiaaDoor
open Go.RowKit

def PtSlot (zs : List ByteArray) (len : Nat) (w : World) (all more i : Value) (wr : World) : Prop :=
  ∃ k : Nat, k ≤ len ∧ k ≤ 20 ∧ i = .int .i64 k ∧ all = .string (catB (zs.take k)) ∧ (catB (zs.take k)).size ≤ 500 * k ∧ wr.ownsRow w.heap.size 9 1 more (2 * k) ((inter (zs.take k)).map Value.string) ∧ Below w.heap.size w wr ∧ w.heap.size ≤ wr.heap.size

theorem pt_step (zs : List ByteArray) (k : Nat) (h : k < zs.length) : catB (zs.take (k + 1)) = catB (zs.take k) ++ zs[k] ∧ inter (zs.take (k + 1)) = inter (zs.take k) ++ [⟨#[]⟩, zs[k]] := by
  rw [List.take_succ_eq_append_getElem h, catB_snoc, inter_snoc]
  exact ⟨rfl, rfl⟩
theorem one_row (W : World) (s : ByteArray) (hV : VarsAt W) (hm : s.size < 1152921504606846976) :
    Calls Tryd.prog 12 #[.slice (some ⟨W.heap.size, 0, none⟩) 1 1] (W.alloc (.cells #[.string s] 9)) fun e w' => e = .returned (.string (shaT s)) ∧ Below W.heap.size W w' :=
  (Sum_row W.heap.size 1 9 [s] s _ (heap_alloc_last _ _) (parts_self s) (parts_one s) (hV.alloc _) hm (by simp)).mono fun _ _ ⟨a, b⟩ => ⟨a, ((Below.refl W.heap.size W).alloc (Nat.le_refl _) _).trans (b.mono (by show _ ≤ (W.heap.push _).size; simp))⟩

set_option maxHeartbeats 2000000 in
set_option maxRecDepth 100000 in
/-- What stands behind the loop. -/
theorem parts_tail (P : List ByteArray) (k : Nat) (hk : P.length = k) (hk20 : k ≤ 20) (hz : (catB P).size ≤ 500 * k) (B : Nat) (v : Value) (W : World) (hown : W.ownsRow B 9 1 v (2 * k) ((inter P).map Value.string)) (hV : VarsAt W) :
    Calls Tryd.prog 12 #[v] W fun e w' => e = .returned (.string (shaT (catB P))) ∧ Below W.heap.size W w' :=
  Sum_own B v (2 * k) (inter P) (catB P) W hown (by rw [inter_length, hk]) (parts_inter _ P 0 (fun i _ => by rw [Nat.zero_add])) (inter_size P) hV (by omega) (by rw [inter_length, hk]; omega)

set_option maxHeartbeats 2000000 in
set_option maxRecDepth 100000 in
theorem parts_some (x : Addr) (len cap : Nat) (zs : List ByteArray) (w : World) (hl : zs.length = len) (hm : len ≤ maxLen) (hc : ∀ i, i < len → w.cell? (x.add i) = some (.string (zs.getD i ByteArray.empty))) (hV : VarsAt w) :
    Calls Tryd.prog 7 #[.slice (some x) len cap] w fun e w' => e = .returned (.bool true) ∧ Below w.heap.size w w' := by
  unfold maxLen at hm
  obtain ⟨i0, hi, hz0, hz1', hz2⟩ := info_parts strInfo
  have HL := Lib.hid hl; have HC := Lib.hid hc; have HV := Lib.hid hV
  have HBK : Hid (∀ i, i < len → (x.add i).block < w.heap.size) := Lib.hid (fun i hi => cell_lt (hc i hi))
  clear hl hc hV
  go_enter Tryd.func7, Tryd.ntmps7
  go_wp2_with fail
  refine (speaks_any _ HV.out).mono ?_
  rintro e w1 ⟨rfl, hw1⟩
  have HW1 := Lib.hid hw1
  clear hw1
  go_wp2_with fail
  go_loopw [3, 4, 5] (fun all more i wr => PtSlot zs len w all more i wr) (fun _ _ i _ => 20 - (intOf i).toNat)
  case atStart => exact ⟨0, Nat.zero_le _, by omega, rfl, rfl, Nat.le_refl 0, World.ownsRow_nil _ _ _ _, HW1.out, HW1.out.size⟩
  case round =>
    obtain ⟨k, hk, hk20, rfl, rfl, hS, hown, hB, hz⟩ := hrel
    have HO := Lib.hid hown; have HB := Lib.hid hB; have HSZ := Lib.hid hS
    obtain ⟨S, hSe⟩ : ∃ S, catB (zs.take k) = S := ⟨_, rfl⟩
    have hSz : S.size ≤ 10000 := by rw [← hSe]; omega
    have HSE := Lib.hid hSe
    rw [hSe]
    clear hown hB hS hSe
    by_cases hgo : k < len ∧ k < 20
    · obtain ⟨h1, h2⟩ := hgo
      have h1i : (k : Int) < (len : Int) := by omega
      have h2i : (k : Int) < 20 := by omega
      have hkl : k < zs.length := by rw [HL.out]; exact h1
      obtain ⟨s, hs⟩ : ∃ s, zs[k] = s := ⟨_, rfl⟩
      have hcell : wr.cell? (x.add k) = some (.string s) := (HB.out.cell (p := x.add k) (HBK.out k h1)).trans ((HC.out k h1).trans (by rw [← hs]; simp [List.getD, List.getElem?_eq_getElem hkl]))
      have hst := pt_step zs k hkl
      rw [hs, HSE.out] at hst
      have HST := Lib.hid hst
      clear hst hs
      by_cases hbig : 500 < s.size
      · have hb : (500 : Int) < (s.size : Int) := by omega
        go_wp2_with fail
        go_ret
        exact ⟨rfl, HB.out⟩
      · have hb : (s.size : Int) ≤ 500 := by omega
        have n1 : ¬ 9223372036854775807 < S.size + s.size := by omega
        have HN1 := Lib.hid hbig
        go_wp2_with (at_builtin; refine wpList_append_own _ rfl _ _ 31 rfl w.heap.size 9 i0 (.string ⟨#[]⟩) 1 16 Tryd.underlying31 hi hz0 hz1' hz2 rfl (by decide) _ _ _ rfl (HO.out.alloc _) ⟨wr.heap.size, 0, none⟩ 2 2 [.string ⟨#[]⟩, .string s] rfl rfl ?c1 ?c2 ?c3 ?c4 ?c5 ?_)
        case c1 =>
          intro j u hj
          match j, hj with
          | 0, hj => simp at hj; subst hj; simp [Addr.add]
          | 1, hj => simp at hj; subst hj; simp [Addr.add]
        case c2 => intro u hu; simp at hu; rcases hu with rfl | rfl <;> rfl
        case c3 => unfold maxLen; omega
        case c4 => omega
        case c5 => simp; omega
        intro v1 w2 hown1 hgrow1 _
        have hend : Hid (PtSlot zs len w (.string (S ++ s)) v1 (.int .i64 ((k : Int) + 1)) w2) := Lib.hid ⟨k + 1, by omega, by omega, by rw [Int.natCast_succ], by rw [HST.out.1], by rw [HST.out.1, ByteArray.size_append]; have := HSZ.out; rw [HSE.out] at this; have := HN1.out; omega, by rw [HST.out.2, List.map_append]; exact hown1,
          (HB.out.alloc hz _).grown hgrow1 (by simp; omega) (fun g hg => (HO.out.lt g hg).1), by have := hgrow1.size; simp at this; omega⟩
        clear hown1 hgrow1
        go_wp2_with fail
        exact ⟨hend.out, by simp [intOf]; omega⟩
    · have hP : (zs.take k).length = k := by rw [List.length_take, HL.out]; omega
      have HP := Lib.hid hP
      clear hP
      by_cases h1 : k < len
      · have h2i : ¬ (k : Int) < 20 := by omega
        have h1i : (k : Int) < (len : Int) := by omega
        clear hgo h1
        go_wp2_with fail
        refine (parts_tail (zs.take k) k HP.out hk20 HSZ.out w.heap.size _ wr HO.out (HV.out.below HB.out)).mono ?_
        rintro e w2 ⟨rfl, h2⟩
        rw [HSE.out]
        have H2 := Lib.hid (HB.out.trans (h2.mono HB.out.size))
        obtain ⟨X, hX⟩ : ∃ X, shaT S = X := ⟨_, rfl⟩
        have hX32 : ((X.size : Int) == 32) = true := by rw [← hX, shaT_size]; rfl
        have HX := Lib.hid hX
        rw [hX]
        clear h2 hX
        go_wp2_with fail
        refine (one_row w2 S (HV.out.below H2.out) (by omega)).mono ?_
        rintro e w3 ⟨rfl, h3⟩
        rw [HX.out]
        have H3 := Lib.hid (H2.out.trans (h3.mono H2.out.size))
        clear h3
        go_wp2_with fail
        refine (one_row w3 S (HV.out.below H3.out) (by omega)).mono ?_
        rintro e w4 ⟨rfl, h4⟩
        rw [HX.out]
        have H4 := Lib.hid (H3.out.trans (h4.mono H3.out.size))
        clear h4
        go_wp2_with fail
        refine (Sum_none (atI ⟨#[]⟩) 0 w4 (atI_bytes _) (HV.out.below H4.out)).mono ?_
        rintro e w5 ⟨rfl, h5⟩
        rw [show shaB (atI ⟨#[]⟩) 0 = shaT ⟨#[]⟩ from rfl]
        obtain ⟨Y, hY⟩ : ∃ Y, shaT ⟨#[]⟩ = Y := ⟨_, rfl⟩
        have HY := Lib.hid hY
        rw [hY]
        have H5 := Lib.hid (H4.out.trans (h5.mono H4.out.size))
        clear h5 hY
        go_wp2_with fail
        refine (one_row w5 ⟨#[]⟩ (HV.out.below H5.out) (by decide)).mono ?_
        rintro e w6 ⟨rfl, h6⟩
        rw [HY.out]
        have H6 := Lib.hid (H5.out.trans (h6.mono H5.out.size))
        clear h6
        go_wp2_with fail
        go_ret
        exact ⟨rfl, H6.out⟩
      · have h1i : ¬ (k : Int) < (len : Int) := by omega
        clear hgo h1
        go_wp2_with fail
        refine (parts_tail (zs.take k) k HP.out hk20 HSZ.out w.heap.size _ wr HO.out (HV.out.below HB.out)).mono ?_
        rintro e w2 ⟨rfl, h2⟩
        rw [HSE.out]
        have H2 := Lib.hid (HB.out.trans (h2.mono HB.out.size))
        obtain ⟨X, hX⟩ : ∃ X, shaT S = X := ⟨_, rfl⟩
        have hX32 : ((X.size : Int) == 32) = true := by rw [← hX, shaT_size]; rfl
        have HX := Lib.hid hX
        rw [hX]
        clear h2 hX
        go_wp2_with fail
        refine (one_row w2 S (HV.out.below H2.out) (by omega)).mono ?_
        rintro e w3 ⟨rfl, h3⟩
        rw [HX.out]
        have H3 := Lib.hid (H2.out.trans (h3.mono H2.out.size))
        clear h3
        go_wp2_with fail
        refine (one_row w3 S (HV.out.below H3.out) (by omega)).mono ?_
        rintro e w4 ⟨rfl, h4⟩
        rw [HX.out]
        have H4 := Lib.hid (H3.out.trans (h4.mono H3.out.size))
        clear h4
        go_wp2_with fail
        refine (Sum_none (atI ⟨#[]⟩) 0 w4 (atI_bytes _) (HV.out.below H4.out)).mono ?_
        rintro e w5 ⟨rfl, h5⟩
        rw [show shaB (atI ⟨#[]⟩) 0 = shaT ⟨#[]⟩ from rfl]
        obtain ⟨Y, hY⟩ : ∃ Y, shaT ⟨#[]⟩ = Y := ⟨_, rfl⟩
        have HY := Lib.hid hY
        rw [hY]
        have H5 := Lib.hid (H4.out.trans (h5.mono H4.out.size))
        clear h5 hY
        go_wp2_with fail
        refine (one_row w5 ⟨#[]⟩ (HV.out.below H5.out) (by decide)).mono ?_
        rintro e w6 ⟨rfl, h6⟩
        rw [HY.out]
        have H6 := Lib.hid (H5.out.trans (h6.mono H5.out.size))
        clear h6
        go_wp2_with fail
        go_ret
        exact ⟨rfl, H6.out⟩

set_option maxHeartbeats 2000000 in
set_option maxRecDepth 100000 in
theorem parts_none (w : World) (hV : VarsAt w) :
    Calls Tryd.prog 7 #[.slice none 0 0] w fun e w' => e = .returned (.bool true) ∧ Below w.heap.size w w' := by
  have HV := Lib.hid hV
  clear hV
  go_enter Tryd.func7, Tryd.ntmps7
  go_wp2_with fail
  refine (speaks_any _ HV.out).mono ?_
  rintro e w1 ⟨rfl, hw1⟩
  have HB := Lib.hid hw1
  clear hw1
  go_wp2_with fail
  refine wp_loop_rounds 1 ?_
  rw [rounds_succ]
  go_wp2_with fail
  have hy : shaB (atI ⟨#[]⟩) 0 = shaT ⟨#[]⟩ := rfl
  obtain ⟨Y, hY⟩ : ∃ Y, shaT ⟨#[]⟩ = Y := ⟨_, rfl⟩
  have hX32 : ((Y.size : Int) == 32) = true := by rw [← hY, shaT_size]; rfl
  have HY := Lib.hid hY; have HY2 := Lib.hid (hy.trans hY)
  clear hY hy
  refine (Sum_none (atI ⟨#[]⟩) 0 w1 (atI_bytes _) (HV.out.below HB.out)).mono ?_
  rintro e w2 ⟨rfl, h2⟩
  rw [HY2.out]
  have H2 := Lib.hid (HB.out.trans (h2.mono HB.out.size))
  clear h2
  go_wp2_with fail
  refine (one_row w2 ⟨#[]⟩ (HV.out.below H2.out) (by decide)).mono ?_
  rintro e w3 ⟨rfl, h3⟩
  rw [HY.out]
  have H3 := Lib.hid (H2.out.trans (h3.mono H2.out.size))
  clear h3
  go_wp2_with fail
  refine (one_row w3 ⟨#[]⟩ (HV.out.below H3.out) (by decide)).mono ?_
  rintro e w4 ⟨rfl, h4⟩
  rw [HY.out]
  have H4 := Lib.hid (H3.out.trans (h4.mono H3.out.size))
  clear h4
  go_wp2_with fail
  refine (Sum_none (atI ⟨#[]⟩) 0 w4 (atI_bytes _) (HV.out.below H4.out)).mono ?_
  rintro e w5 ⟨rfl, h5⟩
  rw [HY2.out]
  have H5 := Lib.hid (H4.out.trans (h5.mono H4.out.size))
  clear h5
  go_wp2_with fail
  refine (one_row w5 ⟨#[]⟩ (HV.out.below H5.out) (by decide)).mono ?_
  rintro e w6 ⟨rfl, h6⟩
  rw [HY.out]
  have H6 := Lib.hid (H5.out.trans (h6.mono H5.out.size))
  clear h6
  go_wp2_with fail
  go_ret
  exact ⟨rfl, H6.out⟩

theorem ShaParts_any (a : Option Addr) (len cap : Nat) (zs : List ByteArray) (w : World) (h : IsStrs w a len cap zs) (hV : VarsAt w) :
    Calls Tryd.prog 7 #[.slice a len cap] w fun e w' => e = .returned (.bool true) ∧ Below w.heap.size w w' := by
  rcases h with ⟨rfl, rfl, rfl, rfl⟩ | ⟨x, rfl, hl, hm, hc⟩
  · exact parts_none w hV
  · exact parts_some x len cap zs w hl hm hc hV
end Go.Proofs.YtodmomhilpheiaaDoor
