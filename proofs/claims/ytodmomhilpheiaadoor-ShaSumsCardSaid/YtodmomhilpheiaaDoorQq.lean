/- The law ShaApart, at whatever world that has the package's variables. -/
import Derived.Test.YtodmomhilpheiaaDoorQp
namespace Go.Proofs.YtodmomhilpheiaaDoor
open Go.RowKit

theorem Put_nil (s : ByteArray) (w : World) :
    Calls Tryd.prog 10 #[.pointer none, .string s] w fun e w' => e = .returned (.tuple #[]) ∧ w = w' := by
  go_enter Tryd.func10, Tryd.ntmps10
  go_wp2_with fail
  exact bodyPost_ret (results_none rfl _ _ _) rfl ⟨rfl, rfl⟩
theorem HSum_nil (w : World) :
    Calls Tryd.prog 11 #[.pointer none] w fun e w' => e = .returned (.string ⟨#[]⟩) ∧ w = w' := by
  go_enter Tryd.func11, Tryd.ntmps11
  go_wp2_with fail
  go_ret
  exact ⟨rfl, rfl⟩
theorem two_row (W : World) (a b : ByteArray) (hV : VarsAt W) (hm : a.size + b.size < 1152921504606846976) :
    Calls Tryd.prog 12 #[.slice (some ⟨W.heap.size, 0, none⟩) 2 2] (W.alloc (.cells #[.string a, .string b] 9)) fun e w' => e = .returned (.string (shaT (a ++ b))) ∧ Below W.heap.size W w' :=
  (Sum_row W.heap.size 2 9 [a, b] (a ++ b) _ (heap_alloc_last _ _) (parts_two a b) (by rw [parts_two_len, ByteArray.size_append]) (hV.alloc _) (by rw [ByteArray.size_append]; omega) (by simp)).mono fun _ _ ⟨x, y⟩ => ⟨x, ((Below.refl W.heap.size W).alloc (Nat.le_refl _) _).trans (y.mono (by show _ ≤ (W.heap.push _).size; simp))⟩

set_option maxHeartbeats 2000000 in
set_option maxRecDepth 100000 in
theorem apart_1 (a b c : ByteArray) (x y z : Int) (hx : (a.size : Int) = x) (hy : (b.size : Int) = y) (hz : (c.size : Int) = z) (w : World) (hV : VarsAt w) (h : 3000 < x) :
    Calls Tryd.prog 6 #[.string a, .string b, .string c] w fun e w' => e = .returned (.bool true) ∧ Below w.heap.size w w' := by
  have HV := Lib.hid hV
  clear hV
  go_enter Tryd.func6, Tryd.ntmps6
  go_wp2_with fail
  refine (speaks_any w HV.out).mono ?_
  rintro e w1 ⟨rfl, hw1⟩
  go_wp2_with fail
  all_goals (go_ret; exact ⟨rfl, hw1⟩)

set_option maxHeartbeats 2000000 in
set_option maxRecDepth 100000 in
theorem apart_2 (a b c : ByteArray) (x y z : Int) (hx : (a.size : Int) = x) (hy : (b.size : Int) = y) (hz : (c.size : Int) = z) (w : World) (hV : VarsAt w) (h0 : x ≤ 3000) (h : 3000 < y) :
    Calls Tryd.prog 6 #[.string a, .string b, .string c] w fun e w' => e = .returned (.bool true) ∧ Below w.heap.size w w' := by
  have HV := Lib.hid hV
  clear hV
  go_enter Tryd.func6, Tryd.ntmps6
  go_wp2_with fail
  refine (speaks_any w HV.out).mono ?_
  rintro e w1 ⟨rfl, hw1⟩
  go_wp2_with fail
  all_goals (go_ret; exact ⟨rfl, hw1⟩)

set_option maxHeartbeats 2000000 in
set_option maxRecDepth 100000 in
theorem apart_3 (a b c : ByteArray) (x y z : Int) (hx : (a.size : Int) = x) (hy : (b.size : Int) = y) (hz : (c.size : Int) = z) (w : World) (hV : VarsAt w) (h0 : x ≤ 3000) (h1 : y ≤ 3000) (h : 3000 < z) :
    Calls Tryd.prog 6 #[.string a, .string b, .string c] w fun e w' => e = .returned (.bool true) ∧ Below w.heap.size w w' := by
  have HV := Lib.hid hV
  clear hV
  go_enter Tryd.func6, Tryd.ntmps6
  go_wp2_with fail
  refine (speaks_any w HV.out).mono ?_
  rintro e w1 ⟨rfl, hw1⟩
  go_wp2_with fail
  all_goals (go_ret; exact ⟨rfl, hw1⟩)

set_option maxHeartbeats 2000000 in
set_option maxRecDepth 100000 in
theorem apart_4 (a b c : ByteArray) (x y z : Int) (hx : (a.size : Int) = x) (hy : (b.size : Int) = y) (hz : (c.size : Int) = z) (w : World) (hV : VarsAt w) (h0 : x ≤ 3000) (h1 : y ≤ 3000) (h2 : z ≤ 3000) (p0 : 0 ≤ x) (p1 : 0 ≤ y) (p2 : 0 ≤ z) (h : 3000 < x + y + z) :
    Calls Tryd.prog 6 #[.string a, .string b, .string c] w fun e w' => e = .returned (.bool true) ∧ Below w.heap.size w w' := by
  have HV := Lib.hid hV
  clear hV
  go_enter Tryd.func6, Tryd.ntmps6
  go_wp2_with fail
  refine (speaks_any w HV.out).mono ?_
  rintro e w1 ⟨rfl, hw1⟩
  go_wp2_with fail
  all_goals (go_ret; exact ⟨rfl, hw1⟩)

set_option maxHeartbeats 2000000 in
set_option maxRecDepth 100000 in
theorem apart_short (a b c : ByteArray) (w : World) (hV : VarsAt w) (hl : a.size + b.size + c.size ≤ 3000) :
    Calls Tryd.prog 6 #[.string a, .string b, .string c] w fun e w' => e = .returned (.bool true) ∧ Below w.heap.size w w' := by
  have HV := Lib.hid hV
  clear hV
  have h1i : (a.size : Int) ≤ 3000 := by omega
  have h2i : (b.size : Int) ≤ 3000 := by omega
  have h3i : (c.size : Int) ≤ 3000 := by omega
  have h4i : (a.size : Int) + b.size + c.size ≤ 3000 := by omega
  have HL := Lib.hid hl
  clear hl
  have hzv := hasher_zero.1
  obtain ⟨Z, hZ⟩ : ∃ Z, hZero = Z := ⟨_, rfl⟩
  rw [hZ] at hzv
  have HZ := Lib.hid hZ
  have HSZ := Lib.hid hasher_zero.2
  clear hZ
  go_enter Tryd.func6, Tryd.ntmps6
  go_wp2_with fail
  refine (speaks_any w HV.out).mono ?_
  rintro e w1 ⟨rfl, hw1⟩
  have B1 := Lib.hid hw1
  have V1 := Lib.hid (HV.out.below hw1)
  have hb1 : 1 < w1.heap.size := V1.out.2.2
  have h0 : HasP w1.heap.size (atI (a ++ b)) 0 (w1.alloc (.cells Z 30)) := Or.inl ⟨rfl, fun _ => 0, fun _ => 0, by rw [← HZ.out]; exact heap_alloc_last _ _, fun _ => ⟨Int.le_refl 0, by show (0 : Int) < 256; decide⟩⟩
  have H0 := Lib.hid h0
  clear hw1 h0
  go_wp2_with fail
  refine (Put_any w1.heap.size (atI (a ++ b)) 0 a _ H0.out (fun i hi => by rw [Nat.zero_add, atI_app, if_pos hi]) (atI_bytes _) (V1.out.alloc _) hb1 (by omega)).mono ?_
  rintro e w2 ⟨rfl, h2, g2⟩
  rw [Nat.zero_add] at h2
  have hp2 := h2.hasP
  obtain ⟨f, blk, hH, hcopy⟩ := hp2.copy
  have hh : w2.heap[w1.heap.size]? = some (.cells (hcells f blk a.size) 30 (0, 0)) := hH
  obtain ⟨A, hA⟩ : ∃ A, hcells f blk a.size = A := ⟨_, rfl⟩
  have hsz : (Tryd.prog.info? 30).map (·.size) = some A.size := by rw [← hA, hcells_len]; exact HSZ.out
  have hone : A.all (·.oneCell') = true := by rw [← hA]; exact hcells_one _ _ _
  have hAZ : Z.size = A.size := by rw [← hA, ← HZ.out, hcells_len]; exact hcells_len _ _ _
  rw [hA] at hh
  have hlt2 : w1.heap.size < w2.heap.size := hH.lt
  have hcat : ∀ i, i < a.size → atI (a ++ b) i = atI (a ++ c) i := fun i hi => by rw [atI_app, atI_app, if_pos hi, if_pos hi]
  have hy : HasP w2.heap.size (atI (a ++ c)) a.size ((w2.alloc (.cells Z 30)).setRow w2.heap.size A) := (hcopy _ _ (by rw [World.setRow_alloc_new, hA.symm]; exact heap_alloc_last _ _)).congr hcat
  have hbel : Below w2.heap.size w2 ((w2.alloc (.cells Z 30)).setRow w2.heap.size A) := by
    rw [World.setRow_alloc_new]; exact (Below.refl _ _).alloc (Nat.le_refl _) _
  have hlast : (w2.alloc (.cells Z 30)).heap[w2.heap.size]? = some (.cells Z 30 (0, 0)) := heap_alloc_last _ _
  have B2 : Hid (Below w1.heap.size w1 w2) := Lib.hid ((((Below.refl w1.heap.size w1).alloc (Nat.le_refl _) _).grown g2 (by show _ ≤ (w1.heap.push _).size; simp) (fun k hk => by injection hk with hk; omega)))
  have B2' := Lib.hid (B1.out.trans (B2.out.mono B1.out.size))
  have HX2 := Lib.hid hp2; have HY := Lib.hid hy; have HBL := Lib.hid hbel; have HL2 := Lib.hid hlast; have HH := Lib.hid hh; have HS := Lib.hid hsz; have HO := Lib.hid hone; have HAZ := Lib.hid hAZ
  have V2 := Lib.hid (HV.out.below B2'.out)
  clear hp2 hy hbel hlast hh hsz hone hAZ hH hcopy hA h2 g2 hcat
  go_wp2_with (first | (refine wpList_load_row rfl 30 _ rfl w1.heap.size rfl 30 A (0, 0) _ HH.out Tryd.underlying30 rfl HS.out ?_) | (refine wpList_store_row rfl 30 _ _ rfl w2.heap.size A rfl rfl 30 Z HL2.out HS.out HAZ.out HO.out ?_))
  obtain ⟨w3, hw3⟩ : ∃ w3, (w2.alloc (.cells Z 30)).setRow w2.heap.size A = w3 := ⟨_, rfl⟩
  rw [hw3] at HY HBL
  rw [hw3]
  have B3 := Lib.hid (B2'.out.trans (HBL.out.mono B2'.out.size))
  have V3 := Lib.hid (V2.out.below HBL.out)
  have X3 := Lib.hid (HX2.out.below HBL.out)
  have hs3 : w2.heap.size ≤ w3.heap.size := HBL.out.size
  clear hw3 HL2 HH
  refine (Put_any w1.heap.size (atI (a ++ b)) a.size b w3 X3.out (fun i hi => by rw [atI_app, if_neg (by omega), Nat.add_sub_cancel_left]) (atI_bytes _) V3.out hb1 (by have := HL.out; omega)).mono ?_
  rintro e w4 ⟨rfl, h4, g4⟩
  have hbw : w.heap.size ≤ w1.heap.size := B1.out.size
  have B4 := Lib.hid (B3.out.grown g4 B3.out.size (fun k hk => by injection hk with hk; omega))
  have V4 := Lib.hid (V3.out.kept g4 hb1)
  have X4 := Lib.hid h4.hasP
  have Y4 := Lib.hid (HY.out.kept g4 (by omega))
  have hs4 : w3.heap.size ≤ w4.heap.size := g4.size
  clear h4 g4
  go_wp2_with fail
  refine (Put_any w2.heap.size (atI (a ++ c)) a.size c w4 Y4.out (fun i hi => by rw [atI_app, if_neg (by omega), Nat.add_sub_cancel_left]) (atI_bytes _) V4.out (by omega) (by have := HL.out; omega)).mono ?_
  rintro e w5 ⟨rfl, h5, g5⟩
  have B5 := Lib.hid (B4.out.grown g5 B4.out.size (fun k hk => by injection hk with hk; omega))
  have V5 := Lib.hid (V4.out.kept g5 (by omega))
  have Y5 := Lib.hid h5.hasP
  have X5 := Lib.hid (X4.out.kept g5 (by omega))
  clear h5 g5
  go_wp2_with fail
  refine (Put_nil a w5).mono ?_
  rintro e w6 ⟨rfl, rfl⟩
  go_wp2_with fail
  refine (HSum_any w1.heap.size (atI (a ++ b)) _ w5 X5.out (atI_bytes _) V5.out (by have := HL.out; omega)).mono ?_
  rintro e w6 ⟨rfl, h6⟩
  rw [show shaB (atI (a ++ b)) (a.size + b.size) = shaT (a ++ b) by unfold shaT; rw [ByteArray.size_append]]
  obtain ⟨X, hX⟩ : ∃ X, shaT (a ++ b) = X := ⟨_, rfl⟩
  have HX := Lib.hid hX
  rw [hX]
  have B6 := Lib.hid (B5.out.trans (h6.mono B5.out.size))
  have Y6 := Lib.hid (Y5.out.below h6)
  clear h6 hX
  go_wp2_with fail
  refine (two_row w6 a b (HV.out.below B6.out) (by have := HL.out; omega)).mono ?_
  rintro e w7 ⟨rfl, h7⟩
  rw [HX.out]
  have B7 := Lib.hid (B6.out.trans (h7.mono B6.out.size))
  have Y7 := Lib.hid (Y6.out.below h7)
  clear h7
  go_wp2_with fail
  refine (HSum_any w2.heap.size (atI (a ++ c)) _ w7 Y7.out (atI_bytes _) (HV.out.below B7.out) (by have := HL.out; omega)).mono ?_
  rintro e w8 ⟨rfl, h8⟩
  rw [show shaB (atI (a ++ c)) (a.size + c.size) = shaT (a ++ c) by unfold shaT; rw [ByteArray.size_append]]
  obtain ⟨Y, hY⟩ : ∃ Y, shaT (a ++ c) = Y := ⟨_, rfl⟩
  have HYY := Lib.hid hY
  rw [hY]
  have B8 := Lib.hid (B7.out.trans (h8.mono B7.out.size))
  have n1 : ¬ 9223372036854775807 < a.size + c.size := by have := HL.out; omega
  clear h8 hY
  go_wp2_with fail
  refine (one_row w8 (a ++ c) (HV.out.below B8.out) (by rw [ByteArray.size_append]; have := HL.out; omega)).mono ?_
  rintro e w9 ⟨rfl, h9⟩
  rw [HYY.out]
  have B9 := Lib.hid (B8.out.trans (h9.mono B8.out.size))
  clear h9
  go_wp2_with fail
  refine (HSum_nil w9).mono ?_
  rintro e w10 ⟨rfl, rfl⟩
  go_wp2_with fail
  go_ret
  exact ⟨rfl, B9.out⟩

theorem ShaApart_any (a b c : ByteArray) (w : World) (hV : VarsAt w) :
    Calls Tryd.prog 6 #[.string a, .string b, .string c] w fun e w' => e = .returned (.bool true) ∧ Below w.heap.size w w' := by
  by_cases h1 : 3000 < a.size
  · exact apart_1 a b c _ _ _ rfl rfl rfl w hV (by omega)
  by_cases h2 : 3000 < b.size
  · exact apart_2 a b c _ _ _ rfl rfl rfl w hV (by omega) (by omega)
  by_cases h3 : 3000 < c.size
  · exact apart_3 a b c _ _ _ rfl rfl rfl w hV (by omega) (by omega) (by omega)
  by_cases h4 : 3000 < a.size + b.size + c.size
  · exact apart_4 a b c _ _ _ rfl rfl rfl w hV (by omega) (by omega) (by omega) (by omega) (by omega) (by omega) (by omega)
  · exact apart_short a b c w hV (by omega)
end Go.Proofs.YtodmomhilpheiaaDoor
