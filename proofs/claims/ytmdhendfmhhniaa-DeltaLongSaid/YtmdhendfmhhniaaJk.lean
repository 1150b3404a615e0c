/- Deltas: compose. -/
import Derived.Test.YtmdhendfmhhniaaJj
namespace Go.Proofs.Ytmdhendfmhhniaa
open Go.RowKit Go.Maps Go.WideShapes
variable {w w' : World}

/-- The library's own variable holds some number. -/
def MaxAt (w : World) : Prop := ∃ m : Int, w.cell? ⟨0, 0, none⟩ = some (.int .i64 m)
theorem MaxAt.below (h : MaxAt w) (hb : Below w.heap.size w w') : MaxAt w' := by
  obtain ⟨m, h⟩ := h
  exact ⟨m, (hb.cell (p := ⟨0, 0, none⟩) (World.block_lt_of_cell? w _ h)).trans h⟩
def CompOk (base target : ByteArray) (B : List UInt8) : Prop :=
  (∃ k : Nat, Lib.index base.data.toList target.data.toList = (k : Int) ∧ B = copL k target.size) ∨ (Lib.index base.data.toList target.data.toList = -1 ∧ ∃ L, B = bytesI L ∧ okI base L ∧ outsI base L = target.data.toList)
def CmS (base target : ByteArray) (B : Nat) (w : World) (a b : Value) (wr : World) : Prop :=
  ∃ (L : List Ins) (d i : Nat), a = .int .i64 d ∧ b = .int .i64 i ∧ d ≤ i ∧ i ≤ target.size ∧ okI base L ∧ outsI base L = target.data.toList.take d ∧ Lib.IsBuilderF 43 5 B B (Lib.byteCells (bytesI L)) wr ∧ Below B w wr
set_option maxHeartbeats 4000000 in
set_option maxRecDepth 100000 in
theorem compose_any (base target : ByteArray) (w : World) (hbs : base.size ≤ 1000000) (hts : target.size ≤ 1000000) (hm : MaxAt w) :
    Calls Try.prog 22 #[.string base, .string target] w fun e w' => ∃ B : List UInt8, e = .returned (.string (mkB B)) ∧ CompOk base target B ∧ Below w.heap.size w w' := by
  obtain ⟨m, hm⟩ := hm
  have HI := Lib.hid (Try.strings_Index base target m w (by omega) hm)
  clear hm
  obtain ⟨x, hx⟩ : ∃ x, Lib.index base.data.toList target.data.toList = x := ⟨_, rfl⟩
  have hge := Lib.index_ge base.data.toList target.data.toList
  rw [hx] at HI hge
  by_cases h0 : 0 ≤ x
  · obtain ⟨k, hk⟩ : ∃ k : Nat, x = (k : Int) := ⟨x.toNat, by omega⟩
    subst hk
    have hat := index_at hx
    have HC := Lib.hid (fun W => copy_any k target.size W (by omega) (by omega))
    have HO : Hid (CompOk base target (copL k target.size)) := Lib.hid (.inl ⟨k, hx, rfl⟩)
    have hki : 0 ≤ (k : Int) := by omega
    clear hx hge hat h0
    go_enter Try.func22, Try.ntmps22
    go_wp2_with (first
      | (go_at_call 30; refine HI.out.mono ?_; rintro e w1 ⟨rfl, hw1⟩; subst hw1)
      | (go_at_call 31; refine (HC.out _).mono ?_; rintro e w2 ⟨rfl, hb2⟩; have HB2 := Lib.hid hb2; clear hb2))
    exact bodyPost_ret (v := .string (mkB (copL k target.size))) (by simp [results, Try.results22, go_sem]) rfl ⟨_, rfl, HO.out, HB2.out⟩
  · have hx1 : x = -1 := by omega
    subst hx1
    have HW := Lib.hid (windows_any base w hbs)
    have HX := Lib.hid hx
    have HT := Lib.hid hts; have HBS := Lib.hid hbs
    have htsi : (target.size : Int) ≤ 1000000 := by omega
    clear hx hge h0
    go_enter Try.func22, Try.ntmps22
    go_wp2_with (first
      | (go_at_call 30; refine HI.out.mono ?_; rintro e w0 ⟨rfl, hw0⟩; have hw0 := hw0.symm; subst hw0)
      | (go_at_call 32; refine HW.out.mono ?_; rintro e w1 ⟨rfl, hwn, hb1⟩; have HWN := Lib.hid hwn; have HB1 := Lib.hid hb1; clear hwn hb1))
    go_loopw [8, 9] (fun a b wr => CmS base target w1.heap.size w1 a b wr) (fun _ b _ => target.size - (intOf b).toNat)
    case atStart => exact ⟨[], 0, 0, rfl, rfl, Nat.le_refl _, Nat.zero_le _, fun i hi => (by cases hi), rfl, Lib.IsBuilderF.of (Lib.fresh_isBuilder 43 5 w1), (Below.refl w1.heap.size w1).alloc (Nat.le_refl _) _⟩
    case round =>
      obtain ⟨L, d, i, rfl, rfl, hdi, hit, hok, hout, hbld, hbe⟩ := hrel
      have hbl : (bytesI L).length ≤ 15 * d := by
        have := bytesI_le hok
        rw [hout, List.length_take, dl_len] at this; omega
      have HOK := Lib.hid hok; have HOUT := Lib.hid hout; have HL := Lib.hid hbld; have HBE := Lib.hid hbe; have HBL := Lib.hid hbl
      clear hok hout hbld hbe hbl
      have hii : (i : Int) ≤ 1000000 := by omega
      have hdii : (d : Int) ≤ 1000000 := by omega
      obtain ⟨i2, hi2⟩ : ∃ i2, i + 16 = i2 := ⟨_, rfl⟩
      have hi2i : (i : Int) + 16 = (i2 : Int) := by omega
      by_cases hlt : i2 ≤ target.size
      · have hlti : (i2 : Int) ≤ target.size := by omega
        have hi2l : (i : Int) ≤ (i2 : Int) := by omega
        obtain ⟨x, hx⟩ : ∃ x, target.extract i i2 = x := ⟨_, rfl⟩
        have hxs : x.size ≤ maxLen := by rw [← hx, ByteArray.size_extract]; unfold maxLen; omega
        have HK := Lib.hid (keyS hxs)
        obtain ⟨D, hD, hD2⟩ := HWN.out.below (show Below w1.heap.size w1 wr from HBE.out)
        have HD := Lib.hid hD
        cases hc : has D (.string x.data.toList) with
        | false =>
          have HH := Lib.hid hc
          clear hc hD hD2 hxs
          go_wp2_with (at_lookup; refine wpList_lookup_own_ok_int _ rfl _ _ 63 rfl 9 3 .i64 keyedS Try.underlying63 Try.underlying3 (Try.zeroValue3 _) w.heap.size 2000000 D rfl HD.out _ (.string x.data.toList) rfl HK.out ?_; intro c hat hwc; rw [HH.out]; clear hat)
          go_roundw
          case rel => exact ⟨L, d, i + 1, rfl, by rw [Int.natCast_succ], by omega, by omega, HOK.out, HOUT.out, HL.out, HBE.out⟩
          case measure => simp [intOf]; omega
        | true =>
          obtain ⟨a, hat, ha1, ha2⟩ := hD2 x hxs hc
          have HH := Lib.hid hc; have HAT := Lib.hid hat
          have hmt : Mt base target a i 16 := Mt.of_ext ha1 (by omega) (by rw [ha2, hi2, hx])
          have HGR : Hid (∀ W : World, Calls Try.prog 33 #[.agg #[.int .i64 a, .int .i64 i, .int .i64 16], .string base, .string target, .int .i64 d] W fun e w' => ∃ p q n : Nat, e = .returned (.agg #[.int .i64 p, .int .i64 q, .int .i64 n]) ∧ Mt base target p q n ∧ 16 ≤ n ∧ i + 16 ≤ q + n ∧ d ≤ q ∧ Below W.heap.size W w') := Lib.hid (fun W => grow_any base target d a i 16 W hbs hts hmt hdi)
          clear hc hat hD hD2 hxs hi2 hmt ha2
          go_wp2_with (at_lookup; refine wpList_lookup_own_ok_int _ rfl _ _ 63 rfl 9 3 .i64 keyedS Try.underlying63 Try.underlying3 (Try.zeroValue3 _) w.heap.size 2000000 D rfl HD.out _ (.string x.data.toList) rfl HK.out ?_; intro c hat hwc; rw [HH.out]; rw [HAT.out] at hat; have hcr : c = (a : Int) := (by injection hat with hat; injection hat with _ hat; exact hat.symm); clear hat; subst hcr)
          refine (HGR.out _).mono ?_
          rintro e w3 ⟨p, q, n, rfl, hmq, hn16, hqn, hdq, hb3⟩
          have hqt : q ≤ target.size := by have := hmq.t; omega
          have hqti : (q : Int) ≤ target.size := by omega
          have hdqi : (d : Int) ≤ (q : Int) := by omega
          have hd0 : 0 ≤ (d : Int) := by omega
          have hpb : p ≤ 1000000 := by have := hmq.b; omega
          have hnb : n ≤ 1000000 := by have := hmq.b; omega
          obtain ⟨qn, hqn2⟩ : ∃ k, q + n = k := ⟨_, rfl⟩
          have hqni : (q : Int) + (n : Int) = (qn : Int) := by omega
          have hqnt : qn ≤ target.size := by have := hmq.t; omega
          obtain ⟨t1, ht1⟩ : ∃ t1, target.extract d q = t1 := ⟨_, rfl⟩
          have ht1s : t1.size ≤ 1000000 := by rw [← ht1, ByteArray.size_extract]; have := HT.out; omega
          have hal : (addL t1).length ≤ 1000010 := by
            have := encL_le2 t1
            unfold addL; split
            · exact Nat.zero_le _
            · rw [List.length_cons]; omega
          have hnok : okI base (newI t1 ++ [.old p n]) := okI_app (newI_ok _ _ ht1s) (fun j hj => by rw [List.mem_singleton.1 hj]; exact ⟨by omega, hmq.b⟩)
          have hnout : outsI base (L ++ (newI t1 ++ [.old p n])) = target.data.toList.take qn := by
            rw [outsI_app, outsI_app, HOUT.out, newI_outs, ← ht1, ext_list, ← List.append_assoc, ← hqn2, ← take_parts _ _ _ _ hdq]
            congr 1
            rw [← hmq.out]
            unfold outsI; simp [insO]
          have hcl : (copL p n).length ≤ 13 := by have := putL_len p; have := putL_len n; unfold copL; rw [List.length_cons, List.length_append]; omega
          have HAL := Lib.hid hal; have HNO := Lib.hid hnok; have HNT := Lib.hid hnout; have HCL := Lib.hid hcl; have HT1 := Lib.hid ht1
          have HQ := Lib.hid (show i + 16 ≤ qn by omega)
          have HB3 := Lib.hid (HBE.out.trans (hb3.mono HBE.out.size))
          have HL3 := Lib.hid (bldF_below HL.out hb3)
          clear hmq hal hnok hnout hcl ht1 hb3 hqn2 hqn hx
          go_wp2_with fail
          rw [HT1.out]
          obtain ⟨W3, hW3⟩ : ∃ W3, w3.alloc (.cells #[.int .i64 (p : Nat), .int .i64 (q : Nat), .int .i64 (n : Nat)] 67) = W3 := ⟨_, rfl⟩
          have hr3 : W3.heap[w3.heap.size]? = some (rowM p q n) := by rw [← hW3]; exact alloc_newJ w3 _
          have HB3' : Hid (Below w1.heap.size w1 W3) := Lib.hid (by rw [← hW3]; exact HB3.out.alloc HB3.out.size _)
          have HL3' : Hid (Lib.IsBuilderF 43 5 w1.heap.size w1.heap.size (Lib.byteCells (bytesI L)) W3) := Lib.hid (by rw [← hW3]; exact bldF_below HL3.out ((Below.refl _ w3).alloc (Nat.le_refl _) _))
          have hne : w3.heap.size ≠ w1.heap.size := by have := bldF_lt HL3.out; omega
          have HR3 := Lib.hid hr3
          rw [hW3]
          clear hW3 hr3
          refine (add_any t1 W3 ht1s).mono ?_
          rintro e w4 ⟨rfl, hb4⟩
          have HR4 : Hid (w4.heap[w3.heap.size]? = some (rowM p q n)) := Lib.hid ((hb4.block _ (lt_of_someJ HR3.out)).trans HR3.out)
          have HL4 := Lib.hid (bldF_below HL3'.out hb4)
          have HB4 := Lib.hid (HB3'.out.trans (hb4.mono HB3'.out.size))
          clear hb4
          go_wp2_with fail
          refine (write_fk w1.heap.size w1.heap.size _ _ w4 HL4.out (by rw [Lib.byteCells_length, mkB_size]; have := HAL.out; have := HBL.out; have := HT.out; omega) HB4.out.size).mono ?_
          rintro e w5 ⟨rfl, h5, b5, k5⟩
          have hr5 : w5.heap[w3.heap.size]? = some (rowM p q n) := (k5 _ _ _ HR4.out (by decide) hne).trans HR4.out
          have HL5 := Lib.hid h5; have HB5 := Lib.hid (HB4.out.trans b5)
          have HR5 := Lib.hid hr5
          have c50 : w5.cell? ⟨w3.heap.size, 0, none⟩ = some (.int .i64 (p : Nat)) := cell_of_rowJ hr5
          have c52 : w5.cell? ⟨w3.heap.size, 2, none⟩ = some (.int .i64 (n : Nat)) := cell_of_rowJ hr5
          clear h5 b5 k5 hr5
          go_wp2_with fail
          refine (copy_any p n w5 (by omega) (by omega)).mono ?_
          rintro e w6 ⟨rfl, hb6⟩
          have HR6 : Hid (w6.heap[w3.heap.size]? = some (rowM p q n)) := Lib.hid ((hb6.block _ (lt_of_someJ HR5.out)).trans HR5.out)
          have HL6 := Lib.hid (bldF_below HL5.out hb6)
          have HB6 := Lib.hid (HB5.out.trans (hb6.mono HB5.out.size))
          clear hb6 c50 c52
          go_wp2_with fail
          refine (write_fk w1.heap.size w1.heap.size _ _ w6 HL6.out (by rw [List.length_append, Lib.byteCells_length, Lib.strCells_length, mkB_size, mkB_size]; have := HAL.out; have := HBL.out; have := HT.out; have := HCL.out; omega) HB6.out.size).mono ?_
          rintro e w7 ⟨rfl, h7, b7, k7⟩
          have hr7 : w7.heap[w3.heap.size]? = some (rowM p q n) := (k7 _ _ _ HR6.out (by decide) hne).trans HR6.out
          have HL7 : Hid (Lib.IsBuilderF 43 5 w1.heap.size w1.heap.size (Lib.byteCells (bytesI (L ++ (newI t1 ++ [.old p n])))) w7) := Lib.hid (by
            have e : Lib.byteCells (bytesI (L ++ (newI t1 ++ [.old p n]))) = Lib.byteCells (bytesI L) ++ Lib.strCells (mkB (addL t1)) ++ Lib.strCells (mkB (copL p n)) := by
              rw [bytesI_app, bytesI_app, newI_bytes, byteCells_app, byteCells_app, strCells_eq, strCells_eq, mkB_data, mkB_data, List.append_assoc]
              congr 3
              unfold bytesI; simp [insB]
            rw [e]; exact h7)
          have HB7 := Lib.hid (HB6.out.trans b7)
          have c71 : w7.cell? ⟨w3.heap.size, 1, none⟩ = some (.int .i64 (q : Nat)) := cell_of_rowJ hr7
          have c72 : w7.cell? ⟨w3.heap.size, 2, none⟩ = some (.int .i64 (n : Nat)) := cell_of_rowJ hr7
          have hqb : (q : Int) ≤ 1000000 := by omega
          have hnbi : (n : Int) ≤ 1000000 := by omega
          clear h7 b7 k7 hr7
          go_wp2_with fail
          go_roundw
          case rel => exact ⟨L ++ (newI t1 ++ [.old p n]), qn, qn, rfl, rfl, Nat.le_refl _, hqnt, okI_app HOK.out HNO.out, HNT.out, HL7.out, HB7.out⟩
          case measure => have := HQ.out; simp [intOf]; omega
      · have hlti : ¬ (i2 : Int) ≤ target.size := by omega
        obtain ⟨t1, ht1⟩ : ∃ t1, target.extract d target.size = t1 := ⟨_, rfl⟩
        have ht1s : t1.size ≤ 1000000 := by rw [← ht1, ByteArray.size_extract]; omega
        have HA := Lib.hid (fun W => add_any t1 W ht1s)
        have HOB : Hid (CompOk base target (bytesI (L ++ newI t1))) := Lib.hid (.inr ⟨HX.out, _, rfl, okI_app HOK.out (newI_ok _ _ ht1s), by
          rw [outsI_app, HOUT.out, newI_outs, ← ht1, ext_list, List.take_of_length_le (l := (target.data.toList.drop d)) (by rw [List.length_drop, dl_len]; exact Nat.le_refl _), List.take_append_drop]⟩)
        have hal : (addL t1).length ≤ 1000010 := by
          have := encL_le2 t1
          unfold addL; split
          · exact Nat.zero_le _
          · rw [List.length_cons]; omega
        have HAL := Lib.hid hal
        have hdt : (d : Int) ≤ target.size := by omega
        have hd0 : 0 ≤ (d : Int) := by omega
        have HT1 := Lib.hid ht1
        clear hal ht1 hi2
        go_wp2_with (first
          | (go_at_call 21; rw [HT1.out]; refine (HA.out _).mono ?_; rintro e w3 ⟨rfl, hb3⟩; have HL3 := Lib.hid (bldF_below HL.out hb3); have HB3 := Lib.hid (HBE.out.trans (hb3.mono HBE.out.size)); clear hb3)
          | (go_at_call 18; refine (write_f w1.heap.size w1.heap.size _ _ _ HL3.out (by rw [Lib.byteCells_length, mkB_size]; have := HAL.out; have := HBL.out; have := HT.out; omega) HB3.out.size).mono ?_; rintro e w5 ⟨rfl, h5, b5⟩; have HL5 := Lib.hid h5; have HB5 := Lib.hid (HB3.out.trans b5); clear h5 b5)
          | (go_at_call 19; refine (Try.Builder_String_any_f w1.heap.size w1.heap.size (bytesI (L ++ newI t1)) _ (by rw [bytesI_app, newI_bytes, byteCells_app]; have h := HL5.out; rw [strCells_eq, mkB_data] at h; exact h) HB5.out.size).mono ?_; rintro e w6 ⟨rfl, h6, b6⟩; have HB6 := Lib.hid (HB5.out.trans b6); clear h6 b6))
        exact bodyPost_ret (v := .string (mkB (bytesI (L ++ newI t1)))) (by simp [results, Try.results22, go_sem]; rfl) rfl ⟨_, rfl, HOB.out, HB1.out.trans (HB6.out.mono HB1.out.size)⟩
end Go.Proofs.Ytmdhendfmhhniaa
