/- The law ShaSums, at whatever world that has the package's variables. -/
import Derived.Test.YtodmomhilpheiaaDoorQt
namespace Go.Proofs.YtodmomhilpheiaaDoor
open Go.RowKit

/-- What a walk is told of a list of numbers that came in. -/
def IsInts (w : World) (a : Option Addr) (len cap : Nat) (zs : List Int) : Prop :=
  zs.length = len ∧ len ≤ maxLen ∧ ∀ i, i < len → ∃ x, a = some x ∧ w.cell? (x.add i) = some (.int .i64 (zs.getD i 0)) ∧ (x.add i).block < w.heap.size
theorem wpList_append_wanted {P : Program} (w : World) {ops : Array Oper} {rest : List Oper} {o : Oper} {a : Act} {Q : Exit → Act → World → Prop} (hw : Region.wanted o (yielded ops a.tmps) = true) (s x : Operand) (t : TypeId)
    (ho : o.op = .call { callee := .builtin .append, args := #[s, x], argTypes := #[t, t] })
    (base : Nat) (e : TypeId) (i : TypeInfo) (z : Value) (size bytes : Nat) (ht : P.underlying t = some (.slice e)) (hi : P.info? e = some i) (hz : i.zero = some z)
    (hsize : i.size = size) (hby : i.bytes = bytes) (hzs : z.cells.size = size) (hsz : 0 < size)
    (v : Value) (n : Nat) (xs : List Value) (hs : a.eval s = v) (hown : w.ownsRow base e size v n xs)
    (ad : Addr) (m c : Nat) (news : List Value) (hx : a.eval x = .slice (some ad) m c) (hl : news.length = m * size) (hnews : ∀ j u, news[j]? = some u → w.cell? (ad.add j) = some u) (h1 : ∀ u ∈ news, u.oneCell' = true)
    (h63 : n + m ≤ maxLen) (hbytes : (n + m) * bytes ≤ 140737488355328) (hbase : base ≤ w.heap.size)
    (h : ∀ v' w', w'.ownsRow base e size v' (n + m) (xs ++ news) → w.grownBy w' v.ownBlock → (v' = .slice none 0 0 ↔ v = .slice none 0 0 ∧ m = 0) → wpList P ops Q rest (a.put o.dst v') w') : wpList P ops Q (o :: rest) a w := by
  unfold wpList
  rw [if_pos hw]
  exact .inl (wp_append_own w s x t ho base e i z size bytes ht hi hz hsize hby hzs hsz v n xs hs hown ad m c news hx hl hnews h1 h63 hbytes hbase h)
theorem news_one (W : World) (v : Value) {T : TypeId} : ∀ j u, [v][j]? = some u → (W.alloc (.cells #[v] T)).cell? ((⟨W.heap.size, 0, none⟩ : Addr).add j) = some u := by
  intro j u hj
  match j, hj with
  | 0, hj => simp at hj; subst hj; rw [addr_at]; exact cell_new1 W _ _
theorem ints_nil (w : World) : IsInts w none 0 0 [] := ⟨rfl, by unfold maxLen; omega, fun i h => absurd h (Nat.not_lt_zero i)⟩
theorem ints_of {w : World} {x : Addr} {l c : Nat} {ss : List Int} {b : Bool} (hl : l ≤ c) (hm : c ≤ maxLen) (hz : ss.length = (if b then c else l)) (hcell : ∀ i, i < ss.length → w.cell? (x.add i) = some (.int .i64 (ss.getD i 0))) : IsInts w (some x) l c (ss.take l) := by
  have hle : l ≤ ss.length := by rw [hz]; split <;> omega
  refine ⟨by rw [List.length_take]; omega, by omega, fun i hi => ⟨x, rfl, ?_, cell_lt (hcell i (by omega))⟩⟩
  rw [hcell i (by omega)]
  simp [List.getD, List.getElem?_take_of_lt hi]
theorem one_cell1 (s : ByteArray) : ∀ u ∈ [Value.string s], u.oneCell' = true := by intro u hu; simp at hu; subst hu; rfl
theorem ext_self (R : ByteArray) : R.extract R.size R.size = ByteArray.empty := by
  apply ByteArray.ext
  rw [ByteArray.data_extract]
  show _ = #[]
  apply Array.eq_empty_of_size_eq_zero
  have : R.size = R.data.size := rfl
  rw [Array.size_extract]
  omega
theorem and127 (c : Int) : ∃ m : Nat, bits .and .i64 c 127 = (m : Int) ∧ m ≤ 127 := by
  refine ⟨(BitVec.ofInt 64 c &&& BitVec.ofInt 64 127).toNat, ?_, ?_⟩
  · show IntKind.i64.wrap ((BitVec.ofInt 64 c &&& BitVec.ofInt 64 127).toNat : Int) = _
    have h : (BitVec.ofInt 64 c &&& BitVec.ofInt 64 127).toNat ≤ 127 := by
      rw [BitVec.toNat_and]; exact Nat.and_le_right
    exact IntWalk.i64_in _ (by omega)
  · rw [BitVec.toNat_and]; exact Nat.and_le_right
theorem and_one : ∀ k : Fin 41, bits .and .i64 (k.val : Int) 1 = ((k.val % 2 : Nat) : Int) := by decide +kernel
theorem HasP.belowB {b : Nat} {D : Nat → Int} {m B : Nat} {w w' : World} (h : HasP b D m w) (hb : Below B w w') (hB : b < B) : HasP b D m w' := by
  rcases h with ⟨h0, f, blk, h1, h2⟩ | ⟨h0, blk, h1, h2, h3⟩
  · exact Or.inl ⟨h0, f, blk, (hb.block b hB).trans h1, h2⟩
  · exact Or.inr ⟨h0, blk, (hb.block b hB).trans h1, h2, h3⟩
theorem own_kept {w w' : World} {B : Nat} {e : TypeId} {v : Value} {n : Nat} {xs : List Value} {b : Nat} (h : w.ownsRow B e 1 v n xs) (hg : w.grownBy w' (some b)) (hb : b < B) : w'.ownsRow B e 1 v n xs := by
  refine ⟨h.1, ?_⟩
  rcases h.2 with hv | ⟨g, cap, cur, hv, hB, hgg, r⟩
  · exact .inl hv
  · exact .inr ⟨g, cap, cur, hv, hB, (hg.block g (Array.getElem?_eq_some_iff.1 hgg).1 (by intro x; injection x with x; omega)).trans hgg, r⟩
theorem own_belowB {w w' : World} {B : Nat} {e : TypeId} {v : Value} {n : Nat} {xs : List Value} (h : w.ownsRow B e 1 v n xs) (hb : Below w.heap.size w w') : w'.ownsRow B e 1 v n xs := by
  refine ⟨h.1, ?_⟩
  rcases h.2 with hv | ⟨g, cap, cur, hv, hB, hgg, r⟩
  · exact .inl hv
  · exact .inr ⟨g, cap, cur, hv, hB, (hb.block g (Array.getElem?_eq_some_iff.1 hgg).1).trans hgg, r⟩
theorem parts_snoc (D : Nat → Int) : ∀ (ps : List ByteArray) (m : Nat) (s : ByteArray), PartsAt D ps m → (∀ i, i < s.size → atI s i = D (m + partsLen ps + i)) → PartsAt D (ps ++ [s]) m
  | [], m, s, _, h => ⟨fun i hi => by rw [h i hi]; rfl, trivial⟩
  | p :: ps, m, s, ⟨h1, h2⟩, h => ⟨h1, parts_snoc D ps _ s h2 fun i hi => by rw [h i hi]; unfold partsLen; simp [Nat.add_assoc]⟩
theorem parts_snoc_len (ps : List ByteArray) (s : ByteArray) : partsLen (ps ++ [s]) = partsLen ps + s.size := by unfold partsLen; simp
theorem at_extract0 (s : ByteArray) (p q i : Nat) (hp : p ≤ s.size) (h : i < q) (hq : q ≤ s.size - p) : atI ((s.extract p s.size).extract 0 q) i = atI s (p + i) := by
  have h2 : p + i < s.data.size := by have : s.size = s.data.size := rfl; omega
  have hs : s.size = s.data.size := rfl
  unfold atI
  rw [ByteArray.data_extract, ByteArray.data_extract, Array.getElem?_extract, Array.getElem?_extract]
  rw [if_pos (by simp; omega), Nat.zero_add, if_pos (by omega)]

def CSlot (s : ByteArray) (len : Nat) (bh : Nat) (w : World) (v r i : Value) (wr : World) : Prop :=
  ∃ (k p : Nat) (P : List ByteArray), k ≤ len ∧ k ≤ 40 ∧ p ≤ s.size ∧ i = .int .i64 k ∧ r = .string (s.extract p s.size) ∧ wr.ownsRow (bh + 1) 9 1 v k (P.map Value.string) ∧ P.length = k ∧ PartsAt (atI s) P 0 ∧ partsLen P = p ∧ HasP bh (atI s) p wr ∧ Below w.heap.size w wr ∧ bh + 1 ≤ wr.heap.size

set_option maxHeartbeats 4000000 in
set_option maxRecDepth 100000 in
theorem ShaSums_any (s : ByteArray) (a : Option Addr) (len cap : Nat) (zs : List Int) (w : World) (hs0 : s.size ≤ maxLen) (h : IsInts w a len cap zs) (hV : VarsAt w) :
    Calls Tryd.prog 3 #[.string s, .slice a len cap] w fun e w' => e = .returned (.bool true) ∧ Below w.heap.size w w' := by
  have hm := h.2.1
  unfold maxLen at hm hs0
  have HI := Lib.hid h; have HV := Lib.hid hV
  clear h hV
  by_cases hs : 3000 < s.size
  · have hsi : (3000 : Int) < (s.size : Int) := by omega
    go_enter Tryd.func3, Tryd.ntmps3
    go_wp2_with fail
    refine (speaks_any _ HV.out).mono ?_
    rintro e w1 ⟨rfl, hw1⟩
    go_wp2_with fail
    go_ret
    exact ⟨rfl, hw1⟩
  have hsi : (s.size : Int) ≤ 3000 := by omega
  have HS3 := Lib.hid hs
  obtain ⟨i0, hi, hz0, hz1', hz2⟩ := info_parts strInfo
  obtain ⟨X, hX⟩ : ∃ X, shaT s = X := ⟨_, rfl⟩
  have HX := Lib.hid hX
  have hzv := hasher_zero.1
  obtain ⟨Z, hZ⟩ : ∃ Z, hZero = Z := ⟨_, rfl⟩
  rw [hZ] at hzv
  have HZ := Lib.hid hZ
  clear hs hX hZ
  go_enter Tryd.func3, Tryd.ntmps3
  go_wp2_with fail
  refine (speaks_any _ HV.out).mono ?_
  rintro e w1 ⟨rfl, hw1⟩
  have B1 := Lib.hid hw1
  clear hw1
  go_wp2_with fail
  refine (RSum_any s w1 (by have := HS3.out; omega)).mono ?_
  rintro e w2 ⟨rfl, hw2⟩
  rw [HX.out]
  have B2 := Lib.hid (B1.out.trans (hw2.mono B1.out.size))
  have V2 := Lib.hid (HV.out.below B2.out)
  have hb1 : 1 < w2.heap.size := V2.out.2.2
  have h0 : HasP w2.heap.size (atI s) 0 (w2.alloc (.cells Z 30)) := Or.inl ⟨rfl, fun _ => 0, fun _ => 0, by rw [← HZ.out]; exact heap_alloc_last _ _, fun _ => ⟨Int.le_refl 0, by show (0 : Int) < 256; decide⟩⟩
  have hbw : w.heap.size ≤ w2.heap.size := B2.out.size
  have hall : s.extract 0 s.size = s := by
    apply ByteArray.ext
    rw [ByteArray.data_extract]
    have : s.size = s.data.size := rfl
    rw [this]
    simp
  have HALL := Lib.hid hall
  have H0 : Hid (CSlot s len w2.heap.size w (.slice none 0 0) (.string s) (.int .i64 0) (w2.alloc (.cells Z 30))) := Lib.hid ⟨0, 0, [], Nat.zero_le _, by omega, Nat.zero_le _, rfl, by rw [hall], World.ownsRow_nil _ _ _ _, rfl, trivial, rfl, h0, B2.out.alloc hbw _, by show _ ≤ (w2.heap.push _).size; simp⟩
  clear hw2 h0 hall
  go_wp2_with fail
  obtain ⟨bh, hbh⟩ : ∃ bh, w2.heap.size = bh := ⟨_, rfl⟩
  rw [hbh] at H0 hb1 hbw ⊢
  clear hbh
  go_loopw [7, 8, 9] (fun v r i wr => CSlot s len bh w v r i wr) (fun _ _ i _ => 40 - (intOf i).toNat)
  case atStart => exact H0.out
  case round =>
    obtain ⟨k, p, P, hk, hk40, hp, rfl, rfl, hown, hPl, hPa, hPs, hH, hB, hz⟩ := hrel
    have HO := Lib.hid hown; have HPL := Lib.hid hPl; have HPA := Lib.hid hPa; have HPS := Lib.hid hPs; have HH := Lib.hid hH; have HB := Lib.hid hB; have HP := Lib.hid hp
    obtain ⟨R, hR⟩ : ∃ R, s.extract p s.size = R := ⟨_, rfl⟩
    have hRz : R.size = s.size - p := by rw [← hR, ByteArray.size_extract]; omega
    have HR := Lib.hid hR; have HRZ := Lib.hid hRz
    rw [hR]
    clear hown hPl hPa hPs hH hB hR hp
    have hR3 : (R.size : Int) ≤ 3000 := by omega
    by_cases hgo : k < len ∧ k < 40
    · obtain ⟨h1, h2⟩ := hgo
      have h1i : (k : Int) < (len : Int) := by omega
      have h2i : (k : Int) < 40 := by omega
      obtain ⟨x, rfl, hc0, hblk⟩ := HI.out.2.2 k h1
      obtain ⟨c, hc⟩ : ∃ c, zs.getD k 0 = c := ⟨_, rfl⟩
      rw [hc] at hc0
      have hcell : wr.cell? (x.add k) = some (.int .i64 c) := (HB.out.cell (p := x.add k) hblk).trans hc0
      obtain ⟨m, hm127, hm2⟩ := and127 c
      rcases (show m ≤ R.size ∨ R.size < m by omega) with hmm | hmm
      · skip
        have hle : (m : Int) ≤ (R.size : Int) := by omega
        have hmn1 : min m R.size = m := by omega
        have hmn2 : min (m : Int) (R.size : Int) = m := by omega
        have hqR : m ≤ R.size := by omega
        have hand := and_one ⟨k, by omega⟩
        have HQ := Lib.hid hqR
        obtain ⟨S, hS⟩ : ∃ S, R.extract 0 m = S := ⟨_, rfl⟩
        have hSz : S.size = m := by rw [← hS, ByteArray.size_extract]; omega
        have hSat : ∀ i, i < S.size → atI S i = atI s (p + i) := fun i hi' => by
          rw [← hS, ← HR.out]
          exact at_extract0 s p m i HP.out (by omega) (by have := HRZ.out; omega)
        have hRR : R.extract m R.size = s.extract (p + m) s.size := by
          rw [← HR.out]
          apply ByteArray.ext
          have h1 : (s.extract p s.size).size = s.size - p := by rw [ByteArray.size_extract]; omega
          rw [ByteArray.data_extract, ByteArray.data_extract, ByteArray.data_extract, h1, Array.extract_extract]
          congr 1
          have := HP.out
          omega
        have HSZ := Lib.hid hSz; have HSA := Lib.hid hSat; have HRR := Lib.hid hRR
        clear hblk hc hc0 hSz hSat hRR hm2 hRz hqR hmm
        go_wp2_with (at_builtin; refine wpList_append_own _ rfl _ _ 31 rfl (bh + 1) 9 i0 (.string ⟨#[]⟩) 1 16 Tryd.underlying31 hi hz0 hz1' hz2 rfl (by decide) _ _ _ rfl (HO.out.alloc _) ⟨wr.heap.size, 0, none⟩ 1 1 [.string S] rfl rfl (news_one _ _) (one_cell1 _) (by unfold maxLen; omega) (by omega) (by simp; omega) ?_)
        intro v1 w3 hown1 hgrow1 _
        have hbel : Below (bh + 1) wr w3 := ((Below.refl (bh + 1) wr).alloc hz _).grown hgrow1 (by simp; omega) (fun g hg => (HO.out.lt g hg).1)
        have O3 := Lib.hid hown1
        have H3 := Lib.hid (HH.out.belowB hbel (Nat.lt_succ_self bh))
        have B3 := Lib.hid (HB.out.trans (hbel.mono (by omega)))
        have Z3 : bh + 1 ≤ w3.heap.size := Nat.le_trans hz hbel.size
        clear hown1 hgrow1 hbel
        go_wp2_with fail
        refine (Put_any bh (atI s) p S w3 H3.out HSA.out (atI_bytes _) (HV.out.below B3.out) hb1 (by have := HSZ.out; have := HP.out; omega)).mono ?_
        rintro e w4 ⟨rfl, h4, g4⟩
        rw [HSZ.out] at h4
        have O4 := Lib.hid (own_kept O3.out g4 (Nat.lt_succ_self bh))
        have B4 := Lib.hid (B3.out.grown g4 B3.out.size (fun k hk => by injection hk with hk; omega))
        have H4 := Lib.hid h4.hasP
        have Z4 : bh + 1 ≤ w4.heap.size := Nat.le_trans Z3 g4.size
        clear h4 g4
        have hendF : Hid (∀ w5, Below w4.heap.size w4 w5 → CSlot s len bh w v1 (.string (R.extract m R.size)) (.int .i64 ((k : Int) + 1)) w5) := Lib.hid (fun w5 h5 => ⟨k + 1, p + m, P ++ [S], by omega, by omega, by have := HRZ.out; have := HQ.out; have := HP.out; omega, by rw [Int.natCast_succ], by rw [HRR.out], by rw [List.map_append]; exact own_belowB O4.out h5, by rw [List.length_append, HPL.out]; rfl, parts_snoc _ P 0 S HPA.out (fun i hi' => by rw [HSA.out i hi', HPS.out, Nat.zero_add]), by rw [parts_snoc_len, HPS.out, HSZ.out], H4.out.below h5, B4.out.trans (h5.mono B4.out.size), Nat.le_trans Z4 h5.size⟩)
        rcases (show k % 2 = 0 ∨ k % 2 = 1 by omega) with hpar | hpar
        · rw [hpar] at hand
          have hand0 : bits .and .i64 (k : Int) 1 = 0 := hand
          have hz01 : ((0 : Int) == 1) = false := rfl
          have hend := Lib.hid (hendF.out w4 (Below.refl _ _))
          clear hand
          go_wp2_with fail
          exact ⟨hend.out, by simp [intOf]; omega⟩
        · rw [hpar] at hand
          have hand1 : bits .and .i64 (k : Int) 1 = 1 := hand
          clear hand
          go_wp2_with fail
          refine (HSum_any bh (atI s) _ w4 H4.out (atI_bytes _) (HV.out.below B4.out) (by have := HRZ.out; have := HQ.out; have := HP.out; omega)).mono ?_
          rintro e w5 ⟨rfl, h5⟩
          have hend := Lib.hid (hendF.out w5 h5)
          clear h5
          go_wp2_with fail
          exact ⟨hend.out, by simp [intOf]; omega⟩
      · skip
        have hle : ¬ (m : Int) ≤ (R.size : Int) := by omega
        have hmn1 : min m R.size = R.size := by omega
        have hmn2 : min (m : Int) (R.size : Int) = R.size := by omega
        have hle2 : (R.size : Int) < (m : Int) := by omega
        have hqR : R.size ≤ R.size := Nat.le_refl _
        have hand := and_one ⟨k, by omega⟩
        have HQ := Lib.hid hqR
        have hSat : ∀ i, i < R.size → atI R i = atI s (p + i) := fun i hi' => by
          rw [← HR.out]; exact at_extract s p i (by have := HRZ.out; omega)
        have hRR : R.extract R.size R.size = s.extract (p + R.size) s.size := by
          rw [← HR.out]
          apply ByteArray.ext
          have h1 : (s.extract p s.size).size = s.size - p := by rw [ByteArray.size_extract]; omega
          rw [ByteArray.data_extract, ByteArray.data_extract, ByteArray.data_extract, h1, Array.extract_extract]
          congr 1
          have := HP.out
          omega
        have HSA := Lib.hid hSat; have HRR := Lib.hid hRR
        clear hblk hc hc0 hSat hRR hm2 hRz hqR hmm
        go_wp2_with (at_builtin; refine wpList_append_own _ rfl _ _ 31 rfl (bh + 1) 9 i0 (.string ⟨#[]⟩) 1 16 Tryd.underlying31 hi hz0 hz1' hz2 rfl (by decide) _ _ _ rfl (HO.out.alloc _) ⟨wr.heap.size, 0, none⟩ 1 1 [.string R] rfl rfl (news_one _ _) (one_cell1 _) (by unfold maxLen; omega) (by omega) (by simp; omega) ?_)
        intro v1 w3 hown1 hgrow1 _
        have hbel : Below (bh + 1) wr w3 := ((Below.refl (bh + 1) wr).alloc hz _).grown hgrow1 (by simp; omega) (fun g hg => (HO.out.lt g hg).1)
        have O3 := Lib.hid hown1
        have H3 := Lib.hid (HH.out.belowB hbel (Nat.lt_succ_self bh))
        have B3 := Lib.hid (HB.out.trans (hbel.mono (by omega)))
        have Z3 : bh + 1 ≤ w3.heap.size := Nat.le_trans hz hbel.size
        clear hown1 hgrow1 hbel
        go_wp2_with fail
        refine (Put_any bh (atI s) p R w3 H3.out HSA.out (atI_bytes _) (HV.out.below B3.out) hb1 (by have := HP.out; omega)).mono ?_
        rintro e w4 ⟨rfl, h4, g4⟩
        have O4 := Lib.hid (own_kept O3.out g4 (Nat.lt_succ_self bh))
        have B4 := Lib.hid (B3.out.grown g4 B3.out.size (fun k hk => by injection hk with hk; omega))
        have H4 := Lib.hid h4.hasP
        have Z4 : bh + 1 ≤ w4.heap.size := Nat.le_trans Z3 g4.size
        clear h4 g4
        have hendF : Hid (∀ w5, Below w4.heap.size w4 w5 → CSlot s len bh w v1 (.string (R.extract R.size R.size)) (.int .i64 ((k : Int) + 1)) w5) := Lib.hid (fun w5 h5 => ⟨k + 1, p + R.size, P ++ [R], by omega, by omega, by have := HRZ.out; have := HQ.out; have := HP.out; omega, by rw [Int.natCast_succ], by rw [HRR.out], by rw [List.map_append]; exact own_belowB O4.out h5, by rw [List.length_append, HPL.out]; rfl, parts_snoc _ P 0 R HPA.out (fun i hi' => by rw [HSA.out i hi', HPS.out, Nat.zero_add]), by rw [parts_snoc_len, HPS.out], H4.out.below h5, B4.out.trans (h5.mono B4.out.size), Nat.le_trans Z4 h5.size⟩)
        rcases (show k % 2 = 0 ∨ k % 2 = 1 by omega) with hpar | hpar
        · rw [hpar] at hand
          have hand0 : bits .and .i64 (k : Int) 1 = 0 := hand
          have hz01 : ((0 : Int) == 1) = false := rfl
          have hend0 := hendF.out w4 (Below.refl _ _)
          rw [ext_self] at hend0
          have hend := Lib.hid hend0
          clear hend0
          clear hand
          go_wp2_with fail
          exact ⟨hend.out, by simp [intOf]; omega⟩
        · rw [hpar] at hand
          have hand1 : bits .and .i64 (k : Int) 1 = 1 := hand
          clear hand
          go_wp2_with fail
          refine (HSum_any bh (atI s) _ w4 H4.out (atI_bytes _) (HV.out.below B4.out) (by have := HRZ.out; have := HQ.out; have := HP.out; omega)).mono ?_
          rintro e w5 ⟨rfl, h5⟩
          have hend0 := hendF.out w5 h5
          rw [ext_self] at hend0
          have hend := Lib.hid hend0
          clear hend0
          clear h5
          go_wp2_with fail
          exact ⟨hend.out, by simp [intOf]; omega⟩
    · have hcase : ¬ (k < len) ∨ (k < len ∧ ¬ k < 40) := by omega
      clear hgo
      have hk63 : (k : Int) ≤ 40 := by omega
      have hRat : ∀ i, i < R.size → atI R i = atI s (p + i) := fun i hi' => by
        rw [← HR.out]; exact at_extract s p i (by have := HRZ.out; omega)
      have HRA := Lib.hid hRat
      clear hRat hRz
      rcases hcase with hq | ⟨hq1, hq2⟩
      · have hqi : ¬ (k : Int) < (len : Int) := by omega
        clear hq
        go_wp2_with fail
        refine (Put_any bh (atI s) p R wr HH.out HRA.out (atI_bytes _) (HV.out.below HB.out) hb1 (by have := HRZ.out; have := HP.out; omega)).mono ?_
        rintro e w4 ⟨rfl, h4, g4⟩
        rw [show p + R.size = s.size by have := HRZ.out; have := HP.out; omega] at h4
        have O4 := Lib.hid (own_kept HO.out g4 (Nat.lt_succ_self bh))
        have B4 := Lib.hid (HB.out.grown g4 HB.out.size (fun k hk => by injection hk with hk; omega))
        have H4 := Lib.hid h4.hasP
        have Z4 : bh + 1 ≤ w4.heap.size := Nat.le_trans hz g4.size
        clear h4 g4
        go_wp2_with fail
        refine (one_row w4 s (HV.out.below B4.out) (by omega)).mono ?_
        rintro e w5 ⟨rfl, h5⟩
        rw [HX.out]
        have O5 := Lib.hid (own_belowB O4.out h5)
        have B5 := Lib.hid (B4.out.trans (h5.mono B4.out.size))
        have H5 := Lib.hid (H4.out.below h5)
        have Z5 : bh + 1 ≤ w5.heap.size := Nat.le_trans Z4 h5.size
        clear h5
        go_wp2_with (at_builtin; go_must (refine wpList_append_wanted _ (by rfl) _ _ 31 rfl (bh + 1) 9 i0 (.string ⟨#[]⟩) 1 16 Tryd.underlying31 hi hz0 hz1' hz2 rfl (by decide) _ _ _ rfl (O5.out.alloc _) ⟨w5.heap.size, 0, none⟩ 1 1 [.string R] rfl rfl (news_one _ _) (one_cell1 _) (by unfold maxLen; omega) (by omega) (by simp; omega) ?_))
        intro v1 w6 hown1 hgrow1 _
        have hbel : Below (bh + 1) w5 w6 := ((Below.refl (bh + 1) w5).alloc Z5 _).grown hgrow1 (by simp; omega) (fun g hg => (O5.out.lt g hg).1)
        have O6 : Hid (w6.ownsRow (bh + 1) 9 1 v1 (k + 1) ((P ++ [R]).map Value.string)) := Lib.hid (by rw [List.map_append]; exact hown1)
        have H6 := Lib.hid (H5.out.belowB hbel (Nat.lt_succ_self bh))
        have B6 := Lib.hid (B5.out.trans (hbel.mono (by omega)))
        clear hown1 hgrow1 hbel
        go_wp2_with fail
        refine (Sum_own (bh + 1) v1 (k + 1) (P ++ [R]) s w6 O6.out (by rw [List.length_append, HPL.out]; rfl) (parts_snoc _ P 0 R HPA.out (fun i hi' => by rw [HRA.out i hi', HPS.out, Nat.zero_add])) (by rw [parts_snoc_len, HPS.out]; have := HRZ.out; have := HP.out; omega) (HV.out.below B6.out) (by omega) (by rw [List.length_append, HPL.out]; simp; omega)).mono ?_
        rintro e w7 ⟨rfl, h7⟩
        rw [HX.out]
        have B7 := Lib.hid (B6.out.trans (h7.mono B6.out.size))
        have H7 := Lib.hid (H6.out.below h7)
        clear h7
        go_wp2_with fail
        refine (HSum_any bh (atI s) _ w7 H7.out (atI_bytes _) (HV.out.below B7.out) (by omega)).mono ?_
        rintro e w8 ⟨rfl, h8⟩
        rw [show shaB (atI s) s.size = X from HX.out]
        have B8 := Lib.hid (B7.out.trans (h8.mono B7.out.size))
        have H8 := Lib.hid (H7.out.below h8)
        clear h8
        go_wp2_with fail
        refine (HSum_any bh (atI s) _ w8 H8.out (atI_bytes _) (HV.out.below B8.out) (by omega)).mono ?_
        rintro e w9 ⟨rfl, h9⟩
        rw [show shaB (atI s) s.size = X from HX.out]
        have B9 := Lib.hid (B8.out.trans (h9.mono B8.out.size))
        clear h9
        go_wp2_with fail
        go_ret
        exact ⟨rfl, B9.out⟩
      · have hqi : (k : Int) < (len : Int) := by omega
        have hqj : ¬ (k : Int) < 40 := by omega
        clear hq1 hq2
        go_wp2_with fail
        refine (Put_any bh (atI s) p R wr HH.out HRA.out (atI_bytes _) (HV.out.below HB.out) hb1 (by have := HRZ.out; have := HP.out; omega)).mono ?_
        rintro e w4 ⟨rfl, h4, g4⟩
        rw [show p + R.size = s.size by have := HRZ.out; have := HP.out; omega] at h4
        have O4 := Lib.hid (own_kept HO.out g4 (Nat.lt_succ_self bh))
        have B4 := Lib.hid (HB.out.grown g4 HB.out.size (fun k hk => by injection hk with hk; omega))
        have H4 := Lib.hid h4.hasP
        have Z4 : bh + 1 ≤ w4.heap.size := Nat.le_trans hz g4.size
        clear h4 g4
        go_wp2_with fail
        refine (one_row w4 s (HV.out.below B4.out) (by omega)).mono ?_
        rintro e w5 ⟨rfl, h5⟩
        rw [HX.out]
        have O5 := Lib.hid (own_belowB O4.out h5)
        have B5 := Lib.hid (B4.out.trans (h5.mono B4.out.size))
        have H5 := Lib.hid (H4.out.below h5)
        have Z5 : bh + 1 ≤ w5.heap.size := Nat.le_trans Z4 h5.size
        clear h5
        go_wp2_with (at_builtin; refine wpList_append_wanted _ (by rfl) _ _ 31 rfl (bh + 1) 9 i0 (.string ⟨#[]⟩) 1 16 Tryd.underlying31 hi hz0 hz1' hz2 rfl (by decide) _ _ _ rfl (O5.out.alloc _) ⟨w5.heap.size, 0, none⟩ 1 1 [.string R] rfl rfl (news_one _ _) (one_cell1 _) (by unfold maxLen; omega) (by omega) (by simp; omega) ?_)
        intro v1 w6 hown1 hgrow1 _
        have hbel : Below (bh + 1) w5 w6 := ((Below.refl (bh + 1) w5).alloc Z5 _).grown hgrow1 (by simp; omega) (fun g hg => (O5.out.lt g hg).1)
        have O6 : Hid (w6.ownsRow (bh + 1) 9 1 v1 (k + 1) ((P ++ [R]).map Value.string)) := Lib.hid (by rw [List.map_append]; exact hown1)
        have H6 := Lib.hid (H5.out.belowB hbel (Nat.lt_succ_self bh))
        have B6 := Lib.hid (B5.out.trans (hbel.mono (by omega)))
        clear hown1 hgrow1 hbel
        go_wp2_with fail
        refine (Sum_own (bh + 1) v1 (k + 1) (P ++ [R]) s w6 O6.out (by rw [List.length_append, HPL.out]; rfl) (parts_snoc _ P 0 R HPA.out (fun i hi' => by rw [HRA.out i hi', HPS.out, Nat.zero_add])) (by rw [parts_snoc_len, HPS.out]; have := HRZ.out; have := HP.out; omega) (HV.out.below B6.out) (by omega) (by rw [List.length_append, HPL.out]; simp; omega)).mono ?_
        rintro e w7 ⟨rfl, h7⟩
        rw [HX.out]
        have B7 := Lib.hid (B6.out.trans (h7.mono B6.out.size))
        have H7 := Lib.hid (H6.out.below h7)
        clear h7
        go_wp2_with fail
        refine (HSum_any bh (atI s) _ w7 H7.out (atI_bytes _) (HV.out.below B7.out) (by omega)).mono ?_
        rintro e w8 ⟨rfl, h8⟩
        rw [show shaB (atI s) s.size = X from HX.out]
        have B8 := Lib.hid (B7.out.trans (h8.mono B7.out.size))
        have H8 := Lib.hid (H7.out.below h8)
        clear h8
        go_wp2_with fail
        refine (HSum_any bh (atI s) _ w8 H8.out (atI_bytes _) (HV.out.below B8.out) (by omega)).mono ?_
        rintro e w9 ⟨rfl, h9⟩
        rw [show shaB (atI s) s.size = X from HX.out]
        have B9 := Lib.hid (B8.out.trans (h9.mono B8.out.size))
        clear h9
        go_wp2_with fail
        go_ret
        exact ⟨rfl, B9.out⟩
end Go.Proofs.YtodmomhilpheiaaDoor
