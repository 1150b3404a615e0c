/- Lists of lines: Show of merges. -/
import Derived.Test.YtlfjlkmikmajaaaRc
import Derived.Test.YtlfjlkmikmajaaaRa
namespace Go.Proofs.Ytlfjlkmikmajaaa
open Go.RowKit
variable {w w' : World}

def ShM (w : World) (l : List PairB) (i : Value) (wr : World) : Prop :=
  ∃ k : Nat, k ≤ l.length ∧ i = .int .i64 k ∧ Lib.IsBuilderF 70 5 w.heap.size w.heap.size (Lib.byteCells (showM (l.take k))) wr ∧ Below w.heap.size w wr
set_option maxHeartbeats 2000000 in
set_option maxRecDepth 100000 in
theorem ShowM_any (o : Option Addr) (l : List PairB) (cap : Nat) (w : World) (hl : l.length ≤ 1000000) (hp : PrAt w 32 o l) (hs : (showM l).length ≤ 1099511627776) :
    Calls Try.prog 13 #[.slice o l.length cap] w fun e w' => e = .returned (.string ⟨(showM l).toArray⟩) ∧ Below w.heap.size w w' := by
  obtain ⟨n, hn⟩ : ∃ n, l.length = n := ⟨_, rfl⟩
  rw [hn] at hl ⊢
  have H0 := Lib.hid (Lib.IsBuilderF.of (Lib.fresh_isBuilder 70 5 w))
  have HB0 : Hid (Below w.heap.size w (w.alloc (.cells #[.pointer none, .slice none 0 0] 70))) := Lib.hid ((Below.refl _ _).alloc (Nat.le_refl _) _)
  have HN := Lib.hid hn; have HP := Lib.hid hp; have HS := Lib.hid hs
  clear hn hp hs
  go_enter Try.func13, Try.ntmps13
  go_wp2_with fail
  go_loopw [8] (fun i wr => ShM w l i wr) (fun i _ => n - (intOf i).toNat)
  case atStart => exact ⟨0, Nat.zero_le _, rfl, H0.out, HB0.out⟩
  case round =>
    obtain ⟨k, hk, rfl, hbd, hbl⟩ := hrel
    rw [HN.out] at hk
    have HBD := Lib.hid hbd; have HBL := Lib.hid hbl
    clear hbd hbl
    by_cases hlt : k < n
    · obtain ⟨q, hq⟩ : ∃ q, l[k]? = some q := ⟨_, List.getElem?_eq_getElem (by rw [HN.out]; exact hlt)⟩
      obtain ⟨g, cur, ho, hg, d0, d1⟩ := (HP.out.below HBL.out) k q hq
      subst ho
      obtain ⟨W1, hW1⟩ : ∃ W1, wr.alloc (.cells #[.string q.1, .string q.2] 32) = W1 := ⟨_, rfl⟩
      have hb1 : Below wr.heap.size wr W1 := by rw [← hW1]; exact (Below.refl _ _).alloc (Nat.le_refl _) _
      have i0 : W1.cell? ⟨wr.heap.size, 0, none⟩ = some (.string q.1) := by rw [← hW1]; exact cell_of_row (World.alloc_heap_new wr _)
      have i1 : W1.cell? ⟨wr.heap.size, 1, none⟩ = some (.string q.2) := by rw [← hW1]; exact cell_of_row (World.alloc_heap_new wr _)
      have hwl : wr.heap.size < W1.heap.size := by rw [← hW1]; simp
      have HW1 := Lib.hid hW1
      have hle : (showM (l.take (k + 1))).length ≤ 1099511627776 := Nat.le_trans (showM_take l (k + 1)) HS.out
      have hst : showM (l.take (k + 1)) = showM (l.take k) ++ (q.1.data.toList ++ (32 :: (q.2.data.toList ++ [10]))) := by
        rw [List.take_add_one, hq]
        show showM (l.take k ++ [q]) = _
        rw [showM_append, showM_one]; unfold lineB; simp
      have HST := Lib.hid hst
      rw [hst] at hle
      simp only [List.length_append, List.length_cons, List.length_nil] at hle
      have HLE := Lib.hid hle
      have HB1 := Lib.hid (HBL.out.trans (hb1.mono HBL.out.size))
      have HBD1 := Lib.hid (bldF_below HBD.out hb1)
      have hrow : W1.heap[wr.heap.size]? = some (.cells #[.string q.1, .string q.2] 32 (0, 0)) := by rw [← hW1]; exact World.alloc_heap_new wr _
      have HROW := Lib.hid hrow
      obtain ⟨q1, q2⟩ := q
      simp only at d0 d1 i0 i1
      clear hq hg hst hle hb1 hrow
      obtain ⟨wo, hwo⟩ : ∃ wo, wo = wr := ⟨_, rfl⟩
      subst hwo
      go_wp2_with fail
      refine (write_fk w.heap.size w.heap.size _ q1 W1 HBD1.out (by rw [Lib.byteCells_length]; have := HLE.out; rw [size_len] at this; omega) HB1.out.size).mono ?_
      rintro e w2 ⟨rfl, h2, b2, k2⟩
      have r2 := (k2 _ _ _ HROW.out (by decide) (by have := HBL.out.size; have := bldF_lt HBD.out; omega)).trans HROW.out
      have j1 : w2.cell? ⟨wo.heap.size, 1, none⟩ = some (.string q2) := cell_of_row r2
      have H2 := Lib.hid h2; have B2 := Lib.hid (HB1.out.trans b2); have R2 := Lib.hid r2
      clear h2 b2 k2 r2
      go_wp2_with fail
      refine (byte_fk w.heap.size w.heap.size _ 32 w2 H2.out (by rw [List.length_append, Lib.byteCells_length, Lib.strCells_length]; have := HLE.out; rw [size_len] at this; omega) B2.out.size).mono ?_
      rintro e w3 ⟨rfl, h3, b3, k3⟩
      have r3 := (k3 _ _ _ R2.out (by decide) (by have := HBL.out.size; have := bldF_lt HBD.out; omega)).trans R2.out
      have k1 : w3.cell? ⟨wo.heap.size, 1, none⟩ = some (.string q2) := cell_of_row r3
      have H3 := Lib.hid h3; have B3 := Lib.hid (B2.out.trans b3)
      clear h3 b3 k3 r3
      go_wp2_with fail
      refine (write_f w.heap.size w.heap.size _ q2 w3 H3.out (by rw [List.length_append, List.length_append, Lib.byteCells_length, Lib.strCells_length]; have := HLE.out; rw [size_len, size_len] at this; simp; omega) B3.out.size).mono ?_
      rintro e w4 ⟨rfl, h4, b4⟩
      have H4 := Lib.hid h4; have B4 := Lib.hid (B3.out.trans b4)
      clear h4 b4
      go_wp2_with fail
      refine (byte_f w.heap.size w.heap.size _ 10 w4 H4.out (by rw [List.length_append, List.length_append, List.length_append, Lib.byteCells_length, Lib.strCells_length, Lib.strCells_length]; have := HLE.out; rw [size_len, size_len] at this; simp; omega) B4.out.size).mono ?_
      rintro e w5 ⟨rfl, h5, b5⟩
      have B5 := Lib.hid (B4.out.trans b5)
      have h6 : Lib.IsBuilderF 70 5 w.heap.size w.heap.size (Lib.byteCells (showM (l.take (k + 1)))) w5 := by
        rw [HST.out]
        have e : Lib.byteCells (showM (l.take k) ++ (q1.data.toList ++ (32 :: (q2.data.toList ++ [10])))) = (((Lib.byteCells (showM (l.take k)) ++ Lib.strCells q1) ++ [Value.int .u8 32]) ++ Lib.strCells q2) ++ [Value.int .u8 10] := by
          simp [Lib.byteCells, Lib.strCells]
        rw [e]; exact h5
      have H6 := Lib.hid h6
      clear h5 b5 h6
      go_wp2_with fail
      go_roundw
      case rel => exact ⟨k + 1, by rw [HN.out]; omega, by rw [Int.natCast_succ], H6.out, B5.out⟩
      case measure => simp [intOf]; omega
    · have hkn : k = n := by omega
      have HE : Hid (showM (l.take k) = showM l) := Lib.hid (by rw [List.take_of_length_le (by rw [HN.out]; omega)])
      go_wp2_with fail
      refine (Try.Builder_String_any_f w.heap.size w.heap.size (showM (l.take k)) wr HBD.out HBL.out.size).mono ?_
      rintro e w7 ⟨rfl, h7, b7⟩
      have B7 := Lib.hid (HBL.out.trans b7)
      clear h7 b7
      go_wp2_with fail
      go_ret
      exact ⟨by rw [← HE.out, hkn]; rfl, B7.out⟩
end Go.Proofs.Ytlfjlkmikmajaaa
