/- Deltas: Sizes and Apply of the program; Apply of the document. -/
import Derived.Test.YtmdhendfmhhniaaJc
namespace Go.Proofs.Ytmdhendfmhhniaa
open Go.RowKit
variable {w w' : World}

def strLenJ : Value → Nat | .string s => s.size | _ => 0
set_option maxHeartbeats 1000000 in
set_option maxRecDepth 100000 in
theorem Sizes_any (d : ByteArray) (w : World) (hm : d.size ≤ maxLen) :
    Calls Try.prog 11 #[.string d] w fun e w' => e = .returned (.tuple #[.int .i64 (sizD d).1, .int .i64 (sizD d).2.1, .int .i64 (sizD d).2.2.2]) ∧ Below w.heap.size w w' := by
  have H1 := Lib.hid (sizes_any d w hm)
  obtain ⟨⟨a, b, k, e⟩, hz⟩ : ∃ z, sizD d = z := ⟨_, rfl⟩
  rw [hz] at H1 ⊢
  clear hz
  go_enter Try.func11, Try.ntmps11
  go_wp2_with (go_at_call 15; (with_reducible refine H1.out.mono ?_); rintro e w1 ⟨rfl, hb1⟩; have HB1 := Lib.hid hb1; clear hb1)
  exact bodyPost_ret (v := .tuple #[.int .i64 a, .int .i64 b, .int .i64 e]) (by simp [results, Try.results11, go_sem]) rfl ⟨rfl, HB1.out⟩
def ApS (base d : ByteArray) (to : Int) (w : World) (rest : Value) (wr : World) : Prop :=
  ∃ (s : ByteArray) (out : List UInt8), rest = .string s ∧ s.size ≤ d.size ∧ appD base d = restD base to s out ∧ (out.length : Int) ≤ to ∧ Lib.IsBuilderF 43 5 w.heap.size w.heap.size (Lib.byteCells out) wr ∧ Below w.heap.size w wr
set_option maxHeartbeats 2000000 in
set_option maxRecDepth 100000 in
theorem Apply_any (base d : ByteArray) (w : World) (hm : d.size ≤ maxLen) (hbm : base.size ≤ 4294967295) :
    Calls Try.prog 9 #[.string base, .string d] w fun e w' => e = .returned (.tuple #[.string (appD base d).1, .int .i64 (appD base d).2]) ∧ Below w.heap.size w w' := by
  obtain ⟨z, hz⟩ : ∃ z, appD base d = z := ⟨_, rfl⟩
  have HZ := Lib.hid hz
  have HS := Lib.hid hz.symm
  rw [hz]
  clear hz
  unfold appD at HS
  have H1 := Lib.hid (fun W => sizes_any d W hm)
  obtain ⟨a, b, k, e, hs⟩ : ∃ a b k e, sizD d = (a, b, k, e) := ⟨_, _, _, _, rfl⟩
  have g := sizD_bounds d a b k e hs
  rw [hs] at HS H1
  dsimp only at HS H1
  have hmd := hm
  unfold maxLen at hmd
  by_cases he : e = 0
  · subst he
    by_cases ha : (base.size : Int) = a
    · have HC := Lib.hid (HS.out.trans ((if_neg (fun h => h rfl)).trans (if_neg (fun h => h ha))))
      have hk0 : 0 ≤ k := by omega
      have hkd : k ≤ d.size := g.2.2.2.2.2.2.2 rfl
      have hb0 : 0 ≤ b := by omega
      have hb1 : b ≤ 262208 := by omega
      obtain ⟨s0, hs0⟩ : ∃ s0, d.extract k.toNat d.size = s0 := ⟨_, rfl⟩
      rw [hs0] at HC
      have hs0s : s0.size ≤ d.size := by rw [← hs0, ByteArray.size_extract]; omega
      have HS0 := Lib.hid hs0s
      have HMD := Lib.hid hmd
      subst ha
      clear HS hs g hm hmd hs0s
      go_enter Try.func9, Try.ntmps9
      go_wp2_with (go_at_call 15; (with_reducible refine (H1.out _).mono ?_); rintro e w1 ⟨rfl, hb1⟩; have HB1 := Lib.hid hb1; clear hb1)
      go_loopw [11] (fun r wr => ApS base d b w1 r wr) (fun r _ => strLenJ r)
      case atStart => exact ⟨s0, [], rfl, HS0.out, by rw [HZ.out, HC.out], hb0, Lib.IsBuilderF.of (Lib.fresh_isBuilder 43 5 w1), (Below.refl w1.heap.size w1).alloc (Nat.le_refl _) _⟩
      case round =>
        obtain ⟨s, out, rfl, hsd, hrun, hlen, hbld, hbe⟩ := hrel
        rw [HZ.out] at hrun
        have HR := Lib.hid hrun; have HL := Lib.hid hbld; have HBE := Lib.hid hbe
        have hsl : s.size ≤ 9223372036854775807 := by have := HMD.out; omega
        have hlb : (Lib.byteCells out).length = out.length := Lib.byteCells_length out
        have HLB := Lib.hid hlb
        clear hrun hbld hbe hlb HC
        rcases Nat.eq_zero_or_pos s.size with h0 | h0
        · have hemp := ba_empty s h0
          have HE := Lib.hid (restD_end base b out h0)
          clear h0
          by_cases ho : (out.length : Int) < b
          · have HF : Hid (z = (⟨#[]⟩, 4)) := Lib.hid (by rw [HR.out, HE.out, if_pos ho])
            have hol := Lib.hid (Try.Builder_Len_f w1.heap.size w1.heap.size (Lib.byteCells out) wr HL.out)
            rw [HLB.out] at hol
            clear HE
            go_wp2_with (go_at_call 17; refine hol.out.mono ?_; rintro e w3 ⟨rfl, hw3⟩; subst hw3)
            rw [HF.out]
            exact bodyPost_ret (v := .tuple #[.string ⟨#[]⟩, .int .i64 4]) (by simp [results, Try.results9, go_sem]) rfl ⟨rfl, HB1.out.trans (HBE.out.mono HB1.out.size)⟩
          · have HF : Hid (z = (mkB out, 0)) := Lib.hid (by rw [HR.out, HE.out, if_neg ho])
            have hol := Lib.hid (Try.Builder_Len_f w1.heap.size w1.heap.size (Lib.byteCells out) wr HL.out)
            rw [HLB.out] at hol
            clear HE
            go_wp2_with (first
              | (go_at_call 17; refine hol.out.mono ?_; rintro e w3 ⟨rfl, hw3⟩; subst hw3)
              | (go_at_call 19; refine (Try.Builder_String_any_f w1.heap.size w1.heap.size out _ HL.out HBE.out.size).mono ?_; rintro e w4 ⟨rfl, h4, b4⟩; have HB4 := Lib.hid (HBE.out.trans b4); clear h4 b4))
            rw [HF.out]
            exact bodyPost_ret (v := .tuple #[.string (mkB out), .int .i64 0]) (by simp [results, Try.results9, go_sem]; rfl) rfl ⟨rfl, HB1.out.trans (HB4.out.mono HB1.out.size)⟩
        · have hemp := ba_some s h0
          obtain ⟨t, n, e, hi⟩ : ∃ t n e, insD base s = (t, n, e) := ⟨_, _, _, rfl⟩
          have g := insD_bounds base s t n e h0 hi
          have HN := Lib.hid (fun W => next_any base s W h0 (by unfold maxLen; exact hsl) hbm)
          rw [hi] at HN
          dsimp only at HN
          by_cases he : e = 0
          · subst he
            have hn1 : 0 ≤ n := g.1
            have hn2 : n ≤ s.size := g.2.1
            have hnp : 1 ≤ n := (g.2.2.2.2.1 rfl).1
            have hts : t.size ≤ 9223372036854775807 := by rcases g.2.2.1 with h | h <;> omega
            obtain ⟨s2, hs2⟩ : ∃ s2, s.extract n.toNat s.size = s2 := ⟨_, rfl⟩
            have hs2s : s2.size < s.size := by rw [← hs2, ByteArray.size_extract]; omega
            by_cases hl : b - (out.length : Int) < t.size
            · have HF : Hid (z = (⟨#[]⟩, 6)) := Lib.hid (by rw [HR.out]; exact restD_long base b out h0 hi hl)
              have hol := Lib.hid (fun wx (h : Lib.IsBuilderF 43 5 w1.heap.size w1.heap.size (Lib.byteCells out) wx) => Try.Builder_Len_f w1.heap.size w1.heap.size (Lib.byteCells out) wx h)
              rw [HLB.out] at hol
              clear hi g hs2 hs2s h0
              go_wp2_with (first
                | (go_at_call 16; (with_reducible refine (HN.out _).mono ?_); rintro e w3 ⟨rfl, hb3⟩; have HL3 := Lib.hid (bldF_below HL.out hb3); have HB3 := Lib.hid (HBE.out.trans (hb3.mono HBE.out.size)); clear hb3)
                | (go_at_call 17; refine (hol.out _ HL3.out).mono ?_; rintro e w4 ⟨rfl, hw4⟩; subst hw4))
              rw [HF.out]
              exact bodyPost_ret (v := .tuple #[.string ⟨#[]⟩, .int .i64 6]) (by simp [results, Try.results9, go_sem]) rfl ⟨rfl, HB1.out.trans (HB3.out.mono HB1.out.size)⟩
            · have HF : Hid (z = restD base b s2 (out ++ t.data.toList)) := Lib.hid (by rw [HR.out, ← hs2]; exact restD_more base b out h0 hi hl)
              have hol := Lib.hid (fun wx (h : Lib.IsBuilderF 43 5 w1.heap.size w1.heap.size (Lib.byteCells out) wx) => Try.Builder_Len_f w1.heap.size w1.heap.size (Lib.byteCells out) wx h)
              rw [HLB.out] at hol
              have hln : ((out ++ t.data.toList).length : Int) ≤ b := by rw [List.length_append]; simp; omega
              have hwl : (Lib.byteCells out).length + t.size ≤ 140737488355328 := by rw [HLB.out]; omega
              have HWL := Lib.hid hwl
              have HLN := Lib.hid hln
              clear hi g h0 hln hwl
              go_wp2_with (first
                | (go_at_call 16; (with_reducible refine (HN.out _).mono ?_); rintro e w3 ⟨rfl, hb3⟩; have HL3 := Lib.hid (bldF_below HL.out hb3); have HB3 := Lib.hid (HBE.out.trans (hb3.mono HBE.out.size)); clear hb3)
                | (go_at_call 17; refine (hol.out _ HL3.out).mono ?_; rintro e w4 ⟨rfl, hw4⟩; subst hw4)
                | (go_at_call 18; refine (write_f w1.heap.size w1.heap.size _ t _ HL3.out HWL.out HB3.out.size).mono ?_; rintro e w5 ⟨rfl, h5, b5⟩; have HL5 := Lib.hid h5; have HB5 := Lib.hid (HB3.out.trans b5); clear h5 b5))
              go_roundw
              case rel => exact ⟨s2, out ++ t.data.toList, rfl, by omega, by rw [HZ.out, HF.out], HLN.out, by rw [byteCells_app]; exact HL5.out, HB5.out⟩
              case measure => simp [strLenJ]; omega
          · have HF : Hid (z = (⟨#[]⟩, e)) := Lib.hid (by rw [HR.out]; exact restD_err base b out h0 hi he)
            have heb : (e == 0) = false := beq_eq_false_iff_ne.2 he
            clear hi g h0
            go_wp2_with (go_at_call 16; (with_reducible refine (HN.out _).mono ?_); rintro e w3 ⟨rfl, hb3⟩; have HB3 := Lib.hid (HBE.out.trans (hb3.mono HBE.out.size)); clear hb3)
            rw [HF.out]
            exact bodyPost_ret (v := .tuple #[.string ⟨#[]⟩, .int .i64 e]) (by simp [results, Try.results9, go_sem]) rfl ⟨rfl, HB1.out.trans (HB3.out.mono HB1.out.size)⟩
    · have HC := Lib.hid (HS.out.trans ((if_neg (fun h => h rfl)).trans (if_pos ha)))
      have hab : ((base.size : Int) == a) = false := beq_eq_false_iff_ne.2 ha
      clear HS hs g
      go_enter Try.func9, Try.ntmps9
      go_wp2_with (go_at_call 15; (with_reducible refine (H1.out _).mono ?_); rintro e w1 ⟨rfl, hb1⟩; have HB1 := Lib.hid hb1; clear hb1)
      rw [HC.out]
      exact bodyPost_ret (v := .tuple #[.string ⟨#[]⟩, .int .i64 13]) (by simp [results, Try.results9, go_sem]) rfl ⟨rfl, HB1.out⟩
  · have HC := Lib.hid (HS.out.trans (if_pos he))
    have heb : (e == 0) = false := beq_eq_false_iff_ne.2 he
    clear HS hs g
    go_enter Try.func9, Try.ntmps9
    go_wp2_with (go_at_call 15; (with_reducible refine (H1.out _).mono ?_); rintro e w1 ⟨rfl, hb1⟩; have HB1 := Lib.hid hb1; clear hb1)
    rw [HC.out]
    exact bodyPost_ret (v := .tuple #[.string ⟨#[]⟩, .int .i64 e]) (by simp [results, Try.results9, go_sem]) rfl ⟨rfl, HB1.out⟩
end Go.Proofs.Ytmdhendfmhhniaa
