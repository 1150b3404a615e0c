/- Vocabularies: the document's Digits. -/
import Derived.Test.YtmdhendfmhhniaaDoorVa
import Derived.Test.YtmdhendfmhhniaaDoorPr
import Derived.StillTailTactics
import Derived.Lib.ConvBytes
import Derived.Lib.ItoaLen
import Derived.Lib.ItoaMem
namespace Go.Proofs.YtmdhendfmhhniaaDoor
open Go.RowKit
variable {w w' : World}

theorem conv_one (W : World) (b : Nat) (x : UInt8) (hb : b = W.heap.size) : (convert 45 9 (.slice (some ⟨b, 0, none⟩) 1 1)).run Tryd.prog (W.alloc (.cells #[.int .u8 (x.toNat : Int)] 5)) = .ok (.string ⟨#[x]⟩) (W.alloc (.cells #[.int .u8 (x.toNat : Int)] 5)) := by
  subst hb
  have e : strOfNums [(x.toNat : Int)] = ⟨#[x]⟩ := by simp [strOfNums]
  rw [← e]
  refine run_convert_bytes_arg (P := Tryd.prog) _ 45 5 Tryd.underlying45 Tryd.underlying5 W.heap.size 0 1 1 [(x.toNat : Int)] rfl (fun i hi => ?_) 9 Tryd.underlying9
  obtain rfl : i = 0 := by omega
  rw [cell_of_row (World.alloc_heap_new W _)]
  rfl
theorem one_cat (x : UInt8) (t : ByteArray) : ((⟨#[x]⟩ : ByteArray) ++ t).data.toList = x :: t.data.toList := by simp
theorem one_size (x : UInt8) (t : ByteArray) : ((⟨#[x]⟩ : ByteArray) ++ t).size = 1 + t.size := by rw [ByteArray.size_append]; rfl
theorem dec_len (n : Nat) (hn : n ≤ 100000000000) : (Lib.decDigits n).length ≤ 21 := by
  rw [← Lib.itoa_nonneg]; exact Lib.itoa_length_le _ (by omega) (by omega)
def emptyV : Value → Nat
  | .string t => if t.size = 0 then 1 else 0
  | _ => 0
/-- What is behind of the digits of n while m is still to be written. -/
def DgS (n0 : Nat) (w : World) (s n : Value) (wr : World) : Prop := ∃ (m : Nat) (t : ByteArray), m ≤ n0 ∧ n = .int .i64 m ∧ s = .string t ∧ t.size ≤ 64 ∧ (0 < m → Lib.decDigits n0 = Lib.decDigits m ++ t.data.toList) ∧ (m = 0 → (t.size = 0 ∧ n0 = 0) ∨ (0 < t.size ∧ t.data.toList = Lib.decDigits n0)) ∧ Below w.heap.size w wr
theorem dg_step {n0 m : Nat} {t : ByteArray} {x : UInt8} {w wr : World} (o : Obj) (h0 : 0 < m) (hm : m ≤ n0) (hn : n0 ≤ 100000000000) (hx : UInt8.ofNat (48 + m % 10) = x) (h1 : Lib.decDigits n0 = Lib.decDigits m ++ t.data.toList) (hb : Below w.heap.size w wr) :
    DgS n0 w (.string ((⟨#[x]⟩ : ByteArray) ++ t)) (.int .i64 ((m : Int) / 10)) (wr.alloc o) ∧ (intOf (.int .i64 ((m : Int) / 10))).toNat + emptyV (.string ((⟨#[x]⟩ : ByteArray) ++ t)) < (intOf (.int .i64 (m : Int))).toNat + emptyV (.string t) := by
  have hl := dec_len n0 hn
  have h2 := congrArg List.length h1
  rw [List.length_append, size_len] at h2
  have hpos : 0 < (Lib.decDigits m).length := List.length_pos_iff.2 (dec_ne m)
  refine ⟨⟨m / 10, _, by omega, by rw [Int.natCast_ediv]; rfl, rfl, by rw [one_size]; omega, fun h => ?_, fun h => .inr ⟨by rw [one_size]; omega, ?_⟩, hb.alloc hb.size _⟩, ?_⟩
  · rw [h1, one_cat, dec_unfold m, if_neg (by omega), hx, List.append_assoc]; rfl
  · rw [h1, one_cat, dec_unfold m, if_pos (by omega), ← hx, show m % 10 = m by omega]; rfl
  · have e : emptyV (.string ((⟨#[x]⟩ : ByteArray) ++ t)) = 0 := by unfold emptyV; simp only; rw [if_neg (by rw [one_size]; omega)]
    rw [e]; simp [intOf]; omega
set_option maxHeartbeats 2000000 in
set_option maxRecDepth 100000 in
theorem Digits_any (n0 : Nat) (w : World) (hn : n0 ≤ 100000000000) :
    Calls Tryd.prog 91 #[.int .i64 n0] w fun e w' => e = .returned (.string ⟨(Lib.decDigits n0).toArray⟩) ∧ Below w.heap.size w w' := by
  have hn0 : (n0 : Int) ≤ 100000000000 := by omega
  go_enter Tryd.func91, Tryd.ntmps91
  go_wp2_with fail
  go_loopw [3, 0] (fun s n wr => DgS n0 w s n wr) (fun s n _ => (intOf n).toNat + emptyV s)
  case atStart => exact ⟨n0, ⟨#[]⟩, Nat.le_refl _, rfl, rfl, by decide, fun _ => by simp, fun h => .inl ⟨rfl, h⟩, Below.refl _ _⟩
  case round =>
    obtain ⟨m, t, hm, rfl, rfl, ht, h1, h2, hb⟩ := hrel
    by_cases h0 : 0 < m
    · have h0i : (0 : Int) < m := by omega
      have hmi : (m : Int) ≤ 100000000000 := by omega
      have H1 := Lib.hid (h1 h0); have HB := Lib.hid hb
      obtain ⟨x, hx⟩ : ∃ x, UInt8.ofNat (48 + m % 10) = x := ⟨_, rfl⟩
      have hxv : (x.toNat : Int) = 48 + (m : Int) % 10 := by rw [← hx, dg_nat _ (by omega)]; omega
      have hcv := conv_one wr wr.heap.size x rfl
      rw [hxv] at hcv
      have hcat : ¬ 9223372036854775807 < (⟨#[x]⟩ : ByteArray).size + t.size := by show ¬ _ < 1 + t.size; omega
      have HX := Lib.hid hx
      clear h1 h2 hb hx
      go_wp2_with fail
      exact dg_step _ h0 hm hn HX.out H1.out HB.out
    · have hm0 : m = 0 := by omega
      subst hm0
      have HB := Lib.hid hb
      rcases h2 rfl with ⟨h3, h4⟩ | ⟨h3, h4⟩
      · obtain rfl : t = ⟨#[]⟩ := ByteArray.ext (Array.eq_empty_of_size_eq_zero h3)
        subst h4
        have hcv := conv_one wr wr.heap.size 48 rfl
        rw [show (((48 : UInt8).toNat : Nat) : Int) = 48 from rfl] at hcv
        clear h1 h2 hb h3
        go_wp2_with fail
        exact ⟨⟨0, _, Nat.le_refl _, rfl, rfl, by rw [one_size]; decide, fun h => absurd h (by decide), fun _ => .inr ⟨by rw [one_size]; decide, by rw [dec_unfold]; rfl⟩, HB.out.alloc HB.out.size _⟩, by decide⟩
      · have hne : ¬ t = ⟨#[]⟩ := fun e => by rw [e] at h3; exact absurd h3 (by decide)
        have hemp : t.toList.isEmpty = false := by
          rw [ByteArray.toList_eq, Bool.eq_false_iff, Ne, List.isEmpty_iff_length_eq_zero, size_len]; omega
        have H4 := Lib.hid (show (⟨(Lib.decDigits n0).toArray⟩ : ByteArray) = t from ByteArray.ext (by rw [← h4]))
        clear h1 h2 hb h4
        go_wp2_with fail
        rw [H4.out]
        exact bodyPost_ret (v := .string t) (by simp [results, Tryd.results91, go_sem]) rfl ⟨rfl, HB.out⟩
end Go.Proofs.YtmdhendfmhhniaaDoor
