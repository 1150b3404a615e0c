/- Merges: look, least. -/
import Derived.Test.YtlfjlkmikmajaaaPj
namespace Go.Proofs.Ytlfjlkmikmajaaa
open Go.RowKit Go.Maps
variable {g gf gr cf cr : Nat} {word : ByteArray} {P : List ByteArray} {R : Nat → Int} {w w' w'' : World}

def upd (R : Nat → Int) (i : Nat) (v : Int) : Nat → Int := fun j => if j = i then v else R j
theorem PtAt.setr (h : PtAt g gf gr cf cr word P R w) (i : Nat) (v : Int) : PtAt g gf gr cf cr word P (upd R i v) (w.setCell ⟨gr, i, none⟩ (.int .i64 v)) := by
  obtain ⟨a1, a2⟩ := h.apart
  obtain ⟨c1, f1, f2⟩ := h.f
  obtain ⟨c2, r1, r2⟩ := h.r
  refine ⟨(Below.heap_setCell w ⟨gr, i, none⟩ _ _ a2).trans h.d, ⟨c1, (Below.heap_setCell w ⟨gr, i, none⟩ _ _ h.ne).trans f1, f2⟩, ⟨_, heap_set _ r1, fun j hj => ?_⟩, h.cat, h.ne, h.cf, h.cr⟩
  have hs := r2 j hj
  have hlt := (Array.getElem?_eq_some_iff.1 hs).1
  unfold upd
  by_cases e : j = i
  · subst e; rw [Array.getElem?_setIfInBounds_self_of_lt hlt, if_pos rfl]
  · rw [Array.getElem?_setIfInBounds_ne (Ne.symm e), if_neg e]; exact hs
/-- The ranks that are known are right. -/
def RkOk (l : List PairB) (P : List ByteArray) (R : Nat → Int) : Prop := ∀ k a b, P[k]? = some a → P[k + 1]? = some b → R k = -1 ∨ R k = rkI l (a, b)
theorem RkOk.upd {l : List PairB} {i : Nat} {p q : ByteArray} (h : RkOk l P R) (hp : P[i]? = some p) (hq : P[i + 1]? = some q) : RkOk l P (upd R i (rkI l (p, q))) := by
  intro k a b ha hb
  unfold Go.Proofs.Ytlfjlkmikmajaaa.upd
  by_cases e : k = i
  · subst e
    rw [if_pos rfl]
    rw [hp] at ha; rw [hq] at hb
    injection ha with ha; injection hb with hb
    subst ha; subst hb
    exact .inr rfl
  · rw [if_neg e]; exact h k a b ha hb
theorem IsRk.fr {b n : Nat} {l : List PairB} (h : IsRk b n l w) (hf : FrP g gf gr w w') (h1 : b ≠ g) (h2 : b ≠ gf) (h3 : b ≠ gr) : IsRk b n l w' := h.keep (hf.block b h.lt h1 h2 h3)
theorem part_ok {P : List ByteArray} {k : Nat} {p s : ByteArray} (hs : catB P = s.data.toList) (h : P[k]? = some p) : p.size ≤ s.size := by
  have h1 := offB_succ h
  have h2 := offB_le P (k + 1)
  rw [hs, size_len] at h2
  omega
set_option maxHeartbeats 2000000 in
set_option maxRecDepth 100000 in
theorem look_any (h : PtAt g gf gr cf cr word P R w) (hw : word.size ≤ 4096) (hP : P.length ≤ 4096) {b n : Nat} {l : List PairB} (hr : IsRk b n l w) (_ : b ≠ g) (_ : b ≠ gf) (_ : b ≠ gr) (i : Nat) (p q : ByteArray) (hi : P[i]? = some p) (hj : P[i + 1]? = some q) :
    Calls Try.prog 50 #[.pointer (some ⟨g, 0, none⟩), .map (some b), .int .i64 i] w fun e w' => e = .returned (.int .i64 (rkI l (p, q))) ∧ PtAt g gf gr cf cr word P (upd R i (rkI l (p, q))) w' ∧ FrP g gf gr w w' := by
  have hil := (List.getElem?_eq_some_iff.1 hj).1
  have hok : OkP (p, q) := ⟨by show p.size ≤ maxLen; have := part_ok h.cat hi; unfold maxLen; omega, by show q.size ≤ maxLen; have := part_ok h.cat hj; unfold maxLen; omega⟩
  have H2 := Lib.hid (two_any h hw hP i p q hi hj)
  have HK := Lib.hid (keyB_of hok)
  obtain ⟨D, hD, hD2⟩ := hr
  have HD := Lib.hid hD; have HD2 := Lib.hid (hD2 _ hok); have HT := Lib.hid h
  have hl0 := h.lt
  obtain ⟨m, hm⟩ : ∃ m, P.length = m := ⟨_, rfl⟩
  rw [hm] at hil hP
  have HM := Lib.hid hm
  clear h hi hj hD hD2 hm
  go_enter Try.func50, Try.ntmps50
  go_wp2_with (go_at_call 52; refine H2.out.mono ?_)
  first | rintro e w1 rfl hb1 | rintro e w1 ⟨rfl, hb1⟩
  have HT1 := Lib.hid (HT.out.below hb1)
  have HD1 : Hid (w1.ownsMap Try.prog 32 (plainElem Try.prog 3) b n D) := Lib.hid (by
    obtain ⟨es, clock, e1, e2⟩ := HD.out
    exact ⟨es, clock, (hb1.block b (lt_of_some e1)).trans e1, e2⟩)
  have HB1 := Lib.hid hb1
  have c2 : w1.cell? ⟨g, 2, none⟩ = some (.slice (some ⟨gr, 0, none⟩) m cr) := by have := HT1.out.c2; rwa [HM.out] at this
  have c3 := HT1.out.cr' (j := i) (by rw [HM.out]; omega)
  have c4 := HT1.out.fr_r i
  clear hb1
  cases hc : rankN l (p, q) with
  | none =>
    have hh : has D (keyB (p, q)) = false := by rw [HD2.out.1, hc]; rfl
    have HE := Lib.hid (show rkI l (p, q) = 9223372036854775807 by unfold rkI; rw [hc]; rfl)
    have HH := Lib.hid hh
    clear hh hc
    go_wp2_with (at_lookup; refine wpList_lookup_own_ok_int _ rfl _ _ 80 rfl 32 3 .i64 keyedP Try.underlying80 Try.underlying3 (Try.zeroValue3 _) b n D rfl HD1.out _ (keyB (p, q)) rfl HK.out ?_; intro c hat hwc; rw [HH.out]; clear hat)
    go_ret
    exact ⟨ret_int HE.out.symm, by rw [HE.out]; exact HT1.out.setr i _, (FrP.of_below HB1.out).trans (FrP.set _ _ _ _ (.inr (.inr rfl)))⟩
  | some r =>
    have hh : has D (keyB (p, q)) = true := by rw [HD2.out.1, hc]; rfl
    have hat0 : Hid (D.atKey (keyB (p, q)) (.lit (.int .i64 0)) = .lit (.int .i64 (r : Nat))) := Lib.hid (HD2.out.2 r hc)
    have HE := Lib.hid (show rkI l (p, q) = r by unfold rkI; rw [hc])
    have HH := Lib.hid hh
    clear hh hc
    go_wp2_with (at_lookup; refine wpList_lookup_own_ok_int _ rfl _ _ 80 rfl 32 3 .i64 keyedP Try.underlying80 Try.underlying3 (Try.zeroValue3 _) b n D rfl HD1.out _ (keyB (p, q)) rfl HK.out ?_; intro c hat hwc; rw [HH.out]; rw [hat0.out] at hat; have hcr : c = (r : Int) := (by injection hat with hat; injection hat with _ hat; exact hat.symm); clear hat; subst hcr)
    go_ret
    exact ⟨ret_int HE.out.symm, by rw [HE.out]; exact HT1.out.setr i _, (FrP.of_below HB1.out).trans (FrP.set _ _ _ _ (.inr (.inr rfl)))⟩
end Go.Proofs.Ytlfjlkmikmajaaa
