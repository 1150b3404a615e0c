/- Merges: least. -/
import Derived.Test.YtlfjlkmikmajaaaPk
namespace Go.Proofs.Ytlfjlkmikmajaaa
open Go.RowKit Go.Maps
variable {g gf gr cf cr : Nat} {word : ByteArray} {P : List ByteArray} {R : Nat → Int} {w w' w'' : World}

theorem bestI_snoc (l : List PairB) (hl : l.length ≤ 100000) (a b : ByteArray) : ∀ Q : List ByteArray, bestI l (Q ++ [a, b]) = min (bestI l (Q ++ [a])) (rkI l (a, b))
  | [] => by
    have := rkI_bd l (a, b) hl
    show min (rkI l (a, b)) noR = min noR (rkI l (a, b))
    omega
  | [x] => by
    show min (rkI l (x, a)) (min (rkI l (a, b)) noR) = min (min (rkI l (x, a)) noR) (rkI l (a, b))
    omega
  | x :: y :: Q => by
    have ih := bestI_snoc l hl a b (y :: Q)
    show min (rkI l (x, y)) (bestI l ((y :: Q) ++ [a, b])) = min (min (rkI l (x, y)) (bestI l ((y :: Q) ++ [a]))) (rkI l (a, b))
    rw [ih]
    omega
theorem bestI_to {l : List PairB} (hl : l.length ≤ 100000) {k : Nat} {a b : ByteArray} (h1 : P[k]? = some a) (h2 : P[k + 1]? = some b) : bestI l (P.take (k + 2)) = min (bestI l (P.take (k + 1))) (rkI l (a, b)) := by
  have e1 : P.take (k + 1) = P.take k ++ [a] := by rw [List.take_add_one, h1]; rfl
  have e2 : P.take (k + 2) = P.take k ++ [a, b] := by rw [List.take_add_one, h2, e1, List.append_assoc]; rfl
  rw [e1, e2]
  exact bestI_snoc l hl a b _
theorem bestI_one (l : List PairB) (P : List ByteArray) : bestI l (P.take 1) = noR := by
  cases P with
  | nil => rfl
  | cons a r => rfl
def LeS (g gf gr cf cr : Nat) (word : ByteArray) (P : List ByteArray) (l : List PairB) (w : World) (m : Nat) (le i : Value) (wr : World) : Prop :=
  ∃ (k : Nat) (R : Nat → Int) (x : Int), k ≤ m ∧ i = .int .i64 k ∧ le = .int .i64 x ∧ x = bestI l (P.take (k + 1)) ∧ PtAt g gf gr cf cr word P R wr ∧ RkOk l P R ∧ FrP g gf gr w wr
set_option maxHeartbeats 2000000 in
set_option maxRecDepth 100000 in
theorem least_any (h : PtAt g gf gr cf cr word P R w) (hw : word.size ≤ 4096) (hP : P.length ≤ 4096) (hP0 : P ≠ []) {b n : Nat} {l : List PairB} (hl : l.length ≤ 100000) (hr : IsRk b n l w) (h1 : b ≠ g) (h2 : b ≠ gf) (h3 : b ≠ gr) (hk : RkOk l P R) :
    Calls Try.prog 34 #[.pointer (some ⟨g, 0, none⟩), .map (some b)] w fun e w' => e = .returned (.int .i64 (bestI l P)) ∧ ∃ R', PtAt g gf gr cf cr word P R' w' ∧ RkOk l P R' ∧ FrP g gf gr w w' := by
  have hm0 : 0 < P.length := List.length_pos_iff.2 hP0
  obtain ⟨m, hm⟩ : ∃ m, P.length = m + 1 := ⟨P.length - 1, by omega⟩
  have c2 : w.cell? ⟨g, 2, none⟩ = some (.slice (some ⟨gr, 0, none⟩) (m + 1) cr) := by have := h.c2; rwa [hm] at this
  have hcr : m + 1 ≤ cr := by have := h.cr; omega
  have HM := Lib.hid hm
  have H0 : Hid (LeS g gf gr cf cr word P l w m (.int .i64 9223372036854775807) (.int .i64 0) w) := Lib.hid ⟨0, R, _, Nat.zero_le _, rfl, rfl, (bestI_one l P).symm, h, hk, FrP.refl _ _ _ _⟩
  have HR := Lib.hid hr
  have hm4 : m + 1 ≤ 4096 := by omega
  have hw1 : IntKind.i64.wrap (((m + 1 : Nat) : Int) - 1) = ((m : Nat) : Int) := by rw [IntKind.wrap_i64]; omega
  clear h hk hr hm hm0 hP0 hP
  go_enter Try.func34, Try.ntmps34
  go_wp2_with fail
  go_quiet (fail)
  rename_i nq
  have H1 : Hid (LeS g gf gr cf cr word P l w m (.int .i64 9223372036854775807) (.int .i64 0) (w.drewN nq)) := Lib.hid (by
    obtain ⟨k, R', x, a1, a2, a3, a4, a5, a6, a7⟩ := H0.out
    exact ⟨k, R', x, a1, a2, a3, a4, a5.drewN nq, a6, a7.drewN nq⟩)
  clear H0 c2
  go_wp2_with fail
  go_loopw [20, 5] (fun i le wr => LeS g gf gr cf cr word P l w m le i wr) (fun i _ _ => m - (intOf i).toNat)
  case atStart => exact H1.out
  case round =>
    obtain ⟨k, R', x, hk, rfl, rfl, hx, hT, hok, hfr⟩ := hrel
    have HX := Lib.hid hx; have HT := Lib.hid hT; have HK := Lib.hid hok; have HF := Lib.hid hfr
    clear hx hT hok hfr H1
    by_cases hlt : k < m
    · obtain ⟨p, hp⟩ : ∃ p, P[k]? = some p := ⟨_, List.getElem?_eq_getElem (by rw [HM.out]; omega)⟩
      obtain ⟨q, hq⟩ : ∃ q, P[k + 1]? = some q := ⟨_, List.getElem?_eq_getElem (by rw [HM.out]; omega)⟩
      have c3 := HT.out.cr' (j := k) (by rw [HM.out]; omega)
      have HST := Lib.hid (bestI_to hl hp hq)
      have hlk := look_any HT.out hw (by rw [HM.out]; omega) (HR.out.fr HF.out h1 h2 h3) h1 h2 h3 k p q hp hq
      have HL := Lib.hid hlk
      have hbd := rkI_bd l (p, q) hl
      have HU := Lib.hid (HK.out.upd hp hq)
      have hkn := HK.out k p q hp hq
      obtain ⟨y, hy⟩ : ∃ y, rkI l (p, q) = y := ⟨_, rfl⟩
      rw [hy] at HST HL hbd HU hkn
      obtain ⟨r0, hr0⟩ : ∃ r0, R' k = r0 := ⟨_, rfl⟩
      rw [hr0] at c3 hkn
      have hy0 : 0 ≤ y := hbd.1
      clear hlk hp hq hbd hy hr0
      by_cases hun : r0 = -1
      · subst hun
        go_wp2_with (go_at_call 50; refine HL.out.mono ?_)
        first | rintro e w1 rfl hT1 hf1 | rintro e w1 ⟨rfl, hT1, hf1⟩
        have HT1 := Lib.hid hT1; have HF1 := Lib.hid (HF.out.trans hf1)
        clear hT1 hf1
        go_wp2_with fail
        go_roundw
        case rel => exact ⟨k + 1, _, _, by omega, by rw [Int.natCast_succ], rfl, by rw [HST.out, HX.out], HT1.out, HU.out, HF1.out⟩
        case measure => simp [intOf]; omega
      · have hun2 : (r0 == (-1 : Int)) = false := by simpa using hun
        have hry : r0 = y := by rcases hkn with h | h; exact absurd h hun; exact h
        subst hry
        clear hkn
        go_wp2_with fail
        go_roundw
        case rel => exact ⟨k + 1, _, _, by omega, by rw [Int.natCast_succ], rfl, by rw [HST.out, HX.out], HT.out, HK.out, HF.out⟩
        case measure => simp [intOf]; omega
    · have hkm : k = m := by omega
      have HE := Lib.hid (show bestI l P = x by rw [HX.out, hkm, List.take_of_length_le (by rw [HM.out]; omega)])
      go_wp2_with fail
      go_ret
      exact ⟨ret_int HE.out.symm, R', HT.out, HK.out, HF.out⟩
end Go.Proofs.Ytlfjlkmikmajaaa
