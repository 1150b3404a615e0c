/- The document's disk: Fail, Step. -/
import Derived.Test.YtaionhdamdhjjaaUb
namespace Go.Proofs.Ytaionhdamdhjjaa
open Go.RowKit
variable {B n g gl cl : Nat} {vw vk : Value} {S : DS} {w : World}

def RfS (B g gl n cl : Nat) (vw vk : Value) (S : DS) (lost : Nat → Int → Bool) (w : World) (i : Value) (wr : World) : Prop :=
  ∃ k : Nat, k ≤ S.ws.length ∧ i = .int .i64 k ∧ RefAt g (.slice (some ⟨gl, 0, none⟩) n cl) vw S.left vk S.off S.done wr ∧ RowS gl (putW S.dur (keepTo lost S.ws k)) wr ∧ Kept2 B gl gl w wr
theorem putW_append (l : List ByteArray) (a : List (Nat × ByteArray)) (p : Nat × ByteArray) : putW l (a ++ [p]) = (putW l a).set p.1 p.2 := by
  unfold putW
  rw [List.foldl_append]; rfl
set_option maxHeartbeats 2000000 in
set_option maxRecDepth 100000 in
theorem RFail (h : IsR B n g gl cl vw vk S w) (ka : Value) (zs : List Int) (hk : ∀ w', Below B w w' → IsInts w' ka zs) (hn : n ≤ 4096) (hm : S.ws.length ≤ 10000000) :
    Calls Try.prog 12 #[.pointer (some ⟨g, 0, none⟩), ka] w fun e w' => e = .returned (.tuple #[]) ∧ IsR B n g gl cl (.slice none 0 0) vk (failS zs S) w' ∧ FrR B g gl vw w w' := by
  obtain ⟨o, cw, hvw, hcell⟩ := h.wr
  obtain ⟨ak, ck, hka, hkl, hkc⟩ := hk w (Below.refl _ _)
  obtain ⟨m, hmm⟩ : ∃ m, S.ws.length = m := ⟨_, rfl⟩
  obtain ⟨kn, hkn⟩ : ∃ kn, zs.length = kn := ⟨_, rfl⟩
  have hmi : (m : Int) ≤ 10000000 := by omega
  have c1 : w.cell? ⟨g, 1, none⟩ = some (.slice o m cw) := by rw [h.d.c1, hvw, hmm]
  have hS : RfS B g gl n cl vw vk S (fun k _ => lostB zs k) w (.int .i64 0) w := ⟨0, Nat.zero_le _, rfl, h.d, h.rd, Kept2.refl _ _ _ _⟩
  have HS := Lib.hid hS; have HH := Lib.hid h; have HC := Lib.hid hcell; have HK := Lib.hid hk; have HVW := Lib.hid hvw; have HM := Lib.hid hmm; have HKN := Lib.hid hkn; have HKA := Lib.hid hka; have HKC := Lib.hid hkc; have HKL := Lib.hid hkl
  rw [hkn] at hka
  clear hS h hcell hk hvw hmm hkc hkn hkl hm
  subst hka
  go_enter Try.func12, Try.ntmps12
  go_wp2_with fail
  clear c1
  go_loopw [4] (fun i wr => RfS B g gl n cl vw vk S (fun k _ => lostB zs k) w i wr) (fun i _ => m - (intOf i).toNat)
  case atStart => exact HS.out
  case round =>
    obtain ⟨k, hkm, rfl, hD, hR, hK⟩ := hrel
    rw [HM.out] at hkm
    have c1 : wr.cell? ⟨g, 1, none⟩ = some (.slice o m cw) := by rw [hD.c1, HVW.out, HM.out]
    have c0 := hD.c0
    have HD := Lib.hid hD; have HR := Lib.hid hR; have HKK := Lib.hid hK
    clear hD hR hK
    by_cases hlt : k < m
    · have hki : (k : Int) < m := by omega
      have hk9 : (k : Int) ≤ 10000000 := by omega
      obtain ⟨p, hp⟩ : ∃ p, S.ws[k]? = some p := ⟨_, List.getElem?_eq_getElem (by rw [HM.out]; exact hlt)⟩
      obtain ⟨gw, hgw, q1, q2, q3, d0, d1⟩ := HC.out k p hp
      have hsame : ∀ i, wr.cell? ⟨gw, i, none⟩ = w.cell? ⟨gw, i, none⟩ := fun i => by unfold World.cell?; simp only [HKK.out.2.2 gw q3 q2 q2]
      rw [← hsame] at d0 d1
      have hpn : p.1 < n := HH.out.wb p (List.mem_of_getElem? hp)
      have hstepNo : lostB zs k = true → Hid (RfS B g gl n cl vw vk S (fun k _ => lostB zs k) w (.int .i64 ((k : Int) + 1)) wr) := fun hl => Lib.hid
        ⟨k + 1, by rw [HM.out]; omega, by rw [Int.natCast_succ], HD.out, by rw [keepTo_succ _ _ k p hp, hl]; simpa using HR.out, HKK.out⟩
      have hstepYes : lostB zs k = false → Hid (RfS B g gl n cl vw vk S (fun k _ => lostB zs k) w (.int .i64 ((k : Int) + 1)) ((wr.setCell ⟨gl, p.1, none⟩ (.string p.2)).drew)) := fun hl => Lib.hid
        ⟨k + 1, by rw [HM.out]; omega, by rw [Int.natCast_succ], (Below.heap_setCell _ _ _ _ (by show g ≠ gl; exact Ne.symm HH.out.glg)).trans HD.out, by rw [keepTo_succ _ _ k p hp, hl, if_neg (by decide), putW_append]; exact HR.out.set p.1 p.2, (HKK.out.setd HH.out.b2 _ _).drew⟩
      have hIk := HK.out wr HKK.out.1
      by_cases h0 : kn = 0
      · have hz : zs = [] := List.length_eq_zero_iff.1 (HKN.out.trans h0)
        have hl : lostB zs k = true := by rw [hz]; rfl
        have hst := hstepNo hl
        have hkn0 : (kn : Int) = 0 := by omega
        clear hstepNo hstepYes hIk hsame hp hpn d0 d1
        subst h0
        go_wp2_with fail
        exact ⟨hst.out, by simp [intOf]; omega⟩
      · have hkn1 : (0 : Int) < kn := by omega
        obtain ⟨a', c', hka', hkl', hkc'⟩ := hIk
        injection hka' with ha' hn' hc'
        obtain ⟨b, ob, hb, hblt, hbc⟩ := hkc' (by rw [HKN.out]; omega)
        have hab : ak = some ⟨b, ob, none⟩ := ha'.trans hb
        subst hab
        have hmod : k % kn < kn := Nat.mod_lt _ (by omega)
        obtain ⟨q, hq⟩ : ∃ q, k % kn = q := ⟨_, rfl⟩
        have hrem : (k : Int).tmod (kn : Int) = (q : Int) := by rw [← hq]; rfl
        rw [hq] at hmod
        have hq1 : (q : Int) < kn := by omega
        obtain ⟨v, hv⟩ : ∃ v, zs.getD q 0 = v := ⟨_, rfl⟩
        have hcq : wr.cell? ⟨b, ob + q, none⟩ = some (.int .i64 v) := by rw [hbc q (by rw [HKN.out]; exact hmod), hv]
        have hn0 : ((kn : Int) == 0) = false := beq_eq_false_iff_ne.2 (by omega)
        have hlv : lostB zs k = (v.tmod 2 == 0) := by
          unfold lostB
          rw [HKN.out, hq, hv]
          cases hzs : zs with
          | nil => have := HKN.out; rw [hzs] at this; simp at this; omega
          | cons _ _ => rfl
        have hkl2 : (kn : Int) ≤ 17592186044415 := by have := HKL.out; have := HKN.out; omega
        clear hkc' hbc hv hq ha' hn' hc' hb hblt hsame hkl'
        by_cases hvv : v.tmod 2 = 0
        · have hst := hstepNo (by rw [hlv, hvv]; rfl)
          clear hstepNo hstepYes hlv d0 d1 hp
          go_wp2_with fail
          exact ⟨hst.out, by simp [intOf]; omega⟩
        · have hvb : (v.tmod 2 == 0) = false := beq_eq_false_iff_ne.2 hvv
          have hst := hstepYes (by rw [hlv, hvb])
          have hgo : o = some ⟨gw, 0, none⟩ := hgw
          subst hgo
          obtain ⟨pi, ps⟩ := p
          have hpi : (pi : Int) < n := by omega
          obtain ⟨x, hx⟩ : ∃ x, (putW S.dur (keepTo (fun k _ => lostB zs k) S.ws k))[pi]? = some x := ⟨_, List.getElem?_eq_getElem (by rw [putW_length, HH.out.ld]; exact hpn)⟩
          have e1 := HR.out.cell _ _ hx
          have fd := HR.out.free pi
          clear hstepNo hstepYes hlv hp hx hpn
          go_wp2_with fail
          refine wp_region_still_tail 21 (by kernel_rfl) (by kernel_rfl) ?_
          change wpStill _ _ (World.drew _) _ _ _
          simp only [List.take_succ_cons, List.take_zero, List.drop_succ_cons, List.drop_zero]
          repeat still_step
          try refine wpStill_nil ?_
          change wpList _ _ _ _ _ (World.drew _)
          go_wp2_with fail
          exact ⟨hst.out, by simp [intOf]; omega⟩
    · have hkm' : k = m := by omega
      subst hkm'
      have f1 := HD.out.free 1
      have f2 := HD.out.free 2
      have f4 := HD.out.free 4
      have c2 := HD.out.c2
      have c4 := HD.out.c4
      have hD1 : RefAt g (.slice (some ⟨gl, 0, none⟩) n cl) (.slice none 0 0) S.left vk S.off S.done (wr.setCell ⟨g, 1, none⟩ (.slice none 0 0)) := HD.out.set 1 _
      have hD2 : RefAt g (.slice (some ⟨gl, 0, none⟩) n cl) (.slice none 0 0) 0 vk S.off S.done ((wr.setCell ⟨g, 1, none⟩ (.slice none 0 0)).setCell ⟨g, 2, none⟩ (.int .i64 0)) := hD1.set 2 _
      have hD3 : RefAt g (.slice (some ⟨gl, 0, none⟩) n cl) (.slice none 0 0) 0 vk true S.done (((wr.setCell ⟨g, 1, none⟩ (.slice none 0 0)).setCell ⟨g, 2, none⟩ (.int .i64 0)).setCell ⟨g, 4, none⟩ (.bool true)) := hD2.set 4 _
      have hs3 : ∀ b, b ≠ g → (((wr.setCell ⟨g, 1, none⟩ (.slice none 0 0)).setCell ⟨g, 2, none⟩ (.int .i64 0)).setCell ⟨g, 4, none⟩ (.bool true)).heap[b]? = wr.heap[b]? := fun b hb =>
        (Below.heap_setCell _ _ _ _ (by show b ≠ g; exact hb)).trans ((Below.heap_setCell _ _ _ _ (by show b ≠ g; exact hb)).trans (Below.heap_setCell _ _ _ _ (by show b ≠ g; exact hb)))
      have hK3 : Kept2 B g gl w (((wr.setCell ⟨g, 1, none⟩ (.slice none 0 0)).setCell ⟨g, 2, none⟩ (.int .i64 0)).setCell ⟨g, 4, none⟩ (.bool true)) := (((Kept2.mix HKK.out).setg HH.out.b1 1 _).setg HH.out.b1 2 _).setg HH.out.b1 4 _
      have hend : Hid (IsR B n g gl cl (.slice none 0 0) vk (failS zs S) (((wr.setCell ⟨g, 1, none⟩ (.slice none 0 0)).setCell ⟨g, 2, none⟩ (.int .i64 0)).setCell ⟨g, 4, none⟩ (.bool true)) ∧ FrR B g gl vw w (((wr.setCell ⟨g, 1, none⟩ (.slice none 0 0)).setCell ⟨g, 2, none⟩ (.int .i64 0)).setCell ⟨g, 4, none⟩ (.bool true))) := Lib.hid
        ⟨⟨hD3, (show RowS gl (putW S.dur (keepTo (fun k _ => lostB zs k) S.ws S.ws.length)) wr by rw [HM.out]; exact HR.out).same (hs3 gl HH.out.glg), (putW_length _ _).trans HH.out.ld, World.ownsRow_nil _ _ _ _, (fun p hp => by cases hp), HH.out.b1, HH.out.b2⟩, FrR.of_kept2 hK3 (.inl rfl)⟩
      clear hD1 hD2 hD3 hs3 hK3
      go_wp2_with fail
      go_end0
      exact ⟨rfl, hend.out.1, hend.out.2⟩
end Go.Proofs.Ytaionhdamdhjjaa
