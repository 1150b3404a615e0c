/- The document's disk: Step, Sync. -/
import Derived.Test.YtaionhdamdhjjaaUc
namespace Go.Proofs.Ytaionhdamdhjjaa
open Go.RowKit
variable {B n g gl cl : Nat} {vw vk : Value} {S : DS} {w : World}

theorem RStep (h : IsR B n g gl cl vw vk S w) (ok : OkS n S) (hk : S.left = 1 → ∀ w', Below B w w' → IsInts w' vk S.kp) :
    Calls Try.prog 28 #[.pointer (some ⟨g, 0, none⟩)] w fun e w' => e = .returned (.int .i64 (if (begS S).1 = true then 0 else 7)) ∧ ∃ vw', IsR B n g gl cl vw' vk (begS S).2 w' ∧ (∀ x, vw'.ownBlock = some x → vw.ownBlock = some x) ∧ FrR B g gl vw w w' := by
  have c4 := h.d.c4
  cases ho : S.off
  · rw [ho] at c4
    by_cases hl : S.left = 1
    · have e0 : begS S = (false, failS S.kp S) := by unfold begS; rw [if_neg (by rw [ho]; decide), if_pos hl]
      rw [e0]
      have c2 := h.d.c2
      rw [hl] at c2
      obtain ⟨ak, ck, hvk, _⟩ := hk hl w (Below.refl _ _)
      have c3 := h.d.c3
      rw [hvk] at c3
      have HF := Lib.hid (RFail h vk S.kp (hk hl) ok.n1 ok.ws)
      rw [hvk] at HF
      clear h ok e0
      go_enter Try.func28, Try.ntmps28
      go_wp2_with (go_at_call 12; refine HF.out.mono ?_)
      first | rintro e w1 rfl h1 f1 | rintro e w1 ⟨rfl, h1, f1⟩
      have H1 := Lib.hid h1; have F1 := Lib.hid f1
      clear h1 f1
      go_wp2_with fail
      go_ret
      exact ⟨rfl, _, H1.out, fun x hx => by (cases hx), F1.out⟩
    · have e0 : begS S = (true, { S with done := S.done + 1, left := max (S.left - 1) 0 }) := by unfold begS; rw [if_neg (by rw [ho]; decide), if_neg hl]
      rw [e0]
      have c2 := h.d.c2
      have hne : (S.left == 1) = false := beq_eq_false_iff_ne.2 hl
      have hl0 := ok.l0; have hl1 := ok.l1; have hdn := ok.done
      have hdi : (S.done : Int) ≤ 1000000000 := by omega
      have hw2 : IntKind.i64.wrap ((S.done : Int) + 1) = (S.done : Int) + 1 := IntWalk.i64_in _ (by omega)
      by_cases hp : 0 < S.left
      · have hw1 : IntKind.i64.wrap (S.left - 1) = S.left - 1 := IntWalk.i64_in _ (by omega)
        have hD1 : RefAt g (.slice (some ⟨gl, 0, none⟩) n cl) vw (S.left - 1) vk S.off S.done (w.setCell ⟨g, 2, none⟩ (.int .i64 (S.left - 1))) := h.d.set 2 _
        have hD2 : RefAt g (.slice (some ⟨gl, 0, none⟩) n cl) vw (S.left - 1) vk S.off ((S.done : Int) + 1) ((w.setCell ⟨g, 2, none⟩ (.int .i64 (S.left - 1))).setCell ⟨g, 5, none⟩ (.int .i64 ((S.done : Int) + 1))) := hD1.set 5 _
        have c5 := hD1.c5
        have f2 := h.d.free 2
        have f5 := hD1.free 5
        have hK : Kept2 B g g w ((w.setCell ⟨g, 2, none⟩ (.int .i64 (S.left - 1))).setCell ⟨g, 5, none⟩ (.int .i64 ((S.done : Int) + 1))) := ((Kept2.refl B g g w).setg h.b1 2 _).setg h.b1 5 _
        obtain ⟨r1, r2, r3⟩ := h.disk hK
        have hend : Hid (IsR B n g gl cl vw vk { S with done := S.done + 1, left := max (S.left - 1) 0 } ((w.setCell ⟨g, 2, none⟩ (.int .i64 (S.left - 1))).setCell ⟨g, 5, none⟩ (.int .i64 ((S.done : Int) + 1))) ∧ FrR B g gl vw w ((w.setCell ⟨g, 2, none⟩ (.int .i64 (S.left - 1))).setCell ⟨g, 5, none⟩ (.int .i64 ((S.done : Int) + 1)))) := Lib.hid
          ⟨⟨by rw [show max (S.left - 1) 0 = S.left - 1 by omega, Int.natCast_succ]; exact hD2, r2, h.ld, r3, h.wb, h.b1, h.b2⟩, r1⟩
        clear hD1 hD2 hK r1 r2 r3 h ok e0 hk ho
        go_enter Try.func28, Try.ntmps28
        go_wp2_with fail
        go_ret
        exact ⟨rfl, _, hend.out.1, fun x hx => hx, hend.out.2⟩
      · have hz : S.left = 0 := by omega
        rw [hz] at c2
        have hD2 : RefAt g (.slice (some ⟨gl, 0, none⟩) n cl) vw S.left vk S.off ((S.done : Int) + 1) (w.setCell ⟨g, 5, none⟩ (.int .i64 ((S.done : Int) + 1))) := h.d.set 5 _
        have c5 := h.d.c5
        have f5 := h.d.free 5
        have hK : Kept2 B g g w (w.setCell ⟨g, 5, none⟩ (.int .i64 ((S.done : Int) + 1))) := (Kept2.refl B g g w).setg h.b1 5 _
        obtain ⟨r1, r2, r3⟩ := h.disk hK
        have hend : Hid (IsR B n g gl cl vw vk { S with done := S.done + 1, left := max (S.left - 1) 0 } (w.setCell ⟨g, 5, none⟩ (.int .i64 ((S.done : Int) + 1))) ∧ FrR B g gl vw w (w.setCell ⟨g, 5, none⟩ (.int .i64 ((S.done : Int) + 1)))) := Lib.hid
          ⟨⟨by rw [show max (S.left - 1) 0 = S.left by omega, Int.natCast_succ]; exact hD2, r2, h.ld, r3, h.wb, h.b1, h.b2⟩, r1⟩
        clear hD2 hK r1 r2 r3 h ok e0 hk hne hl hp hl0 hl1 ho hz
        go_enter Try.func28, Try.ntmps28
        go_wp2_with fail
        go_ret
        exact ⟨rfl, _, hend.out.1, fun x hx => hx, hend.out.2⟩
  · rw [ho] at c4
    have e0 : begS S = (false, S) := by unfold begS; rw [if_pos ho]
    rw [e0]
    have H := Lib.hid h
    clear h ok hk
    go_enter Try.func28, Try.ntmps28
    go_wp2_with fail
    go_ret
    exact ⟨rfl, _, H.out, fun x hx => hx, FrR.refl _ _ _ _ _⟩
def RsS (B g gl n cl : Nat) (vw vk : Value) (S : DS) (w : World) (i : Value) (wr : World) : Prop :=
  ∃ k : Nat, k ≤ S.ws.length ∧ i = .int .i64 k ∧ RefAt g (.slice (some ⟨gl, 0, none⟩) n cl) vw S.left vk S.off S.done wr ∧ RowS gl (putW S.dur (S.ws.take k)) wr ∧ Kept2 B gl gl w wr
set_option maxHeartbeats 2000000 in
set_option maxRecDepth 100000 in
theorem RSync (h : IsR B n g gl cl vw vk S w) (ok : OkS n S) (hk : S.left = 1 → ∀ w', Below B w w' → IsInts w' vk S.kp) :
    Calls Try.prog 9 #[.pointer (some ⟨g, 0, none⟩)] w fun e w' => e = .returned (.int .i64 (syncS S).1) ∧ ∃ vw', IsR B n g gl cl vw' vk (syncS S).2 w' ∧ (∀ x, vw'.ownBlock = some x → vw.ownBlock = some x) ∧ FrR B g gl vw w w' := by
  have HB := Lib.hid (RStep h ok hk)
  have hws := Lib.hid (Nat.le_trans (begS_ws S) ok.ws)
  have hn1 := Lib.hid ok.n1
  clear h ok hk
  cases hb : (begS S).1
  · have e0 : syncS S = (7, (begS S).2) := by unfold syncS; rw [if_neg (by rw [hb]; decide)]
    rw [e0]
    rw [hb, if_neg (by decide)] at HB
    go_enter Try.func9, Try.ntmps9
    go_wp2_with (go_at_call 28; refine HB.out.mono ?_)
    rintro e w1 ⟨rfl, hr⟩
    have HR := Lib.hid hr
    clear hr
    go_wp2_with fail
    go_ret
    exact ⟨rfl, HR.out⟩
  · have e0 : syncS S = (0, { (begS S).2 with dur := putW (begS S).2.dur (begS S).2.ws, ws := [] }) := by unfold syncS; rw [if_pos hb]
    rw [e0]
    rw [hb, if_pos rfl] at HB
    obtain ⟨T, hT⟩ : ∃ T, (begS S).2 = T := ⟨_, rfl⟩
    rw [hT] at HB hws ⊢
    clear hT e0
    go_enter Try.func9, Try.ntmps9
    go_wp2_with (go_at_call 28; refine HB.out.mono ?_)
    first | rintro e w1 rfl vw1 h1 hv1 f1 | rintro e w1 ⟨rfl, vw1, h1, hv1, f1⟩
    obtain ⟨o, cw, hvw, hcell⟩ := h1.wr
    obtain ⟨m, hmm⟩ : ∃ m, T.ws.length = m := ⟨_, rfl⟩
    have hmi : (m : Int) ≤ 10000000 := by have := hws.out; omega
    have c1 : w1.cell? ⟨g, 1, none⟩ = some (.slice o m cw) := by rw [h1.d.c1, hvw, hmm]
    have hS : RsS B g gl n cl vw1 vk T w1 (.int .i64 0) w1 := ⟨0, Nat.zero_le _, rfl, h1.d, h1.rd, Kept2.refl _ _ _ _⟩
    have HS := Lib.hid hS; have HH := Lib.hid h1; have HC := Lib.hid hcell; have HVW := Lib.hid hvw; have HM := Lib.hid hmm; have HV1 := Lib.hid hv1; have HF1 := Lib.hid f1
    clear hS h1 hcell hvw hmm hv1 f1 HB
    go_wp2_with fail
    clear c1
    go_loopw [4] (fun i wr => RsS B g gl n cl vw1 vk T w1 i wr) (fun i _ => m - (intOf i).toNat)
    case atStart => exact HS.out
    case round =>
      obtain ⟨k, hkm, rfl, hD, hR, hK⟩ := hrel
      rw [HM.out] at hkm
      have c1 : wr.cell? ⟨g, 1, none⟩ = some (.slice o m cw) := by rw [hD.c1, HVW.out, HM.out]
      have c0 := hD.c0
      have HD := Lib.hid hD; have HR := Lib.hid hR; have HKK := Lib.hid hK
      clear hD hR hK
      by_cases hlt : k < m
      · have hki : (k : Int) < m := by omega
        have hk9 : (k : Int) ≤ 10000000 := by omega
        obtain ⟨p, hp⟩ : ∃ p, T.ws[k]? = some p := ⟨_, List.getElem?_eq_getElem (by rw [HM.out]; exact hlt)⟩
        obtain ⟨gw, hgw, q1, q2, q3, d0, d1⟩ := HC.out k p hp
        have hsame : ∀ i, wr.cell? ⟨gw, i, none⟩ = w1.cell? ⟨gw, i, none⟩ := fun i => by unfold World.cell?; simp only [HKK.out.2.2 gw q3 q2 q2]
        rw [← hsame] at d0 d1
        have hpn : p.1 < n := HH.out.wb p (List.mem_of_getElem? hp)
        have hst : Hid (RsS B g gl n cl vw1 vk T w1 (.int .i64 ((k : Int) + 1)) ((wr.setCell ⟨gl, p.1, none⟩ (.string p.2)).drew)) := Lib.hid
          ⟨k + 1, by rw [HM.out]; omega, by rw [Int.natCast_succ], (Below.heap_setCell _ _ _ _ (by show g ≠ gl; exact Ne.symm HH.out.glg)).trans HD.out, by rw [putW_take _ _ k p hp]; exact HR.out.set p.1 p.2, (HKK.out.setd HH.out.b2 _ _).drew⟩
        have hgo : o = some ⟨gw, 0, none⟩ := hgw
        subst hgo
        obtain ⟨pi, ps⟩ := p
        have hpi : (pi : Int) < n := by omega
        obtain ⟨x, hx⟩ : ∃ x, (putW T.dur (T.ws.take k))[pi]? = some x := ⟨_, List.getElem?_eq_getElem (by rw [putW_length, HH.out.ld]; exact hpn)⟩
        have e1 := HR.out.cell _ _ hx
        have fd := HR.out.free pi
        clear hp hx hpn hsame
        go_wp2_with fail
        refine wp_region_still_tail 21 (by kernel_rfl) (by kernel_rfl) ?_
        change wpStill _ _ (World.drew _) _ _ _
        simp only [List.take_succ_cons, List.take_zero, List.drop_succ_cons, List.drop_zero]
        repeat still_step
        try refine wpStill_nil ?_
        change wpList _ _ _ _ _ (World.drew _)
        go_wp2_with fail
        exact ⟨hst.out, by simp [intOf]; omega⟩
      · have hkm' : k = m := by omega
        subst hkm'
        have f1 := HD.out.free 1
        have hD1 : RefAt g (.slice (some ⟨gl, 0, none⟩) n cl) (.slice none 0 0) T.left vk T.off T.done (wr.setCell ⟨g, 1, none⟩ (.slice none 0 0)) := HD.out.set 1 _
        have hs3 : ∀ b, b ≠ g → (wr.setCell ⟨g, 1, none⟩ (.slice none 0 0)).heap[b]? = wr.heap[b]? := fun b hb => Below.heap_setCell _ _ _ _ (by show b ≠ g; exact hb)
        have hK3 : Kept2 B g gl w1 (wr.setCell ⟨g, 1, none⟩ (.slice none 0 0)) := (Kept2.mix HKK.out).setg HH.out.b1 1 _
        have hend : Hid (IsR B n g gl cl (.slice none 0 0) vk { T with dur := putW T.dur T.ws, ws := [] } (wr.setCell ⟨g, 1, none⟩ (.slice none 0 0)) ∧ FrR B g gl vw w (wr.setCell ⟨g, 1, none⟩ (.slice none 0 0))) := Lib.hid
          ⟨⟨hD1, (show RowS gl (putW T.dur T.ws) wr by have := HR.out; rwa [List.take_of_length_le (Nat.le_of_eq HM.out)] at this).same (hs3 gl HH.out.glg), (putW_length _ _).trans HH.out.ld, World.ownsRow_nil _ _ _ _, (fun p hp => by cases hp), HH.out.b1, HH.out.b2⟩, HF1.out.trans (FrR.of_kept2 (vw := vw1) hK3 (.inl rfl)) (fun x hx => .inl (HV1.out x hx))⟩
        clear hD1 hs3 hK3
        go_wp2_with fail
        go_ret
        exact ⟨rfl, _, hend.out.1, fun x hx => by (cases hx), hend.out.2⟩
end Go.Proofs.Ytaionhdamdhjjaa
