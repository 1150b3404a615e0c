/- The document's disk: Step, Sync. The document's disk: Put, Read. The document's disk: Read, Spoil. The document's disk: Spoil. The document's disk: New. Sector: Spoil and Cut with choices over a disk as data. Sector: Cut with any choices; both sides read alike. Sector: what a script's commands keep; the two sides beside one another; acts of a script. -/
import Derived.Test.YtbpaiiljhdohfaaDoorMd
import Derived.Deep.AppendLies
import Derived.Deep.RegionLaw
namespace Go.Proofs.YtbpaiiljhdohfaaDoor
open Go.RowKit
variable {B n g gl cl : Nat} {vw vk : Value} {S : DS} {w : World}

theorem RStep (h : IsR B n g gl cl vw vk S w) (ok : OkS n S) (hk : S.left = 1 → ∀ w', Below B w w' → IsInts w' vk S.kp) :
    Calls Tryd.prog 38 #[.pointer (some ⟨g, 0, none⟩)] w fun e w' => e = .returned (.int .i64 (if (begS S).1 = true then 0 else 7)) ∧ ∃ vw', IsR B n g gl cl vw' vk (begS S).2 w' ∧ (∀ x, vw'.ownBlock = some x → vw.ownBlock = some x) ∧ FrR B g gl vw w w' := by
  have c4 := h.d.c4
  cases ho : S.off
  · rw [ho] at c4
    by_cases hl : S.left = 1
    · have e0 : begS S = (false, failS S.kp S) := by unfold begS; rw [if_neg (by rw [ho]; decide), if_pos hl]
      rw [e0]
      have c2 := h.d.c2
      rw [hl] at c2
      obtain ⟨ak, ck, hvk, _⟩ := hk hl w (Below.refl _ _)
      have c3 := h.d.c3
      rw [hvk] at c3
      have HF := Lib.hid (RFail h vk S.kp (hk hl) ok.n1 ok.ws)
      rw [hvk] at HF
      clear h ok e0
      go_enter Tryd.func38, Tryd.ntmps38
      go_wp2_with (go_at_call 11; refine HF.out.mono ?_)
      first | rintro e w1 rfl h1 f1 | rintro e w1 ⟨rfl, h1, f1⟩
      have H1 := Lib.hid h1; have F1 := Lib.hid f1
      clear h1 f1
      go_wp2_with fail
      go_ret
      exact ⟨rfl, _, H1.out, fun x hx => by (cases hx), F1.out⟩
    · have e0 : begS S = (true, { S with done := S.done + 1, left := max (S.left - 1) 0 }) := by unfold begS; rw [if_neg (by rw [ho]; decide), if_neg hl]
      rw [e0]
      have c2 := h.d.c2
      have hne : (S.left == 1) = false := beq_eq_false_iff_ne.2 hl
      have hl0 := ok.l0; have hl1 := ok.l1; have hdn := ok.done
      have hdi : (S.done : Int) ≤ 1000000000 := by omega
      have hw2 : IntKind.i64.wrap ((S.done : Int) + 1) = (S.done : Int) + 1 := IntWalk.i64_in _ (by omega)
      by_cases hp : 0 < S.left
      · have hw1 : IntKind.i64.wrap (S.left - 1) = S.left - 1 := IntWalk.i64_in _ (by omega)
        have hD1 : RefAt g (.slice (some ⟨gl, 0, none⟩) n cl) vw (S.left - 1) vk S.off S.done (w.setCell ⟨g, 2, none⟩ (.int .i64 (S.left - 1))) := h.d.set 2 _
        have hD2 : RefAt g (.slice (some ⟨gl, 0, none⟩) n cl) vw (S.left - 1) vk S.off ((S.done : Int) + 1) ((w.setCell ⟨g, 2, none⟩ (.int .i64 (S.left - 1))).setCell ⟨g, 5, none⟩ (.int .i64 ((S.done : Int) + 1))) := hD1.set 5 _
        have c5 := hD1.c5
        have f2 := h.d.free 2
        have f5 := hD1.free 5
        have hK : Kept2 B g g w ((w.setCell ⟨g, 2, none⟩ (.int .i64 (S.left - 1))).setCell ⟨g, 5, none⟩ (.int .i64 ((S.done : Int) + 1))) := ((Kept2.refl B g g w).setg h.b1 2 _).setg h.b1 5 _
        obtain ⟨r1, r2, r3⟩ := h.disk hK
        have hend : Hid (IsR B n g gl cl vw vk { S with done := S.done + 1, left := max (S.left - 1) 0 } ((w.setCell ⟨g, 2, none⟩ (.int .i64 (S.left - 1))).setCell ⟨g, 5, none⟩ (.int .i64 ((S.done : Int) + 1))) ∧ FrR B g gl vw w ((w.setCell ⟨g, 2, none⟩ (.int .i64 (S.left - 1))).setCell ⟨g, 5, none⟩ (.int .i64 ((S.done : Int) + 1)))) := Lib.hid
          ⟨⟨by rw [show max (S.left - 1) 0 = S.left - 1 by omega, Int.natCast_succ]; exact hD2, r2, h.ld, r3, h.wb, h.b1, h.b2⟩, r1⟩
        clear hD1 hD2 hK r1 r2 r3 h ok e0 hk ho
        go_enter Tryd.func38, Tryd.ntmps38
        go_wp2_with fail
        go_ret
        exact ⟨rfl, _, hend.out.1, fun x hx => hx, hend.out.2⟩
      · have hz : S.left = 0 := by omega
        rw [hz] at c2
        have hD2 : RefAt g (.slice (some ⟨gl, 0, none⟩) n cl) vw S.left vk S.off ((S.done : Int) + 1) (w.setCell ⟨g, 5, none⟩ (.int .i64 ((S.done : Int) + 1))) := h.d.set 5 _
        have c5 := h.d.c5
        have f5 := h.d.free 5
        have hK : Kept2 B g g w (w.setCell ⟨g, 5, none⟩ (.int .i64 ((S.done : Int) + 1))) := (Kept2.refl B g g w).setg h.b1 5 _
        obtain ⟨r1, r2, r3⟩ := h.disk hK
        have hend : Hid (IsR B n g gl cl vw vk { S with done := S.done + 1, left := max (S.left - 1) 0 } (w.setCell ⟨g, 5, none⟩ (.int .i64 ((S.done : Int) + 1))) ∧ FrR B g gl vw w (w.setCell ⟨g, 5, none⟩ (.int .i64 ((S.done : Int) + 1)))) := Lib.hid
          ⟨⟨by rw [show max (S.left - 1) 0 = S.left by omega, Int.natCast_succ]; exact hD2, r2, h.ld, r3, h.wb, h.b1, h.b2⟩, r1⟩
        clear hD2 hK r1 r2 r3 h ok e0 hk hne hl hp hl0 hl1 ho hz
        go_enter Tryd.func38, Tryd.ntmps38
        go_wp2_with fail
        go_ret
        exact ⟨rfl, _, hend.out.1, fun x hx => hx, hend.out.2⟩
  · rw [ho] at c4
    have e0 : begS S = (false, S) := by unfold begS; rw [if_pos ho]
    rw [e0]
    have H := Lib.hid h
    clear h ok hk
    go_enter Tryd.func38, Tryd.ntmps38
    go_wp2_with fail
    go_ret
    exact ⟨rfl, _, H.out, fun x hx => hx, FrR.refl _ _ _ _ _⟩
def RsS (B g gl n cl : Nat) (vw vk : Value) (S : DS) (w : World) (i : Value) (wr : World) : Prop :=
  ∃ k : Nat, k ≤ S.ws.length ∧ i = .int .i64 k ∧ RefAt g (.slice (some ⟨gl, 0, none⟩) n cl) vw S.left vk S.off S.done wr ∧ RowS gl (putW S.dur (S.ws.take k)) wr ∧ Kept2 B gl gl w wr
set_option maxHeartbeats 2000000 in
set_option maxRecDepth 100000 in
theorem RSync (h : IsR B n g gl cl vw vk S w) (ok : OkS n S) (hk : S.left = 1 → ∀ w', Below B w w' → IsInts w' vk S.kp) :
    Calls Tryd.prog 41 #[.pointer (some ⟨g, 0, none⟩)] w fun e w' => e = .returned (.int .i64 (syncS S).1) ∧ ∃ vw', IsR B n g gl cl vw' vk (syncS S).2 w' ∧ (∀ x, vw'.ownBlock = some x → vw.ownBlock = some x) ∧ FrR B g gl vw w w' := by
  have HB := Lib.hid (RStep h ok hk)
  have hws := Lib.hid (Nat.le_trans (begS_ws S) ok.ws)
  have hn1 := Lib.hid ok.n1
  clear h ok hk
  cases hb : (begS S).1
  · have e0 : syncS S = (7, (begS S).2) := by unfold syncS; rw [if_neg (by rw [hb]; decide)]
    rw [e0]
    rw [hb, if_neg (by decide)] at HB
    go_enter Tryd.func41, Tryd.ntmps41
    go_wp2_with (go_at_call 38; refine HB.out.mono ?_)
    rintro e w1 ⟨rfl, hr⟩
    have HR := Lib.hid hr
    clear hr
    go_wp2_with fail
    go_ret
    exact ⟨rfl, HR.out⟩
  · have e0 : syncS S = (0, { (begS S).2 with dur := putW (begS S).2.dur (begS S).2.ws, ws := [] }) := by unfold syncS; rw [if_pos hb]
    rw [e0]
    rw [hb, if_pos rfl] at HB
    obtain ⟨T, hT⟩ : ∃ T, (begS S).2 = T := ⟨_, rfl⟩
    rw [hT] at HB hws ⊢
    clear hT e0
    go_enter Tryd.func41, Tryd.ntmps41
    go_wp2_with (go_at_call 38; refine HB.out.mono ?_)
    first | rintro e w1 rfl vw1 h1 hv1 f1 | rintro e w1 ⟨rfl, vw1, h1, hv1, f1⟩
    obtain ⟨o, cw, hvw, hcell⟩ := h1.wr
    obtain ⟨m, hmm⟩ : ∃ m, T.ws.length = m := ⟨_, rfl⟩
    have hmi : (m : Int) ≤ 10000000 := by have := hws.out; omega
    have c1 : w1.cell? ⟨g, 1, none⟩ = some (.slice o m cw) := by rw [h1.d.c1, hvw, hmm]
    have hS : RsS B g gl n cl vw1 vk T w1 (.int .i64 0) w1 := ⟨0, Nat.zero_le _, rfl, h1.d, h1.rd, Kept2.refl _ _ _ _⟩
    have HS := Lib.hid hS; have HH := Lib.hid h1; have HC := Lib.hid hcell; have HVW := Lib.hid hvw; have HM := Lib.hid hmm; have HV1 := Lib.hid hv1; have HF1 := Lib.hid f1
    clear hS h1 hcell hvw hmm hv1 f1 HB
    go_wp2_with fail
    clear c1
    go_loopw [4] (fun i wr => RsS B g gl n cl vw1 vk T w1 i wr) (fun i _ => m - (intOf i).toNat)
    case atStart => exact HS.out
    case round =>
      obtain ⟨k, hkm, rfl, hD, hR, hK⟩ := hrel
      rw [HM.out] at hkm
      have c1 : wr.cell? ⟨g, 1, none⟩ = some (.slice o m cw) := by rw [hD.c1, HVW.out, HM.out]
      have c0 := hD.c0
      have HD := Lib.hid hD; have HR := Lib.hid hR; have HKK := Lib.hid hK
      clear hD hR hK
      by_cases hlt : k < m
      · have hki : (k : Int) < m := by omega
        have hk9 : (k : Int) ≤ 10000000 := by omega
        obtain ⟨p, hp⟩ : ∃ p, T.ws[k]? = some p := ⟨_, List.getElem?_eq_getElem (by rw [HM.out]; exact hlt)⟩
        obtain ⟨gw, hgw, q1, q2, q3, d0, d1⟩ := HC.out k p hp
        have hsame : ∀ i, wr.cell? ⟨gw, i, none⟩ = w1.cell? ⟨gw, i, none⟩ := fun i => by unfold World.cell?; simp only [HKK.out.2.2 gw q3 q2 q2]
        rw [← hsame] at d0 d1
        have hpn : p.1 < n := HH.out.wb p (List.mem_of_getElem? hp)
        have hst : Hid (RsS B g gl n cl vw1 vk T w1 (.int .i64 ((k : Int) + 1)) ((wr.setCell ⟨gl, p.1, none⟩ (.string p.2)).drew)) := Lib.hid
          ⟨k + 1, by rw [HM.out]; omega, by rw [Int.natCast_succ], (Below.heap_setCell _ _ _ _ (by show g ≠ gl; exact Ne.symm HH.out.glg)).trans HD.out, by rw [putW_take _ _ k p hp]; exact HR.out.set p.1 p.2, (HKK.out.setd HH.out.b2 _ _).drew⟩
        have hgo : o = some ⟨gw, 0, none⟩ := hgw
        subst hgo
        obtain ⟨pi, ps⟩ := p
        have hpi : (pi : Int) < n := by omega
        obtain ⟨x, hx⟩ : ∃ x, (putW T.dur (T.ws.take k))[pi]? = some x := ⟨_, List.getElem?_eq_getElem (by rw [putW_length, HH.out.ld]; exact hpn)⟩
        have e1 := HR.out.cell _ _ hx
        have fd := HR.out.free pi
        clear hp hx hpn hsame
        go_wp2_with fail
        refine wp_region_still_tail 21 (by kernel_rfl) (by kernel_rfl) ?_
        change wpStill _ _ (World.drew _) _ _ _
        simp only [List.take_succ_cons, List.take_zero, List.drop_succ_cons, List.drop_zero]
        repeat still_step
        try refine wpStill_nil ?_
        change wpList _ _ _ _ _ (World.drew _)
        go_wp2_with fail
        exact ⟨hst.out, by simp [intOf]; omega⟩
      · have hkm' : k = m := by omega
        subst hkm'
        have f1 := HD.out.free 1
        have hD1 : RefAt g (.slice (some ⟨gl, 0, none⟩) n cl) (.slice none 0 0) T.left vk T.off T.done (wr.setCell ⟨g, 1, none⟩ (.slice none 0 0)) := HD.out.set 1 _
        have hs3 : ∀ b, b ≠ g → (wr.setCell ⟨g, 1, none⟩ (.slice none 0 0)).heap[b]? = wr.heap[b]? := fun b hb => Below.heap_setCell _ _ _ _ (by show b ≠ g; exact hb)
        have hK3 : Kept2 B g gl w1 (wr.setCell ⟨g, 1, none⟩ (.slice none 0 0)) := (Kept2.mix HKK.out).setg HH.out.b1 1 _
        have hend : Hid (IsR B n g gl cl (.slice none 0 0) vk { T with dur := putW T.dur T.ws, ws := [] } (wr.setCell ⟨g, 1, none⟩ (.slice none 0 0)) ∧ FrR B g gl vw w (wr.setCell ⟨g, 1, none⟩ (.slice none 0 0))) := Lib.hid
          ⟨⟨hD1, (show RowS gl (putW T.dur T.ws) wr by have := HR.out; rwa [List.take_of_length_le (Nat.le_of_eq HM.out)] at this).same (hs3 gl HH.out.glg), (putW_length _ _).trans HH.out.ld, World.ownsRow_nil _ _ _ _, (fun p hp => by cases hp), HH.out.b1, HH.out.b2⟩, HF1.out.trans (FrR.of_kept2 (vw := vw1) hK3 (.inl rfl)) (fun x hx => .inl (HV1.out x hx))⟩
        clear hD1 hs3 hK3
        go_wp2_with fail
        go_ret
        exact ⟨rfl, _, hend.out.1, fun x hx => by (cases hx), hend.out.2⟩
end Go.Proofs.YtbpaiiljhdohfaaDoor
namespace Go.Proofs.YtbpaiiljhdohfaaDoor
open Go.RowKit
variable {B n g gl cl : Nat} {vw vk : Value} {S : DS} {w : World}

theorem IsR.setW (h : IsR B n g gl cl vw vk S w) {w1 : World} (vw' : Value) (ws' : List (Nat × ByteArray)) (hb : ∀ x ∈ ws', x.1 < n) (ho : w1.ownsRow B 88 2 vw' ws'.length (flat ws')) (hg : w.grownBy w1 vw.ownBlock) :
    IsR B n g gl cl vw' vk { S with ws := ws' } (w1.setCell ⟨g, 1, none⟩ vw') ∧ FrR B g gl vw w (w1.setCell ⟨g, 1, none⟩ vw') := by
  have hd1 : RefAt g (.slice (some ⟨gl, 0, none⟩) n cl) vw S.left vk S.off S.done w1 := (hg.block g h.d.lt (fun e => (h.wg e.symm).1 rfl)).trans h.d
  have hb2 : ∀ b, b ≠ g → (w1.setCell ⟨g, 1, none⟩ vw').heap[b]? = w1.heap[b]? := fun b hb => Below.heap_setCell _ _ _ _ hb
  have hz : (w1.setCell ⟨g, 1, none⟩ vw').heap.size = w1.heap.size := by show (w1.heap.modify g _).size = _; rw [Array.size_modify]
  have hk : ∀ b, b < w.heap.size → b ≠ g → vw.ownBlock ≠ some b → (w1.setCell ⟨g, 1, none⟩ vw').heap[b]? = w.heap[b]? := fun b hb h1 h2 => (hb2 b h1).trans (hg.block b hb (fun e => h2 e.symm))
  refine ⟨⟨hd1.set 1 vw', h.rd.same (hk gl h.rd.lt h.glg fun e => (h.wg e).2 rfl), h.ld, own_same ho fun b e => hb2 b (own_ne ho e (show w1.heap[g]? = _ from hd1) (by decide)), hb, h.b1, h.b2⟩, ?_⟩
  refine ⟨?_, by rw [hz]; exact hg.size, fun b hb h1 _ h4 => hk b hb h1 h4⟩
  have hB1 : Below B w w1 := ⟨hg.os, hg.tape, hg.output, hg.size, fun b hb => hg.block b (Nat.lt_of_lt_of_le hb (Nat.le_trans h.b1 (Nat.le_of_lt h.d.lt))) (fun e => absurd (h.vw.lt b e.symm).1 (by omega))⟩
  exact hB1.setCell (p := ⟨g, 1, none⟩) h.b1 _
theorem info_rwr : (Tryd.prog.info? 88).map (fun i => (i.zero, i.size, i.bytes)) = some (some (.agg #[.int .i64 0, .string ⟨#[]⟩]), 2, 24) := by kernel_rfl
theorem RPut_bad (h : IsR B n g gl cl vw vk S w) (i : Int) (s : ByteArray) (hi : ¬ (0 ≤ i ∧ i < n ∧ s.size ≤ 512)) :
    Calls Tryd.prog 14 #[.pointer (some ⟨g, 0, none⟩), .int .i64 i, .string s] w fun e w' => e = .returned (.int .i64 1) ∧ w' = w := by
  have c0 := h.d.c0
  clear h
  by_cases h0 : i < 0
  · go_enter Tryd.func14, Tryd.ntmps14
    go_wp2_with fail
    go_ret
    exact ⟨rfl, rfl⟩
  · by_cases h1 : (n : Int) ≤ i
    · have h0' : 0 ≤ i := by omega
      go_enter Tryd.func14, Tryd.ntmps14
      go_wp2_with fail
      go_ret
      exact ⟨rfl, rfl⟩
    · have h0' : 0 ≤ i := by omega
      have h1' : i < n := by omega
      have h2 : (512 : Int) < s.size := by omega
      clear hi
      go_enter Tryd.func14, Tryd.ntmps14
      go_wp2_with fail
      go_ret
      exact ⟨rfl, rfl⟩
set_option maxHeartbeats 2000000 in
set_option maxRecDepth 100000 in
theorem RPut (h : IsR B n g gl cl vw vk S w) (ok : OkS n S) (hk : S.left = 1 → ∀ w', Below B w w' → IsInts w' vk S.kp) (k : Nat) (s : ByteArray) (hkn : k < n) (hs : s.size ≤ 512) :
    Calls Tryd.prog 14 #[.pointer (some ⟨g, 0, none⟩), .int .i64 k, .string s] w fun e w' => e = .returned (.int .i64 (writeS k s S).1) ∧ ∃ vw', IsR B n g gl cl vw' vk (writeS k s S).2 w' ∧ (∀ x, vw'.ownBlock = some x → vw.ownBlock = some x ∨ w.heap.size ≤ x) ∧ FrR B g gl vw w w' := by
  have HB := Lib.hid (RStep h ok hk)
  have hws := Lib.hid (Nat.le_trans (begS_ws S) ok.ws)
  have c0 := h.d.c0
  have hki : (k : Int) < n := by omega
  have hk0 : ¬ ((n : Int) ≤ k) := by omega
  have hsi : ¬ ((512 : Int) < s.size) := by omega
  clear h ok hk
  cases hb : (begS S).1
  · have e0 : writeS k s S = (7, (begS S).2) := by unfold writeS; rw [if_neg (by rw [hb]; decide)]
    rw [e0]
    rw [hb, if_neg (by decide)] at HB
    go_enter Tryd.func14, Tryd.ntmps14
    go_wp2_with (go_at_call 38; refine HB.out.mono ?_)
    first | rintro e w1 rfl vw' h1 h2 h3 | rintro e w1 ⟨rfl, vw', h1, h2, h3⟩
    have HR := Lib.hid (And.intro h1 (And.intro h2 h3))
    clear h1 h2 h3
    go_wp2_with fail
    go_ret
    obtain ⟨h1, h2, h3⟩ := HR.out
    exact ⟨rfl, _, h1, fun x hx => .inl (h2 x hx), h3⟩
  · have e0 : writeS k s S = (0, { (begS S).2 with cur := (begS S).2.cur.set k (padB s), ws := (begS S).2.ws ++ [(k, padB s)] }) := by unfold writeS; rw [if_pos hb]
    rw [e0]
    rw [hb, if_pos rfl] at HB
    obtain ⟨T, hT⟩ : ∃ T, (begS S).2 = T := ⟨_, rfl⟩
    rw [hT] at HB hws ⊢
    clear hT e0
    obtain ⟨i0, hi0, hz0, hs0, hy0⟩ := info_parts info_rwr
    go_enter Tryd.func14, Tryd.ntmps14
    go_wp2_with (go_at_call 38; refine HB.out.mono ?_)
    first | rintro e w1 rfl vw1 h1 hv1 f1 | rintro e w1 ⟨rfl, vw1, h1, hv1, f1⟩
    obtain ⟨ao, am, ac, rfl⟩ : ∃ a m c, vw1 = .slice a m c := by
      rcases h1.vw.2 with ⟨h2, _⟩ | ⟨_, _, _, h2, _⟩
      · exact ⟨_, _, _, h2⟩
      · exact ⟨_, _, _, h2⟩
    have c1 := h1.d.c1
    have HI := Lib.hid h1; have HV1 := Lib.hid hv1; have HF1 := Lib.hid f1; have HS := Lib.hid hs
    have HMX : Hid (T.ws.length + 1 ≤ maxLen) := Lib.hid (by have := hws.out; unfold maxLen; omega)
    have HBY : Hid ((T.ws.length + 1) * 24 ≤ 140737488355328) := Lib.hid (by have := hws.out; omega)
    clear h1 hv1 f1 HB c0
    go_wp2_with fail
    go_region_law (first
      | (refine step_append_lies (wp.alloc (.cells #[.int .i64 k, .string (padB s)] 88)) rfl (.tmp 32) (.tmp 37) 49 rfl B 88 i0 _ 2 24 Tryd.underlying49 hi0 hz0 hs0 hy0 rfl (by decide) (.slice ao am ac) T.ws.length (flat T.ws) (by simp [Act.eval, Act.put]) HIa.out.vw ⟨wp.heap.size, 0, none⟩ 1 1 [Value.int .i64 k, Value.string (padB s)] (by simp [Act.eval, Act.put]) rfl HN2.out (by intro u hu; simp at hu; rcases hu with rfl | rfl <;> rfl) (by decide) HMX.out HBY.out HBS.out (wp.heap.size + 1) HW0.out ?_; intro gx cap w3 hown hgrow hat hlt; have hd3 := hgrow.block g HIa.out.d.lt (fun e => (HIa.out.wg e.symm).1 rfl); have hd3' : RefAt g _ _ _ vk _ _ w3 := hd3.trans HIa.out.d; have c1' := hd3'.c1; have f1' := hd3'.free 1; have HO := Lib.hid hown; have HG := Lib.hid hgrow; have HA := Lib.hid hat; clear hd3 hd3' hown hgrow hat hlt)
      | (go_simp; go_at_call 23; refine (Full_any s _ HS.out).mono ?_; rintro e wp ⟨rfl, hb⟩; have hp : IsR B n g gl cl (.slice ao am ac) vk T wp := (HI.out.keep (w' := w1.drew) (fun _ _ => rfl)).below hb; have hpa : IsR B n g gl cl (.slice ao am ac) vk T (wp.alloc (.cells #[.int .i64 k, .string (padB s)] 88)) := hp.below ((Below.refl _ _).alloc (Nat.le_refl _) _); have c1p := hp.d.c1; have c1a := hpa.d.c1; have HIa := Lib.hid hpa; have HBp := Lib.hid hb; have HN2 := Lib.hid (World.news_of_block (heap_alloc_new wp (.cells #[.int .i64 k, .string (padB s)] 88))); have HW0 : Hid ((wp.alloc (.cells #[.int .i64 k, .string (padB s)] 88)).heap.size = wp.heap.size + 1) := Lib.hid (by show (wp.heap.push _).size = _; simp); have HBS : Hid (B ≤ (wp.alloc (.cells #[.int .i64 k, .string (padB s)] 88)).heap.size) := Lib.hid (by rw [HW0.out]; have := (hp.lts (.inl rfl)).1; have := hp.d.lt; omega); clear hp hpa hb))
    all_goals
      go_wp2_with fail
      go_ret
      obtain ⟨e1, e2⟩ := HIa.out.setW (.slice (some ⟨gx, 0, none⟩) (T.ws.length + 1) cap) (T.ws ++ [(k, padB s)]) (fun x hx => by
        rcases List.mem_append.1 hx with h1 | h1
        · exact HIa.out.wb x h1
        · simp at h1; rw [h1]; exact hkn) (by have := HO.out; rw [List.length_append, flat_append]; exact this) HG.out
      have hsz1 : w1.heap.size ≤ wp.heap.size := HBp.out.size
      refine ⟨rfl, _, ⟨e1.d, e1.rd, e1.ld, e1.vw, e1.wb, e1.b1, e1.b2⟩, fun x hx => ?_, ?_⟩
      · have hxg : gx = x := by simpa [Value.ownBlock] using hx
        subst hxg
        rcases HA.out with h1 | h1
        · exact .inl (HV1.out _ h1)
        · exact .inr (by have := HF1.out.size; omega)
      · have F2 : FrR B g gl (.slice ao am ac) w1 (wp.alloc (.cells #[.int .i64 k, .string (padB s)] 88)) :=
          FrR.undrew (FrR.of_below (Nat.le_trans HI.out.b1 (Nat.le_of_lt HI.out.d.lt)) (HBp.out.alloc HBp.out.size _))
        exact (HF1.out.trans F2 (fun x hx => .inl (HV1.out x hx))).trans e2 (fun x hx => .inl (HV1.out x hx))
end Go.Proofs.YtbpaiiljhdohfaaDoor
namespace Go.Proofs.YtbpaiiljhdohfaaDoor
open Go.RowKit
variable {B n g gl cl : Nat} {vw vk : Value} {S : DS} {w : World}

def readR (n : Nat) (i : Int) (S : DS) : ByteArray × Int := if 0 ≤ i ∧ i < n then (if S.off = true then (⟨#[]⟩, 7) else ((putW S.dur S.ws).getD i.toNat ⟨#[]⟩, 0)) else (⟨#[]⟩, 1)
set_option maxHeartbeats 2000000 in
theorem RRead (h : IsR B n g gl cl vw vk S w) (hm : S.ws.length ≤ 10000000) (i : Int) :
    Calls Tryd.prog 28 #[.pointer (some ⟨g, 0, none⟩), .int .i64 i] w fun e w' => e = .returned (.tuple #[.string (readR n i S).1, .int .i64 (readR n i S).2]) ∧ w' = w := by
  have c0 := h.d.c0
  by_cases hi : 0 ≤ i ∧ i < n
  · obtain ⟨h0, h1⟩ := hi
    have h1n : ¬ (n : Int) ≤ i := by omega
    have h0n : ¬ i < 0 := by omega
    have c4 := h.d.c4
    cases ho : S.off
    · obtain ⟨k, rfl⟩ : ∃ k : Nat, i = k := ⟨i.toNat, by omega⟩
      have hk : k < n := by omega
      have e0 : readR n k S = ((putW S.dur S.ws).getD k ⟨#[]⟩, 0) := by
        unfold readR
        rw [if_pos ⟨h0, h1⟩, if_neg (by rw [ho]; decide), Int.toNat_natCast]
      rw [e0]
      rw [ho] at c4
      obtain ⟨o, cw, hvw, hcell⟩ := h.wr
      obtain ⟨m, hmm⟩ : ∃ m, S.ws.length = m := ⟨_, rfl⟩
      have hmi : (m : Int) ≤ 10000000 := by omega
      have c1 : w.cell? ⟨g, 1, none⟩ = some (.slice o m cw) := by rw [h.d.c1, hvw, hmm]
      obtain ⟨x, hx⟩ : ∃ x, S.dur[k]? = some x := ⟨_, List.getElem?_eq_getElem (by rw [h.ld]; exact hk)⟩
      have e1 := h.rd.cell _ _ hx
      have HX := Lib.hid (show (putW S.dur (S.ws.take 0)).getD k ⟨#[]⟩ = x by rw [List.getD_eq_getElem?_getD]; show (S.dur[k]?).getD _ = _; rw [hx]; rfl)
      have HC := Lib.hid hcell; have HM := Lib.hid hmm; have HLD := Lib.hid h.ld
      clear h hcell hvw hmm hx hm ho e0
      go_enter Tryd.func28, Tryd.ntmps28
      go_wp2_with fail
      go_loopw [6, 7] (fun sv kv wr => ∃ j : Nat, j ≤ m ∧ kv = .int .i64 j ∧ sv = .string ((putW S.dur (S.ws.take j)).getD k ⟨#[]⟩) ∧ wr = w) (fun _ kv _ => m - (intOf kv).toNat)
      case atStart => exact ⟨0, Nat.zero_le _, rfl, by rw [HX.out], rfl⟩
      case round =>
        obtain ⟨j, hj, rfl, rfl, rfl⟩ := hrel
        by_cases hlt : j < m
        · have hji : (j : Int) < m := by omega
          have hj9 : (j : Int) ≤ 10000000 := by omega
          obtain ⟨p, hp⟩ : ∃ p, S.ws[j]? = some p := ⟨_, List.getElem?_eq_getElem (by rw [HM.out]; exact hlt)⟩
          obtain ⟨gw, hgw, q1, q2, q3, d0, d1⟩ := HC.out j p hp
          subst hgw
          have hnx : (putW S.dur (S.ws.take (j + 1))).getD k ⟨#[]⟩ = if p.1 = k then p.2 else (putW S.dur (S.ws.take j)).getD k ⟨#[]⟩ := by
            rw [putW_take _ _ j p hp, List.getD_eq_getElem?_getD, List.getElem?_set]
            by_cases e : p.1 = k
            · rw [if_pos e, if_pos e, if_pos (by rw [putW_length, HLD.out]; omega)]; rfl
            · rw [if_neg e, if_neg e, ← List.getD_eq_getElem?_getD]
          obtain ⟨pi, ps⟩ := p
          by_cases e : pi = k
          · have HNX : Hid ((putW S.dur (S.ws.take (j + 1))).getD k ⟨#[]⟩ = ps) := Lib.hid (by rw [hnx, if_pos e])
            subst e
            clear hnx hp
            go_wp2_with fail
            exact ⟨⟨j + 1, by omega, by rw [Int.natCast_succ], by rw [HNX.out], trivial⟩, by simp [intOf]; omega⟩
          · have HNX : Hid ((putW S.dur (S.ws.take (j + 1))).getD k ⟨#[]⟩ = (putW S.dur (S.ws.take j)).getD k ⟨#[]⟩) := Lib.hid (by rw [hnx, if_neg e])
            have hpe : ¬ (pi : Int) = k := by omega
            have hpb : ((pi : Int) == k) = false := beq_eq_false_iff_ne.2 hpe
            obtain ⟨y, hy⟩ : ∃ y, (putW S.dur (S.ws.take j)).getD k ⟨#[]⟩ = y := ⟨_, rfl⟩
            have HY := Lib.hid hy
            rw [hy]
            clear hnx hp hy
            go_wp2_with fail
            exact ⟨⟨j + 1, by omega, by rw [Int.natCast_succ], by rw [HNX.out, HY.out], trivial⟩, by simp [intOf]; omega⟩
        · obtain rfl : j = m := by omega
          have HE : Hid ((putW S.dur (S.ws.take j)).getD k ⟨#[]⟩ = (putW S.dur S.ws).getD k ⟨#[]⟩) := Lib.hid (by rw [List.take_of_length_le (Nat.le_of_eq HM.out)])
          rw [HE.out]
          obtain ⟨y, hy⟩ : ∃ y, (putW S.dur S.ws).getD k ⟨#[]⟩ = y := ⟨_, rfl⟩
          rw [hy]
          have HY := Lib.hid hy
          clear hy
          go_wp2_with fail
          go_ret2
          exact ⟨by rw [HY.out]; rfl, rfl⟩
    · have e0 : readR n i S = (⟨#[]⟩, 7) := by unfold readR; rw [if_pos ⟨h0, h1⟩, if_pos ho]
      rw [e0]
      rw [ho] at c4
      clear h ho e0
      go_enter Tryd.func28, Tryd.ntmps28
      go_wp2_with fail
      go_ret2
      exact ⟨rfl, rfl⟩
  · have e0 : readR n i S = (⟨#[]⟩, 1) := by unfold readR; rw [if_neg hi]
    rw [e0]
    clear h e0
    by_cases h0 : i < 0
    · go_enter Tryd.func28, Tryd.ntmps28
      go_wp2_with fail
      go_ret2
      exact ⟨rfl, rfl⟩
    · have h1 : (n : Int) ≤ i := by omega
      have h0' : 0 ≤ i := by omega
      go_enter Tryd.func28, Tryd.ntmps28
      go_wp2_with fail
      go_ret2
      exact ⟨rfl, rfl⟩
end Go.Proofs.YtbpaiiljhdohfaaDoor
namespace Go.Proofs.YtbpaiiljhdohfaaDoor
open Go.RowKit
variable {B n g gl cl : Nat} {vw vk : Value} {S : DS} {w : World}

def spoilS (k : Nat) (s : ByteArray) (S : DS) : DS := { S with dur := S.dur.set k (padB s), cur := S.cur.set k (padB s), ws := S.ws.filter fun p => !(p.1 == k) }
theorem IsR.lasts (h : IsR B n g gl cl vw vk S w) (k : Nat) (s : ByteArray) : IsR B n g gl cl vw vk { S with dur := S.dur.set k s } (w.setCell ⟨gl, k, none⟩ (.string s)) ∧ FrR B g gl vw w (w.setCell ⟨gl, k, none⟩ (.string s)) := by
  have hb : ∀ b, b ≠ gl → (w.setCell ⟨gl, k, none⟩ (.string s)).heap[b]? = w.heap[b]? := fun b hb => Below.heap_setCell _ _ _ _ hb
  have hz : (w.setCell ⟨gl, k, none⟩ (.string s)).heap.size = w.heap.size := by show (w.heap.modify gl _).size = _; rw [Array.size_modify]
  exact ⟨⟨(hb g (Ne.symm h.glg)).trans h.d, h.rd.set k s, (List.length_set ..).trans h.ld, own_same h.vw fun b e => hb b (h.wg e).2, h.wb, h.b1, h.b2⟩,
    ⟨(Below.refl _ _).setCell (p := ⟨gl, k, none⟩) h.b2 _, Nat.le_of_eq hz.symm, fun b _ _ h3 _ => hb b h3⟩⟩
def leftW (ws : List (Nat × ByteArray)) (k j : Nat) : List (Nat × ByteArray) := (ws.take j).filter fun p => !(p.1 == k)
theorem leftW_succ (ws : List (Nat × ByteArray)) (k j : Nat) (p : Nat × ByteArray) (h : ws[j]? = some p) : leftW ws k (j + 1) = leftW ws k j ++ if p.1 = k then [] else [p] := by
  unfold leftW
  rw [List.take_add_one, h, Option.toList_some, List.filter_append]
  by_cases e : p.1 = k
  · simp [e]
  · simp [e]
def RpS (ws : List (Nat × ByteArray)) (k m : Nat) (w2 : World) (kv lv : Value) (wr : World) : Prop :=
  ∃ (j : Nat) (lo : Option Addr) (lc : Nat), j ≤ m ∧ kv = .int .i64 j ∧ lv = .slice lo (leftW ws k j).length lc ∧ wr.ownsRow w2.heap.size 88 2 (.slice lo (leftW ws k j).length lc) (leftW ws k j).length (flat (leftW ws k j)) ∧ Below w2.heap.size w2 wr
end Go.Proofs.YtbpaiiljhdohfaaDoor
namespace Go.Proofs.YtbpaiiljhdohfaaDoor
open Go.RowKit
variable {B n g gl cl : Nat} {vw vk : Value} {S : DS} {w : World}

theorem RNew_bad (i : Int) (w : World) (h : ¬ (1 ≤ i ∧ i ≤ 4096)) :
    Calls Tryd.prog 6 #[.int .i64 i] w fun e w' => e = .returned (.pointer none) ∧ w' = w := by
  by_cases h1 : i < 1
  · go_enter Tryd.func6, Tryd.ntmps6
    go_wp2_with fail
    go_ret
    exact ⟨rfl, rfl⟩
  · have h2 : 4096 < i := by omega
    go_enter Tryd.func6, Tryd.ntmps6
    go_wp2_with fail
    go_ret
    exact ⟨rfl, rfl⟩
def RnS (g n : Nat) (w : World) (kv : Value) (wr : World) : Prop :=
  ∃ (k : Nat) (lo : Option Addr) (lc : Nat), k ≤ n ∧ kv = .int .i64 k ∧ RefAt g (.slice lo k lc) (.slice none 0 0) 0 (.slice none 0 0) false 0 wr ∧ wr.ownsRow w.heap.size 9 1 (.slice lo k lc) k ((List.replicate k zeroB).map Value.string) ∧ Below w.heap.size w wr
theorem Full_zero (w : World) : Calls Tryd.prog 23 #[.string ⟨#[]⟩] w fun e w' => e = .returned (.string zeroB) ∧ Below w.heap.size w w' := Full_any ⟨#[]⟩ w (by decide)
theorem RNew_step {w wr wp : World} {k : Nat} {lo : Option Addr} {lc : Nat} (hR : RefAt w.heap.size (.slice lo k lc) (.slice none 0 0) 0 (.slice none 0 0) false 0 wr) (hO : wr.ownsRow w.heap.size 9 1 (.slice lo k lc) k ((List.replicate k zeroB).map Value.string)) (hBl : Below w.heap.size w wr) (hb : Below wr.drew.heap.size wr.drew wp) (hlt : k < n) (gx cap : Nat) (w3 : World)
    (ho : w3.ownsRow w.heap.size 9 1 (.slice (some ⟨gx, 0, none⟩) (k + 1) cap) (k + 1) ((List.replicate k zeroB).map Value.string ++ [Value.string zeroB])) (hg : (wp.alloc (.cells #[.string zeroB] 9)).grownBy w3 (Value.slice lo k lc).ownBlock) :
    RefAt w.heap.size (.slice lo k lc) (.slice none 0 0) 0 (.slice none 0 0) false 0 w3 ∧ RnS w.heap.size n w (.int .i64 ((k : Int) + 1)) (w3.setCell ⟨w.heap.size, 0, none⟩ (.slice (some ⟨gx, 0, none⟩) (k + 1) cap)) := by
  have hz : wr.heap.size ≤ wp.heap.size := hb.size
  have hgl := hR.lt
  have hne : ∀ x, (Value.slice lo k lc).ownBlock = some x → x ≠ w.heap.size := fun x hx => own_ne hO hx (show wr.heap[w.heap.size]? = _ from hR) (by decide)
  have hR3 : RefAt w.heap.size (.slice lo k lc) (.slice none 0 0) 0 (.slice none 0 0) false 0 w3 :=
    (hg.block w.heap.size (by show _ < (wp.heap.push _).size; simp; omega) (fun e => hne _ e.symm rfl)).trans ((Lib.alloc_old wp _ _ (by omega)).trans ((hb.block _ hgl).trans hR))
  have hB3 : Below w.heap.size w w3 := by
    have h1 : Below w.heap.size w wp := hBl.trans ⟨hb.os, hb.tape, hb.output, hb.size, fun b hb' => hb.block b (by show b < wr.heap.size; omega)⟩
    have h2 : Below w.heap.size w (wp.alloc (.cells #[.string zeroB] 9)) := h1.alloc h1.size _
    exact h2.trans ⟨hg.os, hg.tape, hg.output, hg.size, fun b hb' => hg.block b (Nat.lt_of_lt_of_le hb' h2.size) (fun e => absurd (hO.lt b e.symm).1 (by omega))⟩
  have hv3 : ∀ x, (Value.slice (some ⟨gx, 0, none⟩) (k + 1) cap).ownBlock = some x → x ≠ w.heap.size := fun x hx => own_ne ho hx (show w3.heap[w.heap.size]? = _ from hR3) (by decide)
  refine ⟨hR3, k + 1, some ⟨gx, 0, none⟩, cap, by omega, by rw [Int.natCast_succ], hR3.set 0 _, ?_, hB3.setCell (p := ⟨w.heap.size, 0, none⟩) (Nat.le_refl _) _⟩
  have e : (List.replicate (k + 1) zeroB).map Value.string = (List.replicate k zeroB).map Value.string ++ [Value.string zeroB] := by
    rw [List.replicate_succ', List.map_append]; rfl
  rw [e]
  exact own_same ho fun b hb' => Below.heap_setCell _ _ _ _ (by show b ≠ w.heap.size; exact hv3 b hb')
set_option maxHeartbeats 2000000 in
set_option maxRecDepth 100000 in
theorem RNew (n : Nat) (w : World) (hn : 1 ≤ n) (hn2 : n ≤ 4096) :
    Calls Tryd.prog 6 #[.int .i64 n] w fun e w' => ∃ g gl cl, e = .returned (.pointer (some ⟨g, 0, none⟩)) ∧ IsR w.heap.size n g gl cl (.slice none 0 0) (.slice none 0 0) (newS n) w' ∧ Below w.heap.size w w' := by
  have h1 : (1 : Int) ≤ n := by omega
  have h2 : (n : Int) ≤ 4096 := by omega
  obtain ⟨i0, hi0, hz0, hs0, hy0⟩ := info_parts info_str
  obtain ⟨w1, hw1⟩ : ∃ w1, w.alloc (.cells (rcells (.slice none 0 0) (.slice none 0 0) 0 (.slice none 0 0) false 0) 51) = w1 := ⟨_, rfl⟩
  have hR0 : RefAt w.heap.size (.slice none 0 0) (.slice none 0 0) 0 (.slice none 0 0) false 0 w1 := by rw [← hw1]; exact heap_alloc_new w _
  have hB0 : Below w.heap.size w w1 := by rw [← hw1]; exact (Below.refl _ _).alloc (Nat.le_refl _) _
  have hS : Hid (RnS w.heap.size n w (.int .i64 0) w1) := Lib.hid ⟨0, none, 0, Nat.zero_le _, rfl, hR0, World.ownsRow_nil _ _ _ _, hB0⟩
  have hw2 : w.alloc (.cells #[.slice none 0 0, .slice none 0 0, .int .i64 0, .slice none 0 0, .bool false, .int .i64 0] 51) = w1 := hw1
  clear hw1 hR0 hB0
  go_enter Tryd.func6, Tryd.ntmps6
  go_wp2_with fail
  try rw [hw2]
  obtain ⟨g, hg⟩ : ∃ g, w.heap.size = g := ⟨_, rfl⟩
  have HG := Lib.hid hg
  go_loopw [4] (fun kv wr => RnS w.heap.size n w kv wr) (fun kv _ => n - (intOf kv).toNat)
  case atStart => first | exact hS.out | (rw [hw2]; exact hS.out)
  case round =>
    obtain ⟨k, lo, lc, hk, rfl, hR, hO, hBl⟩ := hrel
    by_cases hlt : k < n
    · have hki : (k : Int) < n := by omega
      have hk9 : (k : Int) ≤ 4096 := by omega
      have c0 := hR.c0
      have HR := Lib.hid hR; have HO := Lib.hid hO; have HBl := Lib.hid hBl
      have hs : (⟨#[]⟩ : ByteArray).size ≤ 512 := by decide
      have HMX : Hid (k + 1 ≤ maxLen) := Lib.hid (by unfold maxLen; omega)
      have HBY : Hid ((k + 1) * 16 ≤ 140737488355328) := Lib.hid (by omega)
      clear hR hO hBl hg
      go_wp2_with fail
      go_region_law (first
        | (refine step_append_lies (wp.alloc (.cells #[.string zeroB] 9)) rfl (.tmp 22) (.tmp 24) 48 rfl w.heap.size 9 i0 _ 1 16 Tryd.underlying48 hi0 hz0 hs0 hy0 rfl (by decide) (.slice lo k lc) k ((List.replicate k zeroB).map Value.string) (by simp [Act.eval, Act.put]) HOa.out ⟨wp.heap.size, 0, none⟩ 1 1 [Value.string zeroB] (by simp [Act.eval, Act.put]) rfl HN2.out (by intro u hu; simp at hu; rw [hu]; rfl) (by decide) HMX.out HBY.out HBS.out (wp.heap.size + 1) HW0.out ?_; intro gx cap w3 hown hgrow hat hlt; have hR3 := HST.out gx cap w3 hown hgrow; have c0' := hR3.1.c0; have f0' := hR3.1.free 0; have HE := Lib.hid hR3.2; clear hR3 hown hgrow hat hlt)
        | (go_simp; go_at_call 23; refine (Full_zero _).mono ?_; rintro e wp ⟨rfl, hb⟩; have hRp : RefAt w.heap.size (.slice lo k lc) (.slice none 0 0) 0 (.slice none 0 0) false 0 wp := (hb.block w.heap.size HR.out.lt).trans HR.out; have c0p := hRp.c0; have c0a : (wp.alloc (.cells #[.string zeroB] 9)).cell? ⟨w.heap.size, 0, none⟩ = some (.slice lo k lc) := (World.cell?_alloc_past _ _ _ hRp.lt).trans c0p; have HOa : Hid ((wp.alloc (.cells #[.string zeroB] 9)).ownsRow w.heap.size 9 1 (.slice lo k lc) k ((List.replicate k zeroB).map Value.string)) := Lib.hid ((own_same HO.out (fun b e => hb.block b (HO.out.lt b e).2)).alloc _); have HN2 := Lib.hid (World.news_of_block (heap_alloc_new wp (.cells #[.string zeroB] 9))); have HW0 : Hid ((wp.alloc (.cells #[.string zeroB] 9)).heap.size = wp.heap.size + 1) := Lib.hid (by show (wp.heap.push _).size = _; simp); have HBS : Hid (w.heap.size ≤ (wp.alloc (.cells #[.string zeroB] 9)).heap.size) := Lib.hid (by rw [HW0.out]; have := hRp.lt; omega); have HST : Hid (∀ gx cap w3, w3.ownsRow w.heap.size 9 1 (.slice (some ⟨gx, 0, none⟩) (k + 1) cap) (k + 1) ((List.replicate k zeroB).map Value.string ++ [Value.string zeroB]) → (wp.alloc (.cells #[.string zeroB] 9)).grownBy w3 (Value.slice lo k lc).ownBlock → RefAt w.heap.size (.slice lo k lc) (.slice none 0 0) 0 (.slice none 0 0) false 0 w3 ∧ RnS w.heap.size n w (.int .i64 ((k : Int) + 1)) (w3.setCell ⟨w.heap.size, 0, none⟩ (.slice (some ⟨gx, 0, none⟩) (k + 1) cap))) := Lib.hid (RNew_step HR.out HO.out HBl.out hb hlt); clear hb hRp))
      all_goals go_wp2_with fail
      all_goals exact ⟨HE.out, by simp [intOf]; omega⟩
    · obtain rfl : k = n := by omega
      obtain ⟨gl, cl, hv, hgl, hrow⟩ := RowS.own hO (by omega)
      injection hv with hv1 hv2 hv3
      subst hv1
      have hend : Hid (IsR w.heap.size k w.heap.size gl lc (.slice none 0 0) (.slice none 0 0) (newS k) wr ∧ Below w.heap.size w wr) := Lib.hid ⟨⟨hR, hrow, List.length_replicate .., World.ownsRow_nil _ _ _ _, (fun p hp => by cases hp), Nat.le_refl _, hgl⟩, hBl⟩
      have c0 := hR.c0
      clear hR hO hBl hrow hv2 hv3
      go_wp2_with fail
      go_ret
      exact ⟨_, _, _, rfl, hend.out.1, hend.out.2⟩
end Go.Proofs.YtbpaiiljhdohfaaDoor
namespace Go.Proofs.YtbpaiiljhdohfaaDoor
open Go.RowKit
variable {B n g gd gc cd cc : Nat} {vw vk : Value} {S : DS} {w : World}

theorem keep_left (ws : List (Nat × ByteArray)) (k : Nat) : ∀ j, keepTo (fun _ i => i == (k : Int)) ws j = leftW ws k j
  | 0 => rfl
  | j + 1 => by
    cases hp : ws[j]? with
    | none =>
      have hl : ws.length ≤ j := List.getElem?_eq_none_iff.1 hp
      have := keep_left ws k j
      unfold keepTo leftW at *
      rw [List.take_of_length_le (by omega)] at this ⊢
      exact this
    | some p =>
      rw [keepTo_succ _ _ j p hp, leftW_succ _ _ j p hp, keep_left ws k j]
      by_cases e : p.1 = k
      · simp [e]
      · have hne : ¬ (p.1 : Int) = k := by omega
        simp [e, hne]
theorem keep_all_left (ws : List (Nat × ByteArray)) (k : Nat) : keepTo (fun _ i => i == (k : Int)) ws ws.length = ws.filter fun p => !(p.1 == k) := by
  rw [keep_left]; unfold leftW; rw [List.take_length]
theorem IsD.durable (h : IsD B n g gd gc cd cc vw vk S w) (k : Nat) (s : ByteArray) : IsD B n g gd gc cd cc vw vk { S with dur := S.dur.set k s } (w.setCell ⟨gd, k, none⟩ (.string s)) ∧ FrD B g gd gc vw w (w.setCell ⟨gd, k, none⟩ (.string s)) := by
  have hb : ∀ b, b ≠ gd → (w.setCell ⟨gd, k, none⟩ (.string s)).heap[b]? = w.heap[b]? := fun b hb => Below.heap_setCell _ _ _ _ hb
  have hz : (w.setCell ⟨gd, k, none⟩ (.string s)).heap.size = w.heap.size := by show (w.heap.modify gd _).size = _; rw [Array.size_modify]
  exact ⟨⟨(hb g (Ne.symm h.gdg)).trans h.d, h.rd.set k s, h.rc.same (hb gc (Ne.symm h.ne)), (List.length_set ..).trans h.ld, h.lc, own_same h.vw fun b e => hb b (h.wg e).2.1, h.wb, own_same h.vk fun b e => hb b (h.kg e).2.1, h.ne, h.b1, h.b2, h.b3⟩,
    ⟨(Below.refl _ _).setCell (p := ⟨gd, k, none⟩) h.b2 _, Nat.le_of_eq hz.symm, fun b _ _ h2 _ _ => hb b h2⟩⟩
end Go.Proofs.YtbpaiiljhdohfaaDoor
namespace Go.Proofs.YtbpaiiljhdohfaaDoor
open Go.RowKit
variable {B n g gd gc cd cc : Nat} {vw vk : Value} {S : DS} {w : World}

theorem CutD_of (h : IsD B n g gd gc cd cc vw vk S w) (i : Int) (ka : Value) (zs : List Int) (hcl : Calls Tryd.prog 35 #[ka] w fun e w1 => ∃ v', e = .returned v' ∧ w1.ownsRow w.heap.size 3 1 v' zs.length (zs.map (Value.int .i64)) ∧ Below w.heap.size w w1) :
    Calls Tryd.prog 12 #[.pointer (some ⟨g, 0, none⟩), .int .i64 i, ka] w fun e w' => e = .returned (.tuple #[]) ∧ ∃ vk', IsD B n g gd gc cd cc vw vk' (cutS i zs S) w' ∧ FrD B g gd gc vw w w' := by
  have HH := Lib.hid h; have HCL := Lib.hid hcl
  clear h hcl
  go_enter Tryd.func12, Tryd.ntmps12
  go_wp2_with (go_at_call 35; refine HCL.out.mono ?_)
  rintro e w1 ⟨v', rfl, hown, hb⟩
  obtain ⟨ao, n', cp, rfl⟩ : ∃ ao n' cp, v' = .slice ao n' cp := by
    rcases hown.2 with ⟨hv, _⟩ | ⟨g', cap, cur, hv, _⟩
    · exact ⟨_, _, _, hv⟩
    · exact ⟨_, _, _, hv⟩
  have h1 := HH.out.below hb
  have f4 := h1.d.free 4
  have f5 := h1.d.free 5
  have c4 := h1.d.c4
  have c5 := h1.d.c5
  have H1 := Lib.hid h1; have HO := Lib.hid hown; have HB := Lib.hid hb
  clear h1 hown hb
  go_wp2_with fail
  go_end0
  have hBs : B ≤ w.heap.size := Nat.le_trans HH.out.b1 (Nat.le_of_lt HH.out.d.lt)
  have hK : Kept2 B g g w1 ((w1.setCell ⟨g, 4, none⟩ (.int .i64 (max i 1))).setCell ⟨g, 5, none⟩ (.slice ao n' cp)) := ((Kept2.refl B g g w1).setg HH.out.b1 4 _).setg HH.out.b1 5 _
  have h2 : DiskAt g (.slice (some ⟨gd, 0, none⟩) n cd) (.slice (some ⟨gc, 0, none⟩) n cc) vw S.done (max i 1) vk S.off (w1.setCell ⟨g, 4, none⟩ (.int .i64 (max i 1))) := H1.out.d.set 4 _
  obtain ⟨r1, r2, r3, r4, r5⟩ := H1.out.disk hK
  refine ⟨rfl, _, ⟨h2.set 5 (.slice ao n' cp), r2, r3, HH.out.ld, HH.out.lc, r4, HH.out.wb, ?_, HH.out.ne, HH.out.b1, HH.out.b2, HH.out.b3⟩, (FrD.of_below HH.out.b1 (Nat.le_of_lt HH.out.d.lt) HB.out).trans r1 (fun x hx => .inl hx)⟩
  have hlow : w1.ownsRow B 3 1 (.slice ao n' cp) zs.length (zs.map (Value.int .i64)) := ⟨HO.out.1, HO.out.2.imp id (fun ⟨g, cap, cur, h1, h2, h3⟩ => ⟨g, cap, cur, h1, Nat.le_trans hBs h2, h3⟩)⟩
  exact own_same hlow fun b e => hK.2.2 b (HO.out.lt b e).2 (fun e2 => by have := (HO.out.lt b e).1; have := HH.out.d.lt; omega) (fun e2 => by have := (HO.out.lt b e).1; have := HH.out.d.lt; omega)
theorem CutD_any (h : IsD B n g gd gc cd cc vw vk S w) (i : Int) (ka : Value) (zs : List Int) (hl : zs.length ≤ 17592186044415) (hk : KeepArg ka zs vw w) :
    Calls Tryd.prog 12 #[.pointer (some ⟨g, 0, none⟩), .int .i64 i, ka] w fun e w' => e = .returned (.tuple #[]) ∧ ∃ vk', IsD B n g gd gc cd cc vw vk' (cutS i zs S) w' ∧ FrD B g gd gc vw w w' := by
  refine CutD_of h i ka zs ?_
  rcases hk with ⟨rfl, a, c, rfl⟩ | ⟨b, o, c, rfl, h0, _, hc⟩
  · cases a with
    | none => exact (Tryd.slices_Clone_int_nil 0 c w).mono fun e w' ⟨he, hw⟩ => ⟨_, he, World.ownsRow_nil _ _ _ _, hw ▸ Below.refl _ _⟩
    | some a => exact (Tryd.slices_Clone_int_zero a c w).mono fun e w' ⟨v', he, ho, _, hb⟩ => ⟨v', he, ho, hb⟩
  · exact (Tryd.slices_Clone_int b o zs.length c zs w (Nat.le_refl _) (by omega) hc).mono fun e w' ⟨v', he, ho, _, hb⟩ => ⟨v', he, by rw [List.take_length] at ho; exact ho, hb⟩
theorem DiskAt.drewN {du cu wr : Value} {done left : Int} {kp : Value} {off : Bool} (h : DiskAt g du cu wr done left kp off w) (y : Nat) : DiskAt g du cu wr done left kp off (w.drewN y) := by
  show (w.drewN y).heap[g]? = _
  rw [heap_drewN]; exact h
theorem Off_q {du cu wr : Value} {done left : Int} {kp : Value} {off : Bool} (h : DiskAt g du cu wr done left kp off w) (y : Nat) :
    Calls Tryd.prog 42 #[.pointer (some ⟨g, 0, none⟩)] (w.drewN y) fun e w'' => e = .returned (.bool off) ∧ ∃ m, w'' = w.drewN m :=
  (Off_any g _ _ _ _ _ _ _ _ (h.drewN y)).mono fun _ _ ⟨a, b⟩ => ⟨a, y, b⟩
theorem Size_q {m cap : Nat} {o : Option Addr} {cu wr : Value} {done left : Int} {kp : Value} {off : Bool} (h : DiskAt g (.slice o m cap) cu wr done left kp off w) (y : Nat) :
    Calls Tryd.prog 24 #[.pointer (some ⟨g, 0, none⟩)] (w.drewN y) fun e w'' => e = .returned (.int .i64 m) ∧ ∃ m, w'' = w.drewN m :=
  (Size_any g _ _ _ _ _ _ _ _ _ _ (h.drewN y)).mono fun _ _ ⟨a, b⟩ => ⟨a, y, b⟩
theorem read_same (hcur : S.cur = putW S.dur S.ws) (i : Int) : readR n i S = readS n i S := by
  unfold readR readS
  rw [hcur]
end Go.Proofs.YtbpaiiljhdohfaaDoor
namespace Go.Proofs.YtbpaiiljhdohfaaDoor
open Go.ChangeShapes Go.WideShapes Go.ChangeAt Go.RowKit
variable {B n g gd gc cd cc gr gl cl : Nat} {vw vk vr kr : Value} {S : DS} {w : World}

/-- The row in use is the durable one with the writes over it. -/
def Cu (S : DS) : Prop := S.cur = putW S.dur S.ws
theorem Cu.fail (zs : List Int) : Cu (failS zs S) := rfl
theorem Cu.crash (zs : List Int) : Cu (crashS zs S) := rfl
theorem Cu.beg (h : Cu S) : Cu (begS S).2 := by
  unfold begS
  split
  · exact h
  · split
    · exact Cu.fail _
    · exact h
theorem Cu.write (h : Cu S) (k : Nat) (s : ByteArray) : Cu (writeS k s S).2 := by
  unfold writeS
  split
  · show (begS S).2.cur.set k (padB s) = putW (begS S).2.dur ((begS S).2.ws ++ [(k, padB s)])
    rw [h.beg, putW_append]
  · exact h.beg
theorem Cu.sync (h : Cu S) : Cu (syncS S).2 := by
  unfold syncS
  split
  · exact h.beg
  · exact h.beg
theorem putW_set (k : Nat) (x : ByteArray) : ∀ (ws : List (Nat × ByteArray)) (L : List ByteArray), (putW L ws).set k x = putW (L.set k x) (ws.filter fun p => !(p.1 == k))
  | [], L => rfl
  | p :: ws, L => by
    show (putW (L.set p.1 p.2) ws).set k x = _
    rw [putW_set k x ws]
    by_cases e : p.1 = k
    · rw [List.filter_cons_of_neg (by simp [e]), e, List.set_set]
    · rw [List.filter_cons_of_pos (by simp [e])]
      show _ = putW ((L.set k x).set p.1 p.2) _
      rw [List.set_comm _ _ (by omega)]
theorem Cu.spoil (h : Cu S) (k : Nat) (s : ByteArray) : Cu (spoilS k s S) := by
  show S.cur.set k (padB s) = putW (S.dur.set k (padB s)) (S.ws.filter fun p => !(p.1 == k))
  rw [h, putW_set]
theorem Cu.cut (h : Cu S) (i : Int) (zs : List Int) : Cu (cutS i zs S) := h
def onS (S : DS) : DS := { S with left := 0, kp := [], off := false }
theorem Cu.on (h : Cu S) : Cu (onS S) := h
theorem Bd.spoil {t : Nat} (h : Bd t S) (k : Nat) (s : ByteArray) : Bd t (spoilS k s S) := ⟨Nat.le_trans (List.length_filter_le _ _) h.ws, h.kp, h.done, h.l0, h.l1⟩
theorem Bd.on {t : Nat} (h : Bd t S) : Bd t (onS S) := ⟨h.ws, Nat.zero_le _, h.done, Int.le_refl 0, by show (0 : Int) ≤ _; omega⟩
theorem Bd.cut {t : Nat} (h : Bd t S) (i : Int) (zs : List Int) (hz : zs.length ≤ 17592186044416) (hi : i ≤ 9223372036854775807) : Bd t (cutS i zs S) := ⟨h.ws, hz, h.done, by show 0 ≤ max i 1; omega, by show max i 1 ≤ _; omega⟩
theorem Bd.more {t u : Nat} (h : Bd t S) (hu : t ≤ u) : Bd u S := ⟨Nat.le_trans h.ws hu, h.kp, Nat.le_trans h.done hu, h.l0, h.l1⟩
/-- What a pending cut keeps is among the arguments. -/
def Pend (w : World) (kr : Value) (S : DS) : Prop := S.left ≠ 0 → IsInts w kr S.kp
theorem Pend.beg (h : Pend w kr S) (h0 : 0 ≤ S.left) : Pend w kr (begS S).2 := by
  unfold begS
  split
  · exact h
  · split
    · exact fun e => absurd rfl e
    · exact fun e => h (fun e2 => e (by show max (S.left - 1) 0 = 0; omega))
theorem Pend.write (h : Pend w kr S) (h0 : 0 ≤ S.left) (k : Nat) (s : ByteArray) : Pend w kr (writeS k s S).2 := by
  unfold writeS
  split
  · exact h.beg h0
  · exact h.beg h0
theorem Pend.sync (h : Pend w kr S) (h0 : 0 ≤ S.left) : Pend w kr (syncS S).2 := by
  unfold syncS
  split
  · exact h.beg h0
  · exact h.beg h0
theorem IsR.other {va ka : Value} {Sa : DS} {w' : World} (ha : IsD B n g gd gc cd cc va ka Sa w) (hr : IsR B n gr gl cl vr kr S w) (n1 : gd ≠ gl) (n2 : gc ≠ gl) (f : FrD B g gd gc va w w') : IsR B n gr gl cl vr kr S w' := by
  obtain ⟨c1, h1, _⟩ := ha.rd
  obtain ⟨c2, h2, _⟩ := ha.rc
  obtain ⟨c3, h3, _⟩ := hr.rd
  have h0 : w.heap[g]? = _ := ha.d
  have h5 : w.heap[gr]? = _ := hr.d
  have ne : ∀ {x y : Nat} {c c' : Array Value} {t t' : TypeId}, w.heap[x]? = some (.cells c t (0, 0)) → w.heap[y]? = some (.cells c' t' (0, 0)) → t ≠ t' → x ≠ y := fun {x y c c' t t'} hx hy ht e => by
    subst e
    rw [hx] at hy
    injection hy with hy
    injection hy with _ hy
    exact ht hy
  have nv : ∀ {y : Nat} {c' : Array Value} {t' : TypeId}, w.heap[y]? = some (.cells c' t' (0, 0)) → t' ≠ 92 → va.ownBlock ≠ some y := fun hy ht e => by
    obtain ⟨c, hc⟩ := own_block ha.vw e
    exact ne hc hy (Ne.symm ht) rfl
  refine hr.keep fun b e => ?_
  have hl := (hr.lts e).2
  rcases e with rfl | rfl | e
  · exact f.block b hl (ne h5 h0 (by decide)) (ne h5 h1 (by decide)) (ne h5 h2 (by decide)) (nv h5 (by decide))
  · exact f.block b hl (ne h3 h0 (by decide)) (Ne.symm n1) (Ne.symm n2) (nv h3 (by decide))
  · obtain ⟨c, hc⟩ := own_block hr.vw e
    exact f.block b hl (ne hc h0 (by decide)) (ne hc h1 (by decide)) (ne hc h2 (by decide)) (nv hc (by decide))
theorem IsD.otherR {va ka : Value} {Sa : DS} {w' : World} (ha : IsD B n g gd gc cd cc va ka Sa w) (hr : IsR B n gr gl cl vr kr S w) (n1 : gd ≠ gl) (n2 : gc ≠ gl) (f : FrR B gr gl vr w w') : IsD B n g gd gc cd cc va ka Sa w' := by
  obtain ⟨c1, h1, _⟩ := ha.rd
  obtain ⟨c2, h2, _⟩ := ha.rc
  obtain ⟨c3, h3, _⟩ := hr.rd
  have h0 : w.heap[g]? = _ := ha.d
  have h5 : w.heap[gr]? = _ := hr.d
  have ne : ∀ {x y : Nat} {c c' : Array Value} {t t' : TypeId}, w.heap[x]? = some (.cells c t (0, 0)) → w.heap[y]? = some (.cells c' t' (0, 0)) → t ≠ t' → x ≠ y := fun {x y c c' t t'} hx hy ht e => by
    subst e
    rw [hx] at hy
    injection hy with hy
    injection hy with _ hy
    exact ht hy
  have nv : ∀ {y : Nat} {c' : Array Value} {t' : TypeId}, w.heap[y]? = some (.cells c' t' (0, 0)) → t' ≠ 88 → vr.ownBlock ≠ some y := fun hy ht e => by
    obtain ⟨c, hc⟩ := own_block hr.vw e
    exact ne hc hy (Ne.symm ht) rfl
  refine ha.keep fun b e => ?_
  have hl := (ha.lts e).2
  rcases e with rfl | rfl | rfl | e | e
  · exact f.block b hl (ne h0 h5 (by decide)) (ne h0 h3 (by decide)) (nv h0 (by decide))
  · exact f.block b hl (ne h1 h5 (by decide)) n1 (nv h1 (by decide))
  · exact f.block b hl (ne h2 h5 (by decide)) n2 (nv h2 (by decide))
  · obtain ⟨c, hc⟩ := own_block ha.vw e
    exact f.block b hl (ne hc h5 (by decide)) (ne hc h3 (by decide)) (nv hc (by decide))
  · obtain ⟨c, hc⟩ := own_block ha.vk e
    exact f.block b hl (ne hc h5 (by decide)) (ne hc h3 (by decide)) (nv hc (by decide))
/-- An act of a script. -/
structure ActD where
  what : Int
  at_ : Int
  data : ByteArray
  kv : Value
  keep : List Int
def IsActs4 (w : World) (a : Option Addr) (len : Nat) (zs : List ActD) : Prop :=
  zs.length = len ∧ (0 < len → ∃ b o, a = some ⟨b, o, none⟩ ∧ b < w.heap.size ∧ ∀ i z, zs[i]? = some z → (z.at_ ≤ 9223372036854775807 ∧ IsInts w z.kv z.keep) ∧ w.cell? ⟨b, o + i * 4, none⟩ = some (.int .i64 z.what) ∧ w.cell? ⟨b, o + i * 4 + 1, none⟩ = some (.int .i64 z.at_) ∧ w.cell? ⟨b, o + i * 4 + 2, none⟩ = some (.string z.data) ∧ w.cell? ⟨b, o + i * 4 + 3, none⟩ = some z.kv)
section
variable {H : Type} {enc : TypeId × Value → H} {W : World} {spare : Nat → Bool} {held : Bool} {fuel : Nat}
end
end Go.Proofs.YtbpaiiljhdohfaaDoor
