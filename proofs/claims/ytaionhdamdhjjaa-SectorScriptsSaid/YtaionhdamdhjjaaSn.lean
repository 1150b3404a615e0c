/- Sector: fail. -/
import Derived.Test.YtaionhdamdhjjaaSm
namespace Go.Proofs.Ytaionhdamdhjjaa
open Go.RowKit
variable {B n g gd gc cd cc : Nat} {vw vk : Value} {S : DS} {w : World}

theorem uncut2 (du cu wr : Value) (done left : Int) (kp : Value) (off : Bool) (h : DiskAt g du cu wr done left kp off w) (hB : B ≤ g) :
    Calls Try.prog 31 #[.pointer (some ⟨g, 0, none⟩)] w fun e w' => e = .returned (.tuple #[]) ∧ DiskAt g du cu wr done 0 (.slice none 0 0) off w' ∧ Kept2 B g g w w' := by
  have f4 := h.free 4
  have f5 := h.free 5
  have c4 := h.c4
  have c5 := h.c5
  go_enter Try.func31, Try.ntmps31
  go_wp2_with fail
  go_end0
  refine ⟨rfl, ?_, ?_⟩
  · have h1 := h.set 4 (.int .i64 0)
    have h2 : DiskAt g du cu wr done 0 kp off (w.setCell ⟨g, 4, none⟩ (.int .i64 0)) := h1
    exact h2.set 5 (.slice none 0 0)
  · exact ((Kept2.refl B g g w).setg hB 4 _).setg hB 5 _
theorem On2 (du cu wr : Value) (done left : Int) (kp : Value) (off : Bool) (h : DiskAt g du cu wr done left kp off w) (hB : B ≤ g) :
    Calls Try.prog 13 #[.pointer (some ⟨g, 0, none⟩)] w fun e w' => e = .returned (.tuple #[]) ∧ DiskAt g du cu wr done 0 (.slice none 0 0) false w' ∧ Kept2 B g g w w' := by
  go_enter Try.func13, Try.ntmps13
  go_wp2_with (go_at_call 31; refine (uncut2 (B := B) du cu wr done left kp off h hB).mono ?_)
  rintro e w1 ⟨rfl, h1, hb1⟩
  have f6 := h1.free 6
  have c6 := h1.c6
  go_wp2_with fail
  go_end0
  exact ⟨rfl, h1.set 6 (.bool false), hb1.setg hB 6 _⟩
/-- A disk of which the Disk's block alone was written. -/
theorem IsD.disk (h : IsD B n g gd gc cd cc vw vk S w) {w' : World} (hk : Kept2 B g g w w') : FrD B g gd gc vw w w' ∧ RowS gd S.dur w' ∧ RowS gc S.cur w' ∧ w'.ownsRow B 70 2 vw S.ws.length (flat S.ws) ∧ w'.ownsRow B 3 1 vk S.kp.length (S.kp.map (Value.int .i64)) :=
  ⟨FrD.of_kept2 hk (.inr (.inr (.inl rfl))), h.rd.same (hk.2.2 gd h.rd.lt h.gdg h.gdg), h.rc.same (hk.2.2 gc h.rc.lt h.gcg h.gcg), own_same h.vw fun b e => hk.2.2 b (h.vw.lt b e).2 (h.wg e).1 (h.wg e).1, own_same h.vk fun b e => hk.2.2 b (h.vk.lt b e).2 (h.kg e).1 (h.kg e).1⟩
set_option maxHeartbeats 1000000 in
set_option maxRecDepth 100000 in
theorem failD (h : IsD B n g gd gc cd cc vw vk S w) (ka : Value) (zs : List Int) (hz : zs.length ≤ 100000000000000) (hk : KeepArg ka zs vw w) (hn0 : 0 < n) (hn : n ≤ 4096) (hm : S.ws.length ≤ 100000000) :
    Calls Try.prog 30 #[.pointer (some ⟨g, 0, none⟩), ka] w fun e w' => e = .returned (.tuple #[]) ∧ IsD B n g gd gc cd cc (.slice none 0 0) (.slice none 0 0) (failS zs S) w' ∧ FrD B g gd gc vw w w' := by
  obtain ⟨a, kn, kc, rfl⟩ : ∃ a kn kc, ka = .slice a kn kc := by
    rcases hk with ⟨_, a, c, h1⟩ | ⟨b, o, c, h1, _⟩
    · exact ⟨_, _, _, h1⟩
    · exact ⟨_, _, _, h1⟩
  have hB0 : Below w.heap.size w (w.alloc (.cells #[.slice a kn kc] 30)) := (Below.refl _ _).alloc (Nat.le_refl _) _
  have H0 := Lib.hid (h.below hB0)
  have HF := Lib.hid (fail_loses (.slice a kn kc) zs hz hk (fun x hx => (h.vw.lt x hx).2))
  have hBs : B ≤ w.heap.size := Nat.le_trans h.b1 (Nat.le_of_lt h.d.lt)
  have F0 : FrD B g gd gc vw w (w.alloc (.cells #[.slice a kn kc] 30)) := ⟨hB0.mono hBs, hB0.size, fun b hb _ _ _ _ => hB0.block b hb⟩
  have HF0 := Lib.hid F0; have HM := Lib.hid hm; have HN := Lib.hid hn
  clear F0 hk hB0 h hm hn
  go_enter Try.func30, Try.ntmps30
  go_wp2_with (go_at_call 33; refine (omitD_fail H0.out (fun k _ => lostB zs k) w.heap.size HM.out HF.out).mono ?_)
  rintro e w1 ⟨rfl, vw1, h1, hv1, f1⟩
  have F1 := HF0.out.trans f1 (fun x hx => .inl hx)
  have hl1 : (keepTo (fun k _ => lostB zs k) S.ws S.ws.length).length ≤ 100000000 := Nat.le_trans (keepTo_length _ _ _) HM.out
  have H1 := Lib.hid h1; have HF1 := Lib.hid F1; have HV1 := Lib.hid hv1; have HL1 := Lib.hid hl1
  clear h1 f1 F1 hv1 hl1 H0 HF HF0
  go_wp2_with (go_at_call 27; refine (settleD H1.out HL1.out HN.out).mono ?_)
  rintro e w2 rfl h2 f2
  have F2 := HF1.out.trans f2 (fun x hx => .inl (HV1.out ▸ hx))
  have c0 := h2.d.c0
  have c1 := h2.d.c1
  obtain ⟨w3, hcp, hR, hBl, hz, hs⟩ := RowS.copy (w := w2.drew) (cc := cc) (cd := cd) h2.rd h2.rc h2.ld h2.lc hn0 h2.b3
  have H2 := Lib.hid h2; have HF2 := Lib.hid F2; have HR := Lib.hid hR; have HBl := Lib.hid hBl; have HS := Lib.hid hs; have HZ := Lib.hid hz
  clear h2 f2 F2 hR hBl hs hz H1 HF1
  go_wp2_with fail
  refine wp_region_still_tail 8 (by kernel_rfl) (by kernel_rfl) ?_
  change wpStill _ _ (World.drew _) _ _ _
  simp only [List.take_succ_cons, List.take_zero, List.drop_succ_cons, List.drop_zero]
  repeat still_step
  try refine wpStill_nil ?_
  change wpList _ _ _ _ _ (World.drew _)
  go_wp2_with (simp only [hcp])
  have h3 : IsD B n g gd gc cd cc (.slice none 0 0) vk { S with dur := putW S.dur (keepTo (fun k _ => lostB zs k) S.ws S.ws.length), cur := putW S.dur (keepTo (fun k _ => lostB zs k) S.ws S.ws.length), ws := [] } w3 :=
    ⟨(HS.out g (Ne.symm H2.out.gcg)).trans H2.out.d, H2.out.rd.same (HS.out gd H2.out.ne), HR.out, H2.out.ld, H2.out.ld, World.ownsRow_nil _ _ _ _, H2.out.wb, own_same H2.out.vk fun b e => HS.out b (H2.out.kg e).2.2.1, H2.out.ne, H2.out.b1, H2.out.b2, H2.out.b3⟩
  have F3 : FrD B g gd gc vw w w3 := HF2.out.trans (vw' := .slice none 0 0) (⟨⟨HBl.out.os, HBl.out.tape, HBl.out.output, HBl.out.size, HBl.out.block⟩, Nat.le_of_eq HZ.out.symm, fun b _ _ _ h5 _ => HS.out b h5⟩ : FrD B g gd gc (.slice none 0 0) w2 w3) (fun x hx => by cases hx)
  have H3 := Lib.hid h3; have HF3 := Lib.hid F3
  clear h3 F3 H2 HF2 HR HBl HS HZ hcp
  refine (uncut2 (B := B) _ _ _ _ _ _ _ H3.out.d H3.out.b1).mono ?_
  rintro e w4 ⟨rfl, hD4, hK4⟩
  obtain ⟨q1, q2, q3, q4, q5⟩ := H3.out.disk hK4
  have f6 := hD4.free 6
  have c6 := hD4.c6
  have hD5 : DiskAt g (.slice (some ⟨gd, 0, none⟩) n cd) (.slice (some ⟨gc, 0, none⟩) n cc) (.slice none 0 0) S.done 0 (.slice none 0 0) true (w4.setCell ⟨g, 6, none⟩ (.bool true)) := hD4.set 6 _
  have hK5 := hK4.setg H3.out.b1 6 (.bool true)
  have hend : Hid (IsD B n g gd gc cd cc (.slice none 0 0) (.slice none 0 0) (failS zs S) (w4.setCell ⟨g, 6, none⟩ (.bool true)) ∧ FrD B g gd gc vw w (w4.setCell ⟨g, 6, none⟩ (.bool true))) := by
    obtain ⟨r1, r2, r3, r4, r5⟩ := H3.out.disk hK5
    exact Lib.hid ⟨⟨hD5, r2, r3, H3.out.ld, H3.out.lc, r4, H3.out.wb, World.ownsRow_nil _ _ _ _, H3.out.ne, H3.out.b1, H3.out.b2, H3.out.b3⟩, HF3.out.trans r1 (fun x hx => by cases hx)⟩
  clear hD4 hK4 q1 q2 q3 q4 q5 hD5 hK5
  go_wp2_with fail
  go_end0
  exact ⟨rfl, hend.out.1, hend.out.2⟩
end Go.Proofs.Ytaionhdamdhjjaa
