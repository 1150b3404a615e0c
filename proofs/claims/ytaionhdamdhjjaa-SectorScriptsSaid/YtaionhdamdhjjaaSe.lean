/- Sector: settle. -/
import Derived.Test.YtaionhdamdhjjaaSd
import Derived.Deep.MidRow
import Derived.StillTailTactics
namespace Go.Proofs.Ytaionhdamdhjjaa
open Go.RowKit

/-- All blocks but these two are as they were. -/
def Kept2 (B g gd : Nat) (w w' : World) : Prop := Below B w w' ∧ w.heap.size ≤ w'.heap.size ∧ ∀ b, b < w.heap.size → b ≠ g → b ≠ gd → w'.heap[b]? = w.heap[b]?
theorem Kept2.refl (B g gd : Nat) (w : World) : Kept2 B g gd w w := ⟨Below.refl _ _, Nat.le_refl _, fun _ _ _ _ => rfl⟩
theorem Kept2.setd {B g gd : Nat} {w wr : World} (h : Kept2 B g gd w wr) (hB : B ≤ gd) (i : Nat) (v : Value) : Kept2 B g gd w (wr.setCell ⟨gd, i, none⟩ v) :=
  ⟨h.1.setCell (p := ⟨gd, i, none⟩) hB _, by have := h.2.1; show _ ≤ (wr.heap.modify gd _).size; rw [Array.size_modify]; exact this, fun b hb h1 h2 => (Below.heap_setCell _ _ _ _ (by show b ≠ gd; exact h2)).trans (h.2.2 b hb h1 h2)⟩
theorem Kept2.setg {B g gd : Nat} {w wr : World} (h : Kept2 B g gd w wr) (hB : B ≤ g) (i : Nat) (v : Value) : Kept2 B g gd w (wr.setCell ⟨g, i, none⟩ v) :=
  ⟨h.1.setCell (p := ⟨g, i, none⟩) hB _, by have := h.2.1; show _ ≤ (wr.heap.modify g _).size; rw [Array.size_modify]; exact this, fun b hb h1 h2 => (Below.heap_setCell _ _ _ _ (by show b ≠ g; exact h1)).trans (h.2.2 b hb h1 h2)⟩
theorem Kept2.alloc {B g gd : Nat} {w wr : World} (h : Kept2 B g gd w wr) (o : Obj) (hB : B ≤ wr.heap.size) : Kept2 B g gd w (wr.alloc o) :=
  ⟨h.1.alloc hB o, by have := h.2.1; show _ ≤ (wr.heap.push _).size; simp; omega, fun b hb h1 h2 => (Lib.alloc_old wr o b (Nat.lt_of_lt_of_le hb h.2.1)).trans (h.2.2 b hb h1 h2)⟩
theorem Kept2.drew {B g gd : Nat} {w wr : World} (h : Kept2 B g gd w wr) : Kept2 B g gd w wr.drew := ⟨h.1.drew, h.2.1, h.2.2⟩
def SetS (B g gd gw n m cd cw : Nat) (l : List ByteArray) (ws : List (Nat × ByteArray)) (cu : Value) (done left : Int) (kp : Value) (off : Bool) (w : World) (i : Value) (wr : World) : Prop :=
  ∃ k : Nat, k ≤ m ∧ i = .int .i64 k ∧ DiskAt g (.slice (some ⟨gd, 0, none⟩) n cd) cu (.slice (some ⟨gw, 0, none⟩) m cw) done left kp off wr ∧ RowS gd (putW l (ws.take k)) wr ∧ Kept2 B g gd w wr
theorem write_size : (Try.prog.info? 70).map (·.size) = some 2 := by kernel_rfl

set_option maxHeartbeats 1000000 in
set_option maxRecDepth 100000 in
theorem settle_any (B g gd gw n m cd cw : Nat) (l : List ByteArray) (ws : List (Nat × ByteArray)) (cu : Value) (done left : Int) (kp : Value) (off : Bool) (w : World) (h : DiskAt g (.slice (some ⟨gd, 0, none⟩) n cd) cu (.slice (some ⟨gw, 0, none⟩) m cw) done left kp off w) (hd : RowS gd l w) (hl : l.length = n) (hw : WrAt gw ws w) (hm : ws.length = m) (hgw : gw < w.heap.size) (hb : ∀ p ∈ ws, p.1 < n) (h1 : g ≠ gd) (h2 : gw ≠ gd) (h3 : gw ≠ g) (hB1 : B ≤ g) (hB2 : B ≤ gd) (hn : n ≤ 4096) (hmm : m ≤ 100000000) :
    Calls Try.prog 27 #[.pointer (some ⟨g, 0, none⟩)] w fun e w' => e = .returned (.tuple #[]) ∧ DiskAt g (.slice (some ⟨gd, 0, none⟩) n cd) cu (.slice none 0 0) done left kp off w' ∧ RowS gd (putW l ws) w' ∧ Kept2 B g gd w w' := by
  have c2 := h.c2
  have hm' : (m : Int) ≤ 100000000 := by omega
  have hS : SetS B g gd gw n m cd cw l ws cu done left kp off w (.int .i64 0) w := ⟨0, Nat.zero_le _, rfl, h, hd, Kept2.refl _ _ _ _⟩
  have HS := Lib.hid hS; have HW := Lib.hid hw; have HM := Lib.hid hm; have HB := Lib.hid hb; have HL := Lib.hid hl; have HG := Lib.hid hgw
  have HN := Lib.hid (show h1 = h1 from rfl)
  clear hS hw hm hb hl hd h HN hgw
  go_enter Try.func27, Try.ntmps27
  go_wp2_with fail
  clear c2
  go_loopw [9] (fun i wr => SetS B g gd gw n m cd cw l ws cu done left kp off w i wr) (fun i _ => m - (intOf i).toNat)
  case atStart => exact HS.out
  case round =>
    obtain ⟨k, hk, rfl, hD, hR, hK⟩ := hrel
    have HD := Lib.hid hD; have HR := Lib.hid hR; have HK := Lib.hid hK
    clear hD hR hK
    by_cases hkm : k < m
    · have hki : (k : Int) < m := by omega
      obtain ⟨p, hp⟩ : ∃ p, ws[k]? = some p := ⟨_, List.getElem?_eq_getElem (by rw [HM.out]; exact hkm)⟩
      have hwp := HW.out k p hp
      have hbk : ∀ c, (wr.cell? ⟨gw, c, none⟩ = w.cell? ⟨gw, c, none⟩) := fun c => by unfold World.cell?; simp only [HK.out.2.2 gw HG.out h3 h2]
      have d0 : wr.cell? ⟨gw, k * 2, none⟩ = some (.int .i64 p.1) := by rw [show k * 2 = 2 * k by omega, hbk]; exact hwp.1
      have d1 : wr.cell? ⟨gw, k * 2 + 1, none⟩ = some (.string p.2) := by rw [show k * 2 + 1 = 2 * k + 1 by omega, hbk]; exact hwp.2
      clear hwp hbk
      go_wp2_with (refine wpList_store_row rfl 70 _ _ rfl wr.heap.size #[.int .i64 p.1, .string p.2] rfl rfl 70 _ (heap_alloc_new wr _) write_size rfl (by rfl) ?_)
      have hb1 : Below wr.heap.size wr (wr.alloc (.cells #[.int .i64 p.1, .string p.2] 70)) := (Below.refl _ _).alloc (Nat.le_refl _) _
      have hD1 := HD.out.below hb1
      have hR1 := HR.out.below hb1
      have hK1 := HK.out.alloc (.cells #[.int .i64 p.1, .string p.2] 70) (Nat.le_trans hB2 (Nat.le_of_lt HR.out.lt))
      have z0 : (wr.alloc (.cells #[.int .i64 p.1, .string p.2] 70)).cell? ⟨wr.heap.size, 0, none⟩ = some (.int .i64 p.1) := by unfold World.cell?; simp only [heap_alloc_new wr]; rfl
      have z1 : (wr.alloc (.cells #[.int .i64 p.1, .string p.2] 70)).cell? ⟨wr.heap.size, 1, none⟩ = some (.string p.2) := by unfold World.cell?; simp only [heap_alloc_new wr]; rfl
      obtain ⟨w1, hw1⟩ : ∃ w1, wr.alloc (.cells #[.int .i64 p.1, .string p.2] 70) = w1 := ⟨_, rfl⟩
      rw [hw1] at hD1 hR1 hK1 z0 z1 ⊢
      obtain ⟨gz, hgz⟩ : ∃ gz, wr.heap.size = gz := ⟨_, rfl⟩
      rw [hgz] at z0 z1 ⊢
      clear hb1 hw1 d0 d1 hgz HD HR HK
      have hpn : p.1 < n := HB.out p (List.mem_of_getElem? hp)
      obtain ⟨x, hx⟩ : ∃ x, (putW l (ws.take k))[p.1]? = some x := ⟨_, List.getElem?_eq_getElem (by rw [putW_length, HL.out]; exact hpn)⟩
      have e0 := hD1.c0
      have e1 := hR1.cell _ _ hx
      have fd := hR1.free p.1
      have hstep : Hid (SetS B g gd gw n m cd cw l ws cu done left kp off w (.int .i64 ((k : Int) + 1)) (w1.setCell ⟨gd, p.1, none⟩ (.string p.2)).drew) := Lib.hid
        ⟨k + 1, by omega, by rw [Int.natCast_succ], (Below.heap_setCell _ _ _ _ (by show g ≠ gd; exact h1)).trans hD1, by rw [putW_take l ws k p hp]; exact hR1.set p.1 p.2, (hK1.setd hB2 _ _).drew⟩
      obtain ⟨pi, ps⟩ := p
      have hpi : (pi : Int) < n := by omega
      have hki0 : (k : Int) ≤ 100000000 := by omega
      clear hp hx hD1 hR1 hK1 hpn
      refine wp_region_still_tail 9 (by kernel_rfl) (by kernel_rfl) ?_
      change wpStill _ _ (World.drew _) _ _ _
      simp only [List.take_succ_cons, List.take_zero, List.drop_succ_cons, List.drop_zero]
      repeat still_step
      try refine wpStill_nil ?_
      change wpList _ _ _ _ _ (World.drew _)
      go_wp2_with fail
      exact ⟨hstep.out, by simp [intOf]; omega⟩
    · have hkm' : k = m := by omega
      subst hkm'
      have hfin : RowS gd (putW l ws) wr := by have := HR.out; rwa [List.take_of_length_le (by rw [HM.out]; exact Nat.le_refl _)] at this
      have f2 := HD.out.free 2
      have c2 := HD.out.c2
      have hD2 : DiskAt g (.slice (some ⟨gd, 0, none⟩) n cd) cu (.slice none 0 0) done left kp off (wr.setCell ⟨g, 2, none⟩ (.slice none 0 0)) := HD.out.set 2 _
      have hR2 : RowS gd (putW l ws) (wr.setCell ⟨g, 2, none⟩ (.slice none 0 0)) := hfin.same (Below.heap_setCell _ _ _ _ (by show gd ≠ g; omega))
      have HD2 := Lib.hid hD2; have HR2 := Lib.hid hR2
      clear hfin hD2 hR2
      go_wp2_with fail
      go_end0
      exact ⟨rfl, HD2.out, HR2.out, HK.out.setg hB1 2 _⟩
end Go.Proofs.Ytaionhdamdhjjaa
