/- Sector: Spoil and Cut with choices over a disk as data. -/
import Derived.Test.YtaionhdamdhjjaaUh
namespace Go.Proofs.Ytaionhdamdhjjaa
open Go.RowKit
variable {B n g gd gc cd cc : Nat} {vw vk : Value} {S : DS} {w : World}

theorem keep_left (ws : List (Nat × ByteArray)) (k : Nat) : ∀ j, keepTo (fun _ i => i == (k : Int)) ws j = leftW ws k j
  | 0 => rfl
  | j + 1 => by
    cases hp : ws[j]? with
    | none =>
      have hl : ws.length ≤ j := List.getElem?_eq_none_iff.1 hp
      have := keep_left ws k j
      unfold keepTo leftW at *
      rw [List.take_of_length_le (by omega)] at this ⊢
      exact this
    | some p =>
      rw [keepTo_succ _ _ j p hp, leftW_succ _ _ j p hp, keep_left ws k j]
      by_cases e : p.1 = k
      · simp [e]
      · have hne : ¬ (p.1 : Int) = k := by omega
        simp [e, hne]
theorem keep_all_left (ws : List (Nat × ByteArray)) (k : Nat) : keepTo (fun _ i => i == (k : Int)) ws ws.length = ws.filter fun p => !(p.1 == k) := by
  rw [keep_left]; unfold leftW; rw [List.take_length]
theorem IsD.durable (h : IsD B n g gd gc cd cc vw vk S w) (k : Nat) (s : ByteArray) : IsD B n g gd gc cd cc vw vk { S with dur := S.dur.set k s } (w.setCell ⟨gd, k, none⟩ (.string s)) ∧ FrD B g gd gc vw w (w.setCell ⟨gd, k, none⟩ (.string s)) := by
  have hb : ∀ b, b ≠ gd → (w.setCell ⟨gd, k, none⟩ (.string s)).heap[b]? = w.heap[b]? := fun b hb => Below.heap_setCell _ _ _ _ hb
  have hz : (w.setCell ⟨gd, k, none⟩ (.string s)).heap.size = w.heap.size := by show (w.heap.modify gd _).size = _; rw [Array.size_modify]
  exact ⟨⟨(hb g (Ne.symm h.gdg)).trans h.d, h.rd.set k s, h.rc.same (hb gc (Ne.symm h.ne)), (List.length_set ..).trans h.ld, h.lc, own_same h.vw fun b e => hb b (h.wg e).2.1, h.wb, own_same h.vk fun b e => hb b (h.kg e).2.1, h.ne, h.b1, h.b2, h.b3⟩,
    ⟨(Below.refl _ _).setCell (p := ⟨gd, k, none⟩) h.b2 _, Nat.le_of_eq hz.symm, fun b _ _ h2 _ _ => hb b h2⟩⟩
theorem Spoil_bad (h : IsD B n g gd gc cd cc vw vk S w) (i : Int) (s : ByteArray) (hi : ¬ (0 ≤ i ∧ i < n ∧ s.size ≤ 512)) :
    Calls Try.prog 14 #[.pointer (some ⟨g, 0, none⟩), .int .i64 i, .string s] w fun e w' => e = .returned (.int .i64 1) ∧ Below w.heap.size w w' := by
  have hd : ((decide (0 ≤ i) && decide (i < n)) && decide ((s.size : Int) ≤ 512)) = false := by
    rw [Bool.and_eq_false_iff, Bool.and_eq_false_iff, decide_eq_false_iff_not, decide_eq_false_iff_not, decide_eq_false_iff_not]; omega
  have H0 := Lib.hid (h.below (w' := w.alloc (.cells #[.int .i64 i] 3)) ((Below.refl _ _).alloc (Nat.le_refl _) _))
  clear h hi
  go_enter Try.func14, Try.ntmps14
  go_wp2_with (go_at_call 32; refine (fits_any g n cd _ _ _ _ _ _ _ i s _ H0.out.d).mono ?_)
  rintro e w' ⟨rfl, rfl⟩
  rw [hd]
  go_wp2_with fail
  go_ret
  exact ⟨rfl, (Below.refl _ _).alloc (Nat.le_refl _) _⟩
set_option maxHeartbeats 2000000 in
set_option maxRecDepth 100000 in
theorem SpoilD (h : IsD B n g gd gc cd cc vw vk S w) (hm : S.ws.length ≤ 10000000) (k : Nat) (s : ByteArray) (hk : k < n) (hs : s.size ≤ 512) :
    Calls Try.prog 14 #[.pointer (some ⟨g, 0, none⟩), .int .i64 k, .string s] w fun e w' => e = .returned (.int .i64 0) ∧ ∃ vw', IsD B n g gd gc cd cc vw' vk (spoilS k s S) w' ∧ (∀ x, vw'.ownBlock = some x → vw.ownBlock = some x) ∧ FrD B g gd gc vw w w' := by
  have hsi : (s.size : Int) ≤ 512 := by omega
  have hki : (k : Int) < n := by omega
  have hd : ((decide (0 ≤ (k : Int)) && decide ((k : Int) < n)) && decide ((s.size : Int) ≤ 512)) = true := by simp [hki, hsi]
  obtain ⟨w0, hw0⟩ : ∃ w0, w.alloc (.cells #[.int .i64 k] 3) = w0 := ⟨_, rfl⟩
  have hB0 : Below w.heap.size w w0 := by rw [← hw0]; exact (Below.refl _ _).alloc (Nat.le_refl _) _
  have hc0 : w0.cell? ⟨w.heap.size, 0, none⟩ = some (.int .i64 k) := by rw [← hw0]; unfold World.cell?; simp only [heap_alloc_new w]; rfl
  have h0 := h.below hB0
  have F0 : FrD B g gd gc vw w w0 := FrD.of_below h.b1 (Nat.le_of_lt h.d.lt) hB0
  have hkl := World.block_lt_of_cell? w0 _ hc0
  have hown : vw.ownBlock ≠ some w.heap.size := fun e => absurd (h.vw.lt _ e).2 (Nat.lt_irrefl _)
  have HF : Hid (∀ (k' : Nat) (i : Int) (s : ByteArray) (w1 : World), k' ≤ 100000000 → (∀ b, b < w0.heap.size → vw.ownBlock ≠ some b → w1.heap[b]? = w0.heap[b]?) → Calls Try.prog 34 #[.int .i64 k', .agg #[.int .i64 i, .string s], .pointer (some ⟨w.heap.size, 0, none⟩)] w1 fun e w' => e = .returned (.bool (i == (k : Int))) ∧ Below w1.heap.size w1 w') := Lib.hid (fun k' i s w1 _ hb =>
    Spoil1_any w.heap.size k k' i s w1 ((World.cell?_of_block (a := ⟨w.heap.size, 0, none⟩) (hb _ hkl hown)).trans hc0))
  have H0 := Lib.hid h0; have HF0 := Lib.hid F0; have HM := Lib.hid hm; have HS := Lib.hid hs; have HB0 := Lib.hid hB0; have HOW := Lib.hid hown; have HLT := Lib.hid (h.lts (.inr (.inl rfl))).2; have HLC := Lib.hid (h.lts (.inr (.inr (.inl rfl)))).2; have HLG := Lib.hid (h.lts (.inl rfl)).2
  clear h h0 F0 hm hs hB0 hown hkl
  go_enter Try.func14, Try.ntmps14
  go_wp2_with (go_at_call 32; refine (fits_any g n cd _ _ _ _ _ _ _ k s _ H0.out.d).mono ?_)
  rintro e w' ⟨rfl, rfl⟩
  rw [hd]
  go_wp2_with (go_at_call 33; refine (omitD_spoil H0.out (fun _ i => i == (k : Int)) w.heap.size (Nat.le_trans HM.out (by decide)) HF.out).mono ?_)
  first | rintro e w1 rfl vw1 h1 hv1 f1 | rintro e w1 ⟨rfl, vw1, h1, hv1, f1⟩
  have h1' : IsD B n g gd gc cd cc vw1 vk { S with ws := S.ws.filter fun p => !(p.1 == k) } w1 := by
    have := h1
    rw [keep_all_left] at this
    exact this
  have n1 : w.heap.size ≠ g := by have := HLG.out; omega
  have n2 : w.heap.size ≠ gd := by have := HLT.out; omega
  have n3 : w.heap.size ≠ gc := by have := HLC.out; omega
  have hkb1 : w1.cell? ⟨w.heap.size, 0, none⟩ = some (.int .i64 k) := (World.cell?_of_block (a := ⟨w.heap.size, 0, none⟩) (f1.block _ (World.block_lt_of_cell? _ _ hc0) n1 n2 n3 HOW.out)).trans hc0
  obtain ⟨x, hx⟩ : ∃ x, S.dur[k]? = some x := ⟨_, List.getElem?_eq_getElem (by have : S.dur.length = n := h1'.ld; omega)⟩
  obtain ⟨y, hy⟩ : ∃ y, S.cur[k]? = some y := ⟨_, List.getElem?_eq_getElem (by have : S.cur.length = n := h1'.lc; omega)⟩
  have c0 := h1'.d.c0
  have hdr : IsD B n g gd gc cd cc vw1 vk { S with ws := S.ws.filter fun p => !(p.1 == k) } w1.drew := h1'.keep fun _ _ => rfl
  have HR := Lib.hid hdr; have HX := Lib.hid hx; have HY := Lib.hid hy; have HV1 : Hid (∀ x, vw1.ownBlock = some x → vw.ownBlock = some x) := Lib.hid (fun x hx => hv1 ▸ hx); have HF1 := Lib.hid (HF0.out.trans f1 (fun x hx => .inl hx)); have HKB := Lib.hid hkb1
  clear hdr hx hy hv1 f1 h1 h1' H0 HF HF0 hd
  go_wp2_with fail
  go_cut [21] (fun s5 wx => s5 = .string (padB s) ∧ IsD B n g gd gc cd cc vw1 vk { S with ws := S.ws.filter (fun p => !(p.1 == k)), dur := S.dur.set k (padB s) } wx ∧ FrD B g gd gc vw w wx ∧ wx.cell? ⟨w.heap.size, 0, none⟩ = some (.int .i64 k))
  case first =>
    go_region_with (go_at_call 23; refine (pad_any s _ HS.out).mono ?_; rintro e wp ⟨rfl, hb⟩; have hp := HR.out.below hb; have c0p := hp.d.c0; have e1 := hp.rd.cell k x HX.out; have ff := hp.rd.free k; have kbp : wp.cell? ⟨w.heap.size, 0, none⟩ = some (.int .i64 k) := cell_below hb HKB.out; have HP := Lib.hid hp; have HBp := Lib.hid hb; clear hp hb)
    all_goals go_wp2_with fail
    all_goals go_meet
    all_goals exact ⟨rfl, (HP.out.durable k _).1, (HF1.out.trans (FrD.undrew (FrD.of_below (vw := vw1) HR.out.b1 (Nat.le_of_lt HR.out.d.lt) HBp.out)) (fun x hx => .inl (HV1.out x hx))).trans (HP.out.durable k _).2 (fun x hx => .inl (HV1.out x hx)), (World.cell?_of_block (a := ⟨w.heap.size, 0, none⟩) (Below.heap_setCell _ _ _ _ (by show w.heap.size ≠ gd; exact n2))).trans (cell_below HBp.out HKB.out)⟩
  case rest =>
    obtain ⟨rfl, hI, hF, hkb⟩ := hcut
    have c0 := hI.d.c0
    have c1 := hI.d.c1
    have e0 := hI.rd.cell k (padB s) (by show (S.dur.set k (padB s))[k]? = _; rw [List.getElem?_set, if_pos rfl, if_pos (by have := (List.getElem?_eq_some_iff.1 HX.out).1; omega)])
    have e1 := hI.rc.cell k y HY.out
    have ff := hI.rc.free k
    obtain ⟨g1, g2⟩ := hI.current k (padB s)
    have hend : Hid (IsD B n g gd gc cd cc vw1 vk (spoilS k s S) ((wc.setCell ⟨gc, k, none⟩ (.string (padB s))).drew) ∧ FrD B g gd gc vw w ((wc.setCell ⟨gc, k, none⟩ (.string (padB s))).drew)) := Lib.hid
      ⟨IsD.keep (w := wc.setCell ⟨gc, k, none⟩ (.string (padB s))) ⟨g1.d, g1.rd, g1.rc, g1.ld, g1.lc, g1.vw, g1.wb, g1.vk, g1.ne, g1.b1, g1.b2, g1.b3⟩ (fun _ _ => rfl), by
        have F := hF.trans g2 (fun x hx => .inl (HV1.out x hx))
        exact ⟨⟨F.below.os, F.below.tape, F.below.output, F.below.size, F.below.block⟩, F.size, F.block⟩⟩
    clear hI hF g1 g2
    go_wp2_with fail
    refine wp_region_still_tail 13 (by kernel_rfl) (by kernel_rfl) ?_
    change wpStill _ _ (World.drew _) _ _ _
    simp only [List.take_succ_cons, List.take_zero, List.drop_succ_cons, List.drop_zero]
    repeat still_step
    try refine wpStill_nil ?_
    change wpList _ _ _ _ _ (World.drew _)
    go_wp2_with fail
    go_ret
    exact ⟨rfl, _, hend.out.1, HV1.out, hend.out.2⟩
end Go.Proofs.Ytaionhdamdhjjaa
