/- Sector: omit, with the function value of fail. Sector: omit, with the function value of Spoil. Sector: a disk as data; omit and settle over it. Sector: omit and settle over a disk as data; fail. Sector: fail. Sector: begin, Sync, Crash over a disk as data. -/
import Derived.Test.YtbpaiiljhdohfaaDoorMa
namespace Go.Proofs.YtbpaiiljhdohfaaDoor
open Go.RowKit

def OmS (lost : Nat → Int → Bool) (B gw m cw : Nat) (ws : List (Nat × ByteArray)) (cur0 : Array Value) (w : World) (i kept : Value) (wr : World) : Prop :=
  ∃ (k : Nat) (cur : Array Value), k ≤ m ∧ i = .int .i64 k ∧ kept = .slice (some ⟨gw, 0, none⟩) (keepTo lost ws k).length cw ∧ wr.heap[gw]? = some (.cells cur 92 (0, 0)) ∧ cur.size = cw * 2 ∧ cur.toList.take ((keepTo lost ws k).length * 2) = flat (keepTo lost ws k) ∧ cur.toList.drop (2 * k) = cur0.toList.drop (2 * k) ∧ Kept2 B gw gw w wr

theorem info_writefail : (Tryd.prog.info? 92).map (fun i => (i.zero, i.size, i.bytes)) = some (some (.agg #[.int .i64 0, .string ⟨#[]⟩]), 2, 24) := by kernel_rfl

set_option maxHeartbeats 1000000 in
set_option maxRecDepth 100000 in
theorem omit_fail (lost : Nat → Int → Bool) (B g gw kb m cw : Nat) (ws : List (Nat × ByteArray)) (cur0 : Array Value) (du cu : Value) (done left : Int) (kp : Value) (off : Bool) (w : World)
    (h : DiskAt g du cu (.slice (some ⟨gw, 0, none⟩) m cw) done left kp off w) (hr : w.heap[gw]? = some (.cells cur0 92 (0, 0))) (hcs : cur0.size = cw * 2) (hct : cur0.toList.take (m * 2) = flat ws) (hm : ws.length = m) (hmc : m ≤ cw) (hmm : m ≤ 100000000)
    (h3 : gw ≠ g) (hB1 : B ≤ g) (hB2 : B ≤ gw)
    (hF : ∀ (k : Nat) (i : Int) (s : ByteArray) (w1 : World), k ≤ 100000000 → Kept2 B gw gw w w1 → Calls Tryd.prog 51 #[.int .i64 k, .agg #[.int .i64 i, .string s], .pointer (some ⟨kb, 0, none⟩)] w1 fun e w' => e = .returned (.bool (lost k i)) ∧ Below w1.heap.size w1 w') :
    Calls Tryd.prog 50 #[.pointer (some ⟨g, 0, none⟩), .func (.func 51) #[] #[.pointer (some ⟨kb, 0, none⟩)]] w fun e w' => e = .returned (.tuple #[]) ∧ (∃ cur, DiskAt g du cu (.slice (some ⟨gw, 0, none⟩) (keepTo lost ws m).length cw) done left kp off w' ∧ w'.heap[gw]? = some (.cells cur 92 (0, 0)) ∧ cur.size = cw * 2 ∧ cur.toList.take ((keepTo lost ws m).length * 2) = flat (keepTo lost ws m)) ∧ Kept2 B g gw w w' := by
  have c2 := h.c2
  have hm' : (m : Int) ≤ 100000000 := by omega
  have hS : OmS lost B gw m cw ws cur0 w (.int .i64 0) (.slice (some ⟨gw, 0, none⟩) 0 cw) w := ⟨0, cur0, Nat.zero_le _, rfl, rfl, hr, hcs, rfl, rfl, Kept2.refl _ _ _ _⟩
  have HS := Lib.hid hS; have HCT := Lib.hid hct; have HM := Lib.hid hm; have HMC := Lib.hid hmc; have HH := Lib.hid h; have HF := Lib.hid hF; have HR := Lib.hid hr; have HGW := Lib.hid (Array.getElem?_eq_some_iff.1 hr).1; have HGL := Lib.hid h.lt; have HCS := Lib.hid hcs
  clear hS hr hcs hct hm hmc h hF
  obtain ⟨i0, hi0, hz0, hs0, hy0⟩ := info_parts info_writefail
  go_enter Tryd.func50, Tryd.ntmps50
  go_wp2_with fail
  clear c2
  go_loopw [17, 4] (fun i v wr => OmS lost B gw m cw ws cur0 w i v wr) (fun i _ _ => m - (intOf i).toNat)
  case atStart => exact HS.out
  case round =>
    obtain ⟨k, cur, hk, rfl, rfl, hg, hz, ht, hd, hK⟩ := hrel
    have HG := Lib.hid hg; have HZ := Lib.hid hz; have HT := Lib.hid ht; have HD := Lib.hid hd; have HK := Lib.hid hK
    clear hg hz ht hd hK
    have hjk : (keepTo lost ws k).length ≤ k := keepTo_length lost ws k
    obtain ⟨j, hj⟩ : ∃ j, (keepTo lost ws k).length = j := ⟨_, rfl⟩
    rw [hj] at hjk ⊢
    by_cases hkm : k < m
    · have hki : (k : Int) < m := by omega
      obtain ⟨p, hp⟩ : ∃ p, ws[k]? = some p := ⟨_, List.getElem?_eq_getElem (by rw [HM.out]; exact hkm)⟩
      have hfl := flat_get ws k p hp
      have hcell : ∀ c u, c < 2 → (flat ws)[2 * k + c]? = some u → wr.cell? ⟨gw, 2 * k + c, none⟩ = some u := fun c u hc hu => by
        rw [← HCT.out, List.getElem?_take, if_pos (by omega), ] at hu
        have e1 := congrArg (fun l => l[c]?) HD.out
        simp only [List.getElem?_drop] at e1
        unfold World.cell?
        simp only [HG.out]
        rw [← Array.getElem?_toList, e1]; exact hu
      have d0 : wr.cell? ⟨gw, k * 2, none⟩ = some (.int .i64 p.1) := by rw [show k * 2 = 2 * k + 0 by omega]; exact hcell 0 _ (by omega) hfl.1
      have d1 : wr.cell? ⟨gw, k * 2 + 1, none⟩ = some (.string p.2) := by rw [show k * 2 + 1 = 2 * k + 1 by omega]; exact hcell 1 _ (by omega) hfl.2
      have HP := Lib.hid hp
      clear hcell hfl hp
      obtain ⟨pi, ps⟩ := p
      go_wp2_with (refine wpList_store_row rfl 92 _ _ rfl wr.heap.size #[.int .i64 pi, .string ps] rfl rfl 92 _ (heap_alloc_new wr _) write_size rfl (by rfl) ?_)
      have hK1 := HK.out.alloc (.cells #[.int .i64 pi, .string ps] 92) (Nat.le_trans (Nat.le_trans hB2 (Nat.le_of_lt HGW.out)) HK.out.2.1)
      have hgl : gw < wr.heap.size := (Array.getElem?_eq_some_iff.1 HG.out).1
      have hg1 : (wr.alloc (.cells #[.int .i64 pi, .string ps] 92)).heap[gw]? = some (.cells cur 92 (0, 0)) := (Lib.alloc_old wr _ gw hgl).trans HG.out
      have z0 : (wr.alloc (.cells #[.int .i64 pi, .string ps] 92)).cell? ⟨wr.heap.size, 0, none⟩ = some (.int .i64 pi) := by unfold World.cell?; simp only [heap_alloc_new wr]; rfl
      have z1 : (wr.alloc (.cells #[.int .i64 pi, .string ps] 92)).cell? ⟨wr.heap.size, 1, none⟩ = some (.string ps) := by unfold World.cell?; simp only [heap_alloc_new wr]; rfl
      obtain ⟨w1, hw1⟩ : ∃ w1, wr.alloc (.cells #[.int .i64 pi, .string ps] 92) = w1 := ⟨_, rfl⟩
      rw [hw1] at hK1 hg1 z0 z1 ⊢
      obtain ⟨gz, hgz⟩ : ∃ gz, wr.heap.size = gz := ⟨_, rfl⟩
      rw [hgz] at z0 z1 hgl ⊢
      have HK1 := Lib.hid hK1; have HG1 := Lib.hid hg1
      clear hw1 d0 d1 hgz HK HG hK1 hg1
      go_wp2_with (go_at_call 51; refine (HF.out k pi ps w1 (by omega) HK1.out).mono ?_)
      rintro e w2 ⟨rfl, hb2⟩
      have hK2 := HK1.out.below (Nat.le_trans (Nat.le_trans hB2 (Nat.le_of_lt HGW.out)) HK1.out.2.1) hb2
      have z0' := cell_below hb2 z0
      have z1' := cell_below hb2 z1
      have hg2 := (hb2.block gw (Array.getElem?_eq_some_iff.1 HG1.out).1).trans HG1.out
      have hk9 : (k : Int) ≤ 100000000 := by omega
      have hb9 : B ≤ w2.heap.size := Nat.le_trans (Nat.le_trans hB2 (Nat.le_of_lt HGW.out)) hK2.2.1
      clear z0 z1 hb2 hgl HK1 HG1
      cases hlo : lost k pi
      · have hj1 : (keepTo lost ws (k + 1)).length = j + 1 := by rw [keepTo_succ lost ws k _ HP.out, hlo]; simp [hj]
        have hgl2 : gw < w2.heap.size := (Array.getElem?_eq_some_iff.1 hg2).1
        have hg3 : (w2.alloc (.cells #[.int .i64 pi, .string ps] 92)).heap[gw]? = some (.cells cur 92 (0, 0)) := (Lib.alloc_old w2 _ gw hgl2).trans hg2
        have y0 : (w2.alloc (.cells #[.int .i64 pi, .string ps] 92)).cell? ⟨w2.heap.size, 0, none⟩ = some (.int .i64 pi) := by unfold World.cell?; simp only [heap_alloc_new w2]; rfl
        have y1 : (w2.alloc (.cells #[.int .i64 pi, .string ps] 92)).cell? ⟨w2.heap.size, 1, none⟩ = some (.string ps) := by unfold World.cell?; simp only [heap_alloc_new w2]; rfl
        have hL := om_list cur.toList j k (.int .i64 pi) (.string ps) hjk (by rw [Array.length_toList, HZ.out]; have := HMC.out; omega)
        have hT := HT.out
        rw [hj] at hT
        have hstep : Hid (OmS lost B gw m cw ws cur0 w (.int .i64 ((k : Int) + 1)) (.slice (some ⟨gw, 0, none⟩) (j + 1) cw) ((w2.alloc (.cells #[.int .i64 pi, .string ps] 92)).setRow gw (cur.toList.take (j * 2) ++ [Value.int .i64 pi, Value.string ps] ++ cur.toList.drop (j * 2 + 2)).toArray)) := Lib.hid
          ⟨k + 1, _, by omega, by rw [Int.natCast_succ], by rw [hj1], setRow_heap _ _ _ _ _ _ hg3, by rw [List.size_toArray, hL.2.2, Array.length_toList, HZ.out], by
            rw [hj1]; show List.take _ (_ : List Value) = _; rw [hL.1, hT, keepTo_succ lost ws k _ HP.out, hlo, flat_append]; rfl, by
            show List.drop _ (_ : List Value) = _; rw [hL.2.1, show 2 * (k + 1) = 2 * k + 2 by omega, ← List.drop_drop, HD.out, List.drop_drop], (hK2.alloc _ hb9).row hB2 _⟩
        have hroom : j + 1 ≤ cw := by have := HMC.out; omega
        have hfit : j * 2 + 2 ≤ cur.size := by rw [HZ.out]; omega
        have Y0 := Lib.hid y0; have Y1 := Lib.hid y1; have HG3 := Lib.hid hg3
        clear hL hT y0 y1 hg3 hj1 hgl2 hg2 hK2 hb9
        go_wp2_with (refine wpList_append_pair _ rfl _ _ 68 rfl 92 i0 Tryd.underlying68 hi0 hs0 gw j cw cur HG3.out rfl ⟨w2.heap.size, 0, none⟩ 1 _ _ rfl Y0.out Y1.out rfl rfl hroom hfit ?_)
        exact ⟨by have := hstep.out; rw [List.append_assoc] at this; exact this, by simp [intOf]; omega⟩
      · have hj1 : (keepTo lost ws (k + 1)).length = j := by rw [keepTo_succ lost ws k _ HP.out, hlo]; simp [hj]
        have hstep : Hid (OmS lost B gw m cw ws cur0 w (.int .i64 ((k : Int) + 1)) (.slice (some ⟨gw, 0, none⟩) j cw) w2) := Lib.hid
          ⟨k + 1, cur, by omega, by rw [Int.natCast_succ], by rw [hj1], hg2, HZ.out, by rw [keepTo_succ lost ws k _ HP.out, hlo]; simp [HT.out], by
            rw [show 2 * (k + 1) = 2 * k + 2 by omega, ← List.drop_drop, HD.out, List.drop_drop], hK2⟩
        clear hK2 hg2 hb9
        go_wp2_with fail
        exact ⟨hstep.out, by simp [intOf]; omega⟩
    · have hkm' : k = m := by omega
      subst hkm'
      have hD2 : DiskAt g du cu (.slice (some ⟨gw, 0, none⟩) k cw) done left kp off wr := (HK.out.2.2 g HGL.out (Ne.symm h3) (Ne.symm h3)).trans HH.out
      have c2 := hD2.c2
      have hT := HT.out
      rw [hj] at hT
      by_cases hjm : j < k
      · have hne : ¬ cw = j := by have := HMC.out; omega
        obtain ⟨vs, hvl, hcl⟩ := run_clear_row (P := Tryd.prog) wr 68 92 (.agg #[.int .i64 0, .string ⟨#[]⟩]) Tryd.underlying68 (fun w => by kernel_rfl) rfl (by intro u hu; simp [Value.cells] at hu; rcases hu with rfl | rfl <;> rfl) gw (j * 2) (k - j) (cw - j) (by omega) cur 92 HG.out (by rw [HZ.out]; have := HMC.out; omega)
        have hfin : (cur.toList.take (j * 2) ++ vs ++ cur.toList.drop (j * 2 + (k - j) * 2)).take (j * 2) = flat (keepTo lost ws k) := by
          have hcz : j * 2 ≤ cur.toList.length := by rw [Array.length_toList, HZ.out]; have := HMC.out; omega
          rw [List.append_assoc, List.take_append_of_le_length (by rw [List.length_take]; omega), List.take_take, Nat.min_self]; exact hT
        have hszf : (cur.toList.take (j * 2) ++ vs ++ cur.toList.drop (j * 2 + (k - j) * 2)).toArray.size = cw * 2 := by
          have hcz : cur.toList.length = cw * 2 := by rw [Array.length_toList, HZ.out]
          have := HMC.out
          simp only [List.size_toArray, List.length_append, List.length_take, List.length_drop, hcz, hvl]; omega
        obtain ⟨w3, hw3⟩ : ∃ w3, wr.setRow gw (cur.toList.take (j * 2) ++ vs ++ cur.toList.drop (j * 2 + (k - j) * 2)).toArray = w3 := ⟨_, rfl⟩
        have hD3 : DiskAt g du cu (.slice (some ⟨gw, 0, none⟩) k cw) done left kp off w3 := by rw [← hw3]; exact (setRow_other wr gw g _ (Ne.symm h3)).trans hD2
        have hG3 : w3.heap[gw]? = some (.cells (cur.toList.take (j * 2) ++ vs ++ cur.toList.drop (j * 2 + (k - j) * 2)).toArray 92 (0, 0)) := by rw [← hw3]; exact setRow_heap wr gw cur _ _ _ HG.out
        have hK3 : Kept2 B gw gw w w3 := by rw [← hw3]; exact HK.out.row hB2 _
        rw [hw3] at hcl
        have hw2 : IntKind.i64.wrap ((k : Int) - j) = ((k - j : Nat) : Int) := by rw [IntWalk.i64_in _ (by omega)]; omega
        have f2 := hD3.free 2
        have c2' := hD3.c2
        have hD4 := hD3.set 2 (.slice (some ⟨gw, 0, none⟩) j cw)
        have HD4 := Lib.hid hD4; have HG3 := Lib.hid hG3; have HK3 := Lib.hid hK3; have HFIN := Lib.hid hfin; have HSZ := Lib.hid hszf
        clear hw3 hvl hT hD2 hD3 hD4 hG3 hK3 hfin hszf
        go_wp2_with (simp only [hcl])
        go_end0
        exact ⟨rfl, ⟨_, by rw [hj]; exact HD4.out, (Below.heap_setCell _ _ _ _ (by show gw ≠ g; exact h3)).trans HG3.out, HSZ.out, by rw [hj]; exact HFIN.out⟩, (Kept2.mix HK3.out).setg hB1 2 _⟩
      · obtain rfl : j = k := by omega
        have hcl := run_clear_none (P := Tryd.prog) wr 68 92 Tryd.underlying68
        have f2 := hD2.free 2
        have hD4 := hD2.set 2 (.slice (some ⟨gw, 0, none⟩) j cw)
        have HD4 := Lib.hid hD4; have HT2 := Lib.hid hT
        have hmc : j ≤ cw := HMC.out
        clear hT hD2 hD4
        go_wp2_with (simp only [hcl])
        all_goals go_end0
        all_goals subst_vars
        all_goals exact ⟨rfl, ⟨HD4.out, cur, (Below.heap_setCell _ _ _ _ (by show gw ≠ g; exact h3)).trans HG.out, HZ.out, HT2.out⟩, (Kept2.mix HK.out).setg hB1 2 _⟩
end Go.Proofs.YtbpaiiljhdohfaaDoor
namespace Go.Proofs.YtbpaiiljhdohfaaDoor
open Go.RowKit

theorem info_writespoil : (Tryd.prog.info? 92).map (fun i => (i.zero, i.size, i.bytes)) = some (some (.agg #[.int .i64 0, .string ⟨#[]⟩]), 2, 24) := by kernel_rfl

end Go.Proofs.YtbpaiiljhdohfaaDoor
namespace Go.Proofs.YtbpaiiljhdohfaaDoor
open Go.RowKit

/-- What a disk holds. -/
structure DS where
  dur : List ByteArray
  cur : List ByteArray
  ws : List (Nat × ByteArray)
  done : Nat
  left : Int
  kp : List Int
  off : Bool
/-- The block at g is a Disk that holds S, its rows in blocks of their own from B on. -/
structure IsD (B n g gd gc cd cc : Nat) (vw vk : Value) (S : DS) (w : World) : Prop where
  d : DiskAt g (.slice (some ⟨gd, 0, none⟩) n cd) (.slice (some ⟨gc, 0, none⟩) n cc) vw S.done S.left vk S.off w
  rd : RowS gd S.dur w
  rc : RowS gc S.cur w
  ld : S.dur.length = n
  lc : S.cur.length = n
  vw : w.ownsRow B 92 2 vw S.ws.length (flat S.ws)
  wb : ∀ p ∈ S.ws, p.1 < n
  vk : w.ownsRow B 3 1 vk S.kp.length (S.kp.map (Value.int .i64))
  ne : gd ≠ gc
  b1 : B ≤ g
  b2 : B ≤ gd
  b3 : B ≤ gc
/-- All blocks are as they were but the disk's that are written. -/
structure FrD (B g gd gc : Nat) (vw : Value) (w w' : World) : Prop where
  below : Below B w w'
  size : w.heap.size ≤ w'.heap.size
  block : ∀ b, b < w.heap.size → b ≠ g → b ≠ gd → b ≠ gc → vw.ownBlock ≠ some b → w'.heap[b]? = w.heap[b]?
theorem FrD.refl (B g gd gc : Nat) (vw : Value) (w : World) : FrD B g gd gc vw w w := ⟨Below.refl _ _, Nat.le_refl _, fun _ _ _ _ _ _ => rfl⟩
theorem FrD.trans {B g gd gc : Nat} {vw vw' : Value} {a b c : World} (h : FrD B g gd gc vw a b) (h' : FrD B g gd gc vw' b c) (hv : ∀ x, vw'.ownBlock = some x → vw.ownBlock = some x ∨ a.heap.size ≤ x) : FrD B g gd gc vw a c :=
  ⟨h.below.trans h'.below, Nat.le_trans h.size h'.size, fun x hx h1 h2 h3 h4 => (h'.block x (Nat.lt_of_lt_of_le hx h.size) h1 h2 h3 (fun e => by
    rcases hv x e with h5 | h5
    · exact h4 h5
    · omega)).trans (h.block x hx h1 h2 h3 h4)⟩
theorem FrD.of_kept2 {B g gd gc x : Nat} {vw : Value} {w w' : World} (h : Kept2 B g x w w') (hx : x = gd ∨ x = gc ∨ x = g ∨ vw.ownBlock = some x) : FrD B g gd gc vw w w' :=
  ⟨h.1, h.2.1, fun b hb h1 h2 h3 h4 => h.2.2 b hb h1 (fun e => by subst e; rcases hx with h5 | h5 | h5 | h5 <;> contradiction)⟩
theorem RowS.ne_disk {g gd : Nat} {l : List ByteArray} {du cu wr : Value} {done left : Int} {kp : Value} {off : Bool} {w : World} (hd : DiskAt g du cu wr done left kp off w) (h : RowS gd l w) : gd ≠ g := fun e => by
  subst e
  obtain ⟨cur, h1, _⟩ := h
  rw [show w.heap[gd]? = _ from hd] at h1
  injection h1 with h1
  injection h1 with _ h1
  exact absurd h1 (by decide)
/-- Where a row that is owned lies. -/
theorem own_block {w : World} {B e size n x : Nat} {v : Value} {xs : List Value} (h : w.ownsRow B e size v n xs) (hx : v.ownBlock = some x) : ∃ cur, w.heap[x]? = some (.cells cur e (0, 0)) := by
  rcases h.2 with ⟨hv, _⟩ | ⟨g, cap, cur, hv, _, hg, _⟩
  · rw [hv] at hx; cases hx
  · rw [hv] at hx; cases hx; exact ⟨cur, hg⟩
theorem own_ne {w : World} {B e size n x y e' : Nat} {v : Value} {xs : List Value} {cur : Array Value} (h : w.ownsRow B e size v n xs) (hx : v.ownBlock = some x) (hy : w.heap[y]? = some (.cells cur e' (0, 0))) (hne : e ≠ e') : x ≠ y := fun hxy => by
  subst hxy
  obtain ⟨c, hc⟩ := own_block h hx
  rw [hc] at hy
  injection hy with hy
  injection hy with _ h1
  exact hne h1
theorem own_same {w w' : World} {B e size n : Nat} {v : Value} {xs : List Value} (h : w.ownsRow B e size v n xs) (hb : ∀ b, v.ownBlock = some b → w'.heap[b]? = w.heap[b]?) : w'.ownsRow B e size v n xs := by
  refine ⟨h.1, ?_⟩
  rcases h.2 with hv | ⟨g, cap, cur, hv, hB, hg, r⟩
  · exact .inl hv
  · exact .inr ⟨g, cap, cur, hv, hB, (hb g (by rw [hv]; rfl)).trans hg, r⟩
variable {B n g gd gc cd cc : Nat} {vw vk : Value} {S : DS} {w : World}
theorem IsD.gdg (h : IsD B n g gd gc cd cc vw vk S w) : gd ≠ g := RowS.ne_disk h.d h.rd
theorem IsD.gcg (h : IsD B n g gd gc cd cc vw vk S w) : gc ≠ g := RowS.ne_disk h.d h.rc
theorem IsD.wg (h : IsD B n g gd gc cd cc vw vk S w) {x : Nat} (hx : vw.ownBlock = some x) : x ≠ g ∧ x ≠ gd ∧ x ≠ gc := by
  obtain ⟨c1, h1, _⟩ := h.rd
  obtain ⟨c2, h2, _⟩ := h.rc
  exact ⟨own_ne h.vw hx (show w.heap[g]? = _ from h.d) (by decide), own_ne h.vw hx h1 (by decide), own_ne h.vw hx h2 (by decide)⟩
theorem IsD.kg (h : IsD B n g gd gc cd cc vw vk S w) {x : Nat} (hx : vk.ownBlock = some x) : x ≠ g ∧ x ≠ gd ∧ x ≠ gc ∧ vw.ownBlock ≠ some x := by
  obtain ⟨c1, h1, _⟩ := h.rd
  obtain ⟨c2, h2, _⟩ := h.rc
  refine ⟨own_ne h.vk hx (show w.heap[g]? = _ from h.d) (by decide), own_ne h.vk hx h1 (by decide), own_ne h.vk hx h2 (by decide), fun e => ?_⟩
  obtain ⟨c3, h3⟩ := own_block h.vw e
  exact own_ne h.vk hx h3 (by decide) rfl
theorem IsD.keep (h : IsD B n g gd gc cd cc vw vk S w) {w' : World} (hb : ∀ b, b = g ∨ b = gd ∨ b = gc ∨ vw.ownBlock = some b ∨ vk.ownBlock = some b → w'.heap[b]? = w.heap[b]?) : IsD B n g gd gc cd cc vw vk S w' :=
  ⟨(hb g (.inl rfl)).trans h.d, h.rd.same (hb gd (.inr (.inl rfl))), h.rc.same (hb gc (.inr (.inr (.inl rfl)))), h.ld, h.lc, own_same h.vw fun b e => hb b (.inr (.inr (.inr (.inl e)))), h.wb, own_same h.vk fun b e => hb b (.inr (.inr (.inr (.inr e)))), h.ne, h.b1, h.b2, h.b3⟩
theorem IsD.lts (h : IsD B n g gd gc cd cc vw vk S w) {b : Nat} (hb : b = g ∨ b = gd ∨ b = gc ∨ vw.ownBlock = some b ∨ vk.ownBlock = some b) : B ≤ b ∧ b < w.heap.size := by
  rcases hb with rfl | rfl | rfl | e | e
  · exact ⟨h.b1, h.d.lt⟩
  · exact ⟨h.b2, h.rd.lt⟩
  · exact ⟨h.b3, h.rc.lt⟩
  · exact h.vw.lt b e
  · exact h.vk.lt b e
theorem IsD.below (h : IsD B n g gd gc cd cc vw vk S w) {w' : World} (hb : Below w.heap.size w w') : IsD B n g gd gc cd cc vw vk S w' := h.keep fun b e => hb.block b (h.lts e).2
/-- The row of the writes, opened. -/
theorem IsD.wr (h : IsD B n g gd gc cd cc vw vk S w) : (vw = .slice none 0 0 ∧ S.ws = []) ∨ ∃ gw cw cur, vw = .slice (some ⟨gw, 0, none⟩) S.ws.length cw ∧ B ≤ gw ∧ w.heap[gw]? = some (.cells cur 92 (0, 0)) ∧ S.ws.length ≤ cw ∧ cw ≤ maxLen ∧ cur.size = cw * 2 ∧ cur.toList.take (S.ws.length * 2) = flat S.ws := by
  rcases h.vw.2 with ⟨h1, h2⟩ | ⟨gw, cw, cur, h1⟩
  · exact .inl ⟨h1, List.length_eq_zero_iff.1 h2⟩
  · exact .inr ⟨gw, cw, cur, h1⟩
theorem wrAt_of {gw m : Nat} {ws : List (Nat × ByteArray)} {cur : Array Value} (hg : w.heap[gw]? = some (.cells cur 92 (0, 0))) (hm : ws.length = m) (ht : cur.toList.take (m * 2) = flat ws) : WrAt gw ws w := fun j p hp => by
  have hj : j < m := hm ▸ (List.getElem?_eq_some_iff.1 hp).1
  have hf := flat_get ws j p hp
  rw [← ht, List.getElem?_take, if_pos (by omega), List.getElem?_take, if_pos (by omega)] at hf
  unfold World.cell?
  simp only [hg]
  exact ⟨by rw [← Array.getElem?_toList]; exact hf.1, by rw [← Array.getElem?_toList]; exact hf.2⟩
theorem omit_nil (F : Fn) (cap : Array Value) (du cu : Value) (done left : Int) (kp : Value) (off : Bool) (h : DiskAt g du cu (.slice none 0 0) done left kp off w) (hB : B ≤ g) :
    Calls Tryd.prog 50 #[.pointer (some ⟨g, 0, none⟩), .func F #[] cap] w fun e w' => e = .returned (.tuple #[]) ∧ DiskAt g du cu (.slice none 0 0) done left kp off w' ∧ Kept2 B g gd w w' := by
  have c2 := h.c2
  have f2 := h.free 2
  have hcl := run_clear_none (P := Tryd.prog) w 68 92 Tryd.underlying68
  have hD2 : DiskAt g du cu (.slice none 0 0) done left kp off (w.setCell ⟨g, 2, none⟩ (.slice none 0 0)) := h.set 2 _
  have HD2 := Lib.hid hD2
  clear hD2 h
  go_enter Tryd.func50, Tryd.ntmps50
  go_wp2_with fail
  go_loopw [17, 4] (fun i v wr => i = .int .i64 0 ∧ v = .slice none 0 0 ∧ wr = w) (fun i _ _ => 0)
  case atStart => exact ⟨rfl, rfl, rfl⟩
  case round =>
    obtain ⟨rfl, rfl, rfl⟩ := hrel
    go_wp2_with (simp only [hcl])
    go_end0
    exact ⟨rfl, HD2.out, (Kept2.refl B g gd wr).setg hB 2 _⟩
end Go.Proofs.YtbpaiiljhdohfaaDoor
namespace Go.Proofs.YtbpaiiljhdohfaaDoor
open Go.RowKit
variable {B n g gd gc cd cc : Nat} {vw vk : Value} {S : DS} {w : World}

theorem omitD_fail (h : IsD B n g gd gc cd cc vw vk S w) (lost : Nat → Int → Bool) (kb : Nat) (hm : S.ws.length ≤ 100000000)
    (hF : ∀ (k : Nat) (i : Int) (s : ByteArray) (w1 : World), k ≤ 100000000 → (∀ b, b < w.heap.size → vw.ownBlock ≠ some b → w1.heap[b]? = w.heap[b]?) → Calls Tryd.prog 51 #[.int .i64 k, .agg #[.int .i64 i, .string s], .pointer (some ⟨kb, 0, none⟩)] w1 fun e w' => e = .returned (.bool (lost k i)) ∧ Below w1.heap.size w1 w') :
    Calls Tryd.prog 50 #[.pointer (some ⟨g, 0, none⟩), .func (.func 51) #[] #[.pointer (some ⟨kb, 0, none⟩)]] w fun e w' => e = .returned (.tuple #[]) ∧ ∃ vw', IsD B n g gd gc cd cc vw' vk { S with ws := keepTo lost S.ws S.ws.length } w' ∧ vw'.ownBlock = vw.ownBlock ∧ FrD B g gd gc vw w w' := by
  rcases h.wr with ⟨hv, hs⟩ | ⟨gw, cw, cur, hv, hB, hg, hwc, hcm, hcz, hct⟩
  · subst hv
    refine (omit_nil (B := B) (gd := g) _ _ _ _ _ _ _ _ h.d h.b1).mono ?_
    rintro e w' ⟨rfl, hD, hK⟩
    have hf : FrD B g gd gc (.slice none 0 0) w w' := FrD.of_kept2 hK (.inr (.inr (.inl rfl)))
    have hk : ∀ b, b = gd ∨ b = gc ∨ vk.ownBlock = some b → w'.heap[b]? = w.heap[b]? := fun b hb => by
      have hl := (h.lts (by rcases hb with h1 | h1 | h1 <;> simp [h1] : b = g ∨ b = gd ∨ b = gc ∨ (Value.slice none 0 0).ownBlock = some b ∨ vk.ownBlock = some b)).2
      rcases hb with rfl | rfl | hb
      · exact hK.2.2 b hl h.gdg h.gdg
      · exact hK.2.2 b hl h.gcg h.gcg
      · exact hK.2.2 b hl (h.kg hb).1 (h.kg hb).1
    have e0 : keepTo lost S.ws S.ws.length = [] := by rw [hs]; rfl
    refine ⟨rfl, _, ⟨hD, h.rd.same (hk gd (.inl rfl)), h.rc.same (hk gc (.inr (.inl rfl))), h.ld, h.lc, ?_, ?_, own_same h.vk fun b e => hk b (.inr (.inr e)), h.ne, h.b1, h.b2, h.b3⟩, rfl, hf⟩
    · show w'.ownsRow B _ 2 _ (keepTo lost S.ws S.ws.length).length _
      rw [e0]; exact World.ownsRow_nil _ _ _ _
    · show ∀ p ∈ keepTo lost S.ws S.ws.length, _
      rw [e0]; intro p hp; cases hp
  · subst hv
    have hwg := h.wg (x := gw) rfl
    refine (omit_fail lost B g gw kb S.ws.length cw S.ws cur _ _ _ _ _ _ w h.d hg hcz hct rfl hwc hm hwg.1 h.b1 hB fun k i s w1 hk hK => hF k i s w1 hk fun b hb hne => hK.2.2 b hb (fun e => hne (by rw [e]; rfl)) (fun e => hne (by rw [e]; rfl))).mono ?_
    rintro e w' ⟨rfl, ⟨cur', hD, hg', hz', ht'⟩, hK⟩
    have hf := FrD.of_kept2 (gc := gc) (gd := gd) (vw := .slice (some ⟨gw, 0, none⟩) S.ws.length cw) hK (.inr (.inr (.inr rfl)))
    have hk : ∀ b, b = gd ∨ b = gc ∨ vk.ownBlock = some b → w'.heap[b]? = w.heap[b]? := fun b hb => by
      have hl := (h.lts (by rcases hb with h1 | h1 | h1 <;> simp [h1] : b = g ∨ b = gd ∨ b = gc ∨ (Value.slice (some ⟨gw, 0, none⟩) S.ws.length cw).ownBlock = some b ∨ vk.ownBlock = some b)).2
      rcases hb with rfl | rfl | hb
      · exact hK.2.2 b hl h.gdg (Ne.symm hwg.2.1)
      · exact hK.2.2 b hl h.gcg (Ne.symm hwg.2.2)
      · exact hK.2.2 b hl (h.kg hb).1 (fun e => (h.kg hb).2.2.2 (by rw [e]; rfl))
    refine ⟨rfl, _, ⟨hD, h.rd.same (hk gd (.inl rfl)), h.rc.same (hk gc (.inr (.inl rfl))), h.ld, h.lc, ⟨?_, .inr ⟨gw, cw, cur', rfl, hB, hg', Nat.le_trans (keepTo_length _ _ _) hwc, hcm, hz', ht'⟩⟩, fun p hp => h.wb p (keepTo_mem _ _ _ _ hp), own_same h.vk fun b e => hk b (.inr (.inr e)), h.ne, h.b1, h.b2, h.b3⟩, rfl, hf⟩
    show (flat (keepTo lost S.ws S.ws.length)).length = _
    rw [flat_length, Nat.mul_comm]
theorem settleD (h : IsD B n g gd gc cd cc vw vk S w) (hm : S.ws.length ≤ 100000000) (hn : n ≤ 4096) :
    Calls Tryd.prog 52 #[.pointer (some ⟨g, 0, none⟩)] w fun e w' => e = .returned (.tuple #[]) ∧ IsD B n g gd gc cd cc (.slice none 0 0) vk { S with dur := putW S.dur S.ws, ws := [] } w' ∧ FrD B g gd gc vw w w' := by
  rcases h.wr with ⟨hv, hs⟩ | ⟨gw, cw, cur, hv, hB, hg, hwc, hcm, hcz, hct⟩
  · subst hv
    refine (settle_nil B g g 0 none _ _ _ _ _ _ w h.d h.b1).mono ?_
    rintro e w' ⟨rfl, hD, hK⟩
    have hk : ∀ b, b = gd ∨ b = gc ∨ vk.ownBlock = some b → w'.heap[b]? = w.heap[b]? := fun b hb => by
      have hl := (h.lts (by rcases hb with h1 | h1 | h1 <;> simp [h1] : b = g ∨ b = gd ∨ b = gc ∨ (Value.slice none 0 0).ownBlock = some b ∨ vk.ownBlock = some b)).2
      rcases hb with rfl | rfl | hb
      · exact hK.2.2 b hl h.gdg h.gdg
      · exact hK.2.2 b hl h.gcg h.gcg
      · exact hK.2.2 b hl (h.kg hb).1 (h.kg hb).1
    refine ⟨rfl, ⟨hD, ?_, h.rc.same (hk gc (.inr (.inl rfl))), (putW_length _ _).trans h.ld, h.lc, World.ownsRow_nil _ _ _ _, (fun p hp => by cases hp), own_same h.vk fun b e => hk b (.inr (.inr e)), h.ne, h.b1, h.b2, h.b3⟩, FrD.of_kept2 hK (.inr (.inr (.inl rfl)))⟩
    show RowS gd (putW S.dur S.ws) w'
    rw [hs]; exact h.rd.same (hk gd (.inl rfl))
  · subst hv
    have hwg := h.wg (x := gw) rfl
    refine (settle_any B g gd gw n S.ws.length cd cw S.dur S.ws _ _ _ _ _ w h.d h.rd h.ld (wrAt_of hg rfl hct) rfl (Array.getElem?_eq_some_iff.1 hg).1 h.wb (Ne.symm h.gdg) hwg.2.1 hwg.1 h.b1 h.b2 hn hm).mono ?_
    rintro e w' ⟨rfl, hD, hR, hK⟩
    have hk : ∀ b, b = gc ∨ vk.ownBlock = some b → w'.heap[b]? = w.heap[b]? := fun b hb => by
      have hl := (h.lts (by rcases hb with h1 | h1 <;> simp [h1] : b = g ∨ b = gd ∨ b = gc ∨ (Value.slice (some ⟨gw, 0, none⟩) S.ws.length cw).ownBlock = some b ∨ vk.ownBlock = some b)).2
      rcases hb with rfl | hb
      · exact hK.2.2 b hl h.gcg (Ne.symm h.ne)
      · exact hK.2.2 b hl (h.kg hb).1 (h.kg hb).2.1
    exact ⟨rfl, ⟨hD, hR, h.rc.same (hk gc (.inl rfl)), (putW_length _ _).trans h.ld, h.lc, World.ownsRow_nil _ _ _ _, (fun p hp => by cases hp), own_same h.vk fun b e => hk b (.inr e), h.ne, h.b1, h.b2, h.b3⟩, FrD.of_kept2 hK (.inl rfl)⟩
theorem str_size : (Tryd.prog.info? 9).map (·.size) = some 1 := by kernel_rfl
theorem RowS.copy {l m : List ByteArray} (hd : RowS gd l w) (hc : RowS gc m w) (ld : l.length = n) (lm : m.length = n) (hn : 0 < n) (hB : B ≤ gc) :
    ∃ w2, (∀ ty, (Builtin.copy_ #[48, 48] ty #[.slice (some ⟨gc, 0, none⟩) n cc, .slice (some ⟨gd, 0, none⟩) n cd]).run Tryd.prog w = .ok (.int .i64 n) w2) ∧ RowS gc l w2 ∧ Below B w w2 ∧ w2.heap.size = w.heap.size ∧ ∀ b, b ≠ gc → w2.heap[b]? = w.heap[b]? := by
  obtain ⟨cur, h1, h2⟩ := hc
  have hsz : n ≤ cur.size := by
    obtain ⟨x, hx⟩ : ∃ x, m[n - 1]? = some x := ⟨_, List.getElem?_eq_getElem (by omega)⟩
    have := (Array.getElem?_eq_some_iff.1 (h2 _ _ hx)).1
    omega
  have hlen : (l.map Value.string).length = n := by rw [List.length_map, ld]
  have hrun : ∀ ty, _ := fun ty => run_copy_row (P := Tryd.prog) w 48 48 ty 9 gc 0 n cc ⟨gd, 0, none⟩ n cd cur 9 (l.map Value.string) Tryd.underlying48 str_size h1 (by rw [hlen]; exact (Nat.min_self n).symm) (fun j v hv => by
    rw [List.getElem?_map] at hv
    obtain ⟨s, hs, rfl⟩ := Option.map_eq_some_iff.1 hv
    rw [addr_at]; exact hd.cell j s hs) (by omega) (by intro v hv; obtain ⟨s, _, rfl⟩ := List.mem_map.1 hv; rfl)
  rw [hlen] at hrun
  refine ⟨_, fun ty => hrun ty, ⟨_, setRow_heap w gc cur _ _ _ h1, fun i s hs => ?_⟩, below_setRow (Below.refl _ _) hB _, setRow_size _ _ _, fun b hb => setRow_other _ _ _ _ hb⟩
  rw [List.take_zero, List.nil_append, List.getElem?_toArray, List.getElem?_append_left (by rw [hlen, ← ld]; exact (List.getElem?_eq_some_iff.1 hs).1), List.getElem?_map, hs]
  rfl
/-- The disk behind a loss of power. -/
def failS (zs : List Int) (S : DS) : DS := { S with dur := putW S.dur (keepTo (fun k _ => lostB zs k) S.ws S.ws.length), cur := putW S.dur (keepTo (fun k _ => lostB zs k) S.ws S.ws.length), ws := [], left := 0, kp := [], off := true }
/-- The value ka is the list zs. -/
def KeepArg (ka : Value) (zs : List Int) (vw : Value) (w : World) : Prop := (zs = [] ∧ ∃ a c, ka = .slice a 0 c) ∨ (∃ b o c, ka = .slice (some ⟨b, o, none⟩) zs.length c ∧ 0 < zs.length ∧ vw.ownBlock ≠ some b ∧ ∀ j, j < zs.length → w.cell? ⟨b, o + j, none⟩ = some (.int .i64 (zs.getD j 0)))
theorem fail_loses (ka : Value) (zs : List Int) (hz : zs.length ≤ 100000000000000) (hk : KeepArg ka zs vw w) (hw : ∀ x, vw.ownBlock = some x → x < w.heap.size) (k : Nat) (i : Int) (s : ByteArray) (w1 : World) (hk9 : k ≤ 100000000) (hb : ∀ b, b < (w.alloc (.cells #[ka] 39)).heap.size → vw.ownBlock ≠ some b → w1.heap[b]? = (w.alloc (.cells #[ka] 39)).heap[b]?) :
    Calls Tryd.prog 51 #[.int .i64 k, .agg #[.int .i64 i, .string s], .pointer (some ⟨w.heap.size, 0, none⟩)] w1 fun e w' => e = .returned (.bool (lostB zs k)) ∧ Below w1.heap.size w1 w' := by
  have hkc : w1.cell? ⟨w.heap.size, 0, none⟩ = some ka := by
    unfold World.cell?
    simp only [hb w.heap.size (by show _ < (w.heap.push _).size; simp) (fun e => absurd (hw _ e) (Nat.lt_irrefl _)), heap_alloc_new w]
    rfl
  rcases hk with ⟨rfl, a, c, rfl⟩ | ⟨b, o, c, rfl, h0, hne, hc⟩
  · exact fail1_nil _ a c k i s w1 hkc
  · refine fail1_some _ b o zs.length c zs k i s w1 hkc h0 rfl (fun j hj => ?_) hk9 hz
    have hlt := World.block_lt_of_cell? w _ (hc 0 h0)
    have h1 : b < w.heap.size := hlt
    have h2 := hb b (by show _ < (w.heap.push _).size; simp; omega) hne
    have h3 := hc j hj
    unfold World.cell? at h3 ⊢
    simp only [h2, Lib.alloc_old w _ b h1]
    exact h3
end Go.Proofs.YtbpaiiljhdohfaaDoor
namespace Go.Proofs.YtbpaiiljhdohfaaDoor
open Go.RowKit
variable {B n g gd gc cd cc : Nat} {vw vk : Value} {S : DS} {w : World}

theorem uncut2 (du cu wr : Value) (done left : Int) (kp : Value) (off : Bool) (h : DiskAt g du cu wr done left kp off w) (hB : B ≤ g) :
    Calls Tryd.prog 53 #[.pointer (some ⟨g, 0, none⟩)] w fun e w' => e = .returned (.tuple #[]) ∧ DiskAt g du cu wr done 0 (.slice none 0 0) off w' ∧ Kept2 B g g w w' := by
  have f4 := h.free 4
  have f5 := h.free 5
  have c4 := h.c4
  have c5 := h.c5
  go_enter Tryd.func53, Tryd.ntmps53
  go_wp2_with fail
  go_end0
  refine ⟨rfl, ?_, ?_⟩
  · have h1 := h.set 4 (.int .i64 0)
    have h2 : DiskAt g du cu wr done 0 kp off (w.setCell ⟨g, 4, none⟩ (.int .i64 0)) := h1
    exact h2.set 5 (.slice none 0 0)
  · exact ((Kept2.refl B g g w).setg hB 4 _).setg hB 5 _
theorem On2 (du cu wr : Value) (done left : Int) (kp : Value) (off : Bool) (h : DiskAt g du cu wr done left kp off w) (hB : B ≤ g) :
    Calls Tryd.prog 34 #[.pointer (some ⟨g, 0, none⟩)] w fun e w' => e = .returned (.tuple #[]) ∧ DiskAt g du cu wr done 0 (.slice none 0 0) false w' ∧ Kept2 B g g w w' := by
  go_enter Tryd.func34, Tryd.ntmps34
  go_wp2_with (go_at_call 53; refine (uncut2 (B := B) du cu wr done left kp off h hB).mono ?_)
  rintro e w1 ⟨rfl, h1, hb1⟩
  have f6 := h1.free 6
  have c6 := h1.c6
  go_wp2_with fail
  go_end0
  exact ⟨rfl, h1.set 6 (.bool false), hb1.setg hB 6 _⟩
/-- A disk of which the Disk's block alone was written. -/
theorem IsD.disk (h : IsD B n g gd gc cd cc vw vk S w) {w' : World} (hk : Kept2 B g g w w') : FrD B g gd gc vw w w' ∧ RowS gd S.dur w' ∧ RowS gc S.cur w' ∧ w'.ownsRow B 92 2 vw S.ws.length (flat S.ws) ∧ w'.ownsRow B 3 1 vk S.kp.length (S.kp.map (Value.int .i64)) :=
  ⟨FrD.of_kept2 hk (.inr (.inr (.inl rfl))), h.rd.same (hk.2.2 gd h.rd.lt h.gdg h.gdg), h.rc.same (hk.2.2 gc h.rc.lt h.gcg h.gcg), own_same h.vw fun b e => hk.2.2 b (h.vw.lt b e).2 (h.wg e).1 (h.wg e).1, own_same h.vk fun b e => hk.2.2 b (h.vk.lt b e).2 (h.kg e).1 (h.kg e).1⟩
set_option maxHeartbeats 1000000 in
set_option maxRecDepth 100000 in
theorem failD (h : IsD B n g gd gc cd cc vw vk S w) (ka : Value) (zs : List Int) (hz : zs.length ≤ 100000000000000) (hk : KeepArg ka zs vw w) (hn0 : 0 < n) (hn : n ≤ 4096) (hm : S.ws.length ≤ 100000000) :
    Calls Tryd.prog 33 #[.pointer (some ⟨g, 0, none⟩), ka] w fun e w' => e = .returned (.tuple #[]) ∧ IsD B n g gd gc cd cc (.slice none 0 0) (.slice none 0 0) (failS zs S) w' ∧ FrD B g gd gc vw w w' := by
  obtain ⟨a, kn, kc, rfl⟩ : ∃ a kn kc, ka = .slice a kn kc := by
    rcases hk with ⟨_, a, c, h1⟩ | ⟨b, o, c, h1, _⟩
    · exact ⟨_, _, _, h1⟩
    · exact ⟨_, _, _, h1⟩
  have hB0 : Below w.heap.size w (w.alloc (.cells #[.slice a kn kc] 39)) := (Below.refl _ _).alloc (Nat.le_refl _) _
  have H0 := Lib.hid (h.below hB0)
  have HF := Lib.hid (fail_loses (.slice a kn kc) zs hz hk (fun x hx => (h.vw.lt x hx).2))
  have hBs : B ≤ w.heap.size := Nat.le_trans h.b1 (Nat.le_of_lt h.d.lt)
  have F0 : FrD B g gd gc vw w (w.alloc (.cells #[.slice a kn kc] 39)) := ⟨hB0.mono hBs, hB0.size, fun b hb _ _ _ _ => hB0.block b hb⟩
  have HF0 := Lib.hid F0; have HM := Lib.hid hm; have HN := Lib.hid hn
  clear F0 hk hB0 h hm hn
  go_enter Tryd.func33, Tryd.ntmps33
  go_wp2_with (go_at_call 50; refine (omitD_fail H0.out (fun k _ => lostB zs k) w.heap.size HM.out HF.out).mono ?_)
  rintro e w1 ⟨rfl, vw1, h1, hv1, f1⟩
  have F1 := HF0.out.trans f1 (fun x hx => .inl hx)
  have hl1 : (keepTo (fun k _ => lostB zs k) S.ws S.ws.length).length ≤ 100000000 := Nat.le_trans (keepTo_length _ _ _) HM.out
  have H1 := Lib.hid h1; have HF1 := Lib.hid F1; have HV1 := Lib.hid hv1; have HL1 := Lib.hid hl1
  clear h1 f1 F1 hv1 hl1 H0 HF HF0
  go_wp2_with (go_at_call 52; refine (settleD H1.out HL1.out HN.out).mono ?_)
  rintro e w2 rfl h2 f2
  have F2 := HF1.out.trans f2 (fun x hx => .inl (HV1.out ▸ hx))
  have c0 := h2.d.c0
  have c1 := h2.d.c1
  obtain ⟨w3, hcp, hR, hBl, hz, hs⟩ := RowS.copy (w := w2.drew) (cc := cc) (cd := cd) h2.rd h2.rc h2.ld h2.lc hn0 h2.b3
  have H2 := Lib.hid h2; have HF2 := Lib.hid F2; have HR := Lib.hid hR; have HBl := Lib.hid hBl; have HS := Lib.hid hs; have HZ := Lib.hid hz
  clear h2 f2 F2 hR hBl hs hz H1 HF1
  go_wp2_with fail
  refine wp_region_still_tail 8 (by kernel_rfl) (by kernel_rfl) ?_
  change wpStill _ _ (World.drew _) _ _ _
  simp only [List.take_succ_cons, List.take_zero, List.drop_succ_cons, List.drop_zero]
  repeat still_step
  try refine wpStill_nil ?_
  change wpList _ _ _ _ _ (World.drew _)
  go_wp2_with (simp only [hcp])
  have h3 : IsD B n g gd gc cd cc (.slice none 0 0) vk { S with dur := putW S.dur (keepTo (fun k _ => lostB zs k) S.ws S.ws.length), cur := putW S.dur (keepTo (fun k _ => lostB zs k) S.ws S.ws.length), ws := [] } w3 :=
    ⟨(HS.out g (Ne.symm H2.out.gcg)).trans H2.out.d, H2.out.rd.same (HS.out gd H2.out.ne), HR.out, H2.out.ld, H2.out.ld, World.ownsRow_nil _ _ _ _, H2.out.wb, own_same H2.out.vk fun b e => HS.out b (H2.out.kg e).2.2.1, H2.out.ne, H2.out.b1, H2.out.b2, H2.out.b3⟩
  have F3 : FrD B g gd gc vw w w3 := HF2.out.trans (vw' := .slice none 0 0) (⟨⟨HBl.out.os, HBl.out.tape, HBl.out.output, HBl.out.size, HBl.out.block⟩, Nat.le_of_eq HZ.out.symm, fun b _ _ _ h5 _ => HS.out b h5⟩ : FrD B g gd gc (.slice none 0 0) w2 w3) (fun x hx => by cases hx)
  have H3 := Lib.hid h3; have HF3 := Lib.hid F3
  clear h3 F3 H2 HF2 HR HBl HS HZ hcp
  refine (uncut2 (B := B) _ _ _ _ _ _ _ H3.out.d H3.out.b1).mono ?_
  rintro e w4 ⟨rfl, hD4, hK4⟩
  obtain ⟨q1, q2, q3, q4, q5⟩ := H3.out.disk hK4
  have f6 := hD4.free 6
  have c6 := hD4.c6
  have hD5 : DiskAt g (.slice (some ⟨gd, 0, none⟩) n cd) (.slice (some ⟨gc, 0, none⟩) n cc) (.slice none 0 0) S.done 0 (.slice none 0 0) true (w4.setCell ⟨g, 6, none⟩ (.bool true)) := hD4.set 6 _
  have hK5 := hK4.setg H3.out.b1 6 (.bool true)
  have hend : Hid (IsD B n g gd gc cd cc (.slice none 0 0) (.slice none 0 0) (failS zs S) (w4.setCell ⟨g, 6, none⟩ (.bool true)) ∧ FrD B g gd gc vw w (w4.setCell ⟨g, 6, none⟩ (.bool true))) := by
    obtain ⟨r1, r2, r3, r4, r5⟩ := H3.out.disk hK5
    exact Lib.hid ⟨⟨hD5, r2, r3, H3.out.ld, H3.out.lc, r4, H3.out.wb, World.ownsRow_nil _ _ _ _, H3.out.ne, H3.out.b1, H3.out.b2, H3.out.b3⟩, HF3.out.trans r1 (fun x hx => by cases hx)⟩
  clear hD4 hK4 q1 q2 q3 q4 q5 hD5 hK5
  go_wp2_with fail
  go_end0
  exact ⟨rfl, hend.out.1, hend.out.2⟩
end Go.Proofs.YtbpaiiljhdohfaaDoor
namespace Go.Proofs.YtbpaiiljhdohfaaDoor
open Go.RowKit
variable {B n g gd gc cd cc : Nat} {vw vk : Value} {S : DS} {w : World}

/-- Bounds that hold along a script. -/
structure OkS (n : Nat) (S : DS) : Prop where
  n0 : 0 < n
  n1 : n ≤ 4096
  ws : S.ws.length ≤ 10000000
  kp : S.kp.length ≤ 17592186044416
  done : S.done ≤ 1000000000
  l0 : 0 ≤ S.left
  l1 : S.left ≤ 9223372036854775807
/-- A command that changes: is it executed, and the disk. -/
def begS (S : DS) : Bool × DS := if S.off = true then (false, S) else if S.left = 1 then (false, failS S.kp S) else (true, { S with done := S.done + 1, left := max (S.left - 1) 0 })
theorem IsD.keepArg (h : IsD B n g gd gc cd cc vw vk S w) : KeepArg vk S.kp vw w := by
  rcases h.vk.2 with ⟨h1, h2⟩ | ⟨x, cap, cur, h1, h2, h3, h4⟩
  · exact .inl ⟨List.length_eq_zero_iff.1 h2, _, _, h1⟩
  · by_cases h0 : 0 < S.kp.length
    · refine .inr ⟨x, 0, cap, h1, h0, (h.kg (by rw [h1]; rfl)).2.2.2, fun j hj => ?_⟩
      have := h.vk.cells (g := x) (by rw [h1]; rfl) j (.int .i64 (S.kp.getD j 0)) (by rw [List.getElem?_map, List.getD_eq_getElem?_getD, List.getElem?_eq_getElem hj]; rfl)
      rw [addr_at] at this
      rw [Nat.zero_add]; exact this
    · have : S.kp = [] := by
        cases hs : S.kp with
        | nil => rfl
        | cons a b => rw [hs] at h0; simp at h0
      exact .inl ⟨this, some ⟨x, 0, none⟩, cap, by rw [h1, this]; rfl⟩
theorem beginD (h : IsD B n g gd gc cd cc vw vk S w) (ok : OkS n S) :
    Calls Tryd.prog 37 #[.pointer (some ⟨g, 0, none⟩)] w fun e w' => e = .returned (.bool (begS S).1) ∧ ∃ vw' vk', IsD B n g gd gc cd cc vw' vk' (begS S).2 w' ∧ (∀ x, vw'.ownBlock = some x → vw.ownBlock = some x) ∧ FrD B g gd gc vw w w' := by
  cases ho : S.off
  · by_cases hl : S.left = 1
    · have e0 : begS S = (false, failS S.kp S) := by unfold begS; rw [if_neg (by rw [ho]; decide), if_pos hl]
      rw [e0]
      have c6 := h.d.c6
      have c4 := h.d.c4
      have c5 := h.d.c5
      rw [ho] at c6
      rw [hl] at c4
      have HF := Lib.hid (failD h vk S.kp (Nat.le_trans ok.kp (by decide)) h.keepArg ok.n0 ok.n1 (Nat.le_trans ok.ws (by decide)))
      clear h ok e0
      go_enter Tryd.func37, Tryd.ntmps37
      go_wp2_with (go_at_call 33; refine HF.out.mono ?_)
      rintro e w1 ⟨rfl, h1, f1⟩
      have H1 := Lib.hid h1; have F1 := Lib.hid f1
      clear h1 f1
      go_wp2_with fail
      go_ret
      exact ⟨rfl, _, _, H1.out, fun x hx => by (cases hx), F1.out⟩
    · have e0 : begS S = (true, { S with done := S.done + 1, left := max (S.left - 1) 0 }) := by unfold begS; rw [if_neg (by rw [ho]; decide), if_neg hl]
      rw [e0]
      have hd := h.d
      rw [ho] at hd
      refine (begin_go2 g _ _ _ _ _ _ w hd hl ok.l0 ok.l1 (Int.natCast_nonneg _) (by have := ok.done; omega)).mono ?_
      rintro e w1 ⟨rfl, h1, hb, hs, hz⟩
      have hK : Kept2 B g g w w1 := ⟨hb.mono h.b1, Nat.le_of_eq hz.symm, fun b _ h1 _ => hs b h1⟩
      obtain ⟨r1, r2, r3, r4, r5⟩ := h.disk hK
      refine ⟨rfl, vw, vk, ⟨?_, r2, r3, h.ld, h.lc, r4, h.wb, r5, h.ne, h.b1, h.b2, h.b3⟩, fun x hx => hx, r1⟩
      have : DiskAt g (.slice (some ⟨gd, 0, none⟩) n cd) (.slice (some ⟨gc, 0, none⟩) n cc) vw ((S.done + 1 : Nat) : Int) (max (S.left - 1) 0) vk false w1 := by rw [Int.natCast_succ]; exact h1
      exact ho ▸ this
  · have e0 : begS S = (false, S) := by unfold begS; rw [if_pos ho]
    rw [e0]
    have hd := h.d
    rw [ho] at hd
    refine (begin_off g _ _ _ _ _ _ w hd).mono ?_
    rintro e w1 ⟨rfl, rfl⟩
    exact ⟨rfl, vw, vk, h, fun x hx => hx, FrD.refl _ _ _ _ _ _⟩
/-- Sync. -/
def syncS (S : DS) : Int × DS := if (begS S).1 = true then (0, { (begS S).2 with dur := putW (begS S).2.dur (begS S).2.ws, ws := [] }) else (7, (begS S).2)
theorem begS_ws (S : DS) : (begS S).2.ws.length ≤ S.ws.length := by
  unfold begS
  split
  · exact Nat.le_refl _
  · split
    · exact Nat.zero_le _
    · exact Nat.le_refl _
theorem SyncD (h : IsD B n g gd gc cd cc vw vk S w) (ok : OkS n S) :
    Calls Tryd.prog 66 #[.pointer (some ⟨g, 0, none⟩)] w fun e w' => e = .returned (.int .i64 (syncS S).1) ∧ ∃ vw' vk', IsD B n g gd gc cd cc vw' vk' (syncS S).2 w' ∧ (∀ x, vw'.ownBlock = some x → vw.ownBlock = some x) ∧ FrD B g gd gc vw w w' := by
  have HB := Lib.hid (beginD h ok)
  have hws := Lib.hid (Nat.le_trans (begS_ws S) ok.ws)
  have hn1 := Lib.hid ok.n1
  clear h ok
  cases hb : (begS S).1
  · have e0 : syncS S = (7, (begS S).2) := by unfold syncS; rw [if_neg (by rw [hb]; decide)]
    rw [e0]
    rw [hb] at HB
    go_enter Tryd.func66, Tryd.ntmps66
    go_wp2_with (go_at_call 37; refine HB.out.mono ?_)
    rintro e w1 ⟨rfl, hr⟩
    have HR := Lib.hid hr
    clear hr
    go_wp2_with fail
    go_ret
    exact ⟨rfl, HR.out⟩
  · have e0 : syncS S = (0, { (begS S).2 with dur := putW (begS S).2.dur (begS S).2.ws, ws := [] }) := by unfold syncS; rw [if_pos hb]
    rw [e0]
    rw [hb] at HB
    go_enter Tryd.func66, Tryd.ntmps66
    go_wp2_with (go_at_call 37; refine HB.out.mono ?_)
    rintro e w1 rfl vw1 vk1 h1 hv1 f1
    have H1 := Lib.hid h1; have F1 := Lib.hid f1; have V1 := Lib.hid hv1
    clear h1 f1 hv1
    go_wp2_with (go_at_call 52; refine (settleD H1.out (Nat.le_trans hws.out (by decide)) hn1.out).mono ?_)
    rintro e w2 ⟨rfl, h2, f2⟩
    have H2 := Lib.hid h2; have F2 := Lib.hid (F1.out.trans f2 (fun x hx => .inl (V1.out x hx)))
    clear h2 f2
    go_wp2_with fail
    go_ret
    exact ⟨rfl, _, _, H2.out, fun x hx => by (cases hx), F2.out⟩
/-- Crash. -/
def crashS (zs : List Int) (S : DS) : DS := { failS zs S with off := false }
theorem CrashD (h : IsD B n g gd gc cd cc vw vk S w) (ok : OkS n S) (ka : Value) (zs : List Int) (hz : zs.length ≤ 100000000000000) (hk : KeepArg ka zs vw w) :
    Calls Tryd.prog 10 #[.pointer (some ⟨g, 0, none⟩), ka] w fun e w' => e = .returned (.tuple #[]) ∧ IsD B n g gd gc cd cc (.slice none 0 0) (.slice none 0 0) (crashS zs S) w' ∧ FrD B g gd gc vw w w' := by
  have HF := Lib.hid (failD h ka zs hz hk ok.n0 ok.n1 (Nat.le_trans ok.ws (by decide)))
  clear h ok hk
  go_enter Tryd.func10, Tryd.ntmps10
  go_wp2_with (go_at_call 33; refine HF.out.mono ?_)
  rintro e w1 ⟨rfl, h1, f1⟩
  have H1 := Lib.hid h1; have F1 := Lib.hid f1
  clear h1 f1 HF
  go_wp2_with (go_at_call 34; refine (On2 (B := B) _ _ _ _ _ _ _ H1.out.d H1.out.b1).mono ?_)
  rintro e w2 ⟨rfl, h2, hK⟩
  obtain ⟨r1, r2, r3, r4, r5⟩ := H1.out.disk hK
  have hend := Lib.hid (show IsD B n g gd gc cd cc (.slice none 0 0) (.slice none 0 0) (crashS zs S) w2 ∧ FrD B g gd gc vw w w2 from ⟨⟨h2, r2, r3, H1.out.ld, H1.out.lc, r4, H1.out.wb, World.ownsRow_nil _ _ _ _, H1.out.ne, H1.out.b1, H1.out.b2, H1.out.b3⟩, F1.out.trans r1 (fun x hx => by (cases hx))⟩)
  clear h2 hK r1 r2 r3 r4 r5
  go_wp2_with fail
  go_end0
  exact ⟨rfl, hend.out.1, hend.out.2⟩
end Go.Proofs.YtbpaiiljhdohfaaDoor
