/- The document's disk: Spoil. -/
import Derived.Test.YtaionhdamdhjjaaUf
namespace Go.Proofs.Ytaionhdamdhjjaa
open Go.RowKit
variable {B n g gl cl : Nat} {vw vk : Value} {S : DS} {w : World}

def spoilS (k : Nat) (s : ByteArray) (S : DS) : DS := { S with dur := S.dur.set k (padB s), cur := S.cur.set k (padB s), ws := S.ws.filter fun p => !(p.1 == k) }
theorem IsR.lasts (h : IsR B n g gl cl vw vk S w) (k : Nat) (s : ByteArray) : IsR B n g gl cl vw vk { S with dur := S.dur.set k s } (w.setCell ⟨gl, k, none⟩ (.string s)) ∧ FrR B g gl vw w (w.setCell ⟨gl, k, none⟩ (.string s)) := by
  have hb : ∀ b, b ≠ gl → (w.setCell ⟨gl, k, none⟩ (.string s)).heap[b]? = w.heap[b]? := fun b hb => Below.heap_setCell _ _ _ _ hb
  have hz : (w.setCell ⟨gl, k, none⟩ (.string s)).heap.size = w.heap.size := by show (w.heap.modify gl _).size = _; rw [Array.size_modify]
  exact ⟨⟨(hb g (Ne.symm h.glg)).trans h.d, h.rd.set k s, (List.length_set ..).trans h.ld, own_same h.vw fun b e => hb b (h.wg e).2, h.wb, h.b1, h.b2⟩,
    ⟨(Below.refl _ _).setCell (p := ⟨gl, k, none⟩) h.b2 _, Nat.le_of_eq hz.symm, fun b _ _ h3 _ => hb b h3⟩⟩
theorem RSpoil_bad (h : IsR B n g gl cl vw vk S w) (i : Int) (s : ByteArray) (hi : ¬ (0 ≤ i ∧ i < n ∧ s.size ≤ 512)) :
    Calls Try.prog 15 #[.pointer (some ⟨g, 0, none⟩), .int .i64 i, .string s] w fun e w' => e = .returned (.int .i64 1) ∧ w' = w := by
  have c0 := h.d.c0
  clear h
  by_cases h0 : i < 0
  · go_enter Try.func15, Try.ntmps15
    go_wp2_with fail
    go_ret
    exact ⟨rfl, rfl⟩
  · by_cases h1 : (n : Int) ≤ i
    · have h0' : 0 ≤ i := by omega
      go_enter Try.func15, Try.ntmps15
      go_wp2_with fail
      go_ret
      exact ⟨rfl, rfl⟩
    · have h0' : 0 ≤ i := by omega
      have h1' : i < n := by omega
      have h2 : (512 : Int) < s.size := by omega
      clear hi
      go_enter Try.func15, Try.ntmps15
      go_wp2_with fail
      go_ret
      exact ⟨rfl, rfl⟩
def leftW (ws : List (Nat × ByteArray)) (k j : Nat) : List (Nat × ByteArray) := (ws.take j).filter fun p => !(p.1 == k)
theorem leftW_succ (ws : List (Nat × ByteArray)) (k j : Nat) (p : Nat × ByteArray) (h : ws[j]? = some p) : leftW ws k (j + 1) = leftW ws k j ++ if p.1 = k then [] else [p] := by
  unfold leftW
  rw [List.take_add_one, h, Option.toList_some, List.filter_append]
  by_cases e : p.1 = k
  · simp [e]
  · simp [e]
def RpS (ws : List (Nat × ByteArray)) (k m : Nat) (w2 : World) (kv lv : Value) (wr : World) : Prop :=
  ∃ (j : Nat) (lo : Option Addr) (lc : Nat), j ≤ m ∧ kv = .int .i64 j ∧ lv = .slice lo (leftW ws k j).length lc ∧ wr.ownsRow w2.heap.size 65 2 (.slice lo (leftW ws k j).length lc) (leftW ws k j).length (flat (leftW ws k j)) ∧ Below w2.heap.size w2 wr
set_option maxHeartbeats 2000000 in
set_option maxRecDepth 100000 in
theorem RSpoil (h : IsR B n g gl cl vw vk S w) (hm : S.ws.length ≤ 10000000) (k : Nat) (s : ByteArray) (hkn : k < n) (hs : s.size ≤ 512) :
    Calls Try.prog 15 #[.pointer (some ⟨g, 0, none⟩), .int .i64 k, .string s] w fun e w' => e = .returned (.int .i64 0) ∧ ∃ vw', IsR B n g gl cl vw' vk (spoilS k s S) w' ∧ (∀ x, vw'.ownBlock = some x → vw.ownBlock = some x ∨ w.heap.size ≤ x) ∧ FrR B g gl vw w w' := by
  have c0 := h.d.c0
  have hki : (k : Int) < n := by omega
  have hk0 : ¬ ((n : Int) ≤ k) := by omega
  have hsi : ¬ ((512 : Int) < s.size) := by omega
  obtain ⟨x, hx⟩ : ∃ x, S.dur[k]? = some x := ⟨_, List.getElem?_eq_getElem (by rw [h.ld]; exact hkn)⟩
  obtain ⟨i0, hi0, hz0, hs0, hy0⟩ := info_parts info_rwr
  have hdr : IsR B n g gl cl vw vk S w.drew := h.keep fun _ _ => rfl
  have HR := Lib.hid hdr; have HX := Lib.hid hx; have HS := Lib.hid hs; have HI := Lib.hid h; have HMM := Lib.hid hm
  clear hdr hx h hs hm
  go_enter Try.func15, Try.ntmps15
  go_wp2_with fail
  go_cut [31] (fun s5 wx => s5 = .string (padB s) ∧ IsR B n g gl cl vw vk { S with dur := S.dur.set k (padB s) } wx ∧ FrR B g gl vw w wx)
  case first =>
    go_region_with (go_at_call 25; refine (Full_any s _ HS.out).mono ?_; rintro e wp ⟨rfl, hb⟩; have hp := HR.out.below hb; have c0p := hp.d.c0; have e1 := hp.rd.cell k x HX.out; have ff := hp.rd.free k; have HP := Lib.hid hp; have HBp := Lib.hid hb; clear hp hb)
    all_goals go_wp2_with fail
    all_goals go_meet
    all_goals exact ⟨rfl, (HP.out.lasts k _).1, (FrR.undrew (FrR.of_below (Nat.le_trans HI.out.b1 (Nat.le_of_lt HI.out.d.lt)) HBp.out)).trans (HP.out.lasts k _).2 (fun x hx => .inl hx)⟩
  case rest =>
    obtain ⟨rfl, hI, hF⟩ := hcut
    obtain ⟨o, cw, hvw, hcell⟩ := hI.wr
    obtain ⟨m, hmm⟩ : ∃ m, S.ws.length = m := ⟨_, rfl⟩
    have hmi : (m : Int) ≤ 10000000 := by have := HMM.out; omega
    have c1 : wc.cell? ⟨g, 1, none⟩ = some (.slice o m cw) := by rw [hI.d.c1, hvw, ← hmm]
    have HJ := Lib.hid hI; have HF := Lib.hid hF; have HC := Lib.hid hcell; have HM := Lib.hid hmm; have HVW := Lib.hid (show vw = .slice o m cw from by rw [hvw, ← hmm])
    have hS : Hid (RpS S.ws k m wc (.int .i64 0) (.slice none 0 0) wc) := Lib.hid ⟨0, none, 0, Nat.zero_le _, rfl, rfl, World.ownsRow_nil _ _ _ _, Below.refl _ _⟩
    clear hI hF hcell hmm hvw c0
    go_wp2_with fail
    clear c1
    go_loopw [8, 7] (fun kv lv wr => RpS S.ws k m wc kv lv wr) (fun kv _ _ => m - (intOf kv).toNat)
    case atStart => exact hS.out
    case round =>
      obtain ⟨j, lo, lc, hj, rfl, rfl, how, hbl⟩ := hrel
      have hJr := HJ.out.below hbl
      have c1 : wr.cell? ⟨g, 1, none⟩ = some (.slice o m cw) := by rw [hJr.d.c1, HVW.out]
      obtain ⟨N, hN⟩ : ∃ N, (leftW S.ws k j).length = N := ⟨_, rfl⟩
      rw [hN] at how ⊢
      have hNj : N ≤ j := by
        rw [← hN]
        unfold leftW
        exact Nat.le_trans (List.length_filter_le _ _) (by rw [List.length_take]; omega)
      by_cases hlt : j < m
      · have hji : (j : Int) < m := by omega
        have hj9 : (j : Int) ≤ 10000000 := by omega
        obtain ⟨p, hp⟩ : ∃ p, S.ws[j]? = some p := ⟨_, List.getElem?_eq_getElem (by rw [HM.out]; exact hlt)⟩
        obtain ⟨gw, hgw, q1, q2, q3, d0', d1'⟩ := HC.out j p hp
        have d0 := cell_below hbl d0'
        have d1 := cell_below hbl d1'
        subst hgw
        have hnx := leftW_succ S.ws k j p hp
        obtain ⟨pi, ps⟩ := p
        have HO := Lib.hid how; have HBL := Lib.hid hbl; have HNX := Lib.hid hnx; have HN := Lib.hid hN; have HJR := Lib.hid hJr
        clear how hbl hnx hp d0' d1' hN hJr
        by_cases e : pi = k
        · have hpb : ((pi : Int) == k) = true := by rw [e]; exact beq_self_eq_true _
          have hst : Hid (RpS S.ws k m wc (.int .i64 ((j : Int) + 1)) (.slice lo N lc) wr) := Lib.hid ⟨j + 1, lo, lc, by omega, by rw [Int.natCast_succ], by rw [HNX.out, if_pos e, List.append_nil, HN.out], by rw [HNX.out, if_pos e, List.append_nil, HN.out]; exact HO.out, HBL.out⟩
          subst e
          go_wp2_with fail
          exact ⟨hst.out, by simp [intOf]; omega⟩
        · have hpe : ¬ (pi : Int) = k := by omega
          have hpb : ((pi : Int) == k) = false := beq_eq_false_iff_ne.2 hpe
          have HOa : Hid ((wr.alloc (.cells #[.int .i64 pi, .string ps] 65)).ownsRow wc.heap.size 65 2 (.slice lo N lc) N (flat (leftW S.ws k j))) := Lib.hid (HO.out.alloc _)
          have HN2 := Lib.hid (World.news_of_block (heap_alloc_new wr (.cells #[.int .i64 pi, .string ps] 65)))
          have HMX : Hid (N + 1 ≤ maxLen) := Lib.hid (by unfold maxLen; omega)
          have HBY : Hid ((N + 1) * 24 ≤ 140737488355328) := Lib.hid (by omega)
          have HBS : Hid (wc.heap.size ≤ (wr.alloc (.cells #[.int .i64 pi, .string ps] 65)).heap.size) := Lib.hid (by show _ ≤ (wr.heap.push _).size; simp; have := HBL.out.size; omega)
          have HST : Hid (∀ gx capx w6, w6.ownsRow wc.heap.size 65 2 (.slice (some ⟨gx, 0, none⟩) (N + 1) capx) (N + 1) (flat (leftW S.ws k j) ++ [Value.int .i64 pi, Value.string ps]) → (wr.alloc (.cells #[.int .i64 pi, .string ps] 65)).grownBy w6 (Value.slice lo N lc).ownBlock → RpS S.ws k m wc (.int .i64 ((j : Int) + 1)) (.slice (some ⟨gx, 0, none⟩) (N + 1) capx) w6) := Lib.hid (fun gx capx w6 ho hg => by
            have hl : (leftW S.ws k (j + 1)).length = N + 1 := by rw [HNX.out, if_neg e, List.length_append, HN.out]; rfl
            refine ⟨j + 1, some ⟨gx, 0, none⟩, capx, by omega, by rw [Int.natCast_succ], by rw [hl], ?_, ?_⟩
            · rw [hl, HNX.out, if_neg e, flat_append]; exact ho
            · exact (HBL.out.alloc HBL.out.size _).trans ⟨hg.os, hg.tape, hg.output, hg.size, fun b hb => hg.block b (Nat.lt_of_lt_of_le hb HBS.out) (fun e2 => absurd (HO.out.lt b e2.symm).1 (by omega))⟩)
          clear hpb
          have hpb : ((pi : Int) == k) = false := beq_eq_false_iff_ne.2 hpe
          go_wp2_with (at_builtin; refine wpList_append_lies _ rfl _ _ 37 rfl wc.heap.size 65 i0 _ 2 24 Try.underlying37 hi0 hz0 hs0 hy0 rfl (by decide) (.slice lo N lc) N _ rfl HOa.out ⟨wr.heap.size, 0, none⟩ 1 1 [Value.int .i64 pi, Value.string ps] rfl rfl HN2.out (by intro u hu; simp at hu; rcases hu with rfl | rfl <;> rfl) (by decide) HMX.out HBY.out HBS.out _ rfl ?_; intro gx capx w6 hown hgrow hat hlt; have T1 := Lib.hid (HST.out gx capx w6 hown hgrow); clear hown hgrow hat hlt)
          exact ⟨T1.out, by simp [intOf]; omega⟩
      · obtain rfl : j = m := by omega
        have hall : leftW S.ws k j = S.ws.filter fun p => !(p.1 == k) := by unfold leftW; rw [List.take_of_length_le (Nat.le_of_eq HM.out)]
        have f1 := hJr.d.free 1
        have hB : B ≤ wc.heap.size := Nat.le_trans HJ.out.b1 (Nat.le_of_lt HJ.out.d.lt)
        obtain ⟨e1, e2⟩ := HJ.out.setW (.slice lo N lc) (S.ws.filter fun p => !(p.1 == k)) (fun x hx => HJ.out.wb x (List.mem_filter.1 hx).1) (w1 := wr) (by
          rw [← hall, hN]
          exact ⟨how.1, how.2.imp id (fun ⟨g, cap, cur, h1, h2, h3⟩ => ⟨g, cap, cur, h1, Nat.le_trans hB h2, h3⟩)⟩) ⟨hbl.os, hbl.tape, hbl.output, hbl.size, fun b hb _ => hbl.block b hb⟩
        have hend := Lib.hid (And.intro e1 (HF.out.trans e2 (fun x hx => .inl hx)))
        have hov : Hid (∀ x, (Value.slice lo N lc).ownBlock = some x → vw.ownBlock = some x ∨ w.heap.size ≤ x) := Lib.hid (fun x hx => .inr (Nat.le_trans HF.out.size (how.lt x hx).1))
        clear e1 e2 how hbl hJr hall hN hB
        go_wp2_with fail
        go_ret
        exact ⟨rfl, _, ⟨hend.out.1.d, hend.out.1.rd, hend.out.1.ld, hend.out.1.vw, hend.out.1.wb, hend.out.1.b1, hend.out.1.b2⟩, hov.out, hend.out.2⟩
end Go.Proofs.Ytaionhdamdhjjaa
