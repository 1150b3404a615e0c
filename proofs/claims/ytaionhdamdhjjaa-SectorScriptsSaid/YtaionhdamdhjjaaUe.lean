/- The document's disk: Put, Read. -/
import Derived.Test.YtaionhdamdhjjaaUd
import Derived.Deep.AppendLies
import Derived.Deep.RegionLaw
namespace Go.Proofs.Ytaionhdamdhjjaa
open Go.RowKit
variable {B n g gl cl : Nat} {vw vk : Value} {S : DS} {w : World}

theorem IsR.setW (h : IsR B n g gl cl vw vk S w) {w1 : World} (vw' : Value) (ws' : List (Nat × ByteArray)) (hb : ∀ x ∈ ws', x.1 < n) (ho : w1.ownsRow B 65 2 vw' ws'.length (flat ws')) (hg : w.grownBy w1 vw.ownBlock) :
    IsR B n g gl cl vw' vk { S with ws := ws' } (w1.setCell ⟨g, 1, none⟩ vw') ∧ FrR B g gl vw w (w1.setCell ⟨g, 1, none⟩ vw') := by
  have hd1 : RefAt g (.slice (some ⟨gl, 0, none⟩) n cl) vw S.left vk S.off S.done w1 := (hg.block g h.d.lt (fun e => (h.wg e.symm).1 rfl)).trans h.d
  have hb2 : ∀ b, b ≠ g → (w1.setCell ⟨g, 1, none⟩ vw').heap[b]? = w1.heap[b]? := fun b hb => Below.heap_setCell _ _ _ _ hb
  have hz : (w1.setCell ⟨g, 1, none⟩ vw').heap.size = w1.heap.size := by show (w1.heap.modify g _).size = _; rw [Array.size_modify]
  have hk : ∀ b, b < w.heap.size → b ≠ g → vw.ownBlock ≠ some b → (w1.setCell ⟨g, 1, none⟩ vw').heap[b]? = w.heap[b]? := fun b hb h1 h2 => (hb2 b h1).trans (hg.block b hb (fun e => h2 e.symm))
  refine ⟨⟨hd1.set 1 vw', h.rd.same (hk gl h.rd.lt h.glg fun e => (h.wg e).2 rfl), h.ld, own_same ho fun b e => hb2 b (own_ne ho e (show w1.heap[g]? = _ from hd1) (by decide)), hb, h.b1, h.b2⟩, ?_⟩
  refine ⟨?_, by rw [hz]; exact hg.size, fun b hb h1 _ h4 => hk b hb h1 h4⟩
  have hB1 : Below B w w1 := ⟨hg.os, hg.tape, hg.output, hg.size, fun b hb => hg.block b (Nat.lt_of_lt_of_le hb (Nat.le_trans h.b1 (Nat.le_of_lt h.d.lt))) (fun e => absurd (h.vw.lt b e.symm).1 (by omega))⟩
  exact hB1.setCell (p := ⟨g, 1, none⟩) h.b1 _
theorem info_rwr : (Try.prog.info? 65).map (fun i => (i.zero, i.size, i.bytes)) = some (some (.agg #[.int .i64 0, .string ⟨#[]⟩]), 2, 24) := by kernel_rfl
theorem RPut_bad (h : IsR B n g gl cl vw vk S w) (i : Int) (s : ByteArray) (hi : ¬ (0 ≤ i ∧ i < n ∧ s.size ≤ 512)) :
    Calls Try.prog 17 #[.pointer (some ⟨g, 0, none⟩), .int .i64 i, .string s] w fun e w' => e = .returned (.int .i64 1) ∧ w' = w := by
  have c0 := h.d.c0
  clear h
  by_cases h0 : i < 0
  · go_enter Try.func17, Try.ntmps17
    go_wp2_with fail
    go_ret
    exact ⟨rfl, rfl⟩
  · by_cases h1 : (n : Int) ≤ i
    · have h0' : 0 ≤ i := by omega
      go_enter Try.func17, Try.ntmps17
      go_wp2_with fail
      go_ret
      exact ⟨rfl, rfl⟩
    · have h0' : 0 ≤ i := by omega
      have h1' : i < n := by omega
      have h2 : (512 : Int) < s.size := by omega
      clear hi
      go_enter Try.func17, Try.ntmps17
      go_wp2_with fail
      go_ret
      exact ⟨rfl, rfl⟩
set_option maxHeartbeats 2000000 in
set_option maxRecDepth 100000 in
theorem RPut (h : IsR B n g gl cl vw vk S w) (ok : OkS n S) (hk : S.left = 1 → ∀ w', Below B w w' → IsInts w' vk S.kp) (k : Nat) (s : ByteArray) (hkn : k < n) (hs : s.size ≤ 512) :
    Calls Try.prog 17 #[.pointer (some ⟨g, 0, none⟩), .int .i64 k, .string s] w fun e w' => e = .returned (.int .i64 (writeS k s S).1) ∧ ∃ vw', IsR B n g gl cl vw' vk (writeS k s S).2 w' ∧ (∀ x, vw'.ownBlock = some x → vw.ownBlock = some x ∨ w.heap.size ≤ x) ∧ FrR B g gl vw w w' := by
  have HB := Lib.hid (RStep h ok hk)
  have hws := Lib.hid (Nat.le_trans (begS_ws S) ok.ws)
  have c0 := h.d.c0
  have hki : (k : Int) < n := by omega
  have hk0 : ¬ ((n : Int) ≤ k) := by omega
  have hsi : ¬ ((512 : Int) < s.size) := by omega
  clear h ok hk
  cases hb : (begS S).1
  · have e0 : writeS k s S = (7, (begS S).2) := by unfold writeS; rw [if_neg (by rw [hb]; decide)]
    rw [e0]
    rw [hb, if_neg (by decide)] at HB
    go_enter Try.func17, Try.ntmps17
    go_wp2_with (go_at_call 28; refine HB.out.mono ?_)
    first | rintro e w1 rfl vw' h1 h2 h3 | rintro e w1 ⟨rfl, vw', h1, h2, h3⟩
    have HR := Lib.hid (And.intro h1 (And.intro h2 h3))
    clear h1 h2 h3
    go_wp2_with fail
    go_ret
    obtain ⟨h1, h2, h3⟩ := HR.out
    exact ⟨rfl, _, h1, fun x hx => .inl (h2 x hx), h3⟩
  · have e0 : writeS k s S = (0, { (begS S).2 with cur := (begS S).2.cur.set k (padB s), ws := (begS S).2.ws ++ [(k, padB s)] }) := by unfold writeS; rw [if_pos hb]
    rw [e0]
    rw [hb, if_pos rfl] at HB
    obtain ⟨T, hT⟩ : ∃ T, (begS S).2 = T := ⟨_, rfl⟩
    rw [hT] at HB hws ⊢
    clear hT e0
    obtain ⟨i0, hi0, hz0, hs0, hy0⟩ := info_parts info_rwr
    go_enter Try.func17, Try.ntmps17
    go_wp2_with (go_at_call 28; refine HB.out.mono ?_)
    first | rintro e w1 rfl vw1 h1 hv1 f1 | rintro e w1 ⟨rfl, vw1, h1, hv1, f1⟩
    obtain ⟨ao, am, ac, rfl⟩ : ∃ a m c, vw1 = .slice a m c := by
      rcases h1.vw.2 with ⟨h2, _⟩ | ⟨_, _, _, h2, _⟩
      · exact ⟨_, _, _, h2⟩
      · exact ⟨_, _, _, h2⟩
    have c1 := h1.d.c1
    have HI := Lib.hid h1; have HV1 := Lib.hid hv1; have HF1 := Lib.hid f1; have HS := Lib.hid hs
    have HMX : Hid (T.ws.length + 1 ≤ maxLen) := Lib.hid (by have := hws.out; unfold maxLen; omega)
    have HBY : Hid ((T.ws.length + 1) * 24 ≤ 140737488355328) := Lib.hid (by have := hws.out; omega)
    clear h1 hv1 f1 HB c0
    go_wp2_with fail
    go_region_law (first
      | (refine step_append_lies (wp.alloc (.cells #[.int .i64 k, .string (padB s)] 65)) rfl (.tmp 32) (.tmp 37) 37 rfl B 65 i0 _ 2 24 Try.underlying37 hi0 hz0 hs0 hy0 rfl (by decide) (.slice ao am ac) T.ws.length (flat T.ws) (by simp [Act.eval, Act.put]) HIa.out.vw ⟨wp.heap.size, 0, none⟩ 1 1 [Value.int .i64 k, Value.string (padB s)] (by simp [Act.eval, Act.put]) rfl HN2.out (by intro u hu; simp at hu; rcases hu with rfl | rfl <;> rfl) (by decide) HMX.out HBY.out HBS.out (wp.heap.size + 1) HW0.out ?_; intro gx cap w3 hown hgrow hat hlt; have hd3 := hgrow.block g HIa.out.d.lt (fun e => (HIa.out.wg e.symm).1 rfl); have hd3' : RefAt g _ _ _ vk _ _ w3 := hd3.trans HIa.out.d; have c1' := hd3'.c1; have f1' := hd3'.free 1; have HO := Lib.hid hown; have HG := Lib.hid hgrow; have HA := Lib.hid hat; clear hd3 hd3' hown hgrow hat hlt)
      | (go_simp; go_at_call 25; refine (Full_any s _ HS.out).mono ?_; rintro e wp ⟨rfl, hb⟩; have hp : IsR B n g gl cl (.slice ao am ac) vk T wp := (HI.out.keep (w' := w1.drew) (fun _ _ => rfl)).below hb; have hpa : IsR B n g gl cl (.slice ao am ac) vk T (wp.alloc (.cells #[.int .i64 k, .string (padB s)] 65)) := hp.below ((Below.refl _ _).alloc (Nat.le_refl _) _); have c1p := hp.d.c1; have c1a := hpa.d.c1; have HIa := Lib.hid hpa; have HBp := Lib.hid hb; have HN2 := Lib.hid (World.news_of_block (heap_alloc_new wp (.cells #[.int .i64 k, .string (padB s)] 65))); have HW0 : Hid ((wp.alloc (.cells #[.int .i64 k, .string (padB s)] 65)).heap.size = wp.heap.size + 1) := Lib.hid (by show (wp.heap.push _).size = _; simp); have HBS : Hid (B ≤ (wp.alloc (.cells #[.int .i64 k, .string (padB s)] 65)).heap.size) := Lib.hid (by rw [HW0.out]; have := (hp.lts (.inl rfl)).1; have := hp.d.lt; omega); clear hp hpa hb))
    all_goals
      go_wp2_with fail
      go_ret
      obtain ⟨e1, e2⟩ := HIa.out.setW (.slice (some ⟨gx, 0, none⟩) (T.ws.length + 1) cap) (T.ws ++ [(k, padB s)]) (fun x hx => by
        rcases List.mem_append.1 hx with h1 | h1
        · exact HIa.out.wb x h1
        · simp at h1; rw [h1]; exact hkn) (by have := HO.out; rw [List.length_append, flat_append]; exact this) HG.out
      have hsz1 : w1.heap.size ≤ wp.heap.size := HBp.out.size
      refine ⟨rfl, _, ⟨e1.d, e1.rd, e1.ld, e1.vw, e1.wb, e1.b1, e1.b2⟩, fun x hx => ?_, ?_⟩
      · have hxg : gx = x := by simpa [Value.ownBlock] using hx
        subst hxg
        rcases HA.out with h1 | h1
        · exact .inl (HV1.out _ h1)
        · exact .inr (by have := HF1.out.size; omega)
      · have F2 : FrR B g gl (.slice ao am ac) w1 (wp.alloc (.cells #[.int .i64 k, .string (padB s)] 65)) :=
          FrR.undrew (FrR.of_below (Nat.le_trans HI.out.b1 (Nat.le_of_lt HI.out.d.lt)) (HBp.out.alloc HBp.out.size _))
        exact (HF1.out.trans F2 (fun x hx => .inl (HV1.out x hx))).trans e2 (fun x hx => .inl (HV1.out x hx))
end Go.Proofs.Ytaionhdamdhjjaa
