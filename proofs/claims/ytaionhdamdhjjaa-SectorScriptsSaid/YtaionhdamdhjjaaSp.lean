/- Sector: Write over a disk as data. -/
import Derived.Test.YtaionhdamdhjjaaSo
import Derived.Deep.AppendLies
import Derived.Deep.RegionLaw
namespace Go.Proofs.Ytaionhdamdhjjaa
open Go.RowKit
variable {B n g gd gc cd cc : Nat} {vw vk : Value} {S : DS} {w : World}

/-- A write that fits. -/
def writeS (k : Nat) (s : ByteArray) (S : DS) : Int × DS := if (begS S).1 = true then (0, { (begS S).2 with cur := (begS S).2.cur.set k (padB s), ws := (begS S).2.ws ++ [(k, padB s)] }) else (7, (begS S).2)
/-- A disk of which a sector of the current row was written. -/
theorem IsD.current (h : IsD B n g gd gc cd cc vw vk S w) (k : Nat) (s : ByteArray) : IsD B n g gd gc cd cc vw vk { S with cur := S.cur.set k s } (w.setCell ⟨gc, k, none⟩ (.string s)) ∧ FrD B g gd gc vw w (w.setCell ⟨gc, k, none⟩ (.string s)) := by
  have hb : ∀ b, b ≠ gc → (w.setCell ⟨gc, k, none⟩ (.string s)).heap[b]? = w.heap[b]? := fun b hb => Below.heap_setCell _ _ _ _ hb
  have hz : (w.setCell ⟨gc, k, none⟩ (.string s)).heap.size = w.heap.size := by show (w.heap.modify gc _).size = _; rw [Array.size_modify]
  exact ⟨⟨(hb g (Ne.symm h.gcg)).trans h.d, h.rd.same (hb gd h.ne), h.rc.set k s, h.ld, (List.length_set ..).trans h.lc, own_same h.vw fun b e => hb b (h.wg e).2.2, h.wb, own_same h.vk fun b e => hb b (h.kg e).2.2.1, h.ne, h.b1, h.b2, h.b3⟩,
    ⟨(Below.refl _ _).setCell (p := ⟨gc, k, none⟩) h.b3 _, Nat.le_of_eq hz.symm, fun b _ _ _ h3 _ => hb b h3⟩⟩
theorem IsD.setW (h : IsD B n g gd gc cd cc vw vk S w) {w1 : World} (vw' : Value) (ws' : List (Nat × ByteArray)) (hb : ∀ x ∈ ws', x.1 < n) (ho : w1.ownsRow B 70 2 vw' ws'.length (flat ws')) (hg : w.grownBy w1 vw.ownBlock) (hat : ∀ x, vw'.ownBlock = some x → vw.ownBlock = some x ∨ w.heap.size ≤ x) :
    IsD B n g gd gc cd cc vw' vk { S with ws := ws' } (w1.setCell ⟨g, 2, none⟩ vw') ∧ FrD B g gd gc vw w (w1.setCell ⟨g, 2, none⟩ vw') := by
  have hd1 : DiskAt g (.slice (some ⟨gd, 0, none⟩) n cd) (.slice (some ⟨gc, 0, none⟩) n cc) vw S.done S.left vk S.off w1 := (hg.block g h.d.lt (fun e => (h.wg e.symm).1 rfl)).trans h.d
  have hb2 : ∀ b, b ≠ g → (w1.setCell ⟨g, 2, none⟩ vw').heap[b]? = w1.heap[b]? := fun b hb => Below.heap_setCell _ _ _ _ hb
  have hz : (w1.setCell ⟨g, 2, none⟩ vw').heap.size = w1.heap.size := by show (w1.heap.modify g _).size = _; rw [Array.size_modify]
  have hk : ∀ b, b < w.heap.size → b ≠ g → vw.ownBlock ≠ some b → (w1.setCell ⟨g, 2, none⟩ vw').heap[b]? = w.heap[b]? := fun b hb h1 h2 => (hb2 b h1).trans (hg.block b hb (fun e => h2 e.symm))
  refine ⟨⟨hd1.set 2 vw', h.rd.same (hk gd h.rd.lt h.gdg fun e => (h.wg e).2.1 rfl), h.rc.same (hk gc h.rc.lt h.gcg fun e => (h.wg e).2.2 rfl), h.ld, h.lc, own_same ho fun b e => hb2 b (own_ne ho e (show w1.heap[g]? = _ from hd1) (by decide)), hb, own_same h.vk fun b e => hk b (h.vk.lt b e).2 (h.kg e).1 (h.kg e).2.2.2, h.ne, h.b1, h.b2, h.b3⟩, ?_⟩
  refine ⟨?_, by rw [hz]; exact hg.size, fun b hb h1 _ _ h4 => hk b hb h1 h4⟩
  have hB1 : Below B w w1 := ⟨hg.os, hg.tape, hg.output, hg.size, fun b hb => hg.block b (Nat.lt_of_lt_of_le hb (Nat.le_trans h.b1 (Nat.le_of_lt h.d.lt))) (fun e => absurd (h.vw.lt b e.symm).1 (by omega))⟩
  exact hB1.setCell (p := ⟨g, 2, none⟩) h.b1 _
theorem FrD.of_below {w' : World} (hB : B ≤ g) (hg : g ≤ w.heap.size) (hb : Below w.heap.size w w') : FrD B g gd gc vw w w' := ⟨hb.mono (Nat.le_trans hB hg), hb.size, fun b hb' _ _ _ _ => hb.block b hb'⟩
theorem FrD.undrew {w' : World} (h : FrD B g gd gc vw w.drew w') : FrD B g gd gc vw w w' := ⟨⟨h.below.os, h.below.tape, h.below.output, h.below.size, h.below.block⟩, h.size, h.block⟩
theorem info_wr : (Try.prog.info? 70).map (fun i => (i.zero, i.size, i.bytes)) = some (some (.agg #[.int .i64 0, .string ⟨#[]⟩]), 2, 24) := by kernel_rfl
set_option maxHeartbeats 1000000 in
set_option maxRecDepth 100000 in
theorem WriteD (h : IsD B n g gd gc cd cc vw vk S w) (ok : OkS n S) (k : Nat) (s : ByteArray) (hk : k < n) (hs : s.size ≤ 512) :
    Calls Try.prog 16 #[.pointer (some ⟨g, 0, none⟩), .int .i64 k, .string s] w fun e w' => e = .returned (.int .i64 (writeS k s S).1) ∧ ∃ vw' vk', IsD B n g gd gc cd cc vw' vk' (writeS k s S).2 w' ∧ (∀ x, vw'.ownBlock = some x → vw.ownBlock = some x ∨ w.heap.size ≤ x) ∧ FrD B g gd gc vw w w' := by
  have HB := Lib.hid (beginD h ok)
  have hws := Lib.hid (Nat.le_trans (begS_ws S) ok.ws)
  have hsi : (s.size : Int) ≤ 512 := by omega
  have hki : (k : Int) < n := by omega
  have hd : ((decide (0 ≤ (k : Int)) && decide ((k : Int) < n)) && decide ((s.size : Int) ≤ 512)) = true := by simp [hki, hsi]
  have HD := Lib.hid (h.d)
  have HN := Lib.hid ok.n1
  clear h ok
  cases hb : (begS S).1
  · have e0 : writeS k s S = (7, (begS S).2) := by unfold writeS; rw [if_neg (by rw [hb]; decide)]
    rw [e0]
    rw [hb] at HB
    go_enter Try.func16, Try.ntmps16
    go_wp2_with (go_at_call 32; refine (fits_any g n cd _ _ _ _ _ _ _ k s w HD.out).mono ?_)
    rintro e w' ⟨rfl, rfl⟩
    rw [hd]
    go_wp2_with (go_at_call 26; refine HB.out.mono ?_)
    rintro e w1 ⟨rfl, hr⟩
    have HR := Lib.hid hr
    clear hr
    go_wp2_with fail
    go_ret
    obtain ⟨vw', vk', h1, h2, h3⟩ := HR.out
    exact ⟨rfl, _, _, h1, fun x hx => .inl (h2 x hx), h3⟩
  · have e0 : writeS k s S = (0, { (begS S).2 with cur := (begS S).2.cur.set k (padB s), ws := (begS S).2.ws ++ [(k, padB s)] }) := by unfold writeS; rw [if_pos hb]
    rw [e0]
    rw [hb] at HB
    obtain ⟨T, hT⟩ : ∃ T, (begS S).2 = T := ⟨_, rfl⟩
    rw [hT] at HB hws ⊢
    clear hT e0
    obtain ⟨i0, hi0, hz0, hs0, hy0⟩ := info_parts info_wr
    go_enter Try.func16, Try.ntmps16
    go_wp2_with (go_at_call 32; refine (fits_any g n cd _ _ _ _ _ _ _ k s w HD.out).mono ?_)
    rintro e w' ⟨rfl, rfl⟩
    rw [hd]
    go_wp2_with (go_at_call 26; refine HB.out.mono ?_)
    rintro e w1 ⟨rfl, vw1, vk1, h1, hv1, f1⟩
    obtain ⟨ao, am, ac, rfl⟩ : ∃ a m c, vw1 = .slice a m c := by
      rcases h1.vw.2 with ⟨h2, _⟩ | ⟨_, _, _, h2, _⟩
      · exact ⟨_, _, _, h2⟩
      · exact ⟨_, _, _, h2⟩
    have c1 := h1.d.c1
    obtain ⟨x, hx⟩ : ∃ x, T.cur[k]? = some x := ⟨_, List.getElem?_eq_getElem (by rw [h1.lc]; exact hk)⟩
    have hdr : IsD B n g gd gc cd cc (.slice ao am ac) vk1 T w1.drew := h1.keep fun _ _ => rfl
    have HR := Lib.hid hdr; have HV1 := Lib.hid hv1; have HF1 := Lib.hid f1; have HX := Lib.hid hx; have HS := Lib.hid hs
    clear hdr hv1 f1 hx h1 HB HD hd
    go_wp2_with fail
    go_cut [21] (fun s5 wx => s5 = .string (padB s) ∧ IsD B n g gd gc cd cc (.slice ao am ac) vk1 { T with cur := T.cur.set k (padB s) } wx ∧ FrD B g gd gc (.slice ao am ac) w1 wx)
    case first =>
      go_region_with (go_at_call 23; refine (pad_any s _ HS.out).mono ?_; rintro e wp ⟨rfl, hb⟩; have hp := HR.out.below hb; have c1p := hp.d.c1; have e1 := hp.rc.cell k x HX.out; have ff := hp.rc.free k; have HP := Lib.hid hp; have HBp := Lib.hid hb; clear hp hb)
      all_goals go_wp2_with fail
      all_goals go_meet
      all_goals exact ⟨rfl, (HP.out.current k _).1, (FrD.undrew (FrD.of_below (HR.out.lts (.inl rfl)).1 (Nat.le_of_lt HR.out.d.lt) HBp.out)).trans (HP.out.current k _).2 (fun x hx => .inl hx)⟩
    case rest =>
      obtain ⟨rfl, hI, hF⟩ := hcut
      have hIa : IsD B n g gd gc cd cc (.slice ao am ac) vk1 { T with cur := T.cur.set k (padB s) } ((wc.alloc (.cells #[.int .i64 k, .string (padB s)] 70)).drew) := hI.below (((Below.refl _ _).alloc (Nat.le_refl _) _).drew)
      have c2 := hI.d.c2
      have c1 := hI.d.c1
      have e1 := hI.rc.cell k (padB s) (by show (T.cur.set k (padB s))[k]? = _; rw [List.getElem?_set, if_pos rfl, if_pos (by have := HR.out.lc; omega)])
      have c2a : (wc.alloc (.cells #[.int .i64 k, .string (padB s)] 70)).cell? ⟨g, 2, none⟩ = some (.slice ao am ac) := (World.cell?_alloc_past _ _ _ hI.d.lt).trans c2
      have HN2 := Lib.hid (World.news_of_block (w := (wc.alloc (.cells #[.int .i64 k, .string (padB s)] 70)).drew) (show ((wc.alloc (.cells #[.int .i64 k, .string (padB s)] 70)).drew).heap[wc.heap.size]? = _ from heap_alloc_new wc (.cells #[.int .i64 k, .string (padB s)] 70)))
      have HIa := Lib.hid hIa
      have HW0 : Hid (((wc.alloc (.cells #[.int .i64 k, .string (padB s)] 70)).drew).heap.size = wc.heap.size + 1) := Lib.hid (by show (wc.heap.push _).size = _; simp)
      have HBS : Hid (B ≤ ((wc.alloc (.cells #[.int .i64 k, .string (padB s)] 70)).drew).heap.size) := Lib.hid (by rw [HW0.out]; have := (hI.lts (.inl rfl)).1; have := hI.d.lt; omega)
      have HI := Lib.hid hI; have HF := Lib.hid hF
      have HMX : Hid (T.ws.length + 1 ≤ maxLen) := Lib.hid (by have := hws.out; unfold maxLen; omega)
      have HBY : Hid ((T.ws.length + 1) * 24 ≤ 140737488355328) := Lib.hid (by have := hws.out; omega)
      clear hIa hI hF
      go_wp2_with fail
      go_region_law (refine step_append_lies ((wc.alloc (.cells #[.int .i64 k, .string (padB s)] 70)).drew) rfl (.tmp 27) (.tmp 37) 56 rfl B 70 i0 _ 2 24 Try.underlying56 hi0 hz0 hs0 hy0 rfl (by decide) (.slice ao am ac) T.ws.length (flat T.ws) (by simp [Act.eval, Act.put]) HIa.out.vw ⟨wc.heap.size, 0, none⟩ 1 1 [Value.int .i64 k, Value.string (padB s)] (by simp [Act.eval, Act.put]) rfl HN2.out (by intro u hu; simp at hu; rcases hu with rfl | rfl <;> rfl) (by decide) HMX.out HBY.out HBS.out (wc.heap.size + 1) HW0.out ?_; intro gx cap w3 hown hgrow hat hlt; have hd3 := hgrow.block g HIa.out.d.lt (fun e => (HIa.out.wg e.symm).1 rfl); have hd3' : DiskAt g _ _ (.slice ao am ac) _ _ vk1 _ w3 := hd3.trans HIa.out.d; have c2' := hd3'.c2; have f2' := hd3'.free 2; have HO := Lib.hid hown; have HG := Lib.hid hgrow; have HA := Lib.hid hat; clear hd3 hd3' hown hgrow hat hlt)
      all_goals
        go_wp2_with fail
        go_ret
        obtain ⟨e1, e2⟩ := HIa.out.setW (.slice (some ⟨gx, 0, none⟩) (T.ws.length + 1) cap) (T.ws ++ [(k, padB s)]) (fun x hx => by
          rcases List.mem_append.1 hx with h1 | h1
          · exact HIa.out.wb x h1
          · simp at h1; rw [h1]; exact hk) (by have := HO.out; rw [List.length_append, flat_append]; exact this) HG.out (fun x hx => by
          have hxg : gx = x := by simpa [Value.ownBlock] using hx
          subst hxg
          rcases HA.out with h1 | h1
          · exact .inl h1
          · exact .inr (by rw [HW0.out]; omega))
        refine ⟨rfl, _, _, e1, fun x hx => ?_, ?_⟩
        · have hxg : gx = x := by simpa [Value.ownBlock] using hx
          subst hxg
          rcases HA.out with h1 | h1
          · exact .inl (HV1.out _ h1)
          · exact .inr (by have := HF.out.size; have := HF1.out.size; omega)
        · have F1 := HF1.out.trans HF.out (fun x hx => .inl (HV1.out x hx))
          have F2 : FrD B g gd gc (.slice ao am ac) wc ((wc.alloc (.cells #[.int .i64 k, .string (padB s)] 70)).drew) := FrD.of_below HI.out.b1 (Nat.le_of_lt HI.out.d.lt) (((Below.refl _ _).alloc (Nat.le_refl _) _).drew)
          exact (F1.trans F2 (fun x hx => .inl (HV1.out x hx))).trans e2 (fun x hx => .inl (HV1.out x hx))
end Go.Proofs.Ytaionhdamdhjjaa
