/- Sector: Write over a disk as data. Sector: slices.Repeat of one string; New. Sector: New. Sector: calls on no disk; Read, Cut, On, Counts over a disk as data; bounds. Sector: a write that lasts (speaks). Sector: the law on no disk. Sector: two disks beside one another; short; a slice of acts. Sector: what was synced lasts: the walk. Sector: what was synced lasts: the walk. Sector: arguments that are lists of acts, of ints, of lists of ints. -/
import Derived.Test.YtbpaiiljhdohfaaDoorMb
import Derived.Deep.AppendLies
import Derived.Deep.RegionLaw
import Derived.StillTailTactics
import Derived.ProofKit
import Derived.SizedLaws
import Derived.OpenShut
import Derived.ShutString
import Derived.ChangeOld
import Derived.Deep.Slices
namespace Go.Proofs.YtbpaiiljhdohfaaDoor
open Go.RowKit
variable {B n g gd gc cd cc : Nat} {vw vk : Value} {S : DS} {w : World}

/-- A write that fits. -/
def writeS (k : Nat) (s : ByteArray) (S : DS) : Int × DS := if (begS S).1 = true then (0, { (begS S).2 with cur := (begS S).2.cur.set k (padB s), ws := (begS S).2.ws ++ [(k, padB s)] }) else (7, (begS S).2)
/-- A disk of which a sector of the current row was written. -/
theorem IsD.current (h : IsD B n g gd gc cd cc vw vk S w) (k : Nat) (s : ByteArray) : IsD B n g gd gc cd cc vw vk { S with cur := S.cur.set k s } (w.setCell ⟨gc, k, none⟩ (.string s)) ∧ FrD B g gd gc vw w (w.setCell ⟨gc, k, none⟩ (.string s)) := by
  have hb : ∀ b, b ≠ gc → (w.setCell ⟨gc, k, none⟩ (.string s)).heap[b]? = w.heap[b]? := fun b hb => Below.heap_setCell _ _ _ _ hb
  have hz : (w.setCell ⟨gc, k, none⟩ (.string s)).heap.size = w.heap.size := by show (w.heap.modify gc _).size = _; rw [Array.size_modify]
  exact ⟨⟨(hb g (Ne.symm h.gcg)).trans h.d, h.rd.same (hb gd h.ne), h.rc.set k s, h.ld, (List.length_set ..).trans h.lc, own_same h.vw fun b e => hb b (h.wg e).2.2, h.wb, own_same h.vk fun b e => hb b (h.kg e).2.2.1, h.ne, h.b1, h.b2, h.b3⟩,
    ⟨(Below.refl _ _).setCell (p := ⟨gc, k, none⟩) h.b3 _, Nat.le_of_eq hz.symm, fun b _ _ _ h3 _ => hb b h3⟩⟩
theorem IsD.setW (h : IsD B n g gd gc cd cc vw vk S w) {w1 : World} (vw' : Value) (ws' : List (Nat × ByteArray)) (hb : ∀ x ∈ ws', x.1 < n) (ho : w1.ownsRow B 92 2 vw' ws'.length (flat ws')) (hg : w.grownBy w1 vw.ownBlock) (hat : ∀ x, vw'.ownBlock = some x → vw.ownBlock = some x ∨ w.heap.size ≤ x) :
    IsD B n g gd gc cd cc vw' vk { S with ws := ws' } (w1.setCell ⟨g, 2, none⟩ vw') ∧ FrD B g gd gc vw w (w1.setCell ⟨g, 2, none⟩ vw') := by
  have hd1 : DiskAt g (.slice (some ⟨gd, 0, none⟩) n cd) (.slice (some ⟨gc, 0, none⟩) n cc) vw S.done S.left vk S.off w1 := (hg.block g h.d.lt (fun e => (h.wg e.symm).1 rfl)).trans h.d
  have hb2 : ∀ b, b ≠ g → (w1.setCell ⟨g, 2, none⟩ vw').heap[b]? = w1.heap[b]? := fun b hb => Below.heap_setCell _ _ _ _ hb
  have hz : (w1.setCell ⟨g, 2, none⟩ vw').heap.size = w1.heap.size := by show (w1.heap.modify g _).size = _; rw [Array.size_modify]
  have hk : ∀ b, b < w.heap.size → b ≠ g → vw.ownBlock ≠ some b → (w1.setCell ⟨g, 2, none⟩ vw').heap[b]? = w.heap[b]? := fun b hb h1 h2 => (hb2 b h1).trans (hg.block b hb (fun e => h2 e.symm))
  refine ⟨⟨hd1.set 2 vw', h.rd.same (hk gd h.rd.lt h.gdg fun e => (h.wg e).2.1 rfl), h.rc.same (hk gc h.rc.lt h.gcg fun e => (h.wg e).2.2 rfl), h.ld, h.lc, own_same ho fun b e => hb2 b (own_ne ho e (show w1.heap[g]? = _ from hd1) (by decide)), hb, own_same h.vk fun b e => hk b (h.vk.lt b e).2 (h.kg e).1 (h.kg e).2.2.2, h.ne, h.b1, h.b2, h.b3⟩, ?_⟩
  refine ⟨?_, by rw [hz]; exact hg.size, fun b hb h1 _ _ h4 => hk b hb h1 h4⟩
  have hB1 : Below B w w1 := ⟨hg.os, hg.tape, hg.output, hg.size, fun b hb => hg.block b (Nat.lt_of_lt_of_le hb (Nat.le_trans h.b1 (Nat.le_of_lt h.d.lt))) (fun e => absurd (h.vw.lt b e.symm).1 (by omega))⟩
  exact hB1.setCell (p := ⟨g, 2, none⟩) h.b1 _
theorem FrD.of_below {w' : World} (hB : B ≤ g) (hg : g ≤ w.heap.size) (hb : Below w.heap.size w w') : FrD B g gd gc vw w w' := ⟨hb.mono (Nat.le_trans hB hg), hb.size, fun b hb' _ _ _ _ => hb.block b hb'⟩
theorem FrD.undrew {w' : World} (h : FrD B g gd gc vw w.drew w') : FrD B g gd gc vw w w' := ⟨⟨h.below.os, h.below.tape, h.below.output, h.below.size, h.below.block⟩, h.size, h.block⟩
theorem info_wr : (Tryd.prog.info? 92).map (fun i => (i.zero, i.size, i.bytes)) = some (some (.agg #[.int .i64 0, .string ⟨#[]⟩]), 2, 24) := by kernel_rfl
set_option maxHeartbeats 1000000 in
set_option maxRecDepth 100000 in
theorem WriteD (h : IsD B n g gd gc cd cc vw vk S w) (ok : OkS n S) (k : Nat) (s : ByteArray) (hk : k < n) (hs : s.size ≤ 512) :
    Calls Tryd.prog 13 #[.pointer (some ⟨g, 0, none⟩), .int .i64 k, .string s] w fun e w' => e = .returned (.int .i64 (writeS k s S).1) ∧ ∃ vw' vk', IsD B n g gd gc cd cc vw' vk' (writeS k s S).2 w' ∧ (∀ x, vw'.ownBlock = some x → vw.ownBlock = some x ∨ w.heap.size ≤ x) ∧ FrD B g gd gc vw w w' := by
  have HB := Lib.hid (beginD h ok)
  have hws := Lib.hid (Nat.le_trans (begS_ws S) ok.ws)
  have hsi : (s.size : Int) ≤ 512 := by omega
  have hki : (k : Int) < n := by omega
  have hd : ((decide (0 ≤ (k : Int)) && decide ((k : Int) < n)) && decide ((s.size : Int) ≤ 512)) = true := by simp [hki, hsi]
  have HD := Lib.hid (h.d)
  have HN := Lib.hid ok.n1
  clear h ok
  cases hb : (begS S).1
  · have e0 : writeS k s S = (7, (begS S).2) := by unfold writeS; rw [if_neg (by rw [hb]; decide)]
    rw [e0]
    rw [hb] at HB
    go_enter Tryd.func13, Tryd.ntmps13
    go_wp2_with (go_at_call 36; refine (fits_any g n cd _ _ _ _ _ _ _ k s w HD.out).mono ?_)
    rintro e w' ⟨rfl, rfl⟩
    rw [hd]
    go_wp2_with (go_at_call 37; refine HB.out.mono ?_)
    rintro e w1 ⟨rfl, hr⟩
    have HR := Lib.hid hr
    clear hr
    go_wp2_with fail
    go_ret
    obtain ⟨vw', vk', h1, h2, h3⟩ := HR.out
    exact ⟨rfl, _, _, h1, fun x hx => .inl (h2 x hx), h3⟩
  · have e0 : writeS k s S = (0, { (begS S).2 with cur := (begS S).2.cur.set k (padB s), ws := (begS S).2.ws ++ [(k, padB s)] }) := by unfold writeS; rw [if_pos hb]
    rw [e0]
    rw [hb] at HB
    obtain ⟨T, hT⟩ : ∃ T, (begS S).2 = T := ⟨_, rfl⟩
    rw [hT] at HB hws ⊢
    clear hT e0
    obtain ⟨i0, hi0, hz0, hs0, hy0⟩ := info_parts info_wr
    go_enter Tryd.func13, Tryd.ntmps13
    go_wp2_with (go_at_call 36; refine (fits_any g n cd _ _ _ _ _ _ _ k s w HD.out).mono ?_)
    rintro e w' ⟨rfl, rfl⟩
    rw [hd]
    go_wp2_with (go_at_call 37; refine HB.out.mono ?_)
    rintro e w1 ⟨rfl, vw1, vk1, h1, hv1, f1⟩
    obtain ⟨ao, am, ac, rfl⟩ : ∃ a m c, vw1 = .slice a m c := by
      rcases h1.vw.2 with ⟨h2, _⟩ | ⟨_, _, _, h2, _⟩
      · exact ⟨_, _, _, h2⟩
      · exact ⟨_, _, _, h2⟩
    have c1 := h1.d.c1
    obtain ⟨x, hx⟩ : ∃ x, T.cur[k]? = some x := ⟨_, List.getElem?_eq_getElem (by rw [h1.lc]; exact hk)⟩
    have hdr : IsD B n g gd gc cd cc (.slice ao am ac) vk1 T w1.drew := h1.keep fun _ _ => rfl
    have HR := Lib.hid hdr; have HV1 := Lib.hid hv1; have HF1 := Lib.hid f1; have HX := Lib.hid hx; have HS := Lib.hid hs
    clear hdr hv1 f1 hx h1 HB HD hd
    go_wp2_with fail
    go_cut [21] (fun s5 wx => s5 = .string (padB s) ∧ IsD B n g gd gc cd cc (.slice ao am ac) vk1 { T with cur := T.cur.set k (padB s) } wx ∧ FrD B g gd gc (.slice ao am ac) w1 wx)
    case first =>
      go_region_with (go_at_call 21; refine (pad_any s _ HS.out).mono ?_; rintro e wp ⟨rfl, hb⟩; have hp := HR.out.below hb; have c1p := hp.d.c1; have e1 := hp.rc.cell k x HX.out; have ff := hp.rc.free k; have HP := Lib.hid hp; have HBp := Lib.hid hb; clear hp hb)
      all_goals go_wp2_with fail
      all_goals go_meet
      all_goals exact ⟨rfl, (HP.out.current k _).1, (FrD.undrew (FrD.of_below (HR.out.lts (.inl rfl)).1 (Nat.le_of_lt HR.out.d.lt) HBp.out)).trans (HP.out.current k _).2 (fun x hx => .inl hx)⟩
    case rest =>
      obtain ⟨rfl, hI, hF⟩ := hcut
      have hIa : IsD B n g gd gc cd cc (.slice ao am ac) vk1 { T with cur := T.cur.set k (padB s) } ((wc.alloc (.cells #[.int .i64 k, .string (padB s)] 92)).drew) := hI.below (((Below.refl _ _).alloc (Nat.le_refl _) _).drew)
      have c2 := hI.d.c2
      have c1 := hI.d.c1
      have e1 := hI.rc.cell k (padB s) (by show (T.cur.set k (padB s))[k]? = _; rw [List.getElem?_set, if_pos rfl, if_pos (by have := HR.out.lc; omega)])
      have c2a : (wc.alloc (.cells #[.int .i64 k, .string (padB s)] 92)).cell? ⟨g, 2, none⟩ = some (.slice ao am ac) := (World.cell?_alloc_past _ _ _ hI.d.lt).trans c2
      have HN2 := Lib.hid (World.news_of_block (w := (wc.alloc (.cells #[.int .i64 k, .string (padB s)] 92)).drew) (show ((wc.alloc (.cells #[.int .i64 k, .string (padB s)] 92)).drew).heap[wc.heap.size]? = _ from heap_alloc_new wc (.cells #[.int .i64 k, .string (padB s)] 92)))
      have HIa := Lib.hid hIa
      have HW0 : Hid (((wc.alloc (.cells #[.int .i64 k, .string (padB s)] 92)).drew).heap.size = wc.heap.size + 1) := Lib.hid (by show (wc.heap.push _).size = _; simp)
      have HBS : Hid (B ≤ ((wc.alloc (.cells #[.int .i64 k, .string (padB s)] 92)).drew).heap.size) := Lib.hid (by rw [HW0.out]; have := (hI.lts (.inl rfl)).1; have := hI.d.lt; omega)
      have HI := Lib.hid hI; have HF := Lib.hid hF
      have HMX : Hid (T.ws.length + 1 ≤ maxLen) := Lib.hid (by have := hws.out; unfold maxLen; omega)
      have HBY : Hid ((T.ws.length + 1) * 24 ≤ 140737488355328) := Lib.hid (by have := hws.out; omega)
      clear hIa hI hF
      go_wp2_with fail
      go_region_law (refine step_append_lies ((wc.alloc (.cells #[.int .i64 k, .string (padB s)] 92)).drew) rfl (.tmp 27) (.tmp 37) 68 rfl B 92 i0 _ 2 24 Tryd.underlying68 hi0 hz0 hs0 hy0 rfl (by decide) (.slice ao am ac) T.ws.length (flat T.ws) (by simp [Act.eval, Act.put]) HIa.out.vw ⟨wc.heap.size, 0, none⟩ 1 1 [Value.int .i64 k, Value.string (padB s)] (by simp [Act.eval, Act.put]) rfl HN2.out (by intro u hu; simp at hu; rcases hu with rfl | rfl <;> rfl) (by decide) HMX.out HBY.out HBS.out (wc.heap.size + 1) HW0.out ?_; intro gx cap w3 hown hgrow hat hlt; have hd3 := hgrow.block g HIa.out.d.lt (fun e => (HIa.out.wg e.symm).1 rfl); have hd3' : DiskAt g _ _ (.slice ao am ac) _ _ vk1 _ w3 := hd3.trans HIa.out.d; have c2' := hd3'.c2; have f2' := hd3'.free 2; have HO := Lib.hid hown; have HG := Lib.hid hgrow; have HA := Lib.hid hat; clear hd3 hd3' hown hgrow hat hlt)
      all_goals
        go_wp2_with fail
        go_ret
        obtain ⟨e1, e2⟩ := HIa.out.setW (.slice (some ⟨gx, 0, none⟩) (T.ws.length + 1) cap) (T.ws ++ [(k, padB s)]) (fun x hx => by
          rcases List.mem_append.1 hx with h1 | h1
          · exact HIa.out.wb x h1
          · simp at h1; rw [h1]; exact hk) (by have := HO.out; rw [List.length_append, flat_append]; exact this) HG.out (fun x hx => by
          have hxg : gx = x := by simpa [Value.ownBlock] using hx
          subst hxg
          rcases HA.out with h1 | h1
          · exact .inl h1
          · exact .inr (by rw [HW0.out]; omega))
        refine ⟨rfl, _, _, e1, fun x hx => ?_, ?_⟩
        · have hxg : gx = x := by simpa [Value.ownBlock] using hx
          subst hxg
          rcases HA.out with h1 | h1
          · exact .inl (HV1.out _ h1)
          · exact .inr (by have := HF.out.size; have := HF1.out.size; omega)
        · have F1 := HF1.out.trans HF.out (fun x hx => .inl (HV1.out x hx))
          have F2 : FrD B g gd gc (.slice ao am ac) wc ((wc.alloc (.cells #[.int .i64 k, .string (padB s)] 92)).drew) := FrD.of_below HI.out.b1 (Nat.le_of_lt HI.out.d.lt) (((Below.refl _ _).alloc (Nat.le_refl _) _).drew)
          exact (F1.trans F2 (fun x hx => .inl (HV1.out x hx))).trans e2 (fun x hx => .inl (HV1.out x hx))
end Go.Proofs.YtbpaiiljhdohfaaDoor
namespace Go.Proofs.YtbpaiiljhdohfaaDoor
open Go.RowKit
variable {B n g gd gc cd cc : Nat} {vw vk : Value} {S : DS} {w : World}

theorem step_copy_eq {P : Program} {w : World} {ops : Array Oper} {o : Oper} {a : Act} {K : Act → World → Prop} {Q : Exit → Act → World → Prop} {E : Prop} (hgd : o.guard = none) (d s : Operand) (t t' : TypeId)
    (ho : o.op = .call { callee := .builtin .copy, args := #[d, s], argTypes := #[t, t'] }) (vd vs : Value) (hd : a.eval d = vd) (hs : a.eval s = vs) (r : Value) (w2 : World)
    (hrun : ∀ ty, (Builtin.copy_ #[t, t'] ty #[vd, vs]).run P w = .ok r w2) (h : K (a.put o.dst r) w2) :
    if Region.wanted o (yielded ops a.tmps) = true then Oper.wp P o a w K Q else E := by
  have hw : Region.wanted o (yielded ops a.tmps) = true := by simp [Region.wanted, hgd]
  rw [if_pos hw]
  unfold Oper.wp execOp
  simp only [ho, resolve, invoke, builtin, Sem.run_bind, Sem.run_pure, Result.andThen_ok, List.map_toArray, List.map_cons, List.map_nil, hd, hs, hrun]
  exact h
def RepS (n g : Nat) (s : ByteArray) (w : World) (i : Value) (wr : World) : Prop :=
  ∃ (m : Nat) (cur : Array Value), 1 ≤ m ∧ m ≤ n ∧ i = .int .i64 m ∧ wr.heap[g]? = some (.cells cur 9 (0, 0)) ∧ cur.size = n ∧ (∀ j, j < m → cur[j]? = some (.string s)) ∧ Below w.heap.size w wr
theorem info_str : (Tryd.prog.info? 9).map (fun i => (i.zero, i.size, i.bytes)) = some (some (.string ⟨#[]⟩), 1, 16) := by kernel_rfl
theorem rep_row (cur : Array Value) (m c n : Nat) (s : ByteArray) (hz : cur.size = n) (hc : ∀ j, j < m → cur[j]? = some (.string s)) (hmc : m + c ≤ n) :
    (cur.toList.take m ++ List.replicate c (Value.string s) ++ cur.toList.drop (m + c)).toArray.size = n ∧ ∀ j, j < m + c → (cur.toList.take m ++ List.replicate c (Value.string s) ++ cur.toList.drop (m + c)).toArray[j]? = some (.string s) := by
  have hl : cur.toList.length = n := by rw [Array.length_toList, hz]
  refine ⟨?_, fun j hj => ?_⟩
  · simp only [List.size_toArray, List.length_append, List.length_take, List.length_drop, List.length_replicate, hl]; omega
  · rw [List.getElem?_toArray, List.getElem?_append_left (by simp only [List.length_append, List.length_take, List.length_replicate, hl]; omega)]
    by_cases h : j < m
    · rw [List.getElem?_append_left (by rw [List.length_take, hl]; omega), List.getElem?_take, if_pos h, Array.getElem?_toList]; exact hc j h
    · rw [List.getElem?_append_right (by rw [List.length_take, hl]; omega), List.length_take, hl, List.getElem?_replicate, if_pos (by omega)]
theorem rep_start {w1 : World} {xs : List Value} (b cx : Nat) (s : ByteArray) (hn : 1 ≤ n) (hb : w.cell? ⟨b, 0, none⟩ = some (.string s)) (hown : w1.ownsRow w.heap.size 9 1 (.slice (some ⟨w.heap.size, 0, none⟩) n n) n xs) (hgrow : w.grownBy w1 none) :
    ∃ w2, (∀ ty, (Builtin.copy_ #[48, 48] ty #[.slice (some ⟨w.heap.size, 0, none⟩) n n, .slice (some ⟨b, 0, none⟩) 1 cx]).run Tryd.prog w1 = .ok (.int .i64 1) w2) ∧ ∃ cur, w2.heap[w.heap.size]? = some (.cells cur 9 (0, 0)) ∧ cur.size = n ∧ (∀ j, j < 1 → cur[j]? = some (.string s)) ∧ Below w.heap.size w w2 := by
  rcases hown.2 with ⟨h1, _⟩ | ⟨g, cap, cur, h1, _, hg, _, _, hz, _⟩
  · cases h1
  · cases h1
    have hlt := World.block_lt_of_cell? w _ hb
    have hb1 : w1.cell? ⟨b, 0, none⟩ = some (.string s) := (World.cell?_of_block (a := ⟨b, 0, none⟩) (hgrow.block b hlt (by simp))).trans hb
    have hrun : ∀ ty, _ := fun ty => run_copy_row (P := Tryd.prog) w1 48 48 ty 9 w.heap.size 0 n n ⟨b, 0, none⟩ 1 cx cur 9 (List.replicate 1 (Value.string s)) Tryd.underlying48 str_size hg (by show 1 = min 1 n; omega) (fun j v hv => by
      rw [List.getElem?_replicate] at hv
      split at hv
      · injection hv with hv; subst hv
        rw [addr_at, show j = 0 by omega]; exact hb1
      · cases hv) (by show 0 + 1 ≤ cur.size; omega) (by intro v hv; rw [List.eq_of_mem_replicate hv]; rfl)
    have hr := rep_row cur 0 1 n s (by omega) (fun j hj => by omega) (by omega)
    exact ⟨_, fun ty => hrun ty, _, setRow_heap w1 w.heap.size cur _ _ _ hg, hr.1, hr.2, below_setRow ⟨hgrow.os, hgrow.tape, hgrow.output, hgrow.size, fun k hk => hgrow.block k hk (by simp)⟩ (Nat.le_refl _) _⟩
theorem rep_more {wr : World} {cur : Array Value} (g m c : Nat) (s : ByteArray) (hg : wr.heap[g]? = some (.cells cur 9 (0, 0))) (hz : cur.size = n) (hc : ∀ j, j < m → cur[j]? = some (.string s)) (hm : m < n) (hcm : c = min m (n - m)) (hgw : w.heap.size ≤ g) (hB : Below w.heap.size w wr) :
    ∃ w2, (∀ ty, (Builtin.copy_ #[48, 48] ty #[.slice (some ⟨g, m, none⟩) (n - m) (n - m), .slice (some ⟨g, 0, none⟩) m n]).run Tryd.prog wr = .ok (.int .i64 c) w2) ∧ ∃ cur2, w2.heap[g]? = some (.cells cur2 9 (0, 0)) ∧ cur2.size = n ∧ (∀ j, j < m + c → cur2[j]? = some (.string s)) ∧ Below w.heap.size w w2 := by
  have hlen : (List.replicate c (Value.string s)).length = c := List.length_replicate ..
  have hrun : ∀ ty, _ := fun ty => run_copy_row (P := Tryd.prog) wr 48 48 ty 9 g m (n - m) (n - m) ⟨g, 0, none⟩ m n cur 9 (List.replicate c (Value.string s)) Tryd.underlying48 str_size hg (by rw [hlen, hcm]) (fun j v hv => by
      rw [List.getElem?_replicate] at hv
      split at hv
      · injection hv with hv; subst hv
        rw [addr_at]
        unfold World.cell?
        simp only [hg]
        exact hc j (by omega)
      · cases hv) (by rw [hlen]; omega) (by intro v hv; rw [List.eq_of_mem_replicate hv]; rfl)
  rw [hlen] at hrun
  have hr := rep_row cur m c n s hz hc (by omega)
  exact ⟨_, fun ty => hrun ty, _, setRow_heap wr g cur _ _ _ hg, hr.1, hr.2, below_setRow hB hgw _⟩
set_option maxHeartbeats 1000000 in
set_option maxRecDepth 100000 in
theorem Repeat_one (b cx : Nat) (s : ByteArray) (hn : 1 ≤ n) (hn2 : n ≤ 4096) (hb : w.cell? ⟨b, 0, none⟩ = some (.string s)) :
    Calls Tryd.prog 20 #[.slice (some ⟨b, 0, none⟩) 1 cx, .int .i64 n] w fun e w' => ∃ g cur, e = .returned (.slice (some ⟨g, 0, none⟩) n n) ∧ w.heap.size ≤ g ∧ w'.heap[g]? = some (.cells cur 9 (0, 0)) ∧ cur.size = n ∧ (∀ j, j < n → cur[j]? = some (.string s)) ∧ Below w.heap.size w w' := by
  have hnu : IntKind.u64.wrap (n : Int) = n := by
    show (n : Int) % 18446744073709551616 = n
    omega
  have hm := Tryd.bits_Mul 1 n (by omega) (by omega) w
  rw [show 1 * n / 18446744073709551616 = 0 by omega, show 1 * n % 18446744073709551616 = n by omega] at hm
  have hn3 : (n : Int) ≤ 4096 := by omega
  have hn4 : (1 : Int) ≤ n := by omega
  have hlt := World.block_lt_of_cell? w _ hb
  obtain ⟨i0, hi0, hz0, hs0, hy0⟩ := info_parts info_str
  have HM := Lib.hid hm; have HBC := Lib.hid hb
  clear hm hb
  go_enter Tryd.func20, Tryd.ntmps20
  have hb2 : i0.bytes * n ≤ 281474976710656 := by rw [hy0]; omega
  have hb3 : n ≤ maxLen := by unfold maxLen; omega
  go_wp2_with (first | (go_at_call 44; refine HM.out.mono ?_; rintro e w' ⟨rfl, rfl⟩) | (refine wpList_make_full _ rfl _ _ 48 rfl w'.heap.size 9 i0 _ 1 Tryd.underlying48 hi0 hz0 hs0 .i64 .i64 n n n rfl rfl rfl rfl hb2 hb3 (Nat.le_refl _) ?_; intro w1 hown hgrow; obtain ⟨w2, hcp, cur, q1, q2, q3, q4⟩ := rep_start b cx s hn HBC.out hown hgrow; have Q1 := Lib.hid q1; have Q2 := Lib.hid q2; have Q3 := Lib.hid q3; have Q4 := Lib.hid q4; clear q1 q2 q3 q4 hown hgrow) | simp only [hcp])
  have HS0 : Hid (RepS n w'.heap.size s w' (.int .i64 1) w2) := Lib.hid ⟨1, cur, Nat.le_refl _, hn, rfl, Q1.out, Q2.out, Q3.out, Q4.out⟩
  clear hcp Q1 Q2 Q3 Q4
  go_loopw [8] (fun i wr => RepS n w'.heap.size s w' i wr) (fun i _ => n - (intOf i).toNat)
  case atStart => exact HS0.out
  case round =>
    obtain ⟨m, cur, hm1, hmn, rfl, hg, hz, hc, hB⟩ := hrel
    by_cases hlt2 : m < n
    · obtain ⟨c, hcm⟩ : ∃ c, c = min m (n - m) := ⟨_, rfl⟩
      obtain ⟨w3, hcp, cur2, q1, q2, q3, q4⟩ := rep_more (wr := wr.drew) w'.heap.size m c s hg hz hc hlt2 hcm (Nat.le_refl _) hB.drew
      have hmi : (m : Int) < n := by omega
      have hci : (c : Int) ≤ 4096 := by omega
      have hm9 : (m : Int) ≤ 4096 := by omega
      have hne : ¬ n = m := by omega
      have hsub : IntKind.i64.wrap ((n : Int) - m) = ((n - m : Nat) : Int) := by rw [IntWalk.i64_in _ (by omega)]; omega
      have HWC : Hid (IntKind.i64.wrap ((m : Int) + c) = (m : Int) + c) := Lib.hid (IntWalk.i64_in _ (by omega))
      have hend : Hid (RepS n w'.heap.size s w' (.int .i64 (IntKind.i64.wrap ((m : Int) + c))) w3) := Lib.hid ⟨m + c, cur2, by omega, by omega, by rw [HWC.out, Int.natCast_add], q1, q2, q3, q4⟩
      have HC1 : Hid (1 ≤ c) := Lib.hid (by omega)
      clear hg hz hc hB q1 q2 q3 q4 hcm
      go_wp2_with fail
      go_region_law (refine step_copy_eq rfl (.tmp 41) (.tmp 44) 48 48 rfl _ _ (by simp [Act.eval, Act.put]) (by simp [Act.eval, Act.put]) _ w3 hcp ?_)
      all_goals go_wp2_with fail
      all_goals
        refine ⟨?_, ?_⟩
        · iterate 14 (apply Exists.intro)
          exact ⟨hend.out, rfl⟩
        · show n - (intOf (.int .i64 (IntKind.i64.wrap ((m : Int) + c)))).toNat < n - (intOf (.int .i64 (m : Int))).toNat
          rw [HWC.out]
          have := HC1.out
          simp [intOf]; omega
    · obtain rfl : m = n := by omega
      have HG := Lib.hid hg; have HZ := Lib.hid hz; have HC := Lib.hid hc; have HB2 := Lib.hid hB
      clear hg hz hc hB
      go_wp2_with fail
      go_ret
      exact ⟨w'.heap.size, cur, rfl, Nat.le_refl _, HG.out, HZ.out, HC.out, HB2.out⟩
end Go.Proofs.YtbpaiiljhdohfaaDoor
namespace Go.Proofs.YtbpaiiljhdohfaaDoor
open Go.RowKit
variable {B n g gd gc cd cc : Nat} {vw vk : Value} {S : DS} {w : World}

theorem New_bad (n : Int) (w : World) (h : ¬ (1 ≤ n ∧ n ≤ 4096)) :
    Calls Tryd.prog 5 #[.int .i64 n] w fun e w' => e = .returned (.tuple #[.pointer none, .int .i64 1]) ∧ w' = w := by
  by_cases h1 : n < 1
  · go_enter Tryd.func5, Tryd.ntmps5
    go_wp2_with fail
    go_ret2
    exact ⟨rfl, rfl⟩
  · have h2 : 4096 < n := by omega
    go_enter Tryd.func5, Tryd.ntmps5
    go_wp2_with fail
    go_ret2
    exact ⟨rfl, rfl⟩
/-- A sector's zeros. -/
def zeroB : ByteArray := padB ⟨#[]⟩
def newS (n : Nat) : DS := ⟨List.replicate n zeroB, List.replicate n zeroB, [], 0, 0, [], false⟩
theorem newD_of {w' : World} {cur cur2 : Array Value} (hg : w'.heap[gd]? = some (.cells cur 9 (0, 0))) (hc : ∀ j, j < n → cur[j]? = some (.string zeroB)) (hg2 : w'.heap[gc]? = some (.cells cur2 9 (0, 0))) (hc2 : ∀ j, j < n → cur2[j]? = some (.string zeroB))
    (hd : w'.heap[g]? = some (.cells (dcells (.slice (some ⟨gd, 0, none⟩) n cd) (.slice (some ⟨gc, 0, none⟩) n cc) (.slice none 0 0) 0 0 (.slice none 0 0) false) 75 (0, 0))) (hne : gd ≠ gc) (b1 : B ≤ g) (b2 : B ≤ gd) (b3 : B ≤ gc) :
    IsD B n g gd gc cd cc (.slice none 0 0) (.slice none 0 0) (newS n) w' :=
  have rr : ∀ i s, (List.replicate n zeroB)[i]? = some s → i < n ∧ s = zeroB := fun i s hs => by
    rw [List.getElem?_replicate] at hs
    split at hs
    · injection hs with hs; exact ⟨by assumption, hs.symm⟩
    · cases hs
  ⟨hd, ⟨cur, hg, fun i s hs => by rw [(rr i s hs).2]; exact hc i (rr i s hs).1⟩, ⟨cur2, hg2, fun i s hs => by rw [(rr i s hs).2]; exact hc2 i (rr i s hs).1⟩, List.length_replicate .., List.length_replicate .., World.ownsRow_nil _ _ _ _, (fun p hp => by cases hp), World.ownsRow_nil _ _ _ _, hne, b1, b2, b3⟩
set_option maxRecDepth 100000 in
theorem NewD (n : Nat) (w : World) (hn : 1 ≤ n) (hn2 : n ≤ 4096) :
    Calls Tryd.prog 5 #[.int .i64 n] w fun e w' => ∃ g gd gc cd cc, e = .returned (.tuple #[.pointer (some ⟨g, 0, none⟩), .int .i64 0]) ∧ IsD w.heap.size n g gd gc cd cc (.slice none 0 0) (.slice none 0 0) (newS n) w' ∧ Below w.heap.size w w' := by
  have h1 : (1 : Int) ≤ n := by omega
  have h2 : (n : Int) ≤ 4096 := by omega
  have h3 : (⟨#[]⟩ : ByteArray).size ≤ 512 := by decide
  go_enter Tryd.func5, Tryd.ntmps5
  go_wp2_with (go_at_call 21; refine (pad_any ⟨#[]⟩ w h3).mono ?_)
  rintro e w1 ⟨rfl, hb1⟩
  obtain ⟨Z, hZ⟩ : ∃ Z, padB ⟨#[]⟩ = Z := ⟨_, rfl⟩
  rw [hZ]
  have hB1 : Below w.heap.size w (w1.alloc (.cells #[.string Z] 9)) := hb1.alloc hb1.size _
  have q1 : (w1.alloc (.cells #[.string Z] 9)).cell? ⟨w1.heap.size, 0, none⟩ = some (.string Z) := by unfold World.cell?; simp only [heap_alloc_new w1]; rfl
  have HB1 := Lib.hid hB1; have HQ := Lib.hid q1; have HZ := Lib.hid hZ
  clear hB1 q1 hb1 hZ
  go_wp2_with (go_at_call 20; refine (Repeat_one w1.heap.size _ Z hn hn2 HQ.out).mono ?_)
  rintro e w2 ⟨gd, cur, rfl, hgd, hg, hz, hc, hb2⟩
  have hcl := Tryd.slices_Clone_string gd 0 n n (List.replicate n Z) w2 (by rw [List.length_replicate]; exact Nat.le_refl _) (by omega) (fun j hj => by
    rw [List.length_replicate] at hj
    rw [List.getD_eq_getElem?_getD, List.getElem?_replicate, if_pos hj, Nat.zero_add]
    unfold World.cell?
    simp only [hg]
    exact hc j hj)
  have HCL := Lib.hid hcl; have HG := Lib.hid hg; have HC := Lib.hid hc; have HGD := Lib.hid hgd; have HB2 := Lib.hid (HB1.out.trans (hb2.mono HB1.out.size)); have HSZ := Lib.hid (show w.heap.size ≤ gd from Nat.le_trans HB1.out.size hgd)
  clear hcl hg hc hgd hb2 hz
  go_wp2_with (go_at_call 22; refine HCL.out.mono ?_)
  rintro e w3 ⟨v', rfl, hown, _, hb3⟩
  obtain ⟨gc, cc, cur2, rfl, hgc, hg2, hc2⟩ : ∃ gc cc cur2, v' = .slice (some ⟨gc, 0, none⟩) n cc ∧ w2.heap.size ≤ gc ∧ w3.heap[gc]? = some (.cells cur2 9 (0, 0)) ∧ ∀ j, j < n → cur2[j]? = some (.string Z) := by
    rcases hown.2 with ⟨_, h4⟩ | ⟨gc, cap, cur2, hv, hB, hg2, _⟩
    · omega
    · refine ⟨gc, cap, cur2, hv, hB, hg2, fun j hj => ?_⟩
      have := hown.cells (g := gc) (by rw [hv]; rfl) j (.string Z) (by rw [List.getElem?_map, List.getElem?_take, if_pos hj, List.getElem?_replicate, if_pos hj]; rfl)
      rw [addr_at] at this
      unfold World.cell? at this
      simpa [hg2] using this
  have hlt : gd < w2.heap.size := (Array.getElem?_eq_some_iff.1 HG.out).1
  have hlt3 : gc < w3.heap.size := (Array.getElem?_eq_some_iff.1 hg2).1
  have hz : zeroB = Z := HZ.out
  have hg3 : w3.heap[gd]? = some (.cells cur 9 (0, 0)) := (hb3.block gd hlt).trans HG.out
  have hend := Lib.hid (show IsD w.heap.size n w3.heap.size gd gc n cc (.slice none 0 0) (.slice none 0 0) (newS n) (w3.alloc (.cells (dcells (.slice (some ⟨gd, 0, none⟩) n n) (.slice (some ⟨gc, 0, none⟩) n cc) (.slice none 0 0) 0 0 (.slice none 0 0) false) 75)) ∧ Below w.heap.size w (w3.alloc (.cells (dcells (.slice (some ⟨gd, 0, none⟩) n n) (.slice (some ⟨gc, 0, none⟩) n cc) (.slice none 0 0) 0 0 (.slice none 0 0) false) 75)) from
    have hB3 : Below w.heap.size w w3 := HB2.out.trans (hb3.mono HB2.out.size)
    ⟨newD_of ((Lib.alloc_old w3 _ gd (by have := hb3.size; omega)).trans hg3) (by rw [hz]; exact HC.out) ((Lib.alloc_old w3 _ gc hlt3).trans hg2) (by rw [hz]; exact hc2) (heap_alloc_new w3 _) (by omega) hB3.size HSZ.out (Nat.le_trans HB2.out.size hgc), hB3.alloc hB3.size _⟩)
  clear hown hg2 hc2 hgc hg3 hb3 HCL
  go_wp2_with fail
  go_ret2
  exact ⟨_, gd, gc, n, cc, rfl, hend.out.1, hend.out.2⟩
end Go.Proofs.YtbpaiiljhdohfaaDoor
namespace Go.Proofs.YtbpaiiljhdohfaaDoor
open Go.RowKit
variable {B n g gd gc cd cc : Nat} {vw vk : Value} {S : DS} {w : World}

theorem has_nil (i : Int) (w : World) :
    Calls Tryd.prog 43 #[.pointer none, .int .i64 i] w fun e w' => e = .returned (.bool false) ∧ w' = w := by
  by_cases h0 : 0 ≤ i
  · have hd : decide (0 ≤ i) = true := decide_eq_true h0
    go_enter Tryd.func43, Tryd.ntmps43
    go_wp2_with (go_at_call 24; refine (Size_nil w).mono ?_)
    rintro e w' ⟨rfl, rfl⟩
    go_wp2_with fail
    go_ret
    simp; omega
  · have hd : decide (0 ≤ i) = false := decide_eq_false h0
    go_enter Tryd.func43, Tryd.ntmps43
    go_wp2_with fail
    go_ret
    simp
theorem fits_nil (i : Int) (s : ByteArray) (w : World) :
    Calls Tryd.prog 36 #[.pointer none, .int .i64 i, .string s] w fun e w' => e = .returned (.bool false) ∧ w' = w := by
  go_enter Tryd.func36, Tryd.ntmps36
  go_wp2_with (go_at_call 43; refine (has_nil i w).mono ?_)
  rintro e w' ⟨rfl, rfl⟩
  go_wp2_with fail
  go_ret
  exact ⟨rfl, rfl⟩
theorem Read_nil (i : Int) (w : World) :
    Calls Tryd.prog 18 #[.pointer none, .int .i64 i] w fun e w' => e = .returned (.tuple #[.string ⟨#[]⟩, .int .i64 1]) ∧ w' = w := by
  go_enter Tryd.func18, Tryd.ntmps18
  go_wp2_with (go_at_call 43; refine (has_nil i w).mono ?_)
  rintro e w' ⟨rfl, rfl⟩
  go_wp2_with fail
  go_ret2
  exact ⟨rfl, rfl⟩
theorem Write_nil (i : Int) (s : ByteArray) (w : World) :
    Calls Tryd.prog 13 #[.pointer none, .int .i64 i, .string s] w fun e w' => e = .returned (.int .i64 1) ∧ w' = w := by
  go_enter Tryd.func13, Tryd.ntmps13
  go_wp2_with (go_at_call 36; refine (fits_nil i s w).mono ?_)
  rintro e w' ⟨rfl, rfl⟩
  go_wp2_with fail
  go_ret
  exact ⟨rfl, rfl⟩
/-- What is read. -/
def readS (n : Nat) (i : Int) (S : DS) : ByteArray × Int := if 0 ≤ i ∧ i < n then (if S.off = true then (⟨#[]⟩, 7) else (S.cur.getD i.toNat ⟨#[]⟩, 0)) else (⟨#[]⟩, 1)
theorem ReadD (h : IsD B n g gd gc cd cc vw vk S w) (i : Int) :
    Calls Tryd.prog 18 #[.pointer (some ⟨g, 0, none⟩), .int .i64 i] w fun e w' => e = .returned (.tuple #[.string (readS n i S).1, .int .i64 (readS n i S).2]) ∧ w' = w := by
  by_cases hi : 0 ≤ i ∧ i < n
  · have hd := h.d
    cases ho : S.off
    · obtain ⟨k, rfl⟩ : ∃ k : Nat, i = k := ⟨i.toNat, by omega⟩
      have hk : k < n := by omega
      obtain ⟨x, hx⟩ : ∃ x, S.cur[k]? = some x := ⟨_, List.getElem?_eq_getElem (by rw [h.lc]; exact hk)⟩
      have e0 : readS n k S = (x, 0) := by
        unfold readS
        rw [if_pos hi, if_neg (by rw [ho]; decide), Int.toNat_natCast, List.getD_eq_getElem?_getD, hx]; rfl
      rw [e0]
      rw [ho] at hd
      exact Read_any g n cd gc cc _ _ _ _ _ k k x w hd rfl hk (h.rc.cell k x hx)
    · have e0 : readS n i S = (⟨#[]⟩, 7) := by unfold readS; rw [if_pos hi, if_pos ho]
      rw [e0]
      rw [ho] at hd
      exact Read_off g n cd _ _ _ _ _ _ i w hd hi
  · have e0 : readS n i S = (⟨#[]⟩, 1) := by unfold readS; rw [if_neg hi]
    rw [e0]
    exact Read_bad g n cd _ _ _ _ _ _ _ i w h.d hi
theorem OnD (h : IsD B n g gd gc cd cc vw vk S w) :
    Calls Tryd.prog 34 #[.pointer (some ⟨g, 0, none⟩)] w fun e w' => e = .returned (.tuple #[]) ∧ IsD B n g gd gc cd cc vw (.slice none 0 0) { S with left := 0, kp := [], off := false } w' ∧ FrD B g gd gc vw w w' := by
  refine (On2 (B := B) _ _ _ _ _ _ _ h.d h.b1).mono ?_
  rintro e w2 ⟨rfl, h2, hK⟩
  obtain ⟨r1, r2, r3, r4, r5⟩ := h.disk hK
  exact ⟨rfl, ⟨h2, r2, r3, h.ld, h.lc, r4, h.wb, World.ownsRow_nil _ _ _ _, h.ne, h.b1, h.b2, h.b3⟩, r1⟩
/-- A pending cut. -/
def cutS (n : Int) (zs : List Int) (S : DS) : DS := { S with left := max n 1, kp := zs }
theorem CutD_none (h : IsD B n g gd gc cd cc vw vk S w) (i : Int) (cx : Nat) :
    Calls Tryd.prog 12 #[.pointer (some ⟨g, 0, none⟩), .int .i64 i, .slice none 0 cx] w fun e w' => e = .returned (.tuple #[]) ∧ IsD B n g gd gc cd cc vw (.slice none 0 0) (cutS i [] S) w' ∧ FrD B g gd gc vw w w' := by
  have f4 := h.d.free 4
  have f5 := h.d.free 5
  have c4 := h.d.c4
  have c5 := h.d.c5
  have HH := Lib.hid h
  clear h
  go_enter Tryd.func12, Tryd.ntmps12
  go_wp2_with (go_at_call 35; refine (Tryd.slices_Clone_int_nil 0 cx w).mono ?_)
  rintro e w' ⟨rfl, rfl⟩
  go_wp2_with fail
  go_end0
  have hK : Kept2 B g g w' ((w'.setCell ⟨g, 4, none⟩ (.int .i64 (max i 1))).setCell ⟨g, 5, none⟩ (.slice none 0 0)) := ((Kept2.refl B g g w').setg HH.out.b1 4 _).setg HH.out.b1 5 _
  have h2 : DiskAt g (.slice (some ⟨gd, 0, none⟩) n cd) (.slice (some ⟨gc, 0, none⟩) n cc) vw S.done (max i 1) vk S.off (w'.setCell ⟨g, 4, none⟩ (.int .i64 (max i 1))) := HH.out.d.set 4 _
  obtain ⟨r1, r2, r3, r4, r5⟩ := HH.out.disk hK
  exact ⟨rfl, ⟨h2.set 5 (.slice none 0 0), r2, r3, HH.out.ld, HH.out.lc, r4, HH.out.wb, World.ownsRow_nil _ _ _ _, HH.out.ne, HH.out.b1, HH.out.b2, HH.out.b3⟩, r1⟩
/-- Bounds behind t commands. -/
structure Bd (t : Nat) (S : DS) : Prop where
  ws : S.ws.length ≤ t
  kp : S.kp.length ≤ 17592186044416
  done : S.done ≤ t
  l0 : 0 ≤ S.left
  l1 : S.left ≤ 9223372036854775807
theorem Bd.ok {t : Nat} (h : Bd t S) (n0 : 1 ≤ n) (n1 : n ≤ 4096) (ht : t ≤ 10000000) : OkS n S := ⟨n0, n1, Nat.le_trans h.ws ht, h.kp, by have := h.done; omega, h.l0, h.l1⟩
theorem Bd.fail {t : Nat} (h : Bd t S) (zs : List Int) : Bd t (failS zs S) := ⟨Nat.zero_le _, Nat.zero_le _, h.done, Int.le_refl 0, by show (0 : Int) ≤ _; omega⟩
theorem Bd.crash {t : Nat} (h : Bd t S) (zs : List Int) : Bd t (crashS zs S) := ⟨Nat.zero_le _, Nat.zero_le _, h.done, Int.le_refl 0, by show (0 : Int) ≤ _; omega⟩
theorem Bd.beg {t : Nat} (h : Bd t S) : Bd (t + 1) (begS S).2 ∧ (begS S).2.ws.length ≤ t := by
  have h1 := h.ws; have h2 := h.done; have h3 := h.l0; have h4 := h.l1
  unfold begS
  split
  · exact ⟨⟨by show S.ws.length ≤ _; omega, h.kp, by show S.done ≤ _; omega, h.l0, h.l1⟩, h1⟩
  · split
    · exact ⟨⟨Nat.zero_le _, Nat.zero_le _, by show S.done ≤ _; omega, Int.le_refl 0, by show (0 : Int) ≤ _; omega⟩, Nat.zero_le _⟩
    · exact ⟨⟨by show S.ws.length ≤ _; omega, h.kp, by show S.done + 1 ≤ _; omega, by show 0 ≤ max (S.left - 1) 0; omega, by show max (S.left - 1) 0 ≤ _; omega⟩, h1⟩
theorem Bd.write {t : Nat} (h : Bd t S) (k : Nat) (s : ByteArray) : Bd (t + 1) (writeS k s S).2 := by
  obtain ⟨h1, h2⟩ := h.beg
  unfold writeS
  split
  · exact ⟨by show (_ ++ [_]).length ≤ _; rw [List.length_append, List.length_singleton]; omega, h1.kp, h1.done, h1.l0, h1.l1⟩
  · exact h1
theorem Bd.sync {t : Nat} (h : Bd t S) : Bd (t + 1) (syncS S).2 := by
  obtain ⟨h1, h2⟩ := h.beg
  unfold syncS
  split
  · exact ⟨Nat.zero_le _, h1.kp, h1.done, h1.l0, h1.l1⟩
  · exact h1
theorem Bd.new (n : Nat) : Bd 0 (newS n) := ⟨Nat.le_refl 0, Nat.zero_le _, Nat.le_refl 0, Int.le_refl 0, by show (0 : Int) ≤ _; omega⟩
theorem padB_size (s : ByteArray) (h : s.size ≤ 512) : (padB s).size = 512 := by
  unfold padB
  rw [ByteArray.size_append]
  have : ByteArray.size ⟨(Lib.repeatL [0] (512 - s.size)).toArray⟩ = 512 - s.size := by
    show ((Lib.repeatL [0] (512 - s.size)).toArray).size = _
    rw [List.size_toArray, Lib.repeatL_length]; simp
  omega
end Go.Proofs.YtbpaiiljhdohfaaDoor
namespace Go.Proofs.YtbpaiiljhdohfaaDoor
open Go.RowKit
variable {B n g gd gc cd cc : Nat} {vw vk : Value} {S : DS} {w : World}

def spA : DS := (writeS 1 ⟨#[97]⟩ (newS 2)).2
def spB : DS := (syncS spA).2
def spC : DS := (writeS 1 ⟨#[98]⟩ spB).2
def spD : DS := crashS [] spC
theorem sp_sync : (syncS spA).1 = 0 := rfl
theorem sp_read : readS 2 1 spD = (padB ⟨#[97]⟩, 0) := rfl
theorem sp_head : (((padB ⟨#[97]⟩).extract 0 2).toList == [97, 0]) = true := by kernel_rfl
end Go.Proofs.YtbpaiiljhdohfaaDoor
namespace Go.Proofs.YtbpaiiljhdohfaaDoor
open Go.RowKit
variable {B n g gd gc cd cc : Nat} {vw vk : Value} {S : DS} {w : World}

theorem nil_cut (c : Int) (h0 : 0 ≤ c) (h1 : c ≤ 1) : (begS (cutS c [] (newS 3))).1 = false := by
  have : max c 1 = 1 := by omega
  unfold begS cutS
  simp only [this]
  rfl
theorem nil_cut2 (c : Int) (h0 : 0 ≤ c) (h1 : c ≤ 1) : (begS (cutS c [] (newS 3))).2 = failS [] (newS 3) := by
  have : max c 1 = 1 := by omega
  unfold begS cutS
  simp only [this]
  rfl
theorem OffD (h : IsD B n g gd gc cd cc vw vk S w) :
    Calls Tryd.prog 42 #[.pointer (some ⟨g, 0, none⟩)] w fun e w' => e = .returned (.bool S.off) ∧ w' = w := Off_any g _ _ _ _ _ _ _ w h.d
theorem and_one (i : Int) : 0 ≤ bits .and .i64 i 1 ∧ bits .and .i64 i 1 ≤ 1 := by
  have h1 : (BitVec.ofInt 64 1).toNat = 2 ^ 1 - 1 := by decide
  have key : (BitVec.ofInt 64 i &&& BitVec.ofInt 64 1).toNat = (i % ((2 ^ 64 : Nat) : Int)).toNat % 2 ^ 1 := by
    rw [BitVec.toNat_and, BitVec.toNat_ofInt, h1, Nat.and_two_pow_sub_one_eq_mod]
  have e : bits .and .i64 i 1 = i % 2 := by
    show IntKind.i64.wrap ((BitVec.ofInt 64 i &&& BitVec.ofInt 64 1).toNat : Nat) = i % 2
    rw [key, IntKind.wrap_i64]
    omega
  rw [e]; omega
end Go.Proofs.YtbpaiiljhdohfaaDoor
namespace Go.Proofs.YtbpaiiljhdohfaaDoor
open Go.RowKit
variable {B n g gd gc cd cc : Nat} {vw vk : Value} {S : DS} {w : World}

theorem short_size (s : ByteArray) : (s.extract 0 (min s.size 512)).size ≤ 512 := by rw [ByteArray.size_extract]; omega
theorem and_three (x : Int) : bits .and .i64 x 3 = (((x % 4).toNat : Nat) : Int) := by
  have h1 : (BitVec.ofInt 64 3).toNat = 2 ^ 2 - 1 := by decide
  have key : (BitVec.ofInt 64 x &&& BitVec.ofInt 64 3).toNat = (x % ((2 ^ 64 : Nat) : Int)).toNat % 2 ^ 2 := by
    rw [BitVec.toNat_and, BitVec.toNat_ofInt, h1, Nat.and_two_pow_sub_one_eq_mod]
  show IntKind.i64.wrap ((BitVec.ofInt 64 x &&& BitVec.ofInt 64 3).toNat : Nat) = _
  rw [key, IntKind.wrap_i64]
  omega
theorem IsD.base {B' : Nat} (h : IsD B n g gd gc cd cc vw vk S w) (hB : B' ≤ B) : IsD B' n g gd gc cd cc vw vk S w := by
  have lo : ∀ {e size m v} {xs : List Value}, w.ownsRow B e size v m xs → w.ownsRow B' e size v m xs := fun {e size m v xs} h => ⟨h.1, by
    rcases h.2 with h1 | ⟨x, cap, cur, h1, h2, h3⟩
    · exact .inl h1
    · exact .inr ⟨x, cap, cur, h1, Nat.le_trans hB h2, h3⟩⟩
  exact ⟨h.d, h.rd, h.rc, h.ld, h.lc, lo h.vw, h.wb, lo h.vk, h.ne, Nat.le_trans hB h.b1, Nat.le_trans hB h.b2, Nat.le_trans hB h.b3⟩
/-- The blocks of one disk that are written aren't those of another one. -/
structure Apart (ga gda gca gb gdb gcb : Nat) (va vb : Value) : Prop where
  g : ga ≠ gb
  dd : gda ≠ gdb
  dc : gda ≠ gcb
  cd : gca ≠ gdb
  cc : gca ≠ gcb
  w : ∀ x, va.ownBlock = some x → vb.ownBlock ≠ some x
theorem Apart.symm {ga gda gca gb gdb gcb : Nat} {va vb : Value} (h : Apart ga gda gca gb gdb gcb va vb) : Apart gb gdb gcb ga gda gca vb va :=
  ⟨Ne.symm h.g, Ne.symm h.dd, Ne.symm h.cd, Ne.symm h.dc, Ne.symm h.cc, fun x h1 h2 => h.w x h2 h1⟩
/-- What is written to one disk leaves another one as it is. -/
theorem IsD.other {na ga gda gca cda cca nb gb gdb gcb cdb ccb : Nat} {va ka vb kb va' : Value} {Sa Sb : DS} {w' : World} (ha : IsD B na ga gda gca cda cca va ka Sa w) (hb : IsD B nb gb gdb gcb cdb ccb vb kb Sb w) (ap : Apart ga gda gca gb gdb gcb va vb) (f : FrD B ga gda gca va w w') (hv : ∀ x, va'.ownBlock = some x → va.ownBlock = some x ∨ w.heap.size ≤ x) :
    IsD B nb gb gdb gcb cdb ccb vb kb Sb w' ∧ Apart ga gda gca gb gdb gcb va' vb := by
  obtain ⟨c1, h1, _⟩ := ha.rd
  obtain ⟨c2, h2, _⟩ := ha.rc
  obtain ⟨c3, h3, _⟩ := hb.rd
  obtain ⟨c4, h4, _⟩ := hb.rc
  have h0 : w.heap[ga]? = _ := ha.d
  have h5 : w.heap[gb]? = _ := hb.d
  have ne : ∀ {x y : Nat} {c c' : Array Value} {t t' : TypeId}, w.heap[x]? = some (.cells c t (0, 0)) → w.heap[y]? = some (.cells c' t' (0, 0)) → t ≠ t' → x ≠ y := fun {x y c c' t t'} hx hy ht e => by
    subst e
    rw [hx] at hy
    injection hy with hy
    injection hy with _ hy
    exact ht hy
  refine ⟨hb.keep fun b e => ?_, ⟨ap.g, ap.dd, ap.dc, ap.cd, ap.cc, fun x h1 h2 => ?_⟩⟩
  · have hl := (hb.lts e).2
    rcases e with rfl | rfl | rfl | e | e
    · exact f.block b hl (Ne.symm ap.g) (ne h5 h1 (by decide)) (ne h5 h2 (by decide)) (fun e2 => by obtain ⟨c, hc⟩ := own_block ha.vw e2; exact ne h5 hc (by decide) rfl)
    · exact f.block b hl (ne h3 h0 (by decide)) (Ne.symm ap.dd) (Ne.symm ap.cd) (fun e2 => by obtain ⟨c, hc⟩ := own_block ha.vw e2; exact ne h3 hc (by decide) rfl)
    · exact f.block b hl (ne h4 h0 (by decide)) (Ne.symm ap.dc) (Ne.symm ap.cc) (fun e2 => by obtain ⟨c, hc⟩ := own_block ha.vw e2; exact ne h4 hc (by decide) rfl)
    · obtain ⟨c, hc⟩ := own_block hb.vw e
      exact f.block b hl (ne hc h0 (by decide)) (ne hc h1 (by decide)) (ne hc h2 (by decide)) (fun e2 => ap.w b e2 e)
    · obtain ⟨c, hc⟩ := own_block hb.vk e
      exact f.block b hl (ne hc h0 (by decide)) (ne hc h1 (by decide)) (ne hc h2 (by decide)) (fun e2 => by obtain ⟨c', hc'⟩ := own_block ha.vw e2; exact ne hc hc' (by decide) rfl)
  · rcases hv x h1 with h6 | h6
    · exact ap.w x h6 h2
    · exact absurd (hb.vw.lt x h2).2 (by omega)
/-- The slice v is a list of acts: the sector and the data of each. -/
def IsActs (w : World) (a : Option Addr) (len : Nat) (zs : List (Int × ByteArray)) : Prop :=
  zs.length = len ∧ (0 < len → ∃ b o, a = some ⟨b, o, none⟩ ∧ b < w.heap.size ∧ ∀ i z, zs[i]? = some z → w.cell? ⟨b, o + (i * 4 + 1), none⟩ = some (.int .i64 z.1) ∧ w.cell? ⟨b, o + (i * 4 + 2), none⟩ = some (.string z.2))
theorem IsActs.below {a : Option Addr} {len : Nat} {zs : List (Int × ByteArray)} {w' : World} (h : IsActs w a len zs) (hb : Below w.heap.size w w') : IsActs w' a len zs :=
  ⟨h.1, fun h0 => by
    obtain ⟨b, o, h1, h2, h3⟩ := h.2 h0
    exact ⟨b, o, h1, Nat.lt_of_lt_of_le h2 hb.size, fun i z hz => ⟨cell_below hb (h3 i z hz).1, cell_below hb (h3 i z hz).2⟩⟩⟩
end Go.Proofs.YtbpaiiljhdohfaaDoor
namespace Go.Proofs.YtbpaiiljhdohfaaDoor
open Go.RowKit
variable {B n g gd gc cd cc : Nat} {vw vk : Value} {S : DS} {w : World}

/-- The power is on, no cut is pending, the row in use is the durable one with the writes over it. -/
structure Calm (S : DS) : Prop where
  off : S.off = false
  left : S.left = 0
  cur : S.cur = putW S.dur S.ws
theorem Calm.beg (h : Calm S) : begS S = (true, { S with done := S.done + 1, left := 0 }) := by
  unfold begS
  rw [if_neg (by rw [h.off]; decide), if_neg (by rw [h.left]; decide), h.left]
  rfl
theorem Calm.write (h : Calm S) (k : Nat) (s : ByteArray) : Calm (writeS k s S).2 := by
  unfold writeS
  rw [h.beg, if_pos rfl]
  refine ⟨h.off, rfl, ?_⟩
  show S.cur.set k (padB s) = putW S.dur (S.ws ++ [(k, padB s)])
  rw [h.cur]
  unfold putW
  rw [List.foldl_append]; rfl
theorem Calm.sync (h : Calm S) : syncS S = (0, { S with done := S.done + 1, left := 0, dur := S.cur, ws := [] }) := by
  unfold syncS
  rw [h.beg, if_pos rfl, h.cur]
theorem Calm.new (n : Nat) : Calm (newS n) := ⟨rfl, rfl, rfl⟩
theorem keep_all (ws : List (Nat × ByteArray)) (lost : Nat → Int → Bool) (h : ∀ k i, lost k i = false) : ∀ k, keepTo lost ws k = ws.take k := by
  intro k
  unfold keepTo
  have : (ws.take k).zipIdx.filter (fun q => !lost q.2 (q.1.1 : Int)) = (ws.take k).zipIdx := List.filter_eq_self.2 fun q _ => by rw [h]; rfl
  rw [this, List.zipIdx_map_fst]
theorem lost13 (k : Nat) : lostB [1, 3] k = false := by
  unfold lostB
  have : k % ([1, 3] : List Int).length < 2 := Nat.mod_lt _ (by decide)
  rcases (show k % ([1, 3] : List Int).length = 0 ∨ k % ([1, 3] : List Int).length = 1 by omega) with h | h <;> rw [h] <;> rfl
theorem Calm.crash13 (h : Calm S) : (crashS [1, 3] S).cur = S.cur := by
  show putW S.dur (keepTo (fun k _ => lostB [1, 3] k) S.ws S.ws.length) = _
  rw [keep_all _ _ (fun k _ => lost13 k), List.take_length, h.cur]
theorem crash_none (zs : List Int) (h : S.ws = []) : (crashS zs S).cur = S.dur ∧ (crashS zs S).dur = S.dur := by
  have e : putW S.dur (keepTo (fun k _ => lostB zs k) S.ws S.ws.length) = S.dur := by rw [h]; rfl
  exact ⟨e, e⟩
/-- The value v is a list of ints. -/
def IsInts (w : World) (v : Value) (zs : List Int) : Prop :=
  ∃ a c, v = .slice a zs.length c ∧ zs.length ≤ 17592186044415 ∧ (0 < zs.length → ∃ b o, a = some ⟨b, o, none⟩ ∧ b < w.heap.size ∧ ∀ j, j < zs.length → w.cell? ⟨b, o + j, none⟩ = some (.int .i64 (zs.getD j 0)))
theorem IsInts.below {v : Value} {zs : List Int} {w' : World} (h : IsInts w v zs) (hb : Below w.heap.size w w') : IsInts w' v zs := by
  obtain ⟨a, c, h1, h2, h3⟩ := h
  exact ⟨a, c, h1, h2, fun h0 => by
    obtain ⟨b, o, h4, h5, h6⟩ := h3 h0
    exact ⟨b, o, h4, Nat.lt_of_lt_of_le h5 hb.size, fun j hj => cell_below hb (h6 j hj)⟩⟩
theorem info_int : (Tryd.prog.info? 3).map (fun i => (i.zero, i.size, i.bytes)) = some (some (.int .i64 0), 1, 8) := by kernel_rfl
theorem wpList_append_eq {P : Program} {w : World} {ops : Array Oper} {rest : List Oper} {o : Oper} {a : Act} {Q : Exit → Act → World → Prop} (hgd : o.guard = none) (s x : Operand) (t : TypeId)
    (ho : o.op = .call { callee := .builtin .append, args := #[s, x], argTypes := #[t, t] }) (vs vx : Value) (hs : a.eval s = vs) (hx : a.eval x = vx) (r : Value) (w2 : World)
    (hrun : (Builtin.append_ #[t, t] o.type #[vs, vx]).run P w = .ok r w2) (h : wpList P ops Q rest (a.put o.dst r) w2) : wpList P ops Q (o :: rest) a w := by
  refine wpList_plain hgd fun _ hK => ?_
  unfold Oper.wp execOp
  simp only [ho, resolve, invoke, builtin, Sem.run_bind, Sem.run_pure, Result.andThen_ok, List.map_toArray, List.map_cons, List.map_nil, hs, hx, hrun]
  exact hK _ _ h
/-- A copy of a list of ints. -/
theorem app_ints {v : Value} {zs : List Int} (h : IsInts w v zs) :
    ∃ v' w', (Builtin.append_ #[39, 39] 39 #[.slice (some ⟨w.heap.size, 0, none⟩) 0 0, v]).run Tryd.prog (w.alloc (.cells #[] 3)) = .ok v' w' ∧ Below w.heap.size w w' ∧ ((zs = [] ∧ ∃ a c, v' = .slice a 0 c) ∨ ∃ b c, v' = .slice (some ⟨b, 0, none⟩) zs.length c ∧ 0 < zs.length ∧ w.heap.size ≤ b ∧ ∀ j, j < zs.length → w'.cell? ⟨b, 0 + j, none⟩ = some (.int .i64 (zs.getD j 0))) := by
  obtain ⟨a, c, rfl, hm, hc⟩ := h
  obtain ⟨i0, hi0, hz0, hs0, hy0⟩ := info_parts info_int
  have hB : Below w.heap.size w (w.alloc (.cells #[] 3)) := (Below.refl _ _).alloc (Nat.le_refl _) _
  have hown : (w.alloc (.cells #[] 3)).ownsRow w.heap.size 3 1 (.slice (some ⟨w.heap.size, 0, none⟩) 0 0) 0 [] := World.ownsRow_made w #[] 0 (Nat.le_refl _) (by decide) rfl
  by_cases h0 : 0 < zs.length
  · obtain ⟨b, o, rfl, hb, hj⟩ := hc h0
    obtain ⟨g, cap, w', hr, h1, h2, h3, h4⟩ := run_append_lies (P := Tryd.prog) (w.alloc (.cells #[] 3)) 39 39 w.heap.size 3 i0 _ 1 8 Tryd.underlying39 hi0 hz0 hs0 hy0 rfl (by decide) _ 0 [] hown ⟨b, o, none⟩ zs.length c (zs.map (Value.int .i64)) (by simp) (fun j u hu => by
      rw [List.getElem?_map] at hu
      obtain ⟨x, hx, rfl⟩ := Option.map_eq_some_iff.1 hu
      have hjl := (List.getElem?_eq_some_iff.1 hx).1
      have := hj j hjl
      rw [List.getD_eq_getElem?_getD, hx] at this
      rw [Addr.add_mid]
      exact cell_below hB this) (by intro u hu; obtain ⟨x, _, rfl⟩ := List.mem_map.1 hu; rfl) h0 (by unfold maxLen; omega) (by omega) hB.size _ rfl
    rw [Nat.zero_add] at hr h1
    refine ⟨_, w', hr, hB.trans ⟨h2.os, h2.tape, h2.output, h2.size, fun k hk => h2.block k (Nat.lt_of_lt_of_le hk hB.size) (fun e => by have e2 : some k = some w.heap.size := e; injection e2 with e2; omega)⟩, .inr ⟨g, cap, rfl, h0, ?_, fun j hjl => ?_⟩⟩
    · exact (h1.lt g rfl).1
    · have := h1.cells (g := g) rfl j (.int .i64 (zs.getD j 0)) (by rw [List.nil_append, List.getElem?_map, List.getD_eq_getElem?_getD, List.getElem?_eq_getElem hjl]; rfl)
      rw [addr_at] at this
      rw [Nat.zero_add]; exact this
  · have hz : zs = [] := by
      cases zs with
      | nil => rfl
      | cons x l => simp at h0
    subst hz
    refine ⟨.slice (some ⟨w.heap.size, 0, none⟩) 0 0, _, ?_, hB, .inl ⟨rfl, _, _, rfl⟩⟩
    cases a <;> simp [Builtin.append_, run_underlying Tryd.underlying39, sizeOf, typeInfo, hi0, Builtin.lenOf, Builtin.firstCells, hs0, storeCells, loadCells, loadCellsFrom]
end Go.Proofs.YtbpaiiljhdohfaaDoor
namespace Go.Proofs.YtbpaiiljhdohfaaDoor
open Go.RowKit

/-- Two disks that hold the same, behind j writes. -/
def LaS (B ga gda gca cda cca gb gdb gcb cdb ccb m : Nat) (w : World) (i : Value) (wr : World) : Prop :=
  ∃ (j : Nat) (S : DS) (va ka vb kb : Value), i = .int .i64 j ∧ j ≤ m ∧ Bd j S ∧ Calm S ∧ IsD B 4 ga gda gca cda cca va ka S wr ∧ IsD B 4 gb gdb gcb cdb ccb vb kb S wr ∧ Apart ga gda gca gb gdb gcb va vb ∧ Below B w wr
/-- One disk that was synced, the other one behind a loss of power: both hold C. -/
def LbS (B ga gda gca cda cca gb gdb gcb cdb ccb m : Nat) (C : List ByteArray) (w : World) (i : Value) (wr : World) : Prop :=
  ∃ (j : Nat) (Sa Sb : DS) (va ka vb kb : Value), i = .int .i64 j ∧ j ≤ m ∧ Bd 40 Sb ∧ Sb.ws = [] ∧ Sb.dur = C ∧ Sb.cur = C ∧ Sb.off = false ∧ Sa.cur = C ∧ Sa.off = false ∧ IsD B 4 ga gda gca cda cca va ka Sa wr ∧ IsD B 4 gb gdb gcb cdb ccb vb kb Sb wr ∧ Apart ga gda gca gb gdb gcb va vb ∧ Below B w wr
def IsKeeps (w : World) (a : Option Addr) (len : Nat) (kss : List (List Int)) : Prop :=
  kss.length = len ∧ (0 < len → ∃ b o, a = some ⟨b, o, none⟩ ∧ b < w.heap.size ∧ ∀ i zs, kss[i]? = some zs → ∃ v, w.cell? ⟨b, o + i, none⟩ = some v ∧ IsInts w v zs)
end Go.Proofs.YtbpaiiljhdohfaaDoor
namespace Go.Proofs.YtbpaiiljhdohfaaDoor
open Go.ChangeShapes Go.WideShapes Go.ChangeAt Go.RowKit

theorem spot_none {w : World} {a : Addr} {v : Value} (h : w.cell? (a.add 0) = some v) : ∃ b o, a = ⟨b, o, none⟩ ∧ b < w.heap.size := by
  obtain ⟨b, o, sp⟩ := a
  have e : (⟨b, o, sp⟩ : Addr).add 0 = ⟨b, o, sp⟩ := by unfold Addr.add; rw [if_pos rfl]
  rw [e] at h
  obtain rfl : sp = none := by
    cases sp with
    | none => rfl
    | some x => unfold World.cell? at h; split at h <;> simp at h
  exact ⟨b, o, rfl, World.block_lt_of_cell? w _ h⟩
theorem weightsAll_mem {H : Type} {P : Program} {e : TypeId} {d : DataW H} {x : Nat} : ∀ {l : List (DataW H)}, d ∈ l → x ∈ d.weights P e → x ∈ DataW.weightsAll P e l
  | c :: l, h, hx => by
    unfold DataW.weightsAll
    rcases List.mem_cons.1 h with rfl | h
    · exact List.mem_append_left _ hx
    · exact List.mem_append_right _ (weightsAll_mem h hx)
section
variable {H : Type} {enc : TypeId × Value → H} {W : World} {spare : Nat → Bool} {held : Bool} {fuel : Nat}
theorem bytes_int : Tryd.prog.bytesOf 3 = 8 := by kernel_rfl
theorem open_int_list {cs : List Value} {x : DataW H × List MemPlace} (h : DataW.trod enc Tryd.prog W 0 spare held fuel 39 cs = some x) (hr : ∀ y ∈ x.1.weights Tryd.prog 39, y ≤ reachBytes) : ∃ v zs, cs = [v] ∧ IsInts W v zs := by
  rcases open_ints Tryd.underlying39 Tryd.underlying3 (by kernel_rfl) h with ⟨hcs, _⟩ | ⟨a, len, cap, zs, hcs, _, hl, hm, hz, hx, hcell, _⟩
  · exact ⟨_, [], hcs, none, 0, rfl, by decide, fun h0 => absurd h0 (by decide)⟩
  · have hle : len ≤ zs.length := by rw [hz]; split <;> omega
    have hlen : (zs.take len).length = len := by rw [List.length_take]; omega
    have hb : zs.length * 8 ≤ 140737488351232 := by
      have := hr (((lits (H := H) .i64 (zs.take len)).length + (lits (H := H) .i64 (zs.drop len)).length) * Tryd.prog.bytesOf 3) (by rw [hx]; simp [DataW.weights, Tryd.underlying39])
      rw [bytes_int] at this
      simp only [lits, List.length_map, List.length_take, List.length_drop] at this
      have e : reachBytes = 140737488351232 := rfl
      omega
    refine ⟨_, zs.take len, hcs, some a, cap, by rw [hlen], by omega, fun h0 => ?_⟩
    rw [hlen] at h0
    obtain ⟨b, o, rfl, hlt⟩ := spot_none (hcell 0 (by omega))
    refine ⟨b, o, rfl, hlt, fun j hj => ?_⟩
    rw [hlen] at hj
    have := hcell j (by omega)
    rw [Addr.add_mid] at this
    rw [this]
    simp [List.getD, List.getElem?_take_of_lt hj]
end
end Go.Proofs.YtbpaiiljhdohfaaDoor
