/- Sector: each sector is behind a loss of power as it lasted or as one of the writes to it: the walk. -/
import Derived.Test.YtppnaajeogkkeaaTa
namespace Go.Proofs.Ytppnaajeogkkeaa
open Go.RowKit

def Far (gda gca gdb gcb : Nat) (V : Nat → Value) : Prop := ∀ s, s < 4 → ∀ x, (V s).ownBlock = some x → (x ≠ gda ∧ x ≠ gca) ∧ x ≠ gdb ∧ x ≠ gcb
theorem Calm.write_eq {S : DS} (h : Calm S) (k : Nat) (s : ByteArray) : (writeS k s S).2 = { S with done := S.done + 1, left := 0, cur := S.cur.set k (padB s), ws := S.ws ++ [(k, padB s)] } := by
  unfold writeS
  rw [h.beg, if_pos rfl]
theorem Calm.write_read {S : DS} (h : Calm S) (k : Nat) (s : ByteArray) (hk : k < 4) (hl : S.cur.length = 4) : readS 4 k (writeS k s S).2 = (padB s, 0) := by
  rw [h.write_eq]
  unfold readS
  rw [if_pos (by omega), if_neg (by show ¬ S.off = true; rw [h.off]; decide), Int.toNat_natCast]
  show ((S.cur.set k (padB s)).getD k ⟨#[]⟩, _) = _
  rw [List.getD_eq_getElem?_getD, List.getElem?_set, if_pos rfl, if_pos (by omega)]; rfl
theorem MayAt.congr {B gm : Nat} {V : Nat → Value} {M M' : Nat → List ByteArray} {w : World} (h : MayAt B gm V M w) (hM : ∀ s, s < 4 → M s = M' s) : MayAt B gm V M' w :=
  ⟨h.m, fun s hs => by rw [← hM s hs]; exact h.row s hs, h.ne, h.b⟩
theorem hist_len (C : List ByteArray) (ws : List (Nat × ByteArray)) (s : Nat) : 1 ≤ (hist C ws s).length ∧ (hist C ws s).length ≤ ws.length + 1 := by
  unfold hist
  rw [List.length_cons, List.length_map]
  have := List.length_filter_le (fun p : Nat × ByteArray => p.1 == s) ws
  omega
theorem ba_ne {x y : ByteArray} (h : ¬ x = y) : (x.toList == y.toList) = false := by
  cases hb : (x.toList == y.toList)
  · rfl
  · have h2 := eq_of_beq hb
    rw [ByteArray.toList_eq, ByteArray.toList_eq] at h2
    obtain ⟨x⟩ := x
    obtain ⟨y⟩ := y
    exact absurd (congrArg ByteArray.mk (Array.toList_inj.1 h2)) h
theorem lost1 (k : Nat) : lostB [1] k = false := by
  unfold lostB
  have : k % ([1] : List Int).length = 0 := Nat.mod_one k
  rw [this]; rfl
theorem crash1_cur {S : DS} : (crashS [1] S).cur = putW S.dur S.ws := by
  show putW S.dur (keepTo (fun k _ => lostB [1] k) S.ws S.ws.length) = _
  rw [keep_all _ _ (fun k _ => lost1 k), List.take_length]
theorem crash_cur {S : DS} (zs : List Int) (s : Nat) : (crashS zs S).cur.getD s ⟨#[]⟩ ∈ hist S.dur S.ws s := by
  show (putW S.dur (keepTo (fun k _ => lostB zs k) S.ws S.ws.length)).getD s ⟨#[]⟩ ∈ _
  exact kept_hist _ _ _ s (fun p hp => keepTo_mem _ _ _ p hp)
/-- One more string is laid into the array of lists beside two disks. -/
theorem may_step {B ga gda gca cda cca gb gdb gcb cdb ccb gm s gx capx : Nat} {va ka vb kb : Value} {Sa Sb : DS} {V : Nat → Value} {M : Nat → List ByteArray} {wr w6 : World} {X : ByteArray} (hA : IsD B 4 ga gda gca cda cca va ka Sa wr) (hB : IsD B 4 gb gdb gcb cdb ccb vb kb Sb wr) (hm : MayAt B gm V M wr) (hf : Far gda gca gdb gcb V) (hs : s < 4)
    (hown : w6.ownsRow B 9 1 (.slice (some ⟨gx, 0, none⟩) ((M s).length + 1) capx) ((M s).length + 1) ((M s).map Value.string ++ [Value.string X])) (hgrow : (wr.alloc (.cells #[.string X] 9)).grownBy w6 (V s).ownBlock) (hat : (V s).ownBlock = some gx ∨ gx = (wr.alloc (.cells #[.string X] 9)).heap.size) :
    let w7 := w6.setCell ⟨gm, s, none⟩ (.slice (some ⟨gx, 0, none⟩) ((M s).length + 1) capx)
    IsD B 4 ga gda gca cda cca va ka Sa w7 ∧ IsD B 4 gb gdb gcb cdb ccb vb kb Sb w7 ∧ MayAt B gm (fun t => if t = s then .slice (some ⟨gx, 0, none⟩) ((M s).length + 1) capx else V t) (fun t => if t = s then M s ++ [X] else M t) w7 ∧ Far gda gca gdb gcb (fun t => if t = s then .slice (some ⟨gx, 0, none⟩) ((M s).length + 1) capx else V t) ∧ Below B wr w7 := by
  intro w7
  have hal : Below wr.heap.size wr (wr.alloc (.cells #[.string X] 9)) := (Below.refl _ _).alloc (Nat.le_refl _) _
  have hz : (wr.alloc (.cells #[.string X] 9)).heap.size = wr.heap.size + 1 := by show (wr.heap.push _).size = _; simp
  have h7 : ∀ b, b < wr.heap.size → b ≠ gm → (V s).ownBlock ≠ some b → w7.heap[b]? = wr.heap[b]? := fun b hb h1 h2 =>
    (Below.heap_setCell _ _ _ _ (by show b ≠ gm; exact h1)).trans ((hgrow.block b (by omega) (fun e => h2 e.symm)).trans (hal.block b hb))
  have ne : ∀ {x y : Nat} {c c' : Array Value} {t t' : TypeId}, wr.heap[x]? = some (.cells c t (0, 0)) → wr.heap[y]? = some (.cells c' t' (0, 0)) → t ≠ t' → x ≠ y := fun {x y c c' t t'} hx hy ht e => by
    subst e
    rw [hx] at hy
    injection hy with hy
    injection hy with _ hy
    exact ht hy
  have kp : ∀ {g gd gc cd cc : Nat} {v k : Value} {S : DS}, IsD B 4 g gd gc cd cc v k S wr → (∀ x, (V s).ownBlock = some x → x ≠ gd ∧ x ≠ gc) → IsD B 4 g gd gc cd cc v k S w7 := fun {g gd gc cd cc v k S} h hfar => h.keep fun b e => by
    have hl := (h.lts e).2
    obtain ⟨c1, h1, _⟩ := h.rd
    obtain ⟨c2, h2, _⟩ := h.rc
    have h0 : wr.heap[g]? = _ := h.d
    have hv : ∀ {c' : Array Value} {t' : TypeId}, wr.heap[b]? = some (.cells c' t' (0, 0)) → t' ≠ 9 → (V s).ownBlock ≠ some b := fun hb ht e2 => by
      obtain ⟨c, hc⟩ := own_block (hm.row s hs) e2
      exact ne hc hb (Ne.symm ht) rfl
    rcases e with rfl | rfl | rfl | e | e
    · exact h7 b hl (ne h0 hm.m (by decide)) (hv h0 (by decide))
    · exact h7 b hl (ne h1 hm.m (by decide)) (fun e2 => (hfar b e2).1 rfl)
    · exact h7 b hl (ne h2 hm.m (by decide)) (fun e2 => (hfar b e2).2 rfl)
    · obtain ⟨c, hc⟩ := own_block h.vw e
      exact h7 b hl (ne hc hm.m (by decide)) (hv hc (by decide))
    · obtain ⟨c, hc⟩ := own_block h.vk e
      exact h7 b hl (ne hc hm.m (by decide)) (hv hc (by decide))
  refine ⟨kp hA fun x hx => (hf s hs x hx).1, kp hB fun x hx => (hf s hs x hx).2, (hm.below hal).push hs hgrow hown (fun y hy => ?_), fun t ht x hx => ?_, ?_⟩
  · have hxg : gx = y := by simpa [Value.ownBlock] using hy
    subst hxg
    rcases hat with h1 | h1
    · exact .inl h1
    · exact .inr (Nat.le_of_eq h1.symm)
  · by_cases e : t = s
    · simp only [if_pos e] at hx
      have hxg : gx = x := by simpa [Value.ownBlock] using hx
      subst hxg
      rcases hat with h1 | h1
      · exact hf s hs gx h1
      · have q1 := hA.rd.lt; have q2 := hA.rc.lt; have q3 := hB.rd.lt; have q4 := hB.rc.lt
        exact ⟨⟨by omega, by omega⟩, by omega, by omega⟩
    · simp only [if_neg e] at hx
      exact hf t ht x hx
  · have hB1 : Below B wr w6 := (hal.mono (Nat.le_trans hm.b (Nat.le_of_lt hm.lt))).trans ⟨hgrow.os, hgrow.tape, hgrow.output, hgrow.size, fun b hb => hgrow.block b (by have := hm.b; have := hm.lt; omega) (fun e => absurd ((hm.row s hs).lt b e.symm).1 (by omega))⟩
    exact hB1.setCell (p := ⟨gm, s, none⟩) hm.b _
def KpS (B ga gda gca cda cca gb gdb gcb cdb ccb gm : Nat) (S : DS) (w : World) (i : Value) (wr : World) : Prop :=
  ∃ (j : Nat) (va ka vb kb : Value) (V : Nat → Value), i = .int .i64 j ∧ j ≤ 4 ∧ IsD B 4 ga gda gca cda cca va ka S wr ∧ IsD B 4 gb gdb gcb cdb ccb vb kb S wr ∧ Apart ga gda gca gb gdb gcb va vb ∧ MayAt B gm V (fun s => if s < j then [S.cur.getD s ⟨#[]⟩] else []) wr ∧ Far gda gca gdb gcb V ∧ Below B w wr
def KqS (B ga gda gca cda cca gb gdb gcb cdb ccb gm m : Nat) (C : List ByteArray) (w : World) (i : Value) (wr : World) : Prop :=
  ∃ (j : Nat) (S : DS) (va ka vb kb : Value) (V : Nat → Value), i = .int .i64 j ∧ j ≤ m ∧ Bd (40 + j) S ∧ Calm S ∧ S.dur = C ∧ IsD B 4 ga gda gca cda cca va ka S wr ∧ IsD B 4 gb gdb gcb cdb ccb vb kb S wr ∧ Apart ga gda gca gb gdb gcb va vb ∧ MayAt B gm V (hist C S.ws) wr ∧ Far gda gca gdb gcb V ∧ Below B w wr
set_option maxHeartbeats 4000000 in
set_option maxRecDepth 100000 in
theorem keeps_any (a : Option Addr) (len cap : Nat) (zs : List (Int × ByteArray)) (a2 : Option Addr) (len2 cap2 : Nat) (zs2 : List (Int × ByteArray)) (a3 : Option Addr) (len3 cap3 : Nat) (ks : List Int) (w : World) (hz : IsActs w a len zs) (hz2 : IsActs w a2 len2 zs2) (hk : IsInts w (.slice a3 len3 cap3) ks) (hl : len ≤ 9223372036854775807) (hl2 : len2 ≤ 9223372036854775807) :
    Calls Try.prog 4 #[.slice a len cap, .slice a2 len2 cap2, .slice a3 len3 cap3] w fun e w' => e = .returned (.bool true) ∧ Below w.heap.size w w' := by
  have HZ := Lib.hid hz; have HZ2 := Lib.hid hz2; have HK := Lib.hid hk; have HL := Lib.hid hl; have HL2 := Lib.hid hl2
  clear hz hz2 hk hl hl2
  go_enter Try.func4, Try.ntmps4
  go_wp2_with (go_at_call 8; refine (speaks_any w).mono ?_)
  rintro e w1 ⟨rfl, hb1⟩
  have HB1 := Lib.hid hb1
  clear hb1
  go_wp2_with (go_at_call 9; refine (NewD 4 w1 (by decide) (by decide)).mono ?_)
  rintro e w2 ⟨ga, gda, gca, cda, cca, rfl, h2, hb2⟩
  have H2 := Lib.hid (h2.base HB1.out.size); have HB2 := Lib.hid (HB1.out.trans (hb2.mono HB1.out.size))
  clear h2 hb2
  go_wp2_with (go_at_call 9; refine (NewD 4 w2 (by decide) (by decide)).mono ?_)
  rintro e w3 ⟨gb, gdb, gcb, cdb, ccb, rfl, h3, hb3⟩
  have ap3 : Apart ga gda gca gb gdb gcb (.slice none 0 0) (.slice none 0 0) := by
    have q1 := H2.out.d.lt; have q2 := H2.out.rd.lt; have q3 := H2.out.rc.lt
    have q4 := h3.b1; have q5 := h3.b2; have q6 := h3.b3
    exact ⟨by omega, by omega, by omega, by omega, by omega, fun x hx => by cases hx⟩
  have hS0 : Hid (LaS w.heap.size ga gda gca cda cca gb gdb gcb cdb ccb (min len 30) w (.int .i64 0) w3) := Lib.hid
    ⟨0, newS 4, _, _, _, _, rfl, Nat.zero_le _, Bd.new 4, Calm.new 4, H2.out.below hb3, h3.base HB2.out.size, ap3, HB2.out.trans (hb3.mono HB2.out.size)⟩
  clear h3 ap3 hb3 H2
  go_wp2_with fail
  go_loopw [11] (fun i wr => LaS w.heap.size ga gda gca cda cca gb gdb gcb cdb ccb (min len 30) w i wr) (fun i _ => 30 - (intOf i).toNat)
  case atStart => exact hS0.out
  case round =>
    obtain ⟨j, S, va, ka, vb, kb, rfl, hj, hbd, hcm, hA, hB, hap, hbl⟩ := hrel
    by_cases hlt : j < min len 30
    · have hj1 : (j : Int) < len := by omega
      have hj2 : (j : Int) < 30 := by omega
      obtain ⟨b, o, rfl, hbw, hcell⟩ := HZ.out.2 (by omega)
      obtain ⟨z, hz⟩ : ∃ z, zs[j]? = some z := ⟨_, List.getElem?_eq_getElem (by rw [HZ.out.1]; omega)⟩
      obtain ⟨hc1, hc2⟩ := hcell j z hz
      have d1 : wr.cell? ⟨b, o + j * 4 + 1, none⟩ = some (.int .i64 z.1) := by rw [Nat.add_assoc]; exact cell_below hbl hc1
      have d2 : wr.cell? ⟨b, o + j * 4 + 2, none⟩ = some (.string z.2) := by rw [Nat.add_assoc]; exact cell_below hbl hc2
      obtain ⟨zx, zs1⟩ := z
      obtain ⟨k, hk⟩ : ∃ k, (zx % 4).toNat = k := ⟨_, rfl⟩
      have hk4 : Hid (k < 4) := Lib.hid (by omega)
      have hand : bits .and .i64 zx 3 = (k : Int) := by rw [and_three, hk]
      have hl1 : (len : Int) ≤ 9223372036854775807 := by have := HL.out; omega
      have HA := Lib.hid hA; have HBd := Lib.hid hB; have HAP := Lib.hid hap; have HBL := Lib.hid hbl; have HBD := Lib.hid hbd; have HCM := Lib.hid hcm; have HC1 := Lib.hid hc1; have HC2 := Lib.hid hc2
      clear hcell hc1 hc2 hA hB hap hbl hbd hcm hz hk
      go_wp2_with fail
      refine wp_region_still_tail 13 (by kernel_rfl) (by kernel_rfl) ?_
      change wpStill _ _ (World.drew _) _ _ _
      simp only [List.take_succ_cons, List.take_zero, List.drop_succ_cons, List.drop_zero]
      iterate 12 still_step
      still_call (short_any zs1 _)
      try refine wpStill_nil ?_
      change wpList _ _ _ _ _ (World.drew _)
      go_wp2_with (go_at_call 19; refine (WriteD (HA.out.keep (w' := wr.drew) (fun _ _ => rfl)) (HBD.out.ok (by decide) (by decide) (by omega)) k _ hk4.out (short_size zs1)).mono ?_)
      first | rintro e w4 rfl va' ka' h4 hv4 f4 | rintro e w4 ⟨rfl, va', ka', h4, hv4, f4⟩
      obtain ⟨hb4, ap4⟩ := HA.out.other HBd.out HAP.out f4.undrew hv4
      have hbl4 := HBL.out.trans f4.undrew.below
      have d1' : w4.cell? ⟨b, o + j * 4 + 1, none⟩ = some (.int .i64 zx) := by rw [Nat.add_assoc]; exact cell_below hbl4 HC1.out
      have d2' : w4.cell? ⟨b, o + j * 4 + 2, none⟩ = some (.string zs1) := by rw [Nat.add_assoc]; exact cell_below hbl4 HC2.out
      have H4 := Lib.hid h4; have HB4 := Lib.hid hb4; have HAP4 := Lib.hid ap4; have HBL4 := Lib.hid hbl4
      clear h4 hv4 f4 hb4 ap4 hbl4 d1 d2 HA HBd HAP HBL
      go_wp2_with fail
      refine wp_region_still_tail 13 (by kernel_rfl) (by kernel_rfl) ?_
      change wpStill _ _ (World.drew _) _ _ _
      simp only [List.take_succ_cons, List.take_zero, List.drop_succ_cons, List.drop_zero]
      iterate 12 still_step
      still_call (short_any zs1 _)
      try refine wpStill_nil ?_
      change wpList _ _ _ _ _ (World.drew _)
      go_wp2_with (go_at_call 19; refine (WriteD (HB4.out.keep (w' := w4.drew) (fun _ _ => rfl)) (HBD.out.ok (by decide) (by decide) (by omega)) k _ hk4.out (short_size zs1)).mono ?_)
      first | rintro e w5 rfl vb' kb' h5 hv5 f5 | rintro e w5 ⟨rfl, vb', kb', h5, hv5, f5⟩
      obtain ⟨ha5, ap5⟩ := HB4.out.other H4.out HAP4.out.symm f5.undrew hv5
      have hstep : Hid (LaS w.heap.size ga gda gca cda cca gb gdb gcb cdb ccb (min len 30) w (.int .i64 ((j : Int) + 1)) w5) := Lib.hid
        ⟨j + 1, _, va', ka', vb', kb', by rw [Int.natCast_succ], by omega, HBD.out.write k _, HCM.out.write k _, ha5, h5, ap5.symm, HBL4.out.trans f5.undrew.below⟩
      clear h5 hv5 f5 ha5 ap5
      go_wp2_with fail
      exact ⟨hstep.out, by simp [intOf]; omega⟩
    · have hex : (¬ (j : Int) < len) ∨ ((j : Int) < len ∧ ¬ (j : Int) < 30) := by omega
      have hj30 : j ≤ 30 := by omega
      have HA := Lib.hid hA; have HBd := Lib.hid hB; have HAP := Lib.hid hap; have HBL := Lib.hid hbl; have HBD := Lib.hid hbd; have HCM := Lib.hid hcm
      clear hA hB hap hbl hbd hcm
      rcases hex with hx1 | ⟨hx1, hx2⟩
      all_goals
        go_wp2_with (go_at_call 11; refine (SyncD HA.out (HBD.out.ok (by decide) (by decide) (by omega))).mono ?_)
        first | rintro e w4 rfl va' ka' h4 hv4 f4 | rintro e w4 ⟨rfl, va', ka', h4, hv4, f4⟩
        obtain ⟨hb4, ap4⟩ := HA.out.other HBd.out HAP.out f4 (fun x hx => .inl (hv4 x hx))
        have HA4 := Lib.hid h4; have HB4 := Lib.hid hb4; have HAP4 := Lib.hid ap4; have HBL4 := Lib.hid (HBL.out.trans f4.below)
        clear h4 hv4 f4 hb4 ap4 HA HBd HAP HBL
        go_wp2_with (go_at_call 11; refine (SyncD HB4.out (HBD.out.ok (by decide) (by decide) (by omega))).mono ?_)
        first | rintro e w5 rfl vb' kb' h5 hv5 f5 | rintro e w5 ⟨rfl, vb', kb', h5, hv5, f5⟩
        obtain ⟨ha5, ap5⟩ := HB4.out.other HA4.out HAP4.out.symm f5 (fun x hx => .inl (hv5 x hx))
        have hsy := HCM.out.sync
        rw [hsy] at h5 ha5
        obtain ⟨S1, hS1⟩ : ∃ S1, S1 = ({ S with done := S.done + 1, left := 0, dur := S.cur, ws := [] } : DS) := ⟨_, rfl⟩
        rw [← hS1] at h5 ha5
        have hBd1 : Bd 40 S1 := by
          have := HBD.out
          rw [hS1]
          exact ⟨Nat.zero_le _, this.kp, by show S.done + 1 ≤ 40; have := this.done; omega, Int.le_refl 0, by show (0 : Int) ≤ _; omega⟩
        have hCm1 : Calm S1 := by rw [hS1]; exact ⟨HCM.out.off, rfl, rfl⟩
        have hws1 : S1.ws = [] := by rw [hS1]
        have hdu1 : S1.dur = S1.cur := by rw [hS1]
        have hln1 : S1.cur.length = 4 := h5.lc
        have hal : Below w5.heap.size w5 (w5.alloc (.cells #[.slice none 0 0, .slice none 0 0, .slice none 0 0, .slice none 0 0] 47)) := (Below.refl _ _).alloc (Nat.le_refl _) _
        have hmay : MayAt w.heap.size w5.heap.size (fun _ => .slice none 0 0) (fun s => if s < 0 then [S1.cur.getD s ⟨#[]⟩] else []) (w5.alloc (.cells #[.slice none 0 0, .slice none 0 0, .slice none 0 0, .slice none 0 0] 47)) :=
          ⟨heap_alloc_new w5 _, fun s _ => by simp only [Nat.not_lt_zero, if_false]; exact World.ownsRow_nil _ _ _ _, (fun s t _ _ _ x hx => by cases hx), Nat.le_trans (h5.lts (.inl rfl)).1 (Nat.le_of_lt h5.d.lt)⟩
        have hK0 : Hid (KpS w.heap.size ga gda gca cda cca gb gdb gcb cdb ccb w5.heap.size S1 w (.int .i64 0) (w5.alloc (.cells #[.slice none 0 0, .slice none 0 0, .slice none 0 0, .slice none 0 0] 47))) := Lib.hid
          ⟨0, va', ka', vb', kb', _, rfl, by omega, ha5.below hal, h5.below hal, ap5.symm, hmay, (fun s _ x hx => by cases hx), (HBL4.out.trans f5.below).trans (hal.mono (Nat.le_trans (h5.lts (.inl rfl)).1 (Nat.le_of_lt h5.d.lt)))⟩
        have HBd1 := Lib.hid hBd1; have HCm1 := Lib.hid hCm1; have HWs1 := Lib.hid hws1; have HDu1 := Lib.hid hdu1; have HLn1 := Lib.hid hln1
        obtain ⟨gm, hgm⟩ : ∃ gm, w5.heap.size = gm := ⟨_, rfl⟩
        clear h5 hv5 f5 ha5 ap5 hsy hS1 hBd1 hCm1 hws1 hdu1 hln1 hal hmay HA4 HB4 HAP4 HBL4 HCM HBD
        go_wp2_with fail
        obtain ⟨i0, hi0, hz0, hs0, hy0⟩ := info_parts info_str
        go_loopw [13] (fun i wr => KpS w.heap.size ga gda gca cda cca gb gdb gcb cdb ccb gm S1 w i wr) (fun i _ => 4 - (intOf i).toNat)
        case atStart => rw [hgm] at hK0; exact hK0.out
        case round =>
          obtain ⟨q, va2, ka2, vb2, kb2, V, rfl, hq, hA2, hB2, hap2, hmy2, hfr2, hbl2⟩ := hrel
          by_cases hq4 : q < 4
          · have hqi : (q : Int) < 4 := by omega
            have hrd : readS 4 q S1 = (S1.cur.getD q ⟨#[]⟩, 0) := by
              unfold readS
              rw [if_pos (by omega), if_neg (by rw [HCm1.out.off]; decide), Int.toNat_natCast]
            have hra := ReadD hA2 q
            rw [hrd] at hra
            obtain ⟨X, hX⟩ : ∃ X, S1.cur.getD q ⟨#[]⟩ = X := ⟨_, rfl⟩
            rw [hX] at hra
            generalize hMd : (fun s => if s < q then [S1.cur.getD s ⟨#[]⟩] else []) = M at hmy2
            have hM0 : M q = [] := by rw [← hMd]; simp
            have hrow := hmy2.row q hq4
            obtain ⟨ao, c0, hVq⟩ : ∃ ao c0, V q = .slice ao 0 c0 := by
              rcases hrow.2 with ⟨h1, _⟩ | ⟨x, c, cu, h1, _⟩
              · exact ⟨_, _, h1⟩
              · rw [hM0] at h1; exact ⟨_, _, h1⟩
            have hcl : (wr.alloc (.cells #[.string X] 9)).cell? ⟨gm, q, none⟩ = some (.slice ao 0 c0) := by rw [World.cell?_alloc_past _ _ _ hmy2.lt, hmy2.cell q hq4, hVq]
            have hcl0 : wr.cell? ⟨gm, q, none⟩ = some (.slice ao 0 c0) := by rw [hmy2.cell q hq4, hVq]
            have hrowW : Hid ((wr.alloc (.cells #[.string X] 9)).ownsRow w.heap.size 9 1 (.slice ao 0 c0) 0 []) := Lib.hid (by
              have := hrow.alloc (.cells #[.string X] 9)
              rw [hM0, hVq] at this; exact this)
            have HN9 := Lib.hid (World.news_of_block (heap_alloc_new wr (.cells #[.string X] 9)))
            have hBW : Hid (w.heap.size ≤ (wr.alloc (.cells #[.string X] 9)).heap.size) := Lib.hid (by show _ ≤ (wr.heap.push _).size; simp; have := hmy2.b; have := hmy2.lt; omega)
            have HST : Hid (∀ gx capx w6, w6.ownsRow w.heap.size 9 1 (.slice (some ⟨gx, 0, none⟩) (0 + 1) capx) (0 + 1) ([] ++ [Value.string X]) → (wr.alloc (.cells #[.string X] 9)).grownBy w6 (Value.slice ao 0 c0).ownBlock → ((Value.slice ao 0 c0).ownBlock = some gx ∨ gx = (wr.alloc (.cells #[.string X] 9)).heap.size) → KpS w.heap.size ga gda gca cda cca gb gdb gcb cdb ccb gm S1 w (.int .i64 ((q : Int) + 1)) (w6.setCell ⟨gm, q, none⟩ (.slice (some ⟨gx, 0, none⟩) (0 + 1) capx)) ∧ w6.cell? ⟨gm, q, none⟩ = some (.slice ao 0 c0) ∧ w6.frozen? ⟨gm, q, none⟩ = false) := Lib.hid (fun gx capx w6 ho hg ha => by
              rw [← hVq] at hg ha
              have ho2 : w6.ownsRow w.heap.size 9 1 (.slice (some ⟨gx, 0, none⟩) ((M q).length + 1) capx) ((M q).length + 1) ((M q).map Value.string ++ [Value.string X]) := by rw [hM0]; exact ho
              obtain ⟨e1, e2, e3, e4, e5⟩ := may_step hA2 hB2 hmy2 hfr2 hq4 ho2 hg ha
              have hlen : (M q).length + 1 = 0 + 1 := by rw [hM0]; rfl
              rw [hlen] at e1 e2 e3 e4 e5
              have hMM : (fun t => if t = q then M q ++ [X] else M t) = (fun s => if s < q + 1 then [S1.cur.getD s ⟨#[]⟩] else []) := by
                funext t
                by_cases e : t = q
                · subst e; rw [hM0]; simp; exact hX.symm
                · rw [if_neg e, ← hMd]
                  by_cases e6 : t < q
                  · simp [e6, show t < q + 1 by omega]
                  · simp [e6, show ¬ t < q + 1 by omega]
              rw [hMM] at e3
              have hgm6 : w6.heap[gm]? = wr.heap[gm]? := (hg.block gm (by show gm < (wr.heap.push _).size; simp; have := hmy2.lt; omega) (fun e => by
                obtain ⟨c, hc⟩ := own_block hrow e.symm
                rw [hmy2.m] at hc
                injection hc with hc
                injection hc with _ hc
                exact absurd hc (by decide))).trans (Lib.alloc_old wr _ gm hmy2.lt)
              refine ⟨⟨q + 1, va2, ka2, vb2, kb2, _, by rw [Int.natCast_succ], by omega, e1, e2, hap2, e3, e4, hbl2.trans e5⟩, ?_, ?_⟩
              · rw [World.cell?_of_block (a := ⟨gm, q, none⟩) hgm6]; exact hcl0
              · rw [World.frozen?_of_block (a := ⟨gm, q, none⟩) hgm6]; exact hmy2.free q)
            have HRA := Lib.hid hra
            clear hra hrd hrow hA2 hB2 hap2 hmy2 hfr2 hbl2 hX hM0 hMd hVq hgm hK0
            go_wp2_with (first | (go_at_call 23; refine HRA.out.mono ?_; rintro e w' ⟨rfl, rfl⟩) | (at_builtin; refine wpList_append_lies _ rfl _ _ 36 rfl w.heap.size 9 i0 _ 1 16 Try.underlying36 hi0 hz0 hs0 hy0 rfl (by decide) (.slice ao 0 c0) 0 [] rfl hrowW.out ⟨w'.heap.size, 0, none⟩ 1 1 [.string X] rfl rfl HN9.out (by intro u hu; simp at hu; rw [hu]; rfl) (by decide) (by decide) (by decide) hBW.out _ rfl ?_; intro gx capx w6 hown hgrow hat hlt; obtain ⟨t1, t2, t3⟩ := HST.out gx capx w6 hown hgrow hat; have T1 := Lib.hid t1; clear t1 hown hgrow hat hlt))
            exact ⟨T1.out, by simp [intOf]; omega⟩
          · obtain rfl : q = 4 := by omega
            have hK1 : Hid (KqS w.heap.size ga gda gca cda cca gb gdb gcb cdb ccb gm (min len2 30) S1.dur w (.int .i64 0) wr) := Lib.hid
              ⟨0, S1, va2, ka2, vb2, kb2, V, rfl, Nat.zero_le _, HBd1.out, HCm1.out, rfl, hA2, hB2, hap2, hmy2.congr (fun s hs => by rw [if_pos hs, HWs1.out, HDu1.out]; rfl), hfr2, hbl2⟩
            have HC4 : Hid (S1.dur.length = 4) := Lib.hid hA2.ld
            obtain ⟨C, hC⟩ : ∃ C, S1.dur = C := ⟨_, rfl⟩
            rw [hC] at hK1 HC4
            clear hA2 hB2 hap2 hmy2 hfr2 hbl2 hgm hC HBd1 HCm1 HWs1 HDu1 HLn1 hK0 hS0
            go_wp2_with fail
            go_loopw [16] (fun i wr => KqS w.heap.size ga gda gca cda cca gb gdb gcb cdb ccb gm (min len2 30) C w i wr) (fun i _ => 30 - (intOf i).toNat)
            case atStart => exact hK1.out
            case round =>
              obtain ⟨j2, S2, va3, ka3, vb3, kb3, V, rfl, hj2, hbd3, hcm3, hdC, hA3, hB3, hap3, hmy3, hfr3, hbl3⟩ := hrel
              by_cases hlt3 : j2 < min len2 30
              · have hj21 : (j2 : Int) < len2 := by omega
                have hj22 : (j2 : Int) < 30 := by omega
                obtain ⟨b, o, rfl, hbw, hcell⟩ := HZ2.out.2 (by omega)
                obtain ⟨z, hz⟩ : ∃ z, zs2[j2]? = some z := ⟨_, List.getElem?_eq_getElem (by rw [HZ2.out.1]; omega)⟩
                obtain ⟨hc1, hc2⟩ := hcell j2 z hz
                have d1 : wr.cell? ⟨b, o + j2 * 4 + 1, none⟩ = some (.int .i64 z.1) := by rw [Nat.add_assoc]; exact cell_below hbl3 hc1
                have d2 : wr.cell? ⟨b, o + j2 * 4 + 2, none⟩ = some (.string z.2) := by rw [Nat.add_assoc]; exact cell_below hbl3 hc2
                obtain ⟨zx, zs1⟩ := z
                obtain ⟨k, hk⟩ : ∃ k, (zx % 4).toNat = k := ⟨_, rfl⟩
                have hk4 : k < 4 := by omega
                have hki : (k : Int) < 4 := by omega
                have hand : bits .and .i64 zx 3 = (k : Int) := by rw [and_three, hk]
                have hl1 : (len2 : Int) ≤ 9223372036854775807 := by have := HL2.out; omega
                have HA := Lib.hid hA3; have HBd := Lib.hid hB3; have HAP := Lib.hid hap3; have HBL := Lib.hid hbl3; have HBD := Lib.hid hbd3; have HCM := Lib.hid hcm3; have HC1 := Lib.hid hc1; have HC2 := Lib.hid hc2; have HMY := Lib.hid hmy3; have HFR := Lib.hid hfr3; have HDC := Lib.hid hdC
                clear hcell hc1 hc2 hA3 hB3 hap3 hbl3 hbd3 hcm3 hz hk hmy3 hfr3 hdC
                go_wp2_with (first | (go_at_call 22; refine (short_any zs1 _).mono ?_; rintro e w' ⟨rfl, rfl⟩) | (go_at_call 19; refine (WriteD HA.out (HBD.out.ok (by decide) (by decide) (by omega)) k _ hk4 (short_size zs1)).mono ?_))
                first | rintro e w4 rfl va' ka' h4 hv4 f4 | rintro e w4 ⟨rfl, va', ka', h4, hv4, f4⟩
                obtain ⟨hb4, ap4⟩ := HA.out.other HBd.out HAP.out f4 hv4
                have hm4 := HMY.out.disk HA.out (fun s hs x hx => (HFR.out s hs x hx).1) f4
                have hbl4 := HBL.out.trans f4.below
                have d2' : w4.cell? ⟨b, o + j2 * 4 + 2, none⟩ = some (.string zs1) := by rw [Nat.add_assoc]; exact cell_below hbl4 HC2.out
                have H4 := Lib.hid h4; have HB4 := Lib.hid hb4; have HAP4 := Lib.hid ap4; have HBL4 := Lib.hid hbl4; have HM4 := Lib.hid hm4
                clear h4 hv4 f4 hb4 ap4 hbl4 hm4 d1 d2 HA HBd HAP HBL HMY
                go_wp2_with (first | (go_at_call 22; refine (short_any zs1 _).mono ?_; rintro e w' ⟨rfl, rfl⟩) | (go_at_call 19; refine (WriteD HB4.out (HBD.out.ok (by decide) (by decide) (by omega)) k _ hk4 (short_size zs1)).mono ?_))
                first | rintro e w5 rfl vb' kb' h5 hv5 f5 | rintro e w5 ⟨rfl, vb', kb', h5, hv5, f5⟩
                obtain ⟨ha5, ap5⟩ := HB4.out.other H4.out HAP4.out.symm f5 hv5
                have hm5 := HM4.out.disk HB4.out (fun s hs x hx => (HFR.out s hs x hx).2) f5
                have hbl5 := HBL4.out.trans f5.below
                have hra := ReadD ha5 k
                rw [HCM.out.write_read k _ hk4 (by have := H4.out.lc; rw [HCM.out.write_eq] at this; simpa using this)] at hra
                obtain ⟨S5, hS5⟩ : ∃ S5, (writeS k (zs1.extract 0 (min zs1.size 512)) S2).2 = S5 := ⟨_, rfl⟩
                have hbd5 := HBD.out.write k (zs1.extract 0 (min zs1.size 512))
                have hcm5 := HCM.out.write k (zs1.extract 0 (min zs1.size 512))
                have hwe := HCM.out.write_eq k (zs1.extract 0 (min zs1.size 512))
                rw [hS5] at ha5 h5 hbd5 hcm5 hwe
                obtain ⟨X, hX⟩ : ∃ X, padB (zs1.extract 0 (min zs1.size 512)) = X := ⟨_, rfl⟩
                rw [hX] at hra hwe
                have hws5 : S5.ws = S2.ws ++ [(k, X)] := by rw [hwe]
                have hdu5 : S5.dur = C := by rw [hwe]; exact HDC.out
                clear hwe hS5
                have hrow := hm5.row k hk4
                have hhl := hist_len C S2.ws k
                have hwl : S2.ws.length ≤ 70 := by have := HBD.out.ws; omega
                obtain ⟨N, hN⟩ : ∃ N, (hist C S2.ws k).length = N := ⟨_, rfl⟩
                obtain ⟨ao, c0, hVq⟩ : ∃ ao c0, V k = .slice ao N c0 := by
                  rcases hrow.2 with ⟨h1, h2⟩ | ⟨x, c, cu, h1, _⟩
                  · omega
                  · rw [hN] at h1; exact ⟨_, _, h1⟩
                have hcl : (w5.alloc (.cells #[.string X] 9)).cell? ⟨gm, k, none⟩ = some (.slice ao N c0) := by rw [World.cell?_alloc_past _ _ _ hm5.lt, hm5.cell k hk4, hVq]
                have hcl0 : w5.cell? ⟨gm, k, none⟩ = some (.slice ao N c0) := by rw [hm5.cell k hk4, hVq]
                have hrowW : Hid ((w5.alloc (.cells #[.string X] 9)).ownsRow w.heap.size 9 1 (.slice ao N c0) N ((hist C S2.ws k).map Value.string)) := Lib.hid (by
                  have := hrow.alloc (.cells #[.string X] 9)
                  rw [hN, hVq] at this; exact this)
                have HN9 := Lib.hid (World.news_of_block (heap_alloc_new w5 (.cells #[.string X] 9)))
                have hBW : Hid (w.heap.size ≤ (w5.alloc (.cells #[.string X] 9)).heap.size) := Lib.hid (by show _ ≤ (w5.heap.push _).size; simp; have := hm5.b; have := hm5.lt; omega)
                have HMX : Hid (N + 1 ≤ maxLen) := Lib.hid (by unfold maxLen; omega)
                have HBY : Hid ((N + 1) * 16 ≤ 140737488355328) := Lib.hid (by omega)
                have HST : Hid (∀ gx capx w6, w6.ownsRow w.heap.size 9 1 (.slice (some ⟨gx, 0, none⟩) (N + 1) capx) (N + 1) ((hist C S2.ws k).map Value.string ++ [Value.string X]) → (w5.alloc (.cells #[.string X] 9)).grownBy w6 (Value.slice ao N c0).ownBlock → ((Value.slice ao N c0).ownBlock = some gx ∨ gx = (w5.alloc (.cells #[.string X] 9)).heap.size) → KqS w.heap.size ga gda gca cda cca gb gdb gcb cdb ccb gm (min len2 30) C w (.int .i64 ((j2 : Int) + 1)) (w6.setCell ⟨gm, k, none⟩ (.slice (some ⟨gx, 0, none⟩) (N + 1) capx)) ∧ w6.cell? ⟨gm, k, none⟩ = some (.slice ao N c0) ∧ w6.frozen? ⟨gm, k, none⟩ = false) := Lib.hid (fun gx capx w6 ho hg ha => by
                  rw [← hVq] at hg ha
                  rw [← hN] at ho
                  obtain ⟨e1, e2, e3, e4, e5⟩ := may_step ha5 h5 hm5 HFR.out hk4 ho hg ha
                  rw [hN] at e1 e2 e3 e4 e5
                  have hMM : (fun t => if t = k then hist C S2.ws k ++ [X] else hist C S2.ws t) = hist C S5.ws := by
                    funext t
                    rw [hws5, hist_append]
                  rw [hMM] at e3
                  have hgm6 : w6.heap[gm]? = w5.heap[gm]? := (hg.block gm (by show gm < (w5.heap.push _).size; simp; have := hm5.lt; omega) (fun e => by
                    obtain ⟨c, hc⟩ := own_block hrow e.symm
                    rw [hm5.m] at hc
                    injection hc with hc
                    injection hc with _ hc
                    exact absurd hc (by decide))).trans (Lib.alloc_old w5 _ gm hm5.lt)
                  refine ⟨⟨j2 + 1, S5, va', ka', vb', kb', _, by rw [Int.natCast_succ], by omega, hbd5, hcm5, hdu5, e1, e2, ap5.symm, e3, e4, hbl5.trans e5⟩, ?_, ?_⟩
                  · rw [World.cell?_of_block (a := ⟨gm, k, none⟩) hgm6]; exact hcl0
                  · rw [World.frozen?_of_block (a := ⟨gm, k, none⟩) hgm6]; exact hm5.free k)
                have HRA := Lib.hid hra
                clear hra hrow ha5 h5 hv5 f5 ap5 hm5 hbl5 hX hVq hbd5 hcm5 hws5 hdu5 hN hhl hwl H4 HB4 HAP4 HBL4 HM4
                go_wp2_with (first | (go_at_call 23; refine HRA.out.mono ?_; rintro e w' ⟨rfl, rfl⟩) | (at_builtin; refine wpList_append_lies _ rfl _ _ 36 rfl w.heap.size 9 i0 _ 1 16 Try.underlying36 hi0 hz0 hs0 hy0 rfl (by decide) (.slice ao N c0) N _ rfl hrowW.out ⟨w'.heap.size, 0, none⟩ 1 1 [.string X] rfl rfl HN9.out (by intro u hu; simp at hu; rw [hu]; rfl) (by decide) HMX.out HBY.out hBW.out _ rfl ?_; intro gx capx w6 hown hgrow hat hlt; obtain ⟨t1, t2, t3⟩ := HST.out gx capx w6 hown hgrow hat; have T1 := Lib.hid t1; clear t1 hown hgrow hat hlt))
                refine ⟨?_, ?_⟩
                · iterate 52 (apply Exists.intro)
                  exact ⟨T1.out, rfl⟩
                · show 30 - (intOf (.int .i64 ((j2 : Int) + 1))).toNat < 30 - (intOf (.int .i64 (j2 : Int))).toNat
                  simp [intOf]; omega
              · have hex3 : (¬ (j2 : Int) < len2) ∨ ((j2 : Int) < len2 ∧ ¬ (j2 : Int) < 30) := by omega
                have hj70 : 40 + j2 ≤ 70 := by omega
                obtain ⟨v', w6, hap6, hb6, hcase⟩ := app_ints (HK.out.below hbl3)
                have hlen3 : len3 = ks.length := by
                  obtain ⟨_, _, h9, _⟩ := HK.out
                  injection h9
                have hlk : ks.length ≤ 100000000000000 := by obtain ⟨_, _, _, h9, _⟩ := HK.out; omega
                have hka : KeepArg v' ks va3 w6 := by
                  rcases hcase with ⟨h8, h9⟩ | ⟨b, c, h8, h9, h10, h11⟩
                  · exact .inl ⟨h8, h9⟩
                  · exact .inr ⟨b, 0, c, h8, h9, fun e => absurd (hA3.vw.lt b e).2 (by omega), h11⟩
                have HCR := Lib.hid (CrashD (hA3.below hb6) (hbd3.ok (by decide) (by decide) (by omega)) v' ks hlk hka)
                have hBs : w.heap.size ≤ wr.heap.size := Nat.le_trans (hA3.lts (.inl rfl)).1 (Nat.le_of_lt hA3.d.lt)
                have HA6 := Lib.hid (hA3.below hb6); have HB6 := Lib.hid (hB3.below hb6); have HAP6 := Lib.hid hap3; have HBL6 := Lib.hid (hbl3.trans (hb6.mono hBs)); have HM6 := Lib.hid (hmy3.below hb6); have HFR := Lib.hid hfr3; have HBD3 := Lib.hid hbd3; have HDC := Lib.hid hdC
                clear hA3 hB3 hap3 hbl3 hmy3 hfr3 hbd3 hcm3 hdC hcase hka hb6 hlk hlen3 hBs
                rcases hex3 with hx3 | ⟨hx3, hx4⟩
                all_goals
                  go_wp2_with (first | (at_builtin; refine wpList_append_eq rfl _ _ 30 rfl _ _ rfl rfl v' w6 hap6 ?_) | (go_at_call 14; refine HCR.out.mono ?_))
                  first | rintro e w7 rfl h7 f7 | rintro e w7 ⟨rfl, h7, f7⟩
                  obtain ⟨hb7, ap7⟩ := HA6.out.other HB6.out HAP6.out f7 (va' := .slice none 0 0) (fun x hx => by cases hx)
                  have hm7 := HM6.out.disk HA6.out (fun s hs x hx => (HFR.out s hs x hx).1) f7
                  have hal : Below w7.heap.size w7 (w7.alloc (.cells #[.int .i64 1] 3)) := (Below.refl _ _).alloc (Nat.le_refl _) _
                  have hka : KeepArg (.slice (some ⟨w7.heap.size, 0, none⟩) 1 1) [1] vb3 (w7.alloc (.cells #[.int .i64 1] 3)) := .inr ⟨w7.heap.size, 0, 1, rfl, by decide, fun e => absurd (hb7.vw.lt _ e).2 (Nat.lt_irrefl _), fun j hj => by
                    have hj2 : j < 1 := hj
                    unfold World.cell?
                    simp only [heap_alloc_new w7]
                    rcases (show j = 0 by omega) with rfl; rfl⟩
                  have HCR2 := Lib.hid (CrashD (hb7.below hal) (HBD3.out.ok (by decide) (by decide) (by omega)) _ [1] (by decide) hka)
                  have HA7 := Lib.hid (h7.below hal); have HB7 := Lib.hid (hb7.below hal); have HAP7 := Lib.hid ap7; have HM7 := Lib.hid (hm7.below hal); have HBL7 := Lib.hid ((HBL6.out.trans f7.below).trans (hal.mono (Nat.le_trans (h7.lts (.inl rfl)).1 (Nat.le_of_lt h7.d.lt))))
                  clear h7 f7 hb7 ap7 hm7 hal hka hap6 HCR
                  go_wp2_with (go_at_call 14; refine HCR2.out.mono ?_)
                  first | rintro e w9 rfl h9 f9 | rintro e w9 ⟨rfl, h9, f9⟩
                  obtain ⟨ha9, ap9⟩ := HB7.out.other HA7.out HAP7.out.symm f9 (va' := .slice none 0 0) (fun x hx => by cases hx)
                  have hm9 := HM7.out.disk HB7.out (fun s hs x hx => (HFR.out s hs x hx).2) f9
                  have HA9 := Lib.hid ha9; have HB9 := Lib.hid h9; have HM9 := Lib.hid hm9; have HBL9 := Lib.hid (HBL7.out.trans f9.below)
                  clear ha9 h9 hm9 ap9 f9 HCR2 HA7 HB7 HAP7 HM7 HBL7
                  go_wp2_with fail
                  go_loopw [20] (fun i wz => ∃ s : Nat, s ≤ 4 ∧ i = .int .i64 s ∧ wz.heap = w9.heap ∧ Below w.heap.size w wz) (fun i _ => 4 - (intOf i).toNat)
                  case atStart => exact ⟨0, by omega, rfl, rfl, HBL9.out⟩
                  case round =>
                    obtain ⟨s, hs, rfl, hwh, hwb⟩ := hrel
                    by_cases hs4 : s < 4
                    · have hs1 : (s : Int) < 4 := by omega
                      have hbk : ∀ b : Nat, wr.heap[b]? = w9.heap[b]? := fun b => by rw [hwh]
                      have hra := ReadD (HA9.out.keep (w' := wr) (fun b _ => hbk b)) s
                      have hrb := ReadD (HB9.out.keep (w' := wr) (fun b _ => hbk b)) s
                      have rdS : ∀ T : DS, T.off = false → readS 4 s T = (T.cur.getD s ⟨#[]⟩, 0) := fun T hT => by
                        unfold readS
                        rw [if_pos (by omega), if_neg (by rw [hT]; decide), Int.toNat_natCast]
                      rw [rdS _ rfl] at hra hrb
                      have hin := crash_cur (S := S2) ks s
                      have hla := hist_last C S2.ws s (by rw [HC4.out]; exact hs4)
                      rw [show putW C S2.ws = (crashS [1] S2).cur by rw [crash1_cur, HDC.out]] at hla
                      rw [HDC.out] at hin
                      obtain ⟨xa, hxa⟩ : ∃ xa, (crashS ks S2).cur.getD s ⟨#[]⟩ = xa := ⟨_, rfl⟩
                      obtain ⟨xb, hxb⟩ : ∃ xb, (crashS [1] S2).cur.getD s ⟨#[]⟩ = xb := ⟨_, rfl⟩
                      rw [hxa] at hra hin
                      rw [hxb] at hrb hla
                      have hmz := HM9.out.keep (w' := wr) (hbk gm) (fun _ _ b _ => hbk b)
                      have hrow := hmz.row s hs4
                      have hhl := hist_len C S2.ws s
                      obtain ⟨Hs, hHs⟩ : ∃ Hs, hist C S2.ws s = Hs := ⟨_, rfl⟩
                      rw [hHs] at hrow hhl hla hin
                      obtain ⟨gr, c0, hVq⟩ : ∃ gr c0, V s = .slice (some ⟨gr, 0, none⟩) Hs.length c0 := by
                        rcases hrow.2 with ⟨h1, h2⟩ | ⟨x, c, cu, h1, _⟩
                        · omega
                        · exact ⟨x, c, h1⟩
                      have hcg : wr.cell? ⟨gm, s, none⟩ = some (.slice (some ⟨gr, 0, none⟩) Hs.length c0) := by rw [hmz.cell s hs4, hVq]
                      have hcr : ∀ k x, Hs[k]? = some x → wr.cell? ⟨gr, k, none⟩ = some (.string x) := fun k x hx => by
                        have := hrow.cells (g := gr) (by rw [hVq]; rfl) k (.string x) (by rw [List.getElem?_map, hx]; rfl)
                        rw [addr_at] at this; exact this
                      have hwl : S2.ws.length ≤ 70 := by have := HBD3.out.ws; omega
                      have hN9 : Hs.length ≤ 71 := by omega
                      obtain ⟨N, hN⟩ : ∃ N, Hs.length = N := ⟨_, rfl⟩
                      rw [hN] at hcg hla hhl hN9
                      have HRA := Lib.hid hra; have HRB := Lib.hid hrb; have HIN := Lib.hid hin; have HLA := Lib.hid hla; have HCRr := Lib.hid hcr; have HNN := Lib.hid hN; have HWH := Lib.hid hwh; have HWB := Lib.hid hwb
                      clear hra hrb hin hla hcr hwh hwb hbk rdS hxa hxb hmz hrow hHs hVq hwl hN
                      go_wp2_with (first | (go_at_call 23; refine HRA.out.mono ?_; rintro e w' ⟨rfl, rfl⟩; clear HRA) | (go_at_call 23; refine HRB.out.mono ?_; rintro e w' ⟨rfl, rfl⟩))
                      have hN71 : (N : Int) ≤ 71 := by omega
                      have hN1 : (1 : Int) ≤ N := by omega
                      have hsub : IntKind.i64.wrap ((N : Int) - 1) = ((N - 1 : Nat) : Int) := by rw [IntWalk.i64_in _ (by omega)]; omega
                      have hlast := HCRr.out (N - 1) xb HLA.out
                      have hlti : ((N - 1 : Nat) : Int) < N := by omega
                      go_loopw [26, 25] (fun kv okv wz => ∃ (k : Nat) (okb : Bool), k ≤ N ∧ kv = .int .i64 k ∧ okv = .bool okb ∧ (okb = true ↔ xa ∈ Hs.take k) ∧ wz = w') (fun kv _ _ => N - (intOf kv).toNat)
                      case atStart => exact ⟨0, false, by omega, rfl, rfl, by simp, rfl⟩
                      case round =>
                        obtain ⟨k, okb, hk, rfl, rfl, hok, rfl⟩ := hrel
                        by_cases hkN : k < N
                        · have hki : (k : Int) < N := by omega
                          have hk71 : (k : Int) ≤ 71 := by omega
                          obtain ⟨x, hx⟩ : ∃ x, Hs[k]? = some x := ⟨_, List.getElem?_eq_getElem (by rw [HNN.out]; exact hkN)⟩
                          have hcx := HCRr.out k x hx
                          have HTK : Hid (Hs.take (k + 1) = Hs.take k ++ [x]) := Lib.hid (by rw [List.take_add_one, hx]; rfl)
                          have HOK := Lib.hid hok
                          clear hok hx hlast
                          cases okb
                          · by_cases he : x = xa
                            · subst he
                              go_wp2_with fail
                              exact ⟨⟨k + 1, true, by omega, by rw [Int.natCast_succ], rfl, by rw [HTK.out]; simp, trivial⟩, by simp [intOf]; omega⟩
                            · have hbe := ba_ne he
                              go_wp2_with fail
                              exact ⟨⟨k + 1, false, by omega, by rw [Int.natCast_succ], rfl, by rw [HTK.out, List.mem_append, List.mem_singleton, ← HOK.out]; simp; exact fun e => he e.symm, trivial⟩, by simp [intOf]; omega⟩
                          · go_wp2_with fail
                            exact ⟨⟨k + 1, true, by omega, by rw [Int.natCast_succ], rfl, by rw [HTK.out, List.mem_append]; exact ⟨fun _ => .inl (HOK.out.1 rfl), fun _ => rfl⟩, trivial⟩, by simp [intOf]; omega⟩
                        · obtain rfl : k = N := by omega
                          obtain rfl : okb = true := hok.2 (by rw [List.take_of_length_le (Nat.le_of_eq HNN.out)]; exact HIN.out)
                          clear hok
                          go_wp2_with fail
                          go_quiet (fail)
                          go_wp2_with fail
                          exact ⟨⟨s + 1, by omega, by rw [Int.natCast_succ], (heap_drewN _ _).trans HWH.out, below_drewN HWB.out _⟩, by simp [intOf]; omega⟩
                    · obtain rfl : s = 4 := by omega
                      have HWB := Lib.hid hwb
                      clear hwb hwh
                      go_wp2_with fail
                      go_ret
                      exact ⟨rfl, HWB.out⟩
end Go.Proofs.Ytppnaajeogkkeaa
