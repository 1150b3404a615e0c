/- Wal: record, Commit. -/
import Derived.Test.YtbpaiiljhdohfaaDoorWg
import Derived.Deep.MidRow
namespace Go.Proofs.YtbpaiiljhdohfaaDoor
open Go.RowKit
variable {B n g gd gc cd cc l f m t : Nat} {vw vk : Value} {S : DS} {w : World}

theorem images_length (f : Nat) (y : List ByteArray) : (imagesOf f y).length = y.length := by
  induction y generalizing f with
  | nil => rfl
  | cons s y ih => show (imagesOf (f + 1) y).length + 1 = _; rw [ih]; rfl
theorem images_get (f : Nat) (y : List ByteArray) (k : Nat) (s : ByteArray) (h : y[k]? = some s) : (imagesOf f y)[k]? = some (f + k, s) := by
  induction y generalizing f k with
  | nil => simp at h
  | cons a y ih =>
    cases k with
    | zero => simp at h; subst h; rfl
    | succ k =>
      rw [List.getElem?_cons_succ] at h
      show (imagesOf (f + 1) y)[k]? = _
      rw [ih (f + 1) k h]
      congr 2; omega
theorem images_mem (f : Nat) (y : List ByteArray) (c : Nat × ByteArray) (h : c ∈ imagesOf f y) : f ≤ c.1 ∧ c.1 < f + y.length ∧ c.2 ∈ y := by
  obtain ⟨i, hi⟩ := List.mem_iff_getElem?.1 h
  have hl := (List.getElem?_eq_some_iff.1 hi).1
  rw [images_length] at hl
  have := images_get f y i y[i] (List.getElem?_eq_getElem hl)
  rw [hi] at this
  injection this with this
  subst this
  exact ⟨by simp, by simp; exact hl, List.getElem_mem hl⟩
theorem pair_set (z : List Value) (j : Nat) (v0 v1 : Value) (h : j * 2 + 2 ≤ z.length) : ((z.set (j * 2) v0).set (j * 2 + 1) v1).take ((j + 1) * 2) = z.take (j * 2) ++ [v0, v1] := by
  apply List.ext_getElem?
  intro i
  have hl : (z.take (j * 2)).length = j * 2 := by rw [List.length_take]; omega
  rw [List.getElem?_take, List.getElem?_append, hl]
  rcases Nat.lt_or_ge i (j * 2) with h1 | h1
  · rw [if_pos (show i < (j + 1) * 2 by omega), if_pos h1, List.getElem?_set_ne (by omega), List.getElem?_set_ne (by omega), List.getElem?_take, if_pos h1]
  · rw [if_neg (show ¬ i < j * 2 by omega)]
    rcases (show i = j * 2 ∨ i = j * 2 + 1 ∨ (j + 1) * 2 ≤ i by omega) with e | e | e
    · subst e
      rw [if_pos (show j * 2 < (j + 1) * 2 by omega), List.getElem?_set_ne (by omega), List.getElem?_set_self (by omega), Nat.sub_self]; rfl
    · subst e
      rw [if_pos (show j * 2 + 1 < (j + 1) * 2 by omega), List.getElem?_set_self (by rw [List.length_set]; omega), show j * 2 + 1 - j * 2 = 1 by omega]; rfl
    · rw [if_neg (show ¬ i < (j + 1) * 2 by omega), List.getElem?_eq_none (by simp; omega)]
theorem cells_set {gi : Nat} {cur : Array Value} {e : TypeId} (h : w.heap[gi]? = some (.cells cur e (0, 0))) (i : Nat) (v : Value) : (w.setCell ⟨gi, i, none⟩ v).heap[gi]? = some (.cells (cur.setIfInBounds i v) e (0, 0)) := by
  show (w.heap.modify gi _)[gi]? = _
  rw [Array.getElem?_modify, if_pos rfl, h]; rfl
/-- Changes that are made one by one in a row of their own. -/
def MadeRow (gi k : Nat) (x : List (Nat × ByteArray)) (q : Nat) (w : World) : Prop :=
  ∃ cur, w.heap[gi]? = some (.cells cur 55 (0, 0)) ∧ cur.size = k * 2 ∧ cur.toList.take (q * 2) = flat (x.take q)
theorem flat_step (x : List (Nat × ByteArray)) (q : Nat) (c : Nat × ByteArray) (h : x[q]? = some c) : flat (x.take (q + 1)) = flat (x.take q) ++ [Value.int .i64 (c.1 : Int), Value.string c.2] := flatMap_take _ x q c h
theorem MadeRow.set {gi k q : Nat} {x : List (Nat × ByteArray)} (h : MadeRow gi k x q w) (a : Nat) (s : ByteArray) (hc : x[q]? = some (a, s)) (hq : q < k) : MadeRow gi k x (q + 1) (w.setCells gi (q * 2) [Value.int .i64 (a : Int), Value.string s]) := by
  obtain ⟨cur, h1, h2, h3⟩ := h
  refine ⟨(cur.setIfInBounds (q * 2) (Value.int .i64 (a : Int))).setIfInBounds (q * 2 + 1) (Value.string s), ?_, by simp [h2], ?_⟩
  · rw [World.setCells, World.setCells, World.setCells]
    exact cells_set (cells_set h1 _ _) _ _
  · rw [Array.toList_setIfInBounds, Array.toList_setIfInBounds, pair_set _ _ _ _ (by rw [Array.length_toList, h2]; omega), h3, flat_step x q (a, s) hc]
theorem MadeRow.there {gi k q : Nat} {x : List (Nat × ByteArray)} (h : MadeRow gi k x q w) (hq : q < k) : w.there gi (q * 2) 2 := fun j hj => by
  obtain ⟨cur, h1, h2, h3⟩ := h
  unfold World.cell? World.frozen?
  simp only [h1]
  exact ⟨by simp; omega, by simp⟩
theorem MadeRow.same {gi k q : Nat} {x : List (Nat × ByteArray)} (h : MadeRow gi k x q w) {w' : World} (e : w'.heap[gi]? = w.heap[gi]?) : MadeRow gi k x q w' := by
  obtain ⟨cur, h1, h2, h3⟩ := h
  exact ⟨cur, e.trans h1, h2, h3⟩
theorem MadeRow.drew {gi k q : Nat} {x : List (Nat × ByteArray)} (h : MadeRow gi k x q w) : MadeRow gi k x q w.drew := h
theorem MadeRow.lt {gi k q : Nat} {x : List (Nat × ByteArray)} (h : MadeRow gi k x q w) : gi < w.heap.size := by
  obtain ⟨cur, h1, _⟩ := h
  exact (Array.getElem?_eq_some_iff.1 h1).1
theorem MadeRow.row {gi k : Nat} {x : List (Nat × ByteArray)} (h : MadeRow gi k x k w) (hx : x.length = k) (hk : k ≤ maxLen) : ChRow w (.slice (some ⟨gi, 0, none⟩) k k) (intC x) := by
  obtain ⟨cur, h1, h2, h3⟩ := h
  rw [← hx, List.take_length, flat_intC] at h3
  have e := intC_length x
  refine ⟨by rw [flatI_length]; omega, .inr ⟨gi, k, cur, by rw [e, hx], Nat.zero_le _, h1, by rw [e]; omega, hk, h2, by rw [e]; exact h3⟩⟩
theorem setCells_below {gi B0 : Nat} {w0 : World} (h : Below B0 w0 w) (hB : B0 ≤ gi) (o : Nat) (a b : Value) : Below B0 w0 (w.setCells gi o [a, b]) := by
  rw [World.setCells, World.setCells, World.setCells]
  exact (h.setCell (p := ⟨gi, o, none⟩) hB a).setCell (p := ⟨gi, o + 1, none⟩) hB b
theorem info_change : (Tryd.prog.info? 55).map (fun i => (i.zero, i.size, i.bytes)) = some (some (.agg #[.int .i64 0, .string ⟨#[]⟩]), 2, 24) := by kernel_rfl
theorem headB_size (x : List (Nat × ByteArray)) (h : x.length ≤ 64) : (headB x).size = 512 := by
  refine padB_size _ ?_
  rw [ByteArray.size_append, leB_size']
  show (hdL x).toArray.size + 4 ≤ 512
  rw [List.size_toArray, hdL_eq, List.length_append, secs_len]
  show 3 + _ + 4 ≤ 512
  omega
theorem _root_.Go.Proofs.YtbpaiiljhdohfaaDoor.CrcVars.disk {w' : World} (h : CrcVars w) (hB : 0 < B) (fr : FrD B g gd gc vw w w') : CrcVars w' :=
  ⟨fun i hi => (fr.below.cell (p := ⟨0, i, none⟩) (by show 0 < _; exact hB)).trans (h.1 i hi), Nat.lt_of_lt_of_le h.2 fr.size⟩
def WrS (gi k : Nat) (x : List (Nat × ByteArray)) (w : World) (i : Value) (wr : World) : Prop :=
  ∃ q : Nat, q ≤ k ∧ i = .int .i64 q ∧ MadeRow gi k x q wr ∧ Below w.heap.size w wr
set_option maxHeartbeats 4000000 in
set_option maxRecDepth 100000 in
theorem record_any (hL : LogAt l g f m w) (hI : IsD B n g gd gc cd cc vw vk S w) (hf : f + 1 + m ≤ n) (hn : n ≤ 4096) (bd : Bd t S) (v : Value) (x : List (Nat × ByteArray)) (hx : ChRow w v (intC x)) (hk : ∀ c ∈ x, c.1 < n ∧ c.2.size ≤ 512) (hm : x.length ≤ m) (hl64 : x.length ≤ 64) (hV : CrcVars w) (hgb : 0 < B) (ht : t + x.length + 3 ≤ 10000000) :
    Calls Tryd.prog 40 #[.pointer (some ⟨l, 0, none⟩), v] w (Stepped B n g gd gc cd cc vw (recordS f x S) w) := by
  have hx0 := hx
  obtain ⟨ox, cx, hv, hxm, hc⟩ := hx.opened
  subst hv
  obtain ⟨k, hkl⟩ : ∃ k, x.length = k := ⟨_, rfl⟩
  have hki : (k : Int) ≤ 64 := by omega
  have eIC := intC_length x
  rw [hkl] at eIC
  rw [eIC]
  have HX0 := Lib.hid hx0
  have HX := Lib.hid hkl; have HC := Lib.hid hc; have HV := Lib.hid hV; have HK := Lib.hid hk; have HL := Lib.hid hL; have HI := Lib.hid hI; have HBD := Lib.hid bd; have HM := Lib.hid hm; have HT := Lib.hid ht; have HIC := Lib.hid eIC
  obtain ⟨i0, hi0, hz0, hs0, hy0⟩ := info_parts info_change
  have HVK : Hid (∀ w', FrD B g gd gc vw w w' → CrcVars w') := Lib.hid (fun w' fr => hV.disk hgb fr)
  have hb2 : i0.bytes * k ≤ 281474976710656 := by rw [hy0]; omega
  have hb3 : k ≤ maxLen := by unfold maxLen; omega
  obtain ⟨X, hX⟩ : ∃ X, imagesOf (f + 1) (x.map (·.2)) = X := ⟨_, rfl⟩
  have hXl : X.length = k := by rw [← hX, images_length, List.length_map, hkl]
  have HXX := Lib.hid hX; have HXL := Lib.hid hXl
  clear hx hx0 hc hV hk hkl hxm hL hI bd hm ht eIC hX hXl hl64
  go_enter Tryd.func40, Tryd.ntmps40
  go_wp2_with (refine wpList_make_full _ rfl _ _ 42 rfl w.heap.size 55 i0 _ 2 Tryd.underlying42 hi0 hz0 hs0 .i64 .i64 k k k rfl rfl rfl rfl hb2 hb3 (Nat.le_refl _) ?_; intro w1 hown hgrow; have HO := Lib.hid hown; have HG := Lib.hid hgrow; clear hown hgrow)
  have hmade : MadeRow w.heap.size k X 0 w1 := by
    rcases HO.out.2 with ⟨h1, _⟩ | ⟨g', cap, cur, h1, _, h2, h3, _, h4, _⟩
    · cases h1
    · injection h1 with h1 h1' h1''
      injection h1 with h1
      injection h1 with h1
      subst h1
      exact ⟨cur, h2, by rw [h4, ← h1''], rfl⟩
  have hB1 : Below w.heap.size w w1 := ⟨HG.out.os, HG.out.tape, HG.out.output, HG.out.size, fun b hb => HG.out.block b hb (by simp)⟩
  have HS0 : Hid (WrS w.heap.size k X w (.int .i64 0) w1) := Lib.hid ⟨0, Nat.zero_le _, rfl, hmade, hB1⟩
  clear hmade hB1 HO HG
  go_wp2_with fail
  go_loopw [14] (fun i wr => WrS w.heap.size k X w i wr) (fun i _ => k - (intOf i).toNat)
  case atStart => exact HS0.out
  case round =>
    obtain ⟨q, hq, rfl, hmd, hbl⟩ := hrel
    have HMD := Lib.hid hmd; have HBL := Lib.hid hbl
    clear hmd hbl
    by_cases hlt : q < k
    · have hqi : (q : Int) < k := by omega
      obtain ⟨c, hcx⟩ : ∃ c, x[q]? = some c := ⟨_, List.getElem?_eq_getElem (by rw [HX.out]; exact hlt)⟩
      have hcr := HC.out.below HBL.out
      obtain ⟨b, cur, hob, hcur, d0, d1⟩ := hcr q ((c.1 : Int), c.2) (by unfold intC; rw [List.getElem?_map, hcx]; rfl)
      subst hob
      have hXq : X[q]? = some (f + 1 + q, c.2) := by
        rw [← HXX.out]
        exact images_get _ _ _ _ (by rw [List.getElem?_map, hcx]; rfl)
      obtain ⟨pi, ps⟩ := c
      simp only at d0 d1 hXq
      obtain ⟨W1, hW1⟩ : ∃ W1, wr.alloc (.cells #[.int .i64 pi, .string ps] 55) = W1 := ⟨_, rfl⟩
      obtain ⟨gz, hgz⟩ : ∃ gz, wr.heap.size = gz := ⟨_, rfl⟩
      have y1 : W1.cell? ⟨gz, 1, none⟩ = some (.string ps) := by rw [← hW1, ← hgz]; unfold World.cell?; simp only [heap_alloc_new wr]; rfl
      have hB1 : Below wr.heap.size wr W1 := hW1 ▸ (Below.refl _ _).alloc (Nat.le_refl _) _
      have HMD1 := Lib.hid (HMD.out.same (hB1.block _ HMD.out.lt))
      have HBL1 := Lib.hid (HBL.out.trans (hB1.mono HBL.out.size))
      have HLW := Lib.hid ((HL.out.below HBL.out).below hB1)
      have HXQ := Lib.hid hXq
      clear hcr hcx hcur hB1 hXq
      go_wp2_with (refine wpList_store_row rfl 55 _ _ rfl wr.heap.size #[.int .i64 pi, .string ps] rfl rfl 55 _ (heap_alloc_new wr _) change_size rfl (by rfl) ?_; rw [hW1, hgz])
      refine wp_region_still_tail 9 (by kernel_rfl) (by kernel_rfl) ?_
      change wpStill _ _ (World.drew _) _ _ _
      simp only [List.take_succ_cons, List.take_zero, List.drop_succ_cons, List.drop_zero]
      repeat still_step
      still_call (image_any (w := W1.drew) (show LogAt l g f m W1.drew from HLW.out) q (by omega) (by omega))
      repeat still_step
      try refine wpStill_nil ?_
      change wpList _ _ _ _ _ (World.drew _)
      have hth := HMD1.out.drew.there hlt
      have hn1 := HMD1.out.drew.set _ _ HXQ.out hlt
      have hn2 := setCells_below HBL1.out.drew (Nat.le_refl _) (q * 2) (.int .i64 ((f + 1 + q : Nat) : Int)) (.string ps)
      obtain ⟨W2, hW2⟩ : ∃ W2, (W1.drew).setCells w.heap.size (q * 2) [.int .i64 ((f + 1 + q : Nat) : Int), .string ps] = W2 := ⟨_, rfl⟩
      rw [hW2] at hn1 hn2
      have HN : Hid (WrS w.heap.size k X w (.int .i64 ((q : Int) + 1)) W2) := Lib.hid ⟨q + 1, by omega, by rw [Int.natCast_succ], hn1, hn2⟩
      clear hn1 hn2
      refine wpList_store_mid rfl 55 _ _ rfl w.heap.size (q * 2) #[.int .i64 ((f + 1 + q : Nat) : Int), .string ps] rfl rfl hth change_size (all_oneCell_toArray (by intro v hv; simp at hv; rcases hv with rfl | rfl <;> rfl)) ?_
      rw [show (#[Value.int .i64 ((f + 1 + q : Nat) : Int), Value.string ps]).toList = [.int .i64 ((f + 1 + q : Nat) : Int), .string ps] from rfl, hW2]
      clear hth hW2 y1
      go_wp2_with fail
      exact ⟨HN.out, by simp [intOf]; omega⟩
    · obtain rfl : q = k := by omega
      have hrow := HMD.out.row HXL.out hb3
      have hLr := HL.out.below HBL.out
      have hIr := HI.out.below HBL.out
      have hXk : ∀ c ∈ X, c.1 < n ∧ c.2.size ≤ 512 := fun c hc => by
        rw [← HXX.out] at hc
        obtain ⟨h1, h2, h3⟩ := images_mem _ _ _ hc
        rw [List.length_map, HX.out] at h2
        obtain ⟨c', hc', he⟩ := List.mem_map.1 h3
        exact ⟨by have := HM.out; have := HX.out; omega, by rw [← he]; exact (HK.out c' hc').2⟩
      have hS := store_any hLr hIr (by omega) hn HBD.out _ X hrow hXk (by rw [HXL.out]; have := HT.out; rw [HX.out] at this; omega)
      have HS := Lib.hid hS; have HLr := Lib.hid hLr; have HIr := Lib.hid hIr
      have HFr : Hid (FrD B g gd gc vw w wr) := Lib.hid (FrD.of_below HI.out.b1 (Nat.le_of_lt HI.out.d.lt) HBL.out)
      clear hrow hLr hIr hXk hS
      go_wp2_with (go_at_call 48; refine HS.out.mono ?_)
      rintro e w3 ⟨rfl, va, ka, h3, hv3, f3⟩
      have HI3 := Lib.hid h3
      have HV3 : Hid (∀ y, va.ownBlock = some y → vw.ownBlock = some y ∨ w.heap.size ≤ y) := Lib.hid (fun y hy => by
        rcases hv3 y hy with h | h
        · exact .inl h
        · exact .inr (Nat.le_trans HBL.out.size h))
      have HF3 := Lib.hid (HFr.out.trans f3 (fun _ h => .inl h))
      clear h3 hv3 f3 HS
      rcases makeS_err X S with he | he
      · have hL3 := HL.out.disk HI.out HF3.out
        have c1 := hL3.c1
        have hx3 : ChRow w3 (.slice ox q cx) (intC x) := by
          have := HX0.out
          rw [HIC.out] at this
          exact own_same this fun b hb => by
            obtain ⟨cur, hcur⟩ := own_block this hb
            exact HF3.out.kept HI.out hcur (by decide) (by decide) (by decide)
        have hV3 : CrcVars w3 := HVK.out w3 HF3.out
        have hD := describe_any (w := w3.drew) (.slice ox q cx) x (own_same hx3 fun _ _ => rfl) (fun c hc => ⟨by have := (HK.out c hc).1; omega, (HK.out c hc).2⟩) (by rw [HX.out]; omega) ⟨hV3.1, hV3.2⟩
        have HDE := Lib.hid hD
        have HRE : Hid (recordS f x S = makeS [(f, headB x)] (makeS X S).2) := Lib.hid (by unfold recordS; rw [HXX.out, thenS_ok _ he])
        have hhz : (headB x).size = 512 := headB_size x (by rw [HX.out]; omega)
        have HSTORE : Hid (∀ wp, Below w3.drew.heap.size w3.drew wp → Calls Tryd.prog 48 #[.pointer (some ⟨l, 0, none⟩), .slice (some ⟨wp.heap.size, 0, none⟩) 1 1] (wp.alloc (.cells #[.int .i64 f, .string (headB x)] 55)) (Stepped B n g gd gc cd cc vw (recordS f x S) w)) := Lib.hid (fun wp hb => by
          have hIp : IsD B n g gd gc cd cc va ka (makeS X S).2 wp := (HI3.out.ownC (w' := w3.drew) rfl).below hb
          have hLp : LogAt l g f m wp := LogAt.below (w := w3.drew) hL3 hb
          have hFp : FrD B g gd gc vw w wp := HF3.out.trans ((FrD.drew HI3.out).trans (FrD.of_below HI3.out.b1 (Nat.le_of_lt HI3.out.d.lt) hb) (fun _ h => .inl h)) HV3.out
          have hst := store_any (hLp.below ((Below.refl _ _).alloc (Nat.le_refl _) (.cells #[.int .i64 f, .string (headB x)] 55))) (hIp.below ((Below.refl _ _).alloc (Nat.le_refl _) _)) (by omega) hn (HBD.out.make X) _ [(f, headB x)] (one_row f _) (fun c hc => by simp at hc; subst hc; exact ⟨by omega, by show (headB x).size ≤ 512; omega⟩) (by rw [HXL.out]; have := HT.out; rw [HX.out] at this; simp; omega)
          rw [HRE.out]
          exact hst.mono fun e w9 h9 => (h9.after (fun _ h => .inl h) (FrD.alloc hIp _)).after HV3.out hFp)
        have HC1 : Hid (∀ wp, Below w3.drew.heap.size w3.drew wp → wp.cell? ⟨l, 1, none⟩ = some (.int .i64 f)) := Lib.hid (fun wp hb => (LogAt.below (w := w3.drew) hL3 hb).c1)
        rw [he]
        clear hL3 hx3 hV3 hD hhz
        go_wp2_with fail
        go_region_with (first | (go_at_call 47; refine HDE.out.mono ?_; first | rintro e wp rfl hb | rintro e wp ⟨rfl, hb⟩; have c1p := HC1.out wp hb; have HS2 := Lib.hid (HSTORE.out wp hb); clear hb) | (go_at_call 48; refine HS2.out.mono ?_; rintro e w9 ⟨rfl, hr⟩; have HR := Lib.hid hr; clear hr))
        all_goals
          go_wp2_with fail
          go_ret
          exact ⟨rfl, HR.out⟩
      · have hend : Hid (Stepped B n g gd gc cd cc vw (recordS f x S) w (.returned (.int .i64 7)) w3) := Lib.hid (by
          unfold recordS
          rw [HXX.out, thenS_no _ (by rw [he]; decide)]
          exact ⟨by rw [he], va, ka, HI3.out, HV3.out, HF3.out⟩)
        rw [he]
        go_wp2_with fail
        go_ret
        exact hend.out
end Go.Proofs.YtbpaiiljhdohfaaDoor
