/- Sector: omit and settle over a disk as data; fail. -/
import Derived.Test.YtaionhdamdhjjaaSl
namespace Go.Proofs.Ytaionhdamdhjjaa
open Go.RowKit
variable {B n g gd gc cd cc : Nat} {vw vk : Value} {S : DS} {w : World}

theorem omitD_fail (h : IsD B n g gd gc cd cc vw vk S w) (lost : Nat → Int → Bool) (kb : Nat) (hm : S.ws.length ≤ 100000000)
    (hF : ∀ (k : Nat) (i : Int) (s : ByteArray) (w1 : World), k ≤ 100000000 → (∀ b, b < w.heap.size → vw.ownBlock ≠ some b → w1.heap[b]? = w.heap[b]?) → Calls Try.prog 47 #[.int .i64 k, .agg #[.int .i64 i, .string s], .pointer (some ⟨kb, 0, none⟩)] w1 fun e w' => e = .returned (.bool (lost k i)) ∧ Below w1.heap.size w1 w') :
    Calls Try.prog 33 #[.pointer (some ⟨g, 0, none⟩), .func (.func 47) #[] #[.pointer (some ⟨kb, 0, none⟩)]] w fun e w' => e = .returned (.tuple #[]) ∧ ∃ vw', IsD B n g gd gc cd cc vw' vk { S with ws := keepTo lost S.ws S.ws.length } w' ∧ vw'.ownBlock = vw.ownBlock ∧ FrD B g gd gc vw w w' := by
  rcases h.wr with ⟨hv, hs⟩ | ⟨gw, cw, cur, hv, hB, hg, hwc, hcm, hcz, hct⟩
  · subst hv
    refine (omit_nil (B := B) (gd := g) _ _ _ _ _ _ _ _ h.d h.b1).mono ?_
    rintro e w' ⟨rfl, hD, hK⟩
    have hf : FrD B g gd gc (.slice none 0 0) w w' := FrD.of_kept2 hK (.inr (.inr (.inl rfl)))
    have hk : ∀ b, b = gd ∨ b = gc ∨ vk.ownBlock = some b → w'.heap[b]? = w.heap[b]? := fun b hb => by
      have hl := (h.lts (by rcases hb with h1 | h1 | h1 <;> simp [h1] : b = g ∨ b = gd ∨ b = gc ∨ (Value.slice none 0 0).ownBlock = some b ∨ vk.ownBlock = some b)).2
      rcases hb with rfl | rfl | hb
      · exact hK.2.2 b hl h.gdg h.gdg
      · exact hK.2.2 b hl h.gcg h.gcg
      · exact hK.2.2 b hl (h.kg hb).1 (h.kg hb).1
    have e0 : keepTo lost S.ws S.ws.length = [] := by rw [hs]; rfl
    refine ⟨rfl, _, ⟨hD, h.rd.same (hk gd (.inl rfl)), h.rc.same (hk gc (.inr (.inl rfl))), h.ld, h.lc, ?_, ?_, own_same h.vk fun b e => hk b (.inr (.inr e)), h.ne, h.b1, h.b2, h.b3⟩, rfl, hf⟩
    · show w'.ownsRow B _ 2 _ (keepTo lost S.ws S.ws.length).length _
      rw [e0]; exact World.ownsRow_nil _ _ _ _
    · show ∀ p ∈ keepTo lost S.ws S.ws.length, _
      rw [e0]; intro p hp; cases hp
  · subst hv
    have hwg := h.wg (x := gw) rfl
    refine (omit_fail lost B g gw kb S.ws.length cw S.ws cur _ _ _ _ _ _ w h.d hg hcz hct rfl hwc hm hwg.1 h.b1 hB fun k i s w1 hk hK => hF k i s w1 hk fun b hb hne => hK.2.2 b hb (fun e => hne (by rw [e]; rfl)) (fun e => hne (by rw [e]; rfl))).mono ?_
    rintro e w' ⟨rfl, ⟨cur', hD, hg', hz', ht'⟩, hK⟩
    have hf := FrD.of_kept2 (gc := gc) (gd := gd) (vw := .slice (some ⟨gw, 0, none⟩) S.ws.length cw) hK (.inr (.inr (.inr rfl)))
    have hk : ∀ b, b = gd ∨ b = gc ∨ vk.ownBlock = some b → w'.heap[b]? = w.heap[b]? := fun b hb => by
      have hl := (h.lts (by rcases hb with h1 | h1 | h1 <;> simp [h1] : b = g ∨ b = gd ∨ b = gc ∨ (Value.slice (some ⟨gw, 0, none⟩) S.ws.length cw).ownBlock = some b ∨ vk.ownBlock = some b)).2
      rcases hb with rfl | rfl | hb
      · exact hK.2.2 b hl h.gdg (Ne.symm hwg.2.1)
      · exact hK.2.2 b hl h.gcg (Ne.symm hwg.2.2)
      · exact hK.2.2 b hl (h.kg hb).1 (fun e => (h.kg hb).2.2.2 (by rw [e]; rfl))
    refine ⟨rfl, _, ⟨hD, h.rd.same (hk gd (.inl rfl)), h.rc.same (hk gc (.inr (.inl rfl))), h.ld, h.lc, ⟨?_, .inr ⟨gw, cw, cur', rfl, hB, hg', Nat.le_trans (keepTo_length _ _ _) hwc, hcm, hz', ht'⟩⟩, fun p hp => h.wb p (keepTo_mem _ _ _ _ hp), own_same h.vk fun b e => hk b (.inr (.inr e)), h.ne, h.b1, h.b2, h.b3⟩, rfl, hf⟩
    show (flat (keepTo lost S.ws S.ws.length)).length = _
    rw [flat_length, Nat.mul_comm]
theorem omitD_spoil (h : IsD B n g gd gc cd cc vw vk S w) (lost : Nat → Int → Bool) (kb : Nat) (hm : S.ws.length ≤ 100000000)
    (hF : ∀ (k : Nat) (i : Int) (s : ByteArray) (w1 : World), k ≤ 100000000 → (∀ b, b < w.heap.size → vw.ownBlock ≠ some b → w1.heap[b]? = w.heap[b]?) → Calls Try.prog 34 #[.int .i64 k, .agg #[.int .i64 i, .string s], .pointer (some ⟨kb, 0, none⟩)] w1 fun e w' => e = .returned (.bool (lost k i)) ∧ Below w1.heap.size w1 w') :
    Calls Try.prog 33 #[.pointer (some ⟨g, 0, none⟩), .func (.func 34) #[] #[.pointer (some ⟨kb, 0, none⟩)]] w fun e w' => e = .returned (.tuple #[]) ∧ ∃ vw', IsD B n g gd gc cd cc vw' vk { S with ws := keepTo lost S.ws S.ws.length } w' ∧ vw'.ownBlock = vw.ownBlock ∧ FrD B g gd gc vw w w' := by
  rcases h.wr with ⟨hv, hs⟩ | ⟨gw, cw, cur, hv, hB, hg, hwc, hcm, hcz, hct⟩
  · subst hv
    refine (omit_nil (B := B) (gd := g) _ _ _ _ _ _ _ _ h.d h.b1).mono ?_
    rintro e w' ⟨rfl, hD, hK⟩
    have hf : FrD B g gd gc (.slice none 0 0) w w' := FrD.of_kept2 hK (.inr (.inr (.inl rfl)))
    have hk : ∀ b, b = gd ∨ b = gc ∨ vk.ownBlock = some b → w'.heap[b]? = w.heap[b]? := fun b hb => by
      have hl := (h.lts (by rcases hb with h1 | h1 | h1 <;> simp [h1] : b = g ∨ b = gd ∨ b = gc ∨ (Value.slice none 0 0).ownBlock = some b ∨ vk.ownBlock = some b)).2
      rcases hb with rfl | rfl | hb
      · exact hK.2.2 b hl h.gdg h.gdg
      · exact hK.2.2 b hl h.gcg h.gcg
      · exact hK.2.2 b hl (h.kg hb).1 (h.kg hb).1
    have e0 : keepTo lost S.ws S.ws.length = [] := by rw [hs]; rfl
    refine ⟨rfl, _, ⟨hD, h.rd.same (hk gd (.inl rfl)), h.rc.same (hk gc (.inr (.inl rfl))), h.ld, h.lc, ?_, ?_, own_same h.vk fun b e => hk b (.inr (.inr e)), h.ne, h.b1, h.b2, h.b3⟩, rfl, hf⟩
    · show w'.ownsRow B _ 2 _ (keepTo lost S.ws S.ws.length).length _
      rw [e0]; exact World.ownsRow_nil _ _ _ _
    · show ∀ p ∈ keepTo lost S.ws S.ws.length, _
      rw [e0]; intro p hp; cases hp
  · subst hv
    have hwg := h.wg (x := gw) rfl
    refine (omit_spoil lost B g gw kb S.ws.length cw S.ws cur _ _ _ _ _ _ w h.d hg hcz hct rfl hwc hm hwg.1 h.b1 hB fun k i s w1 hk hK => hF k i s w1 hk fun b hb hne => hK.2.2 b hb (fun e => hne (by rw [e]; rfl)) (fun e => hne (by rw [e]; rfl))).mono ?_
    rintro e w' ⟨rfl, ⟨cur', hD, hg', hz', ht'⟩, hK⟩
    have hf := FrD.of_kept2 (gc := gc) (gd := gd) (vw := .slice (some ⟨gw, 0, none⟩) S.ws.length cw) hK (.inr (.inr (.inr rfl)))
    have hk : ∀ b, b = gd ∨ b = gc ∨ vk.ownBlock = some b → w'.heap[b]? = w.heap[b]? := fun b hb => by
      have hl := (h.lts (by rcases hb with h1 | h1 | h1 <;> simp [h1] : b = g ∨ b = gd ∨ b = gc ∨ (Value.slice (some ⟨gw, 0, none⟩) S.ws.length cw).ownBlock = some b ∨ vk.ownBlock = some b)).2
      rcases hb with rfl | rfl | hb
      · exact hK.2.2 b hl h.gdg (Ne.symm hwg.2.1)
      · exact hK.2.2 b hl h.gcg (Ne.symm hwg.2.2)
      · exact hK.2.2 b hl (h.kg hb).1 (fun e => (h.kg hb).2.2.2 (by rw [e]; rfl))
    refine ⟨rfl, _, ⟨hD, h.rd.same (hk gd (.inl rfl)), h.rc.same (hk gc (.inr (.inl rfl))), h.ld, h.lc, ⟨?_, .inr ⟨gw, cw, cur', rfl, hB, hg', Nat.le_trans (keepTo_length _ _ _) hwc, hcm, hz', ht'⟩⟩, fun p hp => h.wb p (keepTo_mem _ _ _ _ hp), own_same h.vk fun b e => hk b (.inr (.inr e)), h.ne, h.b1, h.b2, h.b3⟩, rfl, hf⟩
    show (flat (keepTo lost S.ws S.ws.length)).length = _
    rw [flat_length, Nat.mul_comm]
theorem settleD (h : IsD B n g gd gc cd cc vw vk S w) (hm : S.ws.length ≤ 100000000) (hn : n ≤ 4096) :
    Calls Try.prog 27 #[.pointer (some ⟨g, 0, none⟩)] w fun e w' => e = .returned (.tuple #[]) ∧ IsD B n g gd gc cd cc (.slice none 0 0) vk { S with dur := putW S.dur S.ws, ws := [] } w' ∧ FrD B g gd gc vw w w' := by
  rcases h.wr with ⟨hv, hs⟩ | ⟨gw, cw, cur, hv, hB, hg, hwc, hcm, hcz, hct⟩
  · subst hv
    refine (settle_nil B g g 0 none _ _ _ _ _ _ w h.d h.b1).mono ?_
    rintro e w' ⟨rfl, hD, hK⟩
    have hk : ∀ b, b = gd ∨ b = gc ∨ vk.ownBlock = some b → w'.heap[b]? = w.heap[b]? := fun b hb => by
      have hl := (h.lts (by rcases hb with h1 | h1 | h1 <;> simp [h1] : b = g ∨ b = gd ∨ b = gc ∨ (Value.slice none 0 0).ownBlock = some b ∨ vk.ownBlock = some b)).2
      rcases hb with rfl | rfl | hb
      · exact hK.2.2 b hl h.gdg h.gdg
      · exact hK.2.2 b hl h.gcg h.gcg
      · exact hK.2.2 b hl (h.kg hb).1 (h.kg hb).1
    refine ⟨rfl, ⟨hD, ?_, h.rc.same (hk gc (.inr (.inl rfl))), (putW_length _ _).trans h.ld, h.lc, World.ownsRow_nil _ _ _ _, (fun p hp => by cases hp), own_same h.vk fun b e => hk b (.inr (.inr e)), h.ne, h.b1, h.b2, h.b3⟩, FrD.of_kept2 hK (.inr (.inr (.inl rfl)))⟩
    show RowS gd (putW S.dur S.ws) w'
    rw [hs]; exact h.rd.same (hk gd (.inl rfl))
  · subst hv
    have hwg := h.wg (x := gw) rfl
    refine (settle_any B g gd gw n S.ws.length cd cw S.dur S.ws _ _ _ _ _ w h.d h.rd h.ld (wrAt_of hg rfl hct) rfl (Array.getElem?_eq_some_iff.1 hg).1 h.wb (Ne.symm h.gdg) hwg.2.1 hwg.1 h.b1 h.b2 hn hm).mono ?_
    rintro e w' ⟨rfl, hD, hR, hK⟩
    have hk : ∀ b, b = gc ∨ vk.ownBlock = some b → w'.heap[b]? = w.heap[b]? := fun b hb => by
      have hl := (h.lts (by rcases hb with h1 | h1 <;> simp [h1] : b = g ∨ b = gd ∨ b = gc ∨ (Value.slice (some ⟨gw, 0, none⟩) S.ws.length cw).ownBlock = some b ∨ vk.ownBlock = some b)).2
      rcases hb with rfl | hb
      · exact hK.2.2 b hl h.gcg (Ne.symm h.ne)
      · exact hK.2.2 b hl (h.kg hb).1 (h.kg hb).2.1
    exact ⟨rfl, ⟨hD, hR, h.rc.same (hk gc (.inl rfl)), (putW_length _ _).trans h.ld, h.lc, World.ownsRow_nil _ _ _ _, (fun p hp => by cases hp), own_same h.vk fun b e => hk b (.inr e), h.ne, h.b1, h.b2, h.b3⟩, FrD.of_kept2 hK (.inl rfl)⟩
theorem str_size : (Try.prog.info? 9).map (·.size) = some 1 := by kernel_rfl
theorem RowS.copy {l m : List ByteArray} (hd : RowS gd l w) (hc : RowS gc m w) (ld : l.length = n) (lm : m.length = n) (hn : 0 < n) (hB : B ≤ gc) :
    ∃ w2, (∀ ty, (Builtin.copy_ #[36, 36] ty #[.slice (some ⟨gc, 0, none⟩) n cc, .slice (some ⟨gd, 0, none⟩) n cd]).run Try.prog w = .ok (.int .i64 n) w2) ∧ RowS gc l w2 ∧ Below B w w2 ∧ w2.heap.size = w.heap.size ∧ ∀ b, b ≠ gc → w2.heap[b]? = w.heap[b]? := by
  obtain ⟨cur, h1, h2⟩ := hc
  have hsz : n ≤ cur.size := by
    obtain ⟨x, hx⟩ : ∃ x, m[n - 1]? = some x := ⟨_, List.getElem?_eq_getElem (by omega)⟩
    have := (Array.getElem?_eq_some_iff.1 (h2 _ _ hx)).1
    omega
  have hlen : (l.map Value.string).length = n := by rw [List.length_map, ld]
  have hrun : ∀ ty, _ := fun ty => run_copy_row (P := Try.prog) w 36 36 ty 9 gc 0 n cc ⟨gd, 0, none⟩ n cd cur 9 (l.map Value.string) Try.underlying36 str_size h1 (by rw [hlen]; exact (Nat.min_self n).symm) (fun j v hv => by
    rw [List.getElem?_map] at hv
    obtain ⟨s, hs, rfl⟩ := Option.map_eq_some_iff.1 hv
    rw [addr_at]; exact hd.cell j s hs) (by omega) (by intro v hv; obtain ⟨s, _, rfl⟩ := List.mem_map.1 hv; rfl)
  rw [hlen] at hrun
  refine ⟨_, fun ty => hrun ty, ⟨_, setRow_heap w gc cur _ _ _ h1, fun i s hs => ?_⟩, below_setRow (Below.refl _ _) hB _, setRow_size _ _ _, fun b hb => setRow_other _ _ _ _ hb⟩
  rw [List.take_zero, List.nil_append, List.getElem?_toArray, List.getElem?_append_left (by rw [hlen, ← ld]; exact (List.getElem?_eq_some_iff.1 hs).1), List.getElem?_map, hs]
  rfl
/-- The disk behind a loss of power. -/
def failS (zs : List Int) (S : DS) : DS := { S with dur := putW S.dur (keepTo (fun k _ => lostB zs k) S.ws S.ws.length), cur := putW S.dur (keepTo (fun k _ => lostB zs k) S.ws S.ws.length), ws := [], left := 0, kp := [], off := true }
/-- The value ka is the list zs. -/
def KeepArg (ka : Value) (zs : List Int) (vw : Value) (w : World) : Prop := (zs = [] ∧ ∃ a c, ka = .slice a 0 c) ∨ (∃ b o c, ka = .slice (some ⟨b, o, none⟩) zs.length c ∧ 0 < zs.length ∧ vw.ownBlock ≠ some b ∧ ∀ j, j < zs.length → w.cell? ⟨b, o + j, none⟩ = some (.int .i64 (zs.getD j 0)))
theorem fail_loses (ka : Value) (zs : List Int) (hz : zs.length ≤ 100000000000000) (hk : KeepArg ka zs vw w) (hw : ∀ x, vw.ownBlock = some x → x < w.heap.size) (k : Nat) (i : Int) (s : ByteArray) (w1 : World) (hk9 : k ≤ 100000000) (hb : ∀ b, b < (w.alloc (.cells #[ka] 30)).heap.size → vw.ownBlock ≠ some b → w1.heap[b]? = (w.alloc (.cells #[ka] 30)).heap[b]?) :
    Calls Try.prog 47 #[.int .i64 k, .agg #[.int .i64 i, .string s], .pointer (some ⟨w.heap.size, 0, none⟩)] w1 fun e w' => e = .returned (.bool (lostB zs k)) ∧ Below w1.heap.size w1 w' := by
  have hkc : w1.cell? ⟨w.heap.size, 0, none⟩ = some ka := by
    unfold World.cell?
    simp only [hb w.heap.size (by show _ < (w.heap.push _).size; simp) (fun e => absurd (hw _ e) (Nat.lt_irrefl _)), heap_alloc_new w]
    rfl
  rcases hk with ⟨rfl, a, c, rfl⟩ | ⟨b, o, c, rfl, h0, hne, hc⟩
  · exact fail1_nil _ a c k i s w1 hkc
  · refine fail1_some _ b o zs.length c zs k i s w1 hkc h0 rfl (fun j hj => ?_) hk9 hz
    have hlt := World.block_lt_of_cell? w _ (hc 0 h0)
    have h1 : b < w.heap.size := hlt
    have h2 := hb b (by show _ < (w.heap.push _).size; simp; omega) hne
    have h3 := hc j hj
    unfold World.cell? at h3 ⊢
    simp only [h2, Lib.alloc_old w _ b h1]
    exact h3
end Go.Proofs.Ytaionhdamdhjjaa
