/- Merges: texts; Split. Merges: Invalid. Vocabularies: Of. -/
import Derived.Test.YtdpfpdpaamjefaaDoorPo
import Derived.Test.YtdpfpdpaamjefaaDoorY2
import Derived.Test.YtdpfpdpaamjefaaDoorY3
namespace Go.Proofs.YtdpfpdpaamjefaaDoor
open Go.RowKit Go.Maps
variable {g gf gr cf cr m : Nat} {word : ByteArray} {P : List ByteArray} {R : Nat → Int} {w w' w'' : World}

/-- A slice's texts. -/
def StAt (w : World) (o : Option Addr) (l : List ByteArray) : Prop :=
  ∀ (k : Nat) (s : ByteArray), l[k]? = some s → ∃ (b : Nat) (cur : Array Value), o = some ⟨b, 0, none⟩ ∧ w.heap[b]? = some (.cells cur 9 (0, 0)) ∧ cur[k]? = some (.string s)
theorem StAt.cell {o : Option Addr} {l : List ByteArray} (h : StAt w o l) {k : Nat} {s : ByteArray} (hk : l[k]? = some s) : ∃ b, o = some ⟨b, 0, none⟩ ∧ w.cell? ⟨b, k, none⟩ = some (.string s) ∧ b < w.heap.size := by
  obtain ⟨b, cur, h1, h2, h3⟩ := h k s hk
  exact ⟨b, h1, by rw [cell_of_row h2]; exact h3, lt_of_some h2⟩
theorem StAt.same {o : Option Addr} {l : List ByteArray} (h : StAt w o l) (hb : ∀ (b : Nat) (cur : Array Value), o = some ⟨b, 0, none⟩ → w.heap[b]? = some (.cells cur 9 (0, 0)) → w'.heap[b]? = w.heap[b]?) : StAt w' o l := fun k s hk => by
  obtain ⟨b, cur, h1, h2, h3⟩ := h k s hk
  exact ⟨b, cur, h1, (hb b cur h1 h2).trans h2, h3⟩
theorem StAt.below {o : Option Addr} {l : List ByteArray} (h : StAt w o l) (hb : Below w.heap.size w w') : StAt w' o l := h.same fun _ _ _ h2 => hb.block _ (lt_of_some h2)
theorem StAt.nil (w : World) : StAt w none [] := fun k s h => by simp at h
theorem run_mks (n : Nat) (hn : n ≤ 100000) (w : World) : (Instr.makeSlice 75 (.int .i64 n) (.int .i64 n)).run Tryd.prog w = .ok (.slice (some ⟨w.heap.size, 0, none⟩) n n) (w.alloc (.cells (madeCells #[.string ⟨#[]⟩] n) 9)) := by
  obtain ⟨i0, hi, hz0, hz1, hz2⟩ := info_parts (show (Tryd.prog.info? 9).map (fun i => (i.zero, i.size, i.bytes)) = some (some (.string ⟨#[]⟩), 1, 16) by kernel_rfl)
  have := run_make (P := Tryd.prog) w 75 9 i0 (.string ⟨#[]⟩) Tryd.underlying75 hi hz0 .i64 .i64 n n (by omega) (by omega) (by rw [hz2]; show (16 : Int) * _ ≤ _; omega) (by omega)
  rw [hz1] at this
  simp only [Int.toNat_natCast, Nat.mul_one] at this
  exact this
def TxS (w : World) (P : List ByteArray) (i : Value) (wr : World) : Prop :=
  ∃ k : Nat, k ≤ P.length ∧ i = .int .i64 k ∧ (∃ cur : Array Value, wr.heap[w.heap.size]? = some (.cells cur 9 (0, 0)) ∧ cur.size = P.length ∧ ∀ j : Nat, j < k → cur[j]? = some (.string (P.getD j ⟨#[]⟩))) ∧ Below w.heap.size w wr
set_option maxHeartbeats 2000000 in
set_option maxRecDepth 100000 in
theorem texts_any (h : PtAt g gf gr cf cr word P R w) (hw : word.size ≤ 4096) (hP : P.length ≤ 4096) :
    Calls Tryd.prog 33 #[.pointer (some ⟨g, 0, none⟩)] w fun e w' => ∃ o cap, e = .returned (.slice o P.length cap) ∧ StAt w' o P ∧ Below w.heap.size w w' := by
  obtain ⟨n, hn⟩ : ∃ n, P.length = n := ⟨_, rfl⟩
  have c2 : w.cell? ⟨g, 2, none⟩ = some (.slice (some ⟨gr, 0, none⟩) n cr) := by have := h.c2; rwa [hn] at this
  have hmk := fun W => run_mks n (by omega) W
  have H0 : Hid (TxS w P (.int .i64 0) (w.alloc (.cells (madeCells #[.string ⟨#[]⟩] n) 9))) := Lib.hid ⟨0, Nat.zero_le _, rfl, ⟨_, World.alloc_heap_new w _, by rw [size_madeCells, hn], fun j hj => absurd hj (Nat.not_lt_zero _)⟩, (Below.refl _ w).alloc (Nat.le_refl _) _⟩
  rw [hn] at hP ⊢
  have HN := Lib.hid hn; have HT := Lib.hid h
  clear hn h
  go_enter Tryd.func33, Tryd.ntmps33
  go_wp2_with fail
  clear hmk c2
  go_loopw [13] (fun i wr => TxS w P i wr) (fun i _ => n - (intOf i).toNat)
  case atStart => exact H0.out
  case round =>
    obtain ⟨k, hk, rfl, ⟨cur, hc, hz, hj⟩, hb⟩ := hrel
    rw [HN.out] at hk hz
    have HC := Lib.hid hc; have HJ := Lib.hid hj; have HB := Lib.hid hb
    clear hc hj hb H0
    by_cases hlt : k < n
    · obtain ⟨p, hp⟩ : ∃ p, P[k]? = some p := ⟨_, List.getElem?_eq_getElem (by rw [HN.out]; exact hlt)⟩
      have HX := Lib.hid (text_any (HT.out.below HB.out) hw (by rw [HN.out]; exact hP) k p hp)
      have HP := Lib.hid (show P.getD k ⟨#[]⟩ = p by rw [List.getD_eq_getElem?_getD, hp]; rfl)
      obtain ⟨⟨v0, c1⟩, f1⟩ := cell_in HC.out (j := k) (by omega)
      clear hp
      go_wp2_with (go_at_call 43; refine HX.out.mono ?_; rintro e w1 ⟨rfl, q, rfl⟩)
      rename_i hq
      go_roundw
      case rel =>
        have h1 := mk_set (cur := cur) (v := fun j => .string (P.getD j ⟨#[]⟩)) hz hlt HJ.out
        rw [HP.out] at h1
        exact ⟨k + 1, by rw [HN.out]; omega, by rw [Int.natCast_succ], ⟨_, heap_set (w := wr.drewN _) _ HC.out, by rw [HN.out]; exact h1.1, h1.2⟩, (below_drewN HB.out _).setCell (p := ⟨w.heap.size, k, none⟩) (Nat.le_refl _) _⟩
      case measure => simp [intOf]; omega
    · have hkn : k = n := by omega
      go_wp2_with fail
      go_ret
      refine ⟨_, n, rfl, fun j s hs => ⟨w.heap.size, cur, rfl, HC.out, ?_⟩, HB.out⟩
      have hjl := (List.getElem?_eq_some_iff.1 hs).1
      rw [HN.out] at hjl
      rw [HJ.out j (by omega), List.getD_eq_getElem?_getD, hs]; rfl
def splitP (l : List PairB) (s : ByteArray) : List ByteArray := if 4096 < s.size then [] else splitB l s
def msrG (g : Nat) (w : World) : Nat := match w.cell? ⟨g, 2, none⟩ with | some (.slice _ n _) => n | _ => 0
theorem msr_eq (h : PtAt g gf gr cf cr word P R w) : msrG g w = P.length := by
  unfold msrG; rw [h.c2]
def SpS (g gf gr cf cr : Nat) (word : ByteArray) (l : List PairB) (T : List ByteArray) (w2 : World) (wr : World) : Prop :=
  ∃ (P : List ByteArray) (R : Nat → Int), PtAt g gf gr cf cr word P R wr ∧ RkOk l P R ∧ splitN P.length l P = T ∧ P.length ≤ 4096 ∧ FrP g gf gr w2 wr
theorem PtAt.some (h : PtAt g gf gr cf cr word P R w) (hw : 0 < word.size) : P ≠ [] := by
  rintro rfl
  have := h.cat
  have h2 := size_len word
  rw [← this] at h2
  have h3 : (catB []).length = 0 := rfl
  omega
theorem splitB_none (l : List PairB) {s : ByteArray} (h : s.size = 0) : splitB l s = [] := by
  unfold splitB
  have : bytesB s = [] := List.eq_nil_of_length_eq_zero (by rw [bytesB_length, h])
  rw [this, h]; rfl
theorem PrAt.fr {t : TypeId} {o : Option Addr} {l : List PairB} (h : PrAt w t o l) (hf : FrP g gf gr w w') (hb : ∀ b, o = Option.some ⟨b, 0, none⟩ → b ≠ g ∧ b ≠ gf ∧ b ≠ gr) : PrAt w' t o l :=
  h.same fun b _ h1 h2 => hf.block b (lt_of_some h2) (hb b h1).1 (hb b h1).2.1 (hb b h1).2.2
set_option maxHeartbeats 2000000 in
set_option maxRecDepth 100000 in
theorem Split_any (o : Option Addr) (l : List PairB) (cap : Nat) (word : ByteArray) (w : World) (hl : l.length ≤ 100000) (hp : PrAt w 31 o l) (hok : ∀ p ∈ l, OkP p) :
    Calls Tryd.prog 20 #[.slice o l.length cap, .string word] w fun e w' => ∃ o' cap', e = .returned (.slice o' (splitP l word).length cap') ∧ StAt w' o' (splitP l word) ∧ Below w.heap.size w w' := by
  obtain ⟨n, hn⟩ : ∃ n, l.length = n := ⟨_, rfl⟩
  by_cases h0 : word.size = 0
  · have e1 : word.toList = [] := ba_nil word h0
    have hend : Hid (splitP l word = []) := Lib.hid (by unfold splitP; rw [if_neg (by omega)]; exact splitB_none l h0)
    clear h0
    rw [hn]
    go_enter Tryd.func20, Tryd.ntmps20
    go_wp2_with fail
    go_ret
    rw [hend.out]
    exact ⟨none, 0, rfl, StAt.nil _, Below.refl _ _⟩
  have e1 : word.toList.isEmpty = false := ba_some word (by omega)
  have e2 : word.toList ≠ [] := fun e => by rw [e] at e1; cases e1
  by_cases h1 : 4096 < word.size
  · have hend : Hid (splitP l word = []) := Lib.hid (by unfold splitP; rw [if_pos h1])
    rw [hn]
    go_enter Tryd.func20, Tryd.ntmps20
    go_wp2_with fail
    go_ret
    rw [hend.out]
    exact ⟨none, 0, rfl, StAt.nil _, Below.refl _ _⟩
  have h2 : word.size ≤ 4096 := by omega
  have HTT := Lib.hid (show splitP l word = splitN (bytesB word).length l (bytesB word) by unfold splitP; rw [if_neg h1, bytesB_length]; rfl)
  have HP := Lib.hid hp; have HO := Lib.hid hok; have HN := Lib.hid hn
  obtain ⟨T, hT⟩ : ∃ T, splitP l word = T := ⟨_, rfl⟩
  rw [hT] at HTT ⊢
  rw [hn]
  clear hp hok hT hn
  go_enter Tryd.func20, Tryd.ntmps20
  go_wp2_with (go_at_call 30; refine (bytesOf_any word w (by omega) h2).mono ?_)
  rintro e w1 ⟨g, gf, gr, cf, cr, rfl, hT1, hg1, hg2, hg3, hb1⟩
  have HRK := Lib.hid (HN.out ▸ ranksOf_any o l cap w1 hl (HP.out.below hb1) HO.out)
  have HT1 := Lib.hid hT1; have HB1 := Lib.hid hb1
  clear hT1 hb1
  go_wp2_with (go_at_call 31; refine HRK.out.mono ?_)
  first | rintro e w2 rfl hr2 hb2 | rintro e w2 ⟨rfl, hr2, hb2⟩
  obtain ⟨l1, l2, l3⟩ := HT1.out.lt
  have H0 : Hid (SpS g gf gr cf cr word l T w2 w2) := Lib.hid ⟨_, _, HT1.out.below hb2, fun k a b _ _ => .inl rfl, HTT.out.symm, by rw [bytesB_length]; exact h2, FrP.refl _ _ _ _⟩
  have HR2 := Lib.hid hr2; have HB2 := Lib.hid hb2
  have hP2 : PrAt w2 31 o l := (HP.out.below HB1.out).below hb2
  have HP2 := Lib.hid hP2
  have HNE : Hid (∀ b, o = Option.some ⟨b, 0, none⟩ → 0 < n → b ≠ g ∧ b ≠ gf ∧ b ≠ gr) := Lib.hid (fun b hb hn0 => by
    obtain ⟨p, hp⟩ : ∃ p, l[0]? = Option.some p := ⟨_, List.getElem?_eq_getElem (by rw [HN.out]; exact hn0)⟩
    obtain ⟨b', cur, hb', hc, _⟩ := HP.out 0 p hp
    rw [hb] at hb'
    have e : b = b' := by injection hb' with hb'; injection hb'
    subst e
    have := lt_of_some hc
    omega)
  clear hr2 hb2 hP2 HRK HTT
  go_wp2_with fail
  go_loopw [7] (fun _ wr => SpS g gf gr cf cr word l T w2 wr) (fun _ wr => msrG g wr)
  case atStart => exact H0.out
  case round =>
    obtain ⟨P, R, hT, hok, hsp, hPl, hfr⟩ := hrel
    have hne := hT.some (by omega : 0 < word.size)
    have HL := Lib.hid (least_any hT h2 hPl hne hl (HR2.out.fr hfr (by omega) (by omega) (by omega)) (by omega) (by omega) (by omega) hok)
    have HSP := Lib.hid hsp; have HPl := Lib.hid hPl; have HF := Lib.hid hfr; have HNP := Lib.hid hne; have HTr := Lib.hid hT
    clear hT hok hsp hPl hfr hne H0
    go_wp2_with (go_at_call 32; refine HL.out.mono ?_)
    first | rintro e w3 rfl R3 hT3 hok3 hf3 | rintro e w3 ⟨rfl, R3, hT3, hok3, hf3⟩
    have HT3 := Lib.hid hT3; have HK3 := Lib.hid hok3; have HF3 := Lib.hid (HF.out.trans hf3)
    clear hT3 hok3 hf3 HL
    by_cases hb : bestI l P = noR
    · have HD := Lib.hid (show T = P by rw [← HSP.out]; exact splitP_done hb)
      have hb2 : bestI l P = 9223372036854775807 := hb
      have HX := Lib.hid (texts_any HT3.out h2 HPl.out)
      rw [hb2]
      clear hb hb2
      go_wp2_with (go_at_call 33; refine HX.out.mono ?_)
      first | rintro e w4 o4 c4 rfl hs4 hb4 | rintro e w4 ⟨o4, c4, rfl, hs4, hb4⟩
      have hend : Hid (StAt w4 o4 P ∧ Below w.heap.size w w4) := Lib.hid ⟨hs4, by
        have e1 : Below w.heap.size w w2 := HB1.out.trans (HB2.out.mono HB1.out.size)
        have e2 : Below w.heap.size w2 w3 := HF3.out.below e1.size hg1 hg2 hg3
        exact (e1.trans e2).trans (hb4.mono (e1.trans e2).size)⟩
      clear hs4 hb4
      go_wp2_with fail
      go_ret
      rw [HD.out]
      exact ⟨o4, c4, rfl, hend.out⟩
    · obtain ⟨k0, a, b, q1, q2, q3⟩ := bestI_at l hl P hb
      obtain ⟨hpa, hge, hlt, hat⟩ := pairAt_of q3 hb
      have hst := splitP_step hl hb
      rw [hpa] at hst
      have HST := Lib.hid hst
      have HLT := Lib.hid (mergeL_lt a b P k0 q1 q2)
      obtain ⟨r, hr⟩ : ∃ r : Nat, bestI l P = r := ⟨(bestI l P).toNat, by omega⟩
      have hrn : r ≠ 9223372036854775807 := fun e => hb (by rw [hr, e]; rfl)
      rw [hr] at hlt hat
      rw [Int.toNat_natCast] at hlt hat
      rw [HN.out] at hlt
      obtain ⟨bo, cur, hob, hcur, d0, d1⟩ := (HP2.out.fr HF3.out (fun b' h' => HNE.out b' h' (by omega))) r (a, b) hat
      subst hob
      simp only at d0 d1
      have HA := Lib.hid (apply_any (a := a) (b := b) HT3.out h2 HPl.out HNP.out HK3.out)
      have hri : (r : Int) < n := by omega
      have hrb : ((r : Int) == 9223372036854775807) = false := by simp; omega
      have hrn3 : n ≤ 100000 := by rw [← HN.out]; exact hl
      rw [hr]
      clear hb q1 q2 q3 hpa hge hat hst hcur hr
      go_wp2_with (go_at_call 34; refine HA.out.mono ?_)
      first | rintro e w4 rfl R4 hT4 hok4 hf4 | rintro e w4 ⟨rfl, R4, hT4, hok4, hf4⟩
      have hend : Hid (SpS g gf gr cf cr word l T w2 w4) := Lib.hid ⟨mergeL a b P, R4, hT4, hok4, by rw [← HSP.out, HST.out], Nat.le_trans (mergeL_le a b P) HPl.out, HF3.out.trans hf4⟩
      have hms : Hid (msrG g w4 < msrG g wr) := Lib.hid (by rw [msr_eq hT4, msr_eq HTr.out]; exact HLT.out)
      clear hT4 hok4 hf4
      go_wp2_with fail
      exact ⟨hend.out, hms.out⟩
end Go.Proofs.YtdpfpdpaamjefaaDoor
namespace Go.Proofs.YtdpfpdpaamjefaaDoor
open Go.RowKit Go.Maps
variable {w w' : World}

def InS (w : World) (l : List PairB) (i : Value) (wr : World) : Prop :=
  ∃ k : Nat, k ≤ l.length ∧ i = .int .i64 k ∧ invM l = invF k (resL (l.take k)) (l.drop k) ∧ IsTx w.heap.size k (resL (l.take k)) wr ∧ wr.cell? ⟨w.heap.size + 1, 0, none⟩ = some (.map (some w.heap.size)) ∧ Below w.heap.size w wr
theorem resL_take {l : List PairB} {k : Nat} {p : PairB} (h : l[k]? = some p) : resL (l.take (k + 1)) = resL (l.take k) ++ [p.1 ++ p.2] := by
  rw [List.take_add_one, h]; unfold resL; rw [List.map_append]; rfl
set_option maxHeartbeats 4000000 in
set_option maxRecDepth 100000 in
theorem Invalid_any (o : Option Addr) (l : List PairB) (cap : Nat) (w : World) (hl : l.length ≤ 100000) (hp : PrAt w 31 o l) (hok : ∀ p ∈ l, p.1.size + p.2.size ≤ maxLen) :
    Calls Tryd.prog 7 #[.slice o l.length cap] w fun e w' => e = .returned (.int .i64 (invM l)) ∧ Below w.heap.size w w' := by
  obtain ⟨n, hn⟩ : ∃ n, l.length = n := ⟨_, rfl⟩
  rw [hn] at hl ⊢
  have hmm := @run_makeMap Tryd.prog
  obtain ⟨W, hW⟩ : ∃ W, (w.alloc (.map #[] 0)).alloc (.cells #[.map (some w.heap.size)] 49) = W := ⟨_, rfl⟩
  have hb : Below w.heap.size w W := by rw [← hW]; exact ((Below.refl _ _).alloc (Nat.le_refl _) _).alloc (by simp) _
  have hs : IsTx w.heap.size 0 [] W := by rw [← hW]; exact (IsTx.new w).keep (Lib.alloc_old _ _ _ (by simp))
  have hk : W.cell? ⟨w.heap.size + 1, 0, none⟩ = some (.map (some w.heap.size)) := by
    rw [← hW]
    have := World.alloc_heap_new (w.alloc (.map #[] 0)) (.cells #[.map (some w.heap.size)] 49)
    rw [World.size_alloc] at this
    exact cell_of_row this
  have HN := Lib.hid hn; have HP := Lib.hid hp; have HO := Lib.hid hok
  have H0 : Hid (InS w l (.int .i64 0) W) := Lib.hid ⟨0, Nat.zero_le _, rfl, rfl, hs, hk, hb⟩
  clear hb hs hk hn hp hok
  go_enter Tryd.func7, Tryd.ntmps7
  go_wp2_with fail
  clear hW
  go_loopw [11] (fun i wr => InS w l i wr) (fun i _ => n - (intOf i).toNat)
  case atStart => exact H0.out
  case round =>
    obtain ⟨k, hk, rfl, hin, htx, hbox, hb⟩ := hrel
    rw [HN.out] at hk
    have HIN := Lib.hid hin; have HTX := Lib.hid htx; have HB := Lib.hid hb
    clear hin htx hb H0 hmm
    by_cases hlt : k < n
    · obtain ⟨q, hq⟩ : ∃ q, l[k]? = some q := ⟨_, List.getElem?_eq_getElem (by rw [HN.out]; exact hlt)⟩
      obtain ⟨g, cur, ho, hg, d0, d1⟩ := (HP.out.below HB.out) k q hq
      subst ho
      have hsz := HO.out q (List.mem_of_getElem? hq)
      have HRT := Lib.hid (resL_take hq)
      have hdr : l.drop k = q :: l.drop (k + 1) := by rw [List.drop_eq_getElem_cons (by rw [HN.out]; exact hlt), (List.getElem?_eq_some_iff.1 hq).2]
      have hst : invM l = if partOk (resL (l.take k)) q.1 && partOk (resL (l.take k)) q.2 then invF (k + 1) (resL (l.take k) ++ [q.1 ++ q.2]) (l.drop (k + 1)) else (k : Int) := by rw [HIN.out, hdr]; rfl
      have HST := Lib.hid hst
      have HSZ := Lib.hid hsz
      obtain ⟨q1, q2⟩ := q
      simp only at d0 d1
      have hs1 : q1.size ≤ maxLen := by have : q1.size + q2.size ≤ maxLen := hsz; omega
      have hs2 : q2.size ≤ maxLen := by have : q1.size + q2.size ≤ maxLen := hsz; omega
      obtain ⟨W1, hW1⟩ : ∃ W1, wr.alloc (.cells #[.string q1, .string q2] 31) = W1 := ⟨_, rfl⟩
      have hb1 : Below wr.heap.size wr W1 := by rw [← hW1]; exact (Below.refl _ _).alloc (Nat.le_refl _) _
      have i0 : W1.cell? ⟨wr.heap.size, 0, none⟩ = some (.string q1) := by rw [← hW1]; exact cell_of_row (World.alloc_heap_new wr _)
      have i1 : W1.cell? ⟨wr.heap.size, 1, none⟩ = some (.string q2) := by rw [← hW1]; exact cell_of_row (World.alloc_heap_new wr _)
      have hbl : w.heap.size + 1 < wr.heap.size := World.block_lt_of_cell? wr _ hbox
      have HBX := Lib.hid hbox
      have HE1 : Hid (∀ V, Below wr.heap.size wr V → Calls Tryd.prog 15 #[.string q1, .pointer (some ⟨w.heap.size + 1, 0, none⟩)] V fun e w' => e = .returned (.bool (partOk (resL (l.take k)) q1)) ∧ Below V.heap.size V w') := Lib.hid (fun V hV => exists_any _ _ _ _ q1 V hs1 ((hV.cell (p := ⟨w.heap.size + 1, 0, none⟩) hbl).trans HBX.out) (HTX.out.keep (hV.block _ HTX.out.lt)))
      have HE2 : Hid (∀ V, Below wr.heap.size wr V → Calls Tryd.prog 15 #[.string q2, .pointer (some ⟨w.heap.size + 1, 0, none⟩)] V fun e w' => e = .returned (.bool (partOk (resL (l.take k)) q2)) ∧ Below V.heap.size V w') := Lib.hid (fun V hV => exists_any _ _ _ _ q2 V hs2 ((hV.cell (p := ⟨w.heap.size + 1, 0, none⟩) hbl).trans HBX.out) (HTX.out.keep (hV.block _ HTX.out.lt)))
      have HB1 := Lib.hid hb1
      clear hq hg hdr hst hsz hb1 hbox
      cases c1 : partOk (resL (l.take k)) q1 with
      | false =>
        rw [c1] at HE1
        have HE := Lib.hid (show invM l = k by rw [HST.out, c1]; rfl)
        clear HE2 c1
        go_wp2_with (go_at_call 15; refine (HE1.out _ HB1.out).mono ?_; rintro e w2 ⟨rfl, hb2⟩)
        go_ret
        exact ⟨ret_int HE.out.symm, HB.out.trans ((HB1.out.trans (hb2.mono HB1.out.size)).mono HB.out.size)⟩
      | true =>
        cases c2 : partOk (resL (l.take k)) q2 with
        | false =>
          rw [c1] at HE1; rw [c2] at HE2
          have HE := Lib.hid (show invM l = k by rw [HST.out, c1, c2]; rfl)
          clear c1 c2
          go_wp2_with (first
            | (go_at_call 15; (with_reducible refine (HE1.out _ HB1.out).mono ?_); rintro e w2 ⟨rfl, hb2⟩; clear HE1; have j1 : w2.cell? ⟨wr.heap.size, 1, none⟩ = some (.string q2) := (hb2.cell (p := ⟨wr.heap.size, 1, none⟩) (World.block_lt_of_cell? _ _ i1)).trans i1; have HB2 := Lib.hid (HB1.out.trans (hb2.mono HB1.out.size)); clear hb2)
            | (go_at_call 15; (with_reducible refine (HE2.out _ HB2.out).mono ?_); rintro e w3 ⟨rfl, hb3⟩; clear HE2; have HB3 := Lib.hid (HB2.out.trans (hb3.mono HB2.out.size)); clear hb3))
          go_ret
          exact ⟨ret_int HE.out.symm, HB.out.trans (HB3.out.mono HB.out.size)⟩
        | true =>
          rw [c1] at HE1; rw [c2] at HE2
          have HE := Lib.hid (show invM l = invF (k + 1) (resL (l.take (k + 1))) (l.drop (k + 1)) by rw [HST.out, c1, c2, HRT.out]; rfl)
          have hlt2 : k < 100000 := by omega
          have HKQ := Lib.hid (keyS (s := q1 ++ q2) (by rw [app_size]; exact HSZ.out))
          have HRES := Lib.hid (fun V => result_any q1 q2 V HSZ.out)
          clear c1 c2
          go_wp2_with (first
            | (go_at_call 15; (with_reducible refine (HE1.out _ HB1.out).mono ?_); rintro e w2 ⟨rfl, hb2⟩; clear HE1; have j1 : w2.cell? ⟨wr.heap.size, 1, none⟩ = some (.string q2) := (hb2.cell (p := ⟨wr.heap.size, 1, none⟩) (World.block_lt_of_cell? _ _ i1)).trans i1; have HJ0 := Lib.hid ((hb2.cell (p := ⟨wr.heap.size, 0, none⟩) (World.block_lt_of_cell? _ _ i0)).trans i0); have HJ1 := Lib.hid j1; have HB2 := Lib.hid (HB1.out.trans (hb2.mono HB1.out.size)); clear hb2)
            | (go_at_call 15; (with_reducible refine (HE2.out _ HB2.out).mono ?_); rintro e w3 ⟨rfl, hb3⟩; clear HE2; have k0 : w3.cell? ⟨wr.heap.size, 0, none⟩ = some (.string q1) := (hb3.cell (p := ⟨wr.heap.size, 0, none⟩) (World.block_lt_of_cell? _ _ HJ0.out)).trans HJ0.out; have k1 : w3.cell? ⟨wr.heap.size, 1, none⟩ = some (.string q2) := (hb3.cell (p := ⟨wr.heap.size, 1, none⟩) (World.block_lt_of_cell? _ _ HJ1.out)).trans HJ1.out; have HB3 := Lib.hid (HB2.out.trans (hb3.mono HB2.out.size)); have kb : w3.cell? ⟨w.heap.size + 1, 0, none⟩ = some (.map (some w.heap.size)) := (HB3.out.cell (p := ⟨w.heap.size + 1, 0, none⟩) hbl).trans HBX.out; clear hb3))
          obtain ⟨D, hD, hD2⟩ := HTX.out.keep (HB3.out.block _ HTX.out.lt)
          have HD := Lib.hid hD; have HD2 := Lib.hid hD2
          clear hD hD2
          go_region_with (go_at_call 16; (with_reducible refine (HRES.out _).mono ?_); rintro e w4 ⟨rfl, hb4⟩; have hD4 : w4.ownsMap Tryd.prog 9 unitElem w.heap.size k D := (by obtain ⟨es, ck, z1, z2⟩ := HD.out; exact ⟨es, ck, (hb4.block _ (lt_of_some z1)).trans z1, z2⟩); obtain ⟨w5, hrun, ho5, ht5⟩ := hD4.store keyedS Tryd.underlying49 (by unfold maxLen; omega) HKQ.out unitElem_mk; have kb4 : w4.cell? ⟨w.heap.size + 1, 0, none⟩ = some (.map (some w.heap.size)) := (hb4.cell (p := ⟨w.heap.size + 1, 0, none⟩) (World.block_lt_of_cell? _ _ kb)).trans kb; have HO5 := Lib.hid ho5; have HT5 := Lib.hid ht5; have HB4 := Lib.hid hb4; clear hD4 ho5 ht5 hb4)
          all_goals
            have hb34 : Below w.heap.size w w4 := HB.out.trans (((below_drewN HB3.out 1).trans (HB4.out.mono HB3.out.size)).mono HB.out.size)
            have hc5 : w5.cell? ⟨w.heap.size + 1, 0, none⟩ = some (.map (some w.heap.size)) := (World.cell?_of_block (a := ⟨w.heap.size + 1, 0, none⟩) (HT5.out.grown.block (w.heap.size + 1) (show w.heap.size + 1 < w4.heap.size from World.block_lt_of_cell? _ _ kb4) (fun e => by injection e with e; omega))).trans kb4
            have hend : Hid (InS w l (.int .i64 ((k : Int) + 1)) w5) := Lib.hid ⟨k + 1, by rw [HN.out]; omega, by rw [Int.natCast_succ], HE.out, by rw [HRT.out]; exact IsTx.put HD.out HD2.out HO5.out, hc5, mapTurned_below HT5.out hb34 (Nat.le_refl _) hb34.size⟩
            clear hb34 hc5
            go_wp2_with fail
            go_roundw
            case rel => exact hend.out
            case measure => simp [intOf]; omega
    · have hkn : k = n := by omega
      have HE := Lib.hid (show invM l = -1 by rw [HIN.out, List.drop_of_length_le (by rw [HN.out]; omega)]; rfl)
      go_wp2_with fail
      go_ret
      exact ⟨ret_int HE.out.symm, HB.out⟩
end Go.Proofs.YtdpfpdpaamjefaaDoor
namespace Go.Proofs.YtdpfpdpaamjefaaDoor
open Go.RowKit Go.Maps
variable {w w' : World}

theorem FrO.trans {p m B : Nat} {w'' : World} (h : FrO p m B w w') (g : FrO p m B w' w'') : FrO p m B w w'' := ⟨h.low.trans g.low, Nat.le_trans h.size g.size, fun j hj a b => (g.block j hj a b).trans (h.block j hj a b)⟩
def byteS (c : Nat) : ByteArray := ⟨#[UInt8.ofNat c]⟩
/-- The tokens of one byte. -/
def ofS : Nat → List EntB
  | 0 => []
  | n + 1 => addE (ofS n) (byteS (33 + n))
/-- The vocabulary of a list of merges. -/
def ofP (l : List PairB) : List EntB := l.foldl (fun out p => addE out (p.1 ++ p.2)) (ofS 94)
theorem ofP_snoc (l : List PairB) (p : PairB) : ofP (l ++ [p]) = addE (ofP l) (p.1 ++ p.2) := by unfold ofP; rw [List.foldl_append]; rfl
theorem addE_len (out : List EntB) (s : ByteArray) : (addE out s).length ≤ out.length + 1 := by
  unfold addE; split
  · omega
  · rw [List.length_append]; simp
theorem ofS_len : ∀ n, (ofS n).length ≤ n
  | 0 => Nat.le_refl _
  | n + 1 => by have := ofS_len n; have := addE_len (ofS n) (byteS (33 + n)); show (addE (ofS n) _).length ≤ _; omega
theorem ofP_len : ∀ (l : List PairB), (ofP l).length ≤ 94 + l.length := by
  have key : ∀ (l : List PairB) (out : List EntB), (l.foldl (fun out p => addE out (p.1 ++ p.2)) out).length ≤ out.length + l.length := by
    intro l
    induction l with
    | nil => intro out; exact Nat.le_refl _
    | cons p l ih =>
      intro out
      rw [List.foldl_cons, List.length_cons]
      have := ih (addE out (p.1 ++ p.2)); have := addE_len out (p.1 ++ p.2); omega
  intro l
  have := key l (ofS 94); have := ofS_len 94; unfold ofP; omega
def O1S (k p m B : Nat) (w0 : World) (b : Value) (wr : World) : Prop := ∃ n : Nat, n ≤ 94 ∧ b = .int .u8 ((33 + n : Nat) : Int) ∧ OfAt k p m B (ofS n) wr ∧ FrO p m B w0 wr
def O2S (k p m B : Nat) (l : List PairB) (w0 : World) (i : Value) (wr : World) : Prop := ∃ n : Nat, n ≤ l.length ∧ i = .int .i64 n ∧ OfAt k p m B (ofP (l.take n)) wr ∧ FrO p m B w0 wr
set_option maxHeartbeats 4000000 in
set_option maxRecDepth 100000 in
theorem Of_any (o : Option Addr) (l : List PairB) (cap : Nat) (w : World) (hl : l.length ≤ 50000) (hp : PrAt w 31 o l) (hok : ∀ p ∈ l, p.1.size + p.2.size ≤ maxLen) :
    Calls Tryd.prog 9 #[.slice o l.length cap] w fun e w' => ∃ v, e = .returned v ∧ w'.ownsRow w.heap.size 55 2 v (ofP l).length (flatE (ofP l)) ∧ Below w.heap.size w w' := by
  have hmm := run_makeMapV
  obtain ⟨W0, hW0⟩ : ∃ W0, ((w.alloc (.cells #[.slice none 0 0] 35)).alloc (.map #[] 0)).alloc (.cells #[.map (some (w.heap.size + 1))] 49) = W0 := ⟨_, rfl⟩
  have hb0 : Below w.heap.size w W0 := by rw [← hW0]; exact (((Below.refl _ _).alloc (Nat.le_refl _) _).alloc (by simp) _).alloc (by simp; omega) _
  have hp0 : W0.heap[w.heap.size]? = some (.cells #[.slice none 0 0] 35 (0, 0)) := by
    rw [← hW0]
    exact (Lib.alloc_old _ _ _ (by simp; omega)).trans ((Lib.alloc_old _ _ _ (by simp)).trans (World.alloc_heap_new w _))
  have hk0 : W0.heap[w.heap.size + 1 + 1]? = some (.cells #[.map (some (w.heap.size + 1))] 49 (0, 0)) := by
    rw [← hW0]
    have := World.alloc_heap_new ((w.alloc (.cells #[.slice none 0 0] 35)).alloc (.map #[] 0)) (.cells #[.map (some (w.heap.size + 1))] 49)
    rw [World.size_alloc, World.size_alloc] at this; exact this
  have hm0 : IsTx (w.heap.size + 1) 0 [] W0 := by
    rw [← hW0]
    have := IsTx.new (w.alloc (.cells #[.slice none 0 0] 35))
    rw [World.size_alloc] at this
    exact this.keep (Lib.alloc_old _ _ _ (by simp))
  have hsz0 : W0.heap.size = w.heap.size + 3 := by rw [← hW0]; simp
  have H0 : Hid (OfAt (w.heap.size + 1 + 1) w.heap.size (w.heap.size + 1) (w.heap.size + 3) [] W0) := Lib.hid ⟨hk0, hm0, ⟨_, hp0, World.ownsRow_nil _ _ _ _⟩, by omega, by omega, by omega, by omega, by omega, by omega, by omega⟩
  have HB0 := Lib.hid hb0
  have HP := Lib.hid hp; have HOK := Lib.hid hok
  obtain ⟨n0, hn0⟩ : ∃ n, l.length = n := ⟨_, rfl⟩
  have HN := Lib.hid hn0
  rw [hn0] at hl ⊢
  have HFR := Lib.hid (FrO.of_below (p := w.heap.size) (m := w.heap.size + 1) (Below.refl (w.heap.size + 3) W0) (by omega))
  have HSZ := Lib.hid hsz0
  clear hb0 hp0 hk0 hm0 hsz0 hp hok hn0
  go_enter Tryd.func9, Tryd.ntmps9
  go_wp2_with fail
  go_loopw [6] (fun b wr => O1S (w.heap.size + 1 + 1) w.heap.size (w.heap.size + 1) (w.heap.size + 3) W0 b wr) (fun b _ => 127 - (intOf b).toNat)
  case atStart => exact ⟨0, by decide, rfl, H0.out, HFR.out⟩
  case round =>
    obtain ⟨n, hn, rfl, hof, hfr⟩ := hrel
    have HO := Lib.hid hof; have HF := Lib.hid hfr
    clear hof hfr hmm hW0
    obtain ⟨c, hc⟩ : ∃ c : Nat, 33 + n = c := ⟨_, rfl⟩
    have HC := Lib.hid hc
    rw [hc]
    by_cases hlt : n < 94
    · have hc1 : (c : Int) ≤ 126 := by omega
      have hc2 : c ≤ 126 := by omega
      obtain ⟨x, hx⟩ : ∃ x, UInt8.ofNat c = x := ⟨_, rfl⟩
      have hxv : (x.toNat : Int) = (c : Int) := by rw [← hx, UInt8.toNat_ofNat']; omega
      have hcv := conv_one wr wr.heap.size x rfl
      rw [hxv] at hcv
      have hbs : byteS (33 + n) = ⟨#[x]⟩ := by unfold byteS; rw [hc, hx]
      have HAD : Hid (∀ W, OfAt (w.heap.size + 1 + 1) w.heap.size (w.heap.size + 1) (w.heap.size + 3) (ofS n) W → Calls Tryd.prog 18 #[.string ⟨#[x]⟩, .pointer (some ⟨w.heap.size + 1 + 1, 0, none⟩), .pointer (some ⟨w.heap.size, 0, none⟩)] W fun e w' => e = .returned (.tuple #[]) ∧ OfAt (w.heap.size + 1 + 1) w.heap.size (w.heap.size + 1) (w.heap.size + 3) (ofS (n + 1)) w' ∧ FrO w.heap.size (w.heap.size + 1) (w.heap.size + 3) W w') := Lib.hid (fun W hW => by
        have := addOf_any _ _ _ _ _ (byteS (33 + n)) W (by rw [hbs]; show 1 ≤ _; unfold maxLen; omega) (by have := ofS_len n; omega) hW
        rw [hbs] at this
        rw [show ofS (n + 1) = addE (ofS n) (byteS (33 + n)) from rfl, hbs]
        exact this)
      have hbn := (Below.refl wr.heap.size wr).alloc (Nat.le_refl _) (.cells #[.int .u8 (c : Int)] 5)
      have HO2 := Lib.hid (HO.out.below hbn)
      have HF2 := Lib.hid (HF.out.trans (FrO.of_below (p := w.heap.size) (m := w.heap.size + 1) (hbn.mono HO.out.low) HO.out.low))
      have hw8 : IntKind.u8.wrap ((c : Int) + 1) = (c : Int) + 1 := by rw [IntKind.wrap_u8]; omega
      clear hx hxv hbs hbn hc
      go_wp2_with (go_at_call 18; refine (HAD.out _ HO2.out).mono ?_; first | rintro e w2 rfl ho2 hf2 | rintro e w2 ⟨rfl, ho2, hf2⟩; have HO3 := Lib.hid ho2; have HF3 := Lib.hid (HF2.out.trans hf2); clear ho2 hf2)
      have HC1 : Hid (((33 + (n + 1) : Nat) : Int) = (c : Int) + 1) := Lib.hid (by have := HC.out; omega)
      exact ⟨⟨n + 1, by omega, by rw [HC1.out], HO3.out, HF3.out⟩, by simp [intOf]; omega⟩
    · have hn94 : n = 94 := by omega
      subst hn94
      have hc1 : ¬ (c : Int) ≤ 126 := by omega
      clear hlt hc
      obtain ⟨wo, hwo⟩ : ∃ wo, wo = wr := ⟨_, rfl⟩
      subst hwo
      go_wp2_with fail
      go_loopw [22] (fun i wr => O2S (w.heap.size + 1 + 1) w.heap.size (w.heap.size + 1) (w.heap.size + 3) l W0 i wr) (fun i _ => n0 - (intOf i).toNat)
      case atStart => exact ⟨0, Nat.zero_le _, rfl, HO.out, HF.out⟩
      case round =>
        clear HO HF H0 HFR
        obtain ⟨k, hk, rfl, hof, hfr⟩ := hrel
        rw [HN.out] at hk
        have HO := Lib.hid hof; have HF := Lib.hid hfr
        clear hof hfr
        have HPW : Hid (PrAt wr 31 o l) := Lib.hid (HP.out.same (fun g cur ho hg => by
          have hlt := lt_of_some hg
          exact (HF.out.block g (by omega) (by omega) (by omega)).trans (HB0.out.block g hlt)))
        by_cases hlt : k < n0
        · obtain ⟨pq, hpq⟩ : ∃ p, l[k]? = some p := ⟨_, List.getElem?_eq_getElem (by rw [HN.out]; exact hlt)⟩
          obtain ⟨g, cur, ho, hg, d0, d1⟩ := HPW.out k pq hpq
          have hsz := HOK.out pq (List.mem_of_getElem? hpq)
          obtain ⟨q1, q2⟩ := pq
          simp only at d0 d1 hsz
          subst ho
          have hkl : (k : Int) < n0 := by omega
          obtain ⟨x, hx⟩ : ∃ x, q1 ++ q2 = x := ⟨_, rfl⟩
          have hxs : x.size ≤ maxLen := by rw [← hx, ByteArray.size_append]; exact hsz
          have hT : ofP (l.take (k + 1)) = addE (ofP (l.take k)) x := by rw [List.take_add_one, hpq, ← hx]; exact ofP_snoc _ _
          have hln : (ofP (l.take k)).length ≤ 100000 := by have := ofP_len (l.take k); rw [List.length_take, HN.out] at this; omega
          have HAD : Hid (∀ W, OfAt (w.heap.size + 1 + 1) w.heap.size (w.heap.size + 1) (w.heap.size + 3) (ofP (l.take k)) W → Calls Tryd.prog 18 #[.string x, .pointer (some ⟨w.heap.size + 1 + 1, 0, none⟩), .pointer (some ⟨w.heap.size, 0, none⟩)] W fun e w' => e = .returned (.tuple #[]) ∧ OfAt (w.heap.size + 1 + 1) w.heap.size (w.heap.size + 1) (w.heap.size + 3) (ofP (l.take (k + 1))) w' ∧ FrO w.heap.size (w.heap.size + 1) (w.heap.size + 3) W w') := Lib.hid (fun W hW => by
            rw [hT]; exact addOf_any _ _ _ _ _ x W hxs hln hW)
          have hbn := (Below.refl wr.heap.size wr).alloc (Nat.le_refl _) (.cells #[.string q1, .string q2] 31)
          have HO2 := Lib.hid (HO.out.below hbn)
          have HF2 := Lib.hid (HF.out.trans (FrO.of_below (p := w.heap.size) (m := w.heap.size + 1) (hbn.mono HO.out.low) HO.out.low))
          have hcat : ¬ 9223372036854775807 < q1.size + q2.size := by unfold maxLen at hsz; omega
          clear hpq hg hsz hxs hT hln hbn
          go_wp2_with (go_at_call 18; refine (HAD.out _ HO2.out).mono ?_; first | rintro e w2 rfl ho2 hf2 | rintro e w2 ⟨rfl, ho2, hf2⟩; have HO3 := Lib.hid ho2; have HF3 := Lib.hid (HF2.out.trans hf2); clear ho2 hf2)
          go_roundw
          case rel => exact ⟨k + 1, by rw [HN.out]; omega, by rw [Int.natCast_succ], HO3.out, HF3.out⟩
          case measure => simp [intOf]; omega
        · have hkn : k = n0 := by omega
          have hkl : ¬ (k : Int) < n0 := by omega
          have HT := Lib.hid (show l.take k = l from List.take_of_length_le (by rw [HN.out]; omega))
          obtain ⟨v, hbx, hrow⟩ := HO.out.ent
          have cp : wr.cell? ⟨w.heap.size, 0, none⟩ = some v := hbx.cell
          rw [HT.out] at hrow
          have HROW := Lib.hid (own_lower hrow (show w.heap.size ≤ w.heap.size + 3 by omega))
          have HBW : Hid (Below w.heap.size w wr) := Lib.hid ⟨((HB0.out.mono (Nat.zero_le _)).trans HF.out.low).os, ((HB0.out.mono (Nat.zero_le _)).trans HF.out.low).tape, ((HB0.out.mono (Nat.zero_le _)).trans HF.out.low).output, Nat.le_trans HB0.out.size HF.out.size, fun j hj => (HF.out.block j (by omega) (by omega) (by omega)).trans (HB0.out.block j hj)⟩
          clear hbx hrow hkn
          go_wp2_with fail
          exact bodyPost_ret (v := v) (by simp [results, Tryd.results9, go_sem]) rfl ⟨v, rfl, HROW.out, HBW.out⟩
end Go.Proofs.YtdpfpdpaamjefaaDoor
