/- Merges: texts; Split. -/
import Derived.Test.YtlfjlkmikmajaaaPo
namespace Go.Proofs.Ytlfjlkmikmajaaa
open Go.RowKit Go.Maps
variable {g gf gr cf cr m : Nat} {word : ByteArray} {P : List ByteArray} {R : Nat → Int} {w w' w'' : World}

/-- A slice's texts. -/
def StAt (w : World) (o : Option Addr) (l : List ByteArray) : Prop :=
  ∀ (k : Nat) (s : ByteArray), l[k]? = some s → ∃ (b : Nat) (cur : Array Value), o = some ⟨b, 0, none⟩ ∧ w.heap[b]? = some (.cells cur 9 (0, 0)) ∧ cur[k]? = some (.string s)
theorem StAt.cell {o : Option Addr} {l : List ByteArray} (h : StAt w o l) {k : Nat} {s : ByteArray} (hk : l[k]? = some s) : ∃ b, o = some ⟨b, 0, none⟩ ∧ w.cell? ⟨b, k, none⟩ = some (.string s) ∧ b < w.heap.size := by
  obtain ⟨b, cur, h1, h2, h3⟩ := h k s hk
  exact ⟨b, h1, by rw [cell_of_row h2]; exact h3, lt_of_some h2⟩
theorem StAt.same {o : Option Addr} {l : List ByteArray} (h : StAt w o l) (hb : ∀ (b : Nat) (cur : Array Value), o = some ⟨b, 0, none⟩ → w.heap[b]? = some (.cells cur 9 (0, 0)) → w'.heap[b]? = w.heap[b]?) : StAt w' o l := fun k s hk => by
  obtain ⟨b, cur, h1, h2, h3⟩ := h k s hk
  exact ⟨b, cur, h1, (hb b cur h1 h2).trans h2, h3⟩
theorem StAt.below {o : Option Addr} {l : List ByteArray} (h : StAt w o l) (hb : Below w.heap.size w w') : StAt w' o l := h.same fun _ _ _ h2 => hb.block _ (lt_of_some h2)
theorem StAt.nil (w : World) : StAt w none [] := fun k s h => by simp at h
theorem run_mks (n : Nat) (hn : n ≤ 100000) (w : World) : (Instr.makeSlice 40 (.int .i64 n) (.int .i64 n)).run Try.prog w = .ok (.slice (some ⟨w.heap.size, 0, none⟩) n n) (w.alloc (.cells (madeCells #[.string ⟨#[]⟩] n) 9)) := by
  obtain ⟨i0, hi, hz0, hz1, hz2⟩ := info_parts (show (Try.prog.info? 9).map (fun i => (i.zero, i.size, i.bytes)) = some (some (.string ⟨#[]⟩), 1, 16) by kernel_rfl)
  have := run_make (P := Try.prog) w 40 9 i0 (.string ⟨#[]⟩) Try.underlying40 hi hz0 .i64 .i64 n n (by omega) (by omega) (by rw [hz2]; show (16 : Int) * _ ≤ _; omega) (by omega)
  rw [hz1] at this
  simp only [Int.toNat_natCast, Nat.mul_one] at this
  exact this
def TxS (w : World) (P : List ByteArray) (i : Value) (wr : World) : Prop :=
  ∃ k : Nat, k ≤ P.length ∧ i = .int .i64 k ∧ (∃ cur : Array Value, wr.heap[w.heap.size]? = some (.cells cur 9 (0, 0)) ∧ cur.size = P.length ∧ ∀ j : Nat, j < k → cur[j]? = some (.string (P.getD j ⟨#[]⟩))) ∧ Below w.heap.size w wr
set_option maxHeartbeats 2000000 in
set_option maxRecDepth 100000 in
theorem texts_any (h : PtAt g gf gr cf cr word P R w) (hw : word.size ≤ 4096) (hP : P.length ≤ 4096) :
    Calls Try.prog 35 #[.pointer (some ⟨g, 0, none⟩)] w fun e w' => ∃ o cap, e = .returned (.slice o P.length cap) ∧ StAt w' o P ∧ Below w.heap.size w w' := by
  obtain ⟨n, hn⟩ : ∃ n, P.length = n := ⟨_, rfl⟩
  have c2 : w.cell? ⟨g, 2, none⟩ = some (.slice (some ⟨gr, 0, none⟩) n cr) := by have := h.c2; rwa [hn] at this
  have hmk := fun W => run_mks n (by omega) W
  have H0 : Hid (TxS w P (.int .i64 0) (w.alloc (.cells (madeCells #[.string ⟨#[]⟩] n) 9))) := Lib.hid ⟨0, Nat.zero_le _, rfl, ⟨_, World.alloc_heap_new w _, by rw [size_madeCells, hn], fun j hj => absurd hj (Nat.not_lt_zero _)⟩, (Below.refl _ w).alloc (Nat.le_refl _) _⟩
  rw [hn] at hP ⊢
  have HN := Lib.hid hn; have HT := Lib.hid h
  clear hn h
  go_enter Try.func35, Try.ntmps35
  go_wp2_with fail
  clear hmk c2
  go_loopw [13] (fun i wr => TxS w P i wr) (fun i _ => n - (intOf i).toNat)
  case atStart => exact H0.out
  case round =>
    obtain ⟨k, hk, rfl, ⟨cur, hc, hz, hj⟩, hb⟩ := hrel
    rw [HN.out] at hk hz
    have HC := Lib.hid hc; have HJ := Lib.hid hj; have HB := Lib.hid hb
    clear hc hj hb H0
    by_cases hlt : k < n
    · obtain ⟨p, hp⟩ : ∃ p, P[k]? = some p := ⟨_, List.getElem?_eq_getElem (by rw [HN.out]; exact hlt)⟩
      have HX := Lib.hid (text_any (HT.out.below HB.out) hw (by rw [HN.out]; exact hP) k p hp)
      have HP := Lib.hid (show P.getD k ⟨#[]⟩ = p by rw [List.getD_eq_getElem?_getD, hp]; rfl)
      obtain ⟨⟨v0, c1⟩, f1⟩ := cell_in HC.out (j := k) (by omega)
      clear hp
      go_wp2_with (go_at_call 51; refine HX.out.mono ?_; rintro e w1 ⟨rfl, q, rfl⟩)
      rename_i hq
      go_roundw
      case rel =>
        have h1 := mk_set (cur := cur) (v := fun j => .string (P.getD j ⟨#[]⟩)) hz hlt HJ.out
        rw [HP.out] at h1
        exact ⟨k + 1, by rw [HN.out]; omega, by rw [Int.natCast_succ], ⟨_, heap_set (w := wr.drewN _) _ HC.out, by rw [HN.out]; exact h1.1, h1.2⟩, (below_drewN HB.out _).setCell (p := ⟨w.heap.size, k, none⟩) (Nat.le_refl _) _⟩
      case measure => simp [intOf]; omega
    · have hkn : k = n := by omega
      go_wp2_with fail
      go_ret
      refine ⟨_, n, rfl, fun j s hs => ⟨w.heap.size, cur, rfl, HC.out, ?_⟩, HB.out⟩
      have hjl := (List.getElem?_eq_some_iff.1 hs).1
      rw [HN.out] at hjl
      rw [HJ.out j (by omega), List.getD_eq_getElem?_getD, hs]; rfl
def splitP (l : List PairB) (s : ByteArray) : List ByteArray := if 4096 < s.size then [] else splitB l s
def msrG (g : Nat) (w : World) : Nat := match w.cell? ⟨g, 2, none⟩ with | some (.slice _ n _) => n | _ => 0
theorem msr_eq (h : PtAt g gf gr cf cr word P R w) : msrG g w = P.length := by
  unfold msrG; rw [h.c2]
def SpS (g gf gr cf cr : Nat) (word : ByteArray) (l : List PairB) (T : List ByteArray) (w2 : World) (wr : World) : Prop :=
  ∃ (P : List ByteArray) (R : Nat → Int), PtAt g gf gr cf cr word P R wr ∧ RkOk l P R ∧ splitN P.length l P = T ∧ P.length ≤ 4096 ∧ FrP g gf gr w2 wr
theorem PtAt.some (h : PtAt g gf gr cf cr word P R w) (hw : 0 < word.size) : P ≠ [] := by
  rintro rfl
  have := h.cat
  have h2 := size_len word
  rw [← this] at h2
  have h3 : (catB []).length = 0 := rfl
  omega
theorem splitB_none (l : List PairB) {s : ByteArray} (h : s.size = 0) : splitB l s = [] := by
  unfold splitB
  have : bytesB s = [] := List.eq_nil_of_length_eq_zero (by rw [bytesB_length, h])
  rw [this, h]; rfl
theorem PrAt.fr {t : TypeId} {o : Option Addr} {l : List PairB} (h : PrAt w t o l) (hf : FrP g gf gr w w') (hb : ∀ b, o = Option.some ⟨b, 0, none⟩ → b ≠ g ∧ b ≠ gf ∧ b ≠ gr) : PrAt w' t o l :=
  h.same fun b _ h1 h2 => hf.block b (lt_of_some h2) (hb b h1).1 (hb b h1).2.1 (hb b h1).2.2
set_option maxHeartbeats 2000000 in
set_option maxRecDepth 100000 in
theorem Split_any (o : Option Addr) (l : List PairB) (cap : Nat) (word : ByteArray) (w : World) (hl : l.length ≤ 100000) (hp : PrAt w 32 o l) (hok : ∀ p ∈ l, OkP p) :
    Calls Try.prog 15 #[.slice o l.length cap, .string word] w fun e w' => ∃ o' cap', e = .returned (.slice o' (splitP l word).length cap') ∧ StAt w' o' (splitP l word) ∧ Below w.heap.size w w' := by
  obtain ⟨n, hn⟩ : ∃ n, l.length = n := ⟨_, rfl⟩
  by_cases h0 : word.size = 0
  · have e1 : word.toList = [] := ba_nil word h0
    have hend : Hid (splitP l word = []) := Lib.hid (by unfold splitP; rw [if_neg (by omega)]; exact splitB_none l h0)
    clear h0
    rw [hn]
    go_enter Try.func15, Try.ntmps15
    go_wp2_with fail
    go_ret
    rw [hend.out]
    exact ⟨none, 0, rfl, StAt.nil _, Below.refl _ _⟩
  have e1 : word.toList.isEmpty = false := ba_some word (by omega)
  have e2 : word.toList ≠ [] := fun e => by rw [e] at e1; cases e1
  by_cases h1 : 4096 < word.size
  · have hend : Hid (splitP l word = []) := Lib.hid (by unfold splitP; rw [if_pos h1])
    rw [hn]
    go_enter Try.func15, Try.ntmps15
    go_wp2_with fail
    go_ret
    rw [hend.out]
    exact ⟨none, 0, rfl, StAt.nil _, Below.refl _ _⟩
  have h2 : word.size ≤ 4096 := by omega
  have HTT := Lib.hid (show splitP l word = splitN (bytesB word).length l (bytesB word) by unfold splitP; rw [if_neg h1, bytesB_length]; rfl)
  have HP := Lib.hid hp; have HO := Lib.hid hok; have HN := Lib.hid hn
  obtain ⟨T, hT⟩ : ∃ T, splitP l word = T := ⟨_, rfl⟩
  rw [hT] at HTT ⊢
  rw [hn]
  clear hp hok hT hn
  go_enter Try.func15, Try.ntmps15
  go_wp2_with (go_at_call 32; refine (bytesOf_any word w (by omega) h2).mono ?_)
  rintro e w1 ⟨g, gf, gr, cf, cr, rfl, hT1, hg1, hg2, hg3, hb1⟩
  have HRK := Lib.hid (HN.out ▸ ranksOf_any o l cap w1 hl (HP.out.below hb1) HO.out)
  have HT1 := Lib.hid hT1; have HB1 := Lib.hid hb1
  clear hT1 hb1
  go_wp2_with (go_at_call 33; refine HRK.out.mono ?_)
  first | rintro e w2 rfl hr2 hb2 | rintro e w2 ⟨rfl, hr2, hb2⟩
  obtain ⟨l1, l2, l3⟩ := HT1.out.lt
  have H0 : Hid (SpS g gf gr cf cr word l T w2 w2) := Lib.hid ⟨_, _, HT1.out.below hb2, fun k a b _ _ => .inl rfl, HTT.out.symm, by rw [bytesB_length]; exact h2, FrP.refl _ _ _ _⟩
  have HR2 := Lib.hid hr2; have HB2 := Lib.hid hb2
  have hP2 : PrAt w2 32 o l := (HP.out.below HB1.out).below hb2
  have HP2 := Lib.hid hP2
  have HNE : Hid (∀ b, o = Option.some ⟨b, 0, none⟩ → 0 < n → b ≠ g ∧ b ≠ gf ∧ b ≠ gr) := Lib.hid (fun b hb hn0 => by
    obtain ⟨p, hp⟩ : ∃ p, l[0]? = Option.some p := ⟨_, List.getElem?_eq_getElem (by rw [HN.out]; exact hn0)⟩
    obtain ⟨b', cur, hb', hc, _⟩ := HP.out 0 p hp
    rw [hb] at hb'
    have e : b = b' := by injection hb' with hb'; injection hb'
    subst e
    have := lt_of_some hc
    omega)
  clear hr2 hb2 hP2 HRK HTT
  go_wp2_with fail
  go_loopw [7] (fun _ wr => SpS g gf gr cf cr word l T w2 wr) (fun _ wr => msrG g wr)
  case atStart => exact H0.out
  case round =>
    obtain ⟨P, R, hT, hok, hsp, hPl, hfr⟩ := hrel
    have hne := hT.some (by omega : 0 < word.size)
    have HL := Lib.hid (least_any hT h2 hPl hne hl (HR2.out.fr hfr (by omega) (by omega) (by omega)) (by omega) (by omega) (by omega) hok)
    have HSP := Lib.hid hsp; have HPl := Lib.hid hPl; have HF := Lib.hid hfr; have HNP := Lib.hid hne; have HTr := Lib.hid hT
    clear hT hok hsp hPl hfr hne H0
    go_wp2_with (go_at_call 34; refine HL.out.mono ?_)
    first | rintro e w3 rfl R3 hT3 hok3 hf3 | rintro e w3 ⟨rfl, R3, hT3, hok3, hf3⟩
    have HT3 := Lib.hid hT3; have HK3 := Lib.hid hok3; have HF3 := Lib.hid (HF.out.trans hf3)
    clear hT3 hok3 hf3 HL
    by_cases hb : bestI l P = noR
    · have HD := Lib.hid (show T = P by rw [← HSP.out]; exact splitP_done hb)
      have hb2 : bestI l P = 9223372036854775807 := hb
      have HX := Lib.hid (texts_any HT3.out h2 HPl.out)
      rw [hb2]
      clear hb hb2
      go_wp2_with (go_at_call 35; refine HX.out.mono ?_)
      first | rintro e w4 o4 c4 rfl hs4 hb4 | rintro e w4 ⟨o4, c4, rfl, hs4, hb4⟩
      have hend : Hid (StAt w4 o4 P ∧ Below w.heap.size w w4) := Lib.hid ⟨hs4, by
        have e1 : Below w.heap.size w w2 := HB1.out.trans (HB2.out.mono HB1.out.size)
        have e2 : Below w.heap.size w2 w3 := HF3.out.below e1.size hg1 hg2 hg3
        exact (e1.trans e2).trans (hb4.mono (e1.trans e2).size)⟩
      clear hs4 hb4
      go_wp2_with fail
      go_ret
      rw [HD.out]
      exact ⟨o4, c4, rfl, hend.out⟩
    · obtain ⟨k0, a, b, q1, q2, q3⟩ := bestI_at l hl P hb
      obtain ⟨hpa, hge, hlt, hat⟩ := pairAt_of q3 hb
      have hst := splitP_step hl hb
      rw [hpa] at hst
      have HST := Lib.hid hst
      have HLT := Lib.hid (mergeL_lt a b P k0 q1 q2)
      obtain ⟨r, hr⟩ : ∃ r : Nat, bestI l P = r := ⟨(bestI l P).toNat, by omega⟩
      have hrn : r ≠ 9223372036854775807 := fun e => hb (by rw [hr, e]; rfl)
      rw [hr] at hlt hat
      rw [Int.toNat_natCast] at hlt hat
      rw [HN.out] at hlt
      obtain ⟨bo, cur, hob, hcur, d0, d1⟩ := (HP2.out.fr HF3.out (fun b' h' => HNE.out b' h' (by omega))) r (a, b) hat
      subst hob
      simp only at d0 d1
      have HA := Lib.hid (apply_any (a := a) (b := b) HT3.out h2 HPl.out HNP.out HK3.out)
      have hri : (r : Int) < n := by omega
      have hrb : ((r : Int) == 9223372036854775807) = false := by simp; omega
      have hrn3 : n ≤ 100000 := by rw [← HN.out]; exact hl
      rw [hr]
      clear hb q1 q2 q3 hpa hge hat hst hcur hr
      go_wp2_with (go_at_call 36; refine HA.out.mono ?_)
      first | rintro e w4 rfl R4 hT4 hok4 hf4 | rintro e w4 ⟨rfl, R4, hT4, hok4, hf4⟩
      have hend : Hid (SpS g gf gr cf cr word l T w2 w4) := Lib.hid ⟨mergeL a b P, R4, hT4, hok4, by rw [← HSP.out, HST.out], Nat.le_trans (mergeL_le a b P) HPl.out, HF3.out.trans hf4⟩
      have hms : Hid (msrG g w4 < msrG g wr) := Lib.hid (by rw [msr_eq hT4, msr_eq HTr.out]; exact HLT.out)
      clear hT4 hok4 hf4
      go_wp2_with fail
      exact ⟨hend.out, hms.out⟩
end Go.Proofs.Ytlfjlkmikmajaaa
