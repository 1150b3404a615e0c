/- Merges: texts; Split. Merges: Invalid. Vocabularies: Of. -/
import Derived.Test.YtmkaecpecikcaaaGreatDoorPo
import Derived.Test.YtmkaecpecikcaaaGreatDoorY2
import Derived.Test.YtmkaecpecikcaaaGreatDoorY3
namespace Go.Proofs.YtmkaecpecikcaaaGreatDoor
open Go.RowKit Go.Maps
variable {g gf gr cf cr m : Nat} {word : ByteArray} {P : List ByteArray} {R : Nat → Int} {w w' w'' : World}

/-- A slice's texts. -/
def StAt (w : World) (o : Option Addr) (l : List ByteArray) : Prop :=
  ∀ (k : Nat) (s : ByteArray), l[k]? = some s → ∃ (b : Nat) (cur : Array Value), o = some ⟨b, 0, none⟩ ∧ w.heap[b]? = some (.cells cur 9 (0, 0)) ∧ cur[k]? = some (.string s)
theorem StAt.cell {o : Option Addr} {l : List ByteArray} (h : StAt w o l) {k : Nat} {s : ByteArray} (hk : l[k]? = some s) : ∃ b, o = some ⟨b, 0, none⟩ ∧ w.cell? ⟨b, k, none⟩ = some (.string s) ∧ b < w.heap.size := by
  obtain ⟨b, cur, h1, h2, h3⟩ := h k s hk
  exact ⟨b, h1, by rw [cell_of_row h2]; exact h3, lt_of_some h2⟩
theorem StAt.same {o : Option Addr} {l : List ByteArray} (h : StAt w o l) (hb : ∀ (b : Nat) (cur : Array Value), o = some ⟨b, 0, none⟩ → w.heap[b]? = some (.cells cur 9 (0, 0)) → w'.heap[b]? = w.heap[b]?) : StAt w' o l := fun k s hk => by
  obtain ⟨b, cur, h1, h2, h3⟩ := h k s hk
  exact ⟨b, cur, h1, (hb b cur h1 h2).trans h2, h3⟩
theorem StAt.below {o : Option Addr} {l : List ByteArray} (h : StAt w o l) (hb : Below w.heap.size w w') : StAt w' o l := h.same fun _ _ _ h2 => hb.block _ (lt_of_some h2)
theorem StAt.nil (w : World) : StAt w none [] := fun k s h => by simp at h
def TxS (w : World) (P : List ByteArray) (i : Value) (wr : World) : Prop :=
  ∃ k : Nat, k ≤ P.length ∧ i = .int .i64 k ∧ (∃ cur : Array Value, wr.heap[w.heap.size]? = some (.cells cur 9 (0, 0)) ∧ cur.size = P.length ∧ ∀ j : Nat, j < k → cur[j]? = some (.string (P.getD j ⟨#[]⟩))) ∧ Below w.heap.size w wr
def splitP (l : List PairB) (s : ByteArray) : List ByteArray := if 4096 < s.size then [] else splitB l s
def msrG (g : Nat) (w : World) : Nat := match w.cell? ⟨g, 2, none⟩ with | some (.slice _ n _) => n | _ => 0
theorem splitB_none (l : List PairB) {s : ByteArray} (h : s.size = 0) : splitB l s = [] := by
  unfold splitB
  have : bytesB s = [] := List.eq_nil_of_length_eq_zero (by rw [bytesB_length, h])
  rw [this, h]; rfl
theorem PrAt.fr {t : TypeId} {o : Option Addr} {l : List PairB} (h : PrAt w t o l) (hf : FrP g gf gr w w') (hb : ∀ b, o = Option.some ⟨b, 0, none⟩ → b ≠ g ∧ b ≠ gf ∧ b ≠ gr) : PrAt w' t o l :=
  h.same fun b _ h1 h2 => hf.block b (lt_of_some h2) (hb b h1).1 (hb b h1).2.1 (hb b h1).2.2
end Go.Proofs.YtmkaecpecikcaaaGreatDoor
namespace Go.Proofs.YtmkaecpecikcaaaGreatDoor
open Go.RowKit Go.Maps
variable {w w' : World}

def InS (w : World) (l : List PairB) (i : Value) (wr : World) : Prop :=
  ∃ k : Nat, k ≤ l.length ∧ i = .int .i64 k ∧ invM l = invF k (resL (l.take k)) (l.drop k) ∧ IsTx w.heap.size k (resL (l.take k)) wr ∧ wr.cell? ⟨w.heap.size + 1, 0, none⟩ = some (.map (some w.heap.size)) ∧ Below w.heap.size w wr
theorem resL_take {l : List PairB} {k : Nat} {p : PairB} (h : l[k]? = some p) : resL (l.take (k + 1)) = resL (l.take k) ++ [p.1 ++ p.2] := by
  rw [List.take_add_one, h]; unfold resL; rw [List.map_append]; rfl
end Go.Proofs.YtmkaecpecikcaaaGreatDoor
namespace Go.Proofs.YtmkaecpecikcaaaGreatDoor
open Go.RowKit Go.Maps
variable {w w' : World}

theorem FrO.trans {p m B : Nat} {w'' : World} (h : FrO p m B w w') (g : FrO p m B w' w'') : FrO p m B w w'' := ⟨h.low.trans g.low, Nat.le_trans h.size g.size, fun j hj a b => (g.block j hj a b).trans (h.block j hj a b)⟩
def byteS (c : Nat) : ByteArray := ⟨#[UInt8.ofNat c]⟩
/-- The tokens of one byte. -/
def ofS : Nat → List EntB
  | 0 => []
  | n + 1 => addE (ofS n) (byteS (33 + n))
/-- The vocabulary of a list of merges. -/
def ofP (l : List PairB) : List EntB := l.foldl (fun out p => addE out (p.1 ++ p.2)) (ofS 94)
theorem ofP_snoc (l : List PairB) (p : PairB) : ofP (l ++ [p]) = addE (ofP l) (p.1 ++ p.2) := by unfold ofP; rw [List.foldl_append]; rfl
theorem addE_len (out : List EntB) (s : ByteArray) : (addE out s).length ≤ out.length + 1 := by
  unfold addE; split
  · omega
  · rw [List.length_append]; simp
theorem ofS_len : ∀ n, (ofS n).length ≤ n
  | 0 => Nat.le_refl _
  | n + 1 => by have := ofS_len n; have := addE_len (ofS n) (byteS (33 + n)); show (addE (ofS n) _).length ≤ _; omega
theorem ofP_len : ∀ (l : List PairB), (ofP l).length ≤ 94 + l.length := by
  have key : ∀ (l : List PairB) (out : List EntB), (l.foldl (fun out p => addE out (p.1 ++ p.2)) out).length ≤ out.length + l.length := by
    intro l
    induction l with
    | nil => intro out; exact Nat.le_refl _
    | cons p l ih =>
      intro out
      rw [List.foldl_cons, List.length_cons]
      have := ih (addE out (p.1 ++ p.2)); have := addE_len out (p.1 ++ p.2); omega
  intro l
  have := key l (ofS 94); have := ofS_len 94; unfold ofP; omega
def O1S (k p m B : Nat) (w0 : World) (b : Value) (wr : World) : Prop := ∃ n : Nat, n ≤ 94 ∧ b = .int .u8 ((33 + n : Nat) : Int) ∧ OfAt k p m B (ofS n) wr ∧ FrO p m B w0 wr
def O2S (k p m B : Nat) (l : List PairB) (w0 : World) (i : Value) (wr : World) : Prop := ∃ n : Nat, n ≤ l.length ∧ i = .int .i64 n ∧ OfAt k p m B (ofP (l.take n)) wr ∧ FrO p m B w0 wr
set_option maxHeartbeats 4000000 in
set_option maxRecDepth 100000 in
theorem Of_any (o : Option Addr) (l : List PairB) (cap : Nat) (w : World) (hl : l.length ≤ 50000) (hp : PrAt w 42 o l) (hok : ∀ p ∈ l, p.1.size + p.2.size ≤ maxLen) :
    Calls Tryz.prog 11 #[.slice o l.length cap] w fun e w' => ∃ v, e = .returned v ∧ w'.ownsRow w.heap.size 50 2 v (ofP l).length (flatE (ofP l)) ∧ Below w.heap.size w w' := by
  have hmm := run_makeMapV
  obtain ⟨W0, hW0⟩ : ∃ W0, ((w.alloc (.cells #[.slice none 0 0] 23)).alloc (.map #[] 0)).alloc (.cells #[.map (some (w.heap.size + 1))] 47) = W0 := ⟨_, rfl⟩
  have hb0 : Below w.heap.size w W0 := by rw [← hW0]; exact (((Below.refl _ _).alloc (Nat.le_refl _) _).alloc (by simp) _).alloc (by simp; omega) _
  have hp0 : W0.heap[w.heap.size]? = some (.cells #[.slice none 0 0] 23 (0, 0)) := by
    rw [← hW0]
    exact (Lib.alloc_old _ _ _ (by simp; omega)).trans ((Lib.alloc_old _ _ _ (by simp)).trans (World.alloc_heap_new w _))
  have hk0 : W0.heap[w.heap.size + 1 + 1]? = some (.cells #[.map (some (w.heap.size + 1))] 47 (0, 0)) := by
    rw [← hW0]
    have := World.alloc_heap_new ((w.alloc (.cells #[.slice none 0 0] 23)).alloc (.map #[] 0)) (.cells #[.map (some (w.heap.size + 1))] 47)
    rw [World.size_alloc, World.size_alloc] at this; exact this
  have hm0 : IsTx (w.heap.size + 1) 0 [] W0 := by
    rw [← hW0]
    have := IsTx.new (w.alloc (.cells #[.slice none 0 0] 23))
    rw [World.size_alloc] at this
    exact this.keep (Lib.alloc_old _ _ _ (by simp))
  have hsz0 : W0.heap.size = w.heap.size + 3 := by rw [← hW0]; simp
  have H0 : Hid (OfAt (w.heap.size + 1 + 1) w.heap.size (w.heap.size + 1) (w.heap.size + 3) [] W0) := Lib.hid ⟨hk0, hm0, ⟨_, hp0, World.ownsRow_nil _ _ _ _⟩, by omega, by omega, by omega, by omega, by omega, by omega, by omega⟩
  have HB0 := Lib.hid hb0
  have HP := Lib.hid hp; have HOK := Lib.hid hok
  obtain ⟨n0, hn0⟩ : ∃ n, l.length = n := ⟨_, rfl⟩
  have HN := Lib.hid hn0
  rw [hn0] at hl ⊢
  have HFR := Lib.hid (FrO.of_below (p := w.heap.size) (m := w.heap.size + 1) (Below.refl (w.heap.size + 3) W0) (by omega))
  have HSZ := Lib.hid hsz0
  clear hb0 hp0 hk0 hm0 hsz0 hp hok hn0
  go_enter Tryz.func11, Tryz.ntmps11
  go_wp2_with fail
  go_loopw [6] (fun b wr => O1S (w.heap.size + 1 + 1) w.heap.size (w.heap.size + 1) (w.heap.size + 3) W0 b wr) (fun b _ => 127 - (intOf b).toNat)
  case atStart => exact ⟨0, by decide, rfl, H0.out, HFR.out⟩
  case round =>
    obtain ⟨n, hn, rfl, hof, hfr⟩ := hrel
    have HO := Lib.hid hof; have HF := Lib.hid hfr
    clear hof hfr hmm hW0
    obtain ⟨c, hc⟩ : ∃ c : Nat, 33 + n = c := ⟨_, rfl⟩
    have HC := Lib.hid hc
    rw [hc]
    by_cases hlt : n < 94
    · have hc1 : (c : Int) ≤ 126 := by omega
      have hc2 : c ≤ 126 := by omega
      obtain ⟨x, hx⟩ : ∃ x, UInt8.ofNat c = x := ⟨_, rfl⟩
      have hxv : (x.toNat : Int) = (c : Int) := by rw [← hx, UInt8.toNat_ofNat']; omega
      have hcv := conv_one wr wr.heap.size x rfl
      rw [hxv] at hcv
      have hbs : byteS (33 + n) = ⟨#[x]⟩ := by unfold byteS; rw [hc, hx]
      have HAD : Hid (∀ W, OfAt (w.heap.size + 1 + 1) w.heap.size (w.heap.size + 1) (w.heap.size + 3) (ofS n) W → Calls Tryz.prog 23 #[.string ⟨#[x]⟩, .pointer (some ⟨w.heap.size + 1 + 1, 0, none⟩), .pointer (some ⟨w.heap.size, 0, none⟩)] W fun e w' => e = .returned (.tuple #[]) ∧ OfAt (w.heap.size + 1 + 1) w.heap.size (w.heap.size + 1) (w.heap.size + 3) (ofS (n + 1)) w' ∧ FrO w.heap.size (w.heap.size + 1) (w.heap.size + 3) W w') := Lib.hid (fun W hW => by
        have := addOf_any _ _ _ _ _ (byteS (33 + n)) W (by rw [hbs]; show 1 ≤ _; unfold maxLen; omega) (by have := ofS_len n; omega) hW
        rw [hbs] at this
        rw [show ofS (n + 1) = addE (ofS n) (byteS (33 + n)) from rfl, hbs]
        exact this)
      have hbn := (Below.refl wr.heap.size wr).alloc (Nat.le_refl _) (.cells #[.int .u8 (c : Int)] 5)
      have HO2 := Lib.hid (HO.out.below hbn)
      have HF2 := Lib.hid (HF.out.trans (FrO.of_below (p := w.heap.size) (m := w.heap.size + 1) (hbn.mono HO.out.low) HO.out.low))
      have hw8 : IntKind.u8.wrap ((c : Int) + 1) = (c : Int) + 1 := by rw [IntKind.wrap_u8]; omega
      clear hx hxv hbs hbn hc
      go_wp2_with (go_at_call 23; refine (HAD.out _ HO2.out).mono ?_; first | rintro e w2 rfl ho2 hf2 | rintro e w2 ⟨rfl, ho2, hf2⟩; have HO3 := Lib.hid ho2; have HF3 := Lib.hid (HF2.out.trans hf2); clear ho2 hf2)
      have HC1 : Hid (((33 + (n + 1) : Nat) : Int) = (c : Int) + 1) := Lib.hid (by have := HC.out; omega)
      exact ⟨⟨n + 1, by omega, by rw [HC1.out], HO3.out, HF3.out⟩, by simp [intOf]; omega⟩
    · have hn94 : n = 94 := by omega
      subst hn94
      have hc1 : ¬ (c : Int) ≤ 126 := by omega
      clear hlt hc
      obtain ⟨wo, hwo⟩ : ∃ wo, wo = wr := ⟨_, rfl⟩
      subst hwo
      go_wp2_with fail
      go_loopw [22] (fun i wr => O2S (w.heap.size + 1 + 1) w.heap.size (w.heap.size + 1) (w.heap.size + 3) l W0 i wr) (fun i _ => n0 - (intOf i).toNat)
      case atStart => exact ⟨0, Nat.zero_le _, rfl, HO.out, HF.out⟩
      case round =>
        clear HO HF H0 HFR
        obtain ⟨k, hk, rfl, hof, hfr⟩ := hrel
        rw [HN.out] at hk
        have HO := Lib.hid hof; have HF := Lib.hid hfr
        clear hof hfr
        have HPW : Hid (PrAt wr 42 o l) := Lib.hid (HP.out.same (fun g cur ho hg => by
          have hlt := lt_of_some hg
          exact (HF.out.block g (by omega) (by omega) (by omega)).trans (HB0.out.block g hlt)))
        by_cases hlt : k < n0
        · obtain ⟨pq, hpq⟩ : ∃ p, l[k]? = some p := ⟨_, List.getElem?_eq_getElem (by rw [HN.out]; exact hlt)⟩
          obtain ⟨g, cur, ho, hg, d0, d1⟩ := HPW.out k pq hpq
          have hsz := HOK.out pq (List.mem_of_getElem? hpq)
          obtain ⟨q1, q2⟩ := pq
          simp only at d0 d1 hsz
          subst ho
          have hkl : (k : Int) < n0 := by omega
          obtain ⟨x, hx⟩ : ∃ x, q1 ++ q2 = x := ⟨_, rfl⟩
          have hxs : x.size ≤ maxLen := by rw [← hx, ByteArray.size_append]; exact hsz
          have hT : ofP (l.take (k + 1)) = addE (ofP (l.take k)) x := by rw [List.take_add_one, hpq, ← hx]; exact ofP_snoc _ _
          have hln : (ofP (l.take k)).length ≤ 100000 := by have := ofP_len (l.take k); rw [List.length_take, HN.out] at this; omega
          have HAD : Hid (∀ W, OfAt (w.heap.size + 1 + 1) w.heap.size (w.heap.size + 1) (w.heap.size + 3) (ofP (l.take k)) W → Calls Tryz.prog 23 #[.string x, .pointer (some ⟨w.heap.size + 1 + 1, 0, none⟩), .pointer (some ⟨w.heap.size, 0, none⟩)] W fun e w' => e = .returned (.tuple #[]) ∧ OfAt (w.heap.size + 1 + 1) w.heap.size (w.heap.size + 1) (w.heap.size + 3) (ofP (l.take (k + 1))) w' ∧ FrO w.heap.size (w.heap.size + 1) (w.heap.size + 3) W w') := Lib.hid (fun W hW => by
            rw [hT]; exact addOf_any _ _ _ _ _ x W hxs hln hW)
          have hbn := (Below.refl wr.heap.size wr).alloc (Nat.le_refl _) (.cells #[.string q1, .string q2] 42)
          have HO2 := Lib.hid (HO.out.below hbn)
          have HF2 := Lib.hid (HF.out.trans (FrO.of_below (p := w.heap.size) (m := w.heap.size + 1) (hbn.mono HO.out.low) HO.out.low))
          have hcat : ¬ 9223372036854775807 < q1.size + q2.size := by unfold maxLen at hsz; omega
          clear hpq hg hsz hxs hT hln hbn
          go_wp2_with (go_at_call 23; refine (HAD.out _ HO2.out).mono ?_; first | rintro e w2 rfl ho2 hf2 | rintro e w2 ⟨rfl, ho2, hf2⟩; have HO3 := Lib.hid ho2; have HF3 := Lib.hid (HF2.out.trans hf2); clear ho2 hf2)
          go_roundw
          case rel => exact ⟨k + 1, by rw [HN.out]; omega, by rw [Int.natCast_succ], HO3.out, HF3.out⟩
          case measure => simp [intOf]; omega
        · have hkn : k = n0 := by omega
          have hkl : ¬ (k : Int) < n0 := by omega
          have HT := Lib.hid (show l.take k = l from List.take_of_length_le (by rw [HN.out]; omega))
          obtain ⟨v, hbx, hrow⟩ := HO.out.ent
          have cp : wr.cell? ⟨w.heap.size, 0, none⟩ = some v := hbx.cell
          rw [HT.out] at hrow
          have HROW := Lib.hid (own_lower hrow (show w.heap.size ≤ w.heap.size + 3 by omega))
          have HBW : Hid (Below w.heap.size w wr) := Lib.hid ⟨((HB0.out.mono (Nat.zero_le _)).trans HF.out.low).os, ((HB0.out.mono (Nat.zero_le _)).trans HF.out.low).tape, ((HB0.out.mono (Nat.zero_le _)).trans HF.out.low).output, Nat.le_trans HB0.out.size HF.out.size, fun j hj => (HF.out.block j (by omega) (by omega) (by omega)).trans (HB0.out.block j hj)⟩
          clear hbx hrow hkn
          go_wp2_with fail
          exact bodyPost_ret (v := v) (by simp [results, Tryz.results11, go_sem]) rfl ⟨v, rfl, HROW.out, HBW.out⟩
end Go.Proofs.YtmkaecpecikcaaaGreatDoor
