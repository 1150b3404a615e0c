/- Three lists: DeleteFunc at remaining's own function. -/
import Derived.Test.YtjdlpcokjcmapaaBc
import Derived.Laws.IdiomCopy
import Derived.Shelf.Slices.Delete
set_option linter.unusedVariables false
set_option linter.unusedSimpArgs false
namespace Go.Proofs.Ytjdlpcokjcmapaa
open Go.RowKit Go.Maps Go.WideShapes
variable {w w' : World}

abbrev ptr (b : Nat) : Value := .pointer (some ⟨b, 0, none⟩)
theorem grown_of_below {r : Option Nat} (h : Below w.heap.size w w') : w.grownBy w' r := ⟨h.os, h.tape, h.output, h.size, fun k hk _ => h.block k hk⟩
theorem grown_refl (r : Option Nat) (w : World) : w.grownBy w r := grown_of_below (Below.refl _ _)
theorem grow_trans {a b c : World} {r : Option Nat} (h : a.grownBy b r) (k : b.grownBy c r) : a.grownBy c r :=
  ⟨k.os.trans h.os, k.tape.trans h.tape, k.output.trans h.output, Nat.le_trans h.size k.size, fun i hi hn => (k.block i (Nat.lt_of_lt_of_le hi h.size) hn).trans (h.block i hi hn)⟩
theorem set_grow (w : World) (g j : Nat) (x : Value) : w.grownBy (w.setCell ⟨g, j, none⟩ x) (some g) := by
  refine ⟨rfl, rfl, rfl, (KeepsWalks.setCell w ⟨g, j, none⟩ x).size, fun k _ hk => ?_⟩
  have hne : k ≠ g := fun e => hk (by rw [e])
  rw [Below.heap_setCell _ ⟨g, j, none⟩ x k hne]
theorem setCells_grow {g : Nat} : ∀ (vs : List Value) (o : Nat) (w : World), w.grownBy (w.setCells g o vs) (some g)
  | [], _, w => grown_refl _ w
  | v :: r, o, w => grow_trans (set_grow w g o v) (setCells_grow r (o + 1) _)
theorem own_set {B n g cap i : Nat} {xs : List Value} {e : TypeId} (h : w.ownsRow B e 1 (.slice (some ⟨g, 0, none⟩) n cap) n xs) (hi : i < n) (u : Value) : (w.setCell ⟨g, i, none⟩ u).ownsRow B e 1 (.slice (some ⟨g, 0, none⟩) n cap) n (xs.set i u) := by
  refine ⟨by rw [List.length_set]; exact h.1, ?_⟩
  rcases h.2 with ⟨hv, _⟩ | ⟨g', cap', cur, hv, hB, hg, hn, hm, hz, ht⟩
  · cases hv
  · injection hv with h1 _ h3
    injection h1 with h1; injection h1 with h1
    subst h1 h3
    obtain ⟨hlt, hk⟩ := Array.getElem?_eq_some_iff.1 hg
    refine .inr ⟨g, cap, cur.setIfInBounds i u, rfl, hB, ?_, hn, hm, by rw [Array.size_setIfInBounds]; exact hz, ?_⟩
    · show (w.heap.modify g _)[g]? = _
      rw [Array.getElem?_eq_getElem (by rw [Array.size_modify]; exact hlt), Array.getElem_modify_self, hk]
      rfl
    · rw [Array.toList_setIfInBounds, List.take_set, ht]
theorem own_cut {B n m g cap : Nat} {xs : List Value} {e : TypeId} (h : w.ownsRow B e 1 (.slice (some ⟨g, 0, none⟩) n cap) n xs) (hm : m ≤ n) : w.ownsRow B e 1 (.slice (some ⟨g, 0, none⟩) m cap) m (xs.take m) := by
  refine ⟨by rw [List.length_take]; have := h.1; omega, ?_⟩
  rcases h.2 with ⟨hv, _⟩ | ⟨g', cap', cur, hv, hB, hg, hn, hmx, hz, ht⟩
  · cases hv
  · injection hv with h1 _ h3
    injection h1 with h1; injection h1 with h1
    subst h1 h3
    exact .inr ⟨g, cap, cur, rfl, hB, hg, by omega, hmx, hz, by rw [← ht, List.take_take, Nat.min_eq_left (by omega), Nat.mul_one]⟩
theorem own_setCells {B n g cap : Nat} {e : TypeId} : ∀ (vs : List Value) (o : Nat) (w : World) (xs : List Value), w.ownsRow B e 1 (.slice (some ⟨g, 0, none⟩) n cap) n xs → o + vs.length ≤ n → ∃ ys, (w.setCells g o vs).ownsRow B e 1 (.slice (some ⟨g, 0, none⟩) n cap) n ys ∧ ys.take o = xs.take o
  | [], _, _, xs, h, _ => ⟨xs, h, rfl⟩
  | v :: r, o, w, xs, h, hl => by
    obtain ⟨ys, h1, h2⟩ := own_setCells r (o + 1) _ _ (own_set h (i := o) (by simp at hl; omega) v) (by simp at hl; omega)
    refine ⟨ys, h1, ?_⟩
    have h3 := congrArg (List.take o) h2
    rw [List.take_take, List.take_take, Nat.min_eq_left (by omega), List.take_set_of_le (Nat.le_refl _)] at h3
    exact h3
/-- What stays of a list. -/
def keepL (P : ByteArray → Bool) (L : List ByteArray) : List ByteArray := L.filter fun x => !P x
theorem keep_snoc_t {P : ByteArray → Bool} {L : List ByteArray} {x : ByteArray} (h : P x = true) : keepL P (L ++ [x]) = keepL P L := by unfold keepL; rw [List.filter_append]; simp [h]
theorem keep_snoc_f {P : ByteArray → Bool} {L : List ByteArray} {x : ByteArray} (h : P x = false) : keepL P (L ++ [x]) = keepL P L ++ [x] := by unfold keepL; rw [List.filter_append]; simp [h]
theorem keep_all {P : ByteArray → Bool} {L : List ByteArray} (h : ∀ (j : Nat) s, L[j]? = some s → P s = false) : keepL P L = L := by
  unfold keepL
  rw [List.filter_eq_self]
  intro x hx
  obtain ⟨k, hk⟩ := List.mem_iff_getElem?.1 hx
  rw [h k x hk]; rfl
theorem keep_len (P : ByteArray → Bool) (L : List ByteArray) : (keepL P L).length ≤ L.length := List.length_filter_le _ _
/-- The first place of what goes, or -1. -/
def IxOf (P : ByteArray → Bool) (L : List ByteArray) (z : Int) : Prop :=
  (∃ (k : Nat) (s : ByteArray), L[k]? = some s ∧ z = k ∧ P s = true ∧ ∀ (j : Nat) (s : ByteArray), j < k → L[j]? = some s → P s = false) ∨ (z = -1 ∧ ∀ (j : Nat) (s : ByteArray), L[j]? = some s → P s = false)
theorem drop_set_lt {xs : List Value} {i k : Nat} {u : Value} (h : i < k) : (xs.set i u).drop k = xs.drop k := by
  rw [List.drop_set_of_lt h]
/-- The first j are looked through; those that stay lie ahead. -/
def DlS (P : ByteArray → Bool) (B g cap : Nat) (L : List ByteArray) (w : World) (i j : Value) (wr : World) : Prop :=
  ∃ (k : Nat) (xs : List Value), k ≤ L.length ∧ j = .int .i64 k ∧ i = .int .i64 ((keepL P (L.take k)).length : Nat) ∧ (keepL P (L.take k)).length < k ∧ wr.ownsRow B 9 1 (.slice (some ⟨g, 0, none⟩) L.length cap) L.length xs ∧ xs.take (keepL P (L.take k)).length = strV (keepL P (L.take k)) ∧ xs.drop k = (strV L).drop k ∧ w.grownBy wr (some g)
def delEnd (P : ByteArray → Bool) (B g cap : Nat) (L : List ByteArray) (w : World) (e : Ending) (w' : World) : Prop :=
  e = .returned (.slice (some ⟨g, 0, none⟩) (keepL P L).length cap) ∧ w'.ownsRow B 9 1 (.slice (some ⟨g, 0, none⟩) (keepL P L).length cap) (keepL P L).length (strV (keepL P L)) ∧ w.grownBy w' (some g)
set_option maxHeartbeats 2000000 in
set_option maxRecDepth 100000 in
theorem Index1_any (P : ByteArray → Bool) (o : Option Addr) (L : List ByteArray) (cap c1 c2 : Nat) (w : World) (hn : L.length ≤ 1000000) (hp : TxAt w o L)
    (hcall : ∀ x ∈ L, ∀ W, Below w.heap.size w W → Calls Try.prog 37 #[.string x, ptr c1, ptr c2] W fun e w' => e = .returned (.bool (P x)) ∧ Below W.heap.size W w') :
    Calls Try.prog 43 #[.slice o L.length cap, .func (.func 37) #[] #[ptr c1, ptr c2]] w fun e w' => ∃ z, e = .returned (.int .i64 z) ∧ IxOf P L z ∧ Below w.heap.size w w' := by
  have HP := Lib.hid hp; have HC := Lib.hid hcall
  obtain ⟨n, hnn⟩ : ∃ n, L.length = n := ⟨_, rfl⟩
  have HLN := Lib.hid hnn
  rw [hnn] at hn ⊢
  clear hp hcall hnn
  go_enter Try.func43, Try.ntmps43
  go_wp2_with fail
  go_loopw [8] (fun i wr => ∃ k : Nat, k ≤ n ∧ i = .int .i64 k ∧ (∀ (j : Nat) (s : ByteArray), j < k → L[j]? = some s → P s = false) ∧ Below w.heap.size w wr) (fun i _ => n - (intOf i).toNat)
  case atStart => exact ⟨0, Nat.zero_le _, rfl, fun j s hj => absurd hj (Nat.not_lt_zero j), Below.refl _ _⟩
  case round =>
    obtain ⟨k, hk, rfl, hno, hb⟩ := hrel
    have HNO := Lib.hid hno; have HBB := Lib.hid hb
    clear hno hb
    by_cases hlt : k < n
    · obtain ⟨x, hx⟩ : ∃ s, L[k]? = some s := ⟨_, List.getElem?_eq_getElem (by rw [HLN.out]; exact hlt)⟩
      obtain ⟨_, b0, i0, ho, c0⟩ := tx_at (HP.out.below HBB.out) hx
      subst ho
      have HX := Lib.hid hx
      obtain ⟨z, hz⟩ : ∃ z, P x = z := ⟨_, rfl⟩
      have HZ := Lib.hid hz
      have HCC := Lib.hid (HC.out _ (List.mem_of_getElem? hx) wr HBB.out)
      rw [hz] at HCC
      have hki : (k : Int) < n := by omega
      clear hx hz
      cases z with
      | true =>
        go_wp2_with (go_at_call 37; (with_reducible refine HCC.out.mono ?_); rintro e w1 ⟨rfl, hb1⟩; have HB1 := Lib.hid (HBB.out.trans (hb1.mono HBB.out.size)); clear hb1)
        go_ret
        exact ⟨_, rfl, .inl ⟨k, x, HX.out, rfl, HZ.out, HNO.out⟩, HB1.out⟩
      | false =>
        go_wp2_with (go_at_call 37; (with_reducible refine HCC.out.mono ?_); rintro e w1 ⟨rfl, hb1⟩; have HB1 := Lib.hid (HBB.out.trans (hb1.mono HBB.out.size)); clear hb1)
        go_roundw
        case rel => exact ⟨k + 1, hlt, by go_num, fun j s hj hs => (Nat.lt_succ_iff_lt_or_eq.1 hj).elim (fun h => HNO.out j s h hs) (fun e => by
          subst e; rw [HX.out] at hs; injection hs with hs; rw [← hs]; exact HZ.out), HB1.out⟩
        case measure => simp [intOf]; omega
    · obtain rfl : k = n := by omega
      go_wp2_with fail
      go_ret
      exact ⟨-1, rfl, .inr ⟨rfl, fun j s hs => HNO.out j s (by rw [← HLN.out]; exact (List.getElem?_eq_some_iff.1 hs).1) hs⟩, HBB.out⟩
set_option maxHeartbeats 4000000 in
set_option maxRecDepth 100000 in
theorem Delete1_any (P : ByteArray → Bool) (B g cap c1 c2 : Nat) (L : List ByteArray) (w : World) (hn : L.length ≤ 1000000) (hz : ∀ s ∈ L, s.size ≤ maxLen) (hown : w.ownsRow B 9 1 (.slice (some ⟨g, 0, none⟩) L.length cap) L.length (strV L))
    (hcall : ∀ x ∈ L, ∀ W, w.grownBy W (some g) → Calls Try.prog 37 #[.string x, ptr c1, ptr c2] W fun e w' => e = .returned (.bool (P x)) ∧ Below W.heap.size W w') :
    Calls Try.prog 36 #[.slice (some ⟨g, 0, none⟩) L.length cap, .func (.func 37) #[] #[ptr c1, ptr c2]] w fun e w' => delEnd P B g cap L w e w' := by
  obtain ⟨o1, cp1, hv1, hpt, _⟩ := own_texts hown hz
  injection hv1 with hv1 _ hv2
  subst hv1 hv2
  have HI := Lib.hid (Index1_any P _ L cap c1 c2 w hn hpt (fun x hx W hW => hcall x hx W (grown_of_below hW)))
  have HC := Lib.hid hcall; have HOW := Lib.hid hown
  have HCP : Hid (L.length ≤ cap) := Lib.hid (by
    rcases hown.2 with ⟨hnil, _⟩ | ⟨g', c', cur, hv, _, _, h1, _⟩
    · cases hnil
    · injection hv with _ _ hv; rw [hv]; exact h1)
  obtain ⟨n, hnn⟩ : ∃ n, L.length = n := ⟨_, rfl⟩
  have HLN := Lib.hid hnn
  have hcap := HCP.out
  rw [hnn] at hn hcap HI ⊢
  clear hpt hcall hown hnn hz
  go_enter Try.func36, Try.ntmps36
  go_wp2_with (go_at_call 43; refine HI.out.mono ?_)
  first | (rintro e w1 z rfl hix hb1) | (rintro e w1 ⟨z, rfl, hix, hb1⟩)
  have HB1 := Lib.hid hb1
  rcases hix with ⟨k, s0, hks, rfl, hpk, hno⟩ | ⟨rfl, hno⟩
  · have hk : k < n := by rw [← HLN.out]; exact (List.getElem?_eq_some_iff.1 hks).1
    have hkz : ((k : Int) == -1) = false := beq_eq_false_iff_ne.2 (by omega)
    have hki : (k : Int) ≤ 1000000 := by omega
    have hkeep : keepL P (L.take k) = L.take k := keep_all (by
      intro j s hj
      rw [List.getElem?_take] at hj
      split at hj
      · rename_i h; exact hno j s h hj
      · cases hj)
    have hkl : (L.take k).length = k := by rw [List.length_take, HLN.out]; omega
    have HKK : Hid (keepL P (L.take (k + 1)) = L.take k) := Lib.hid (by rw [take_get hks, keep_snoc_t hpk, hkeep])
    have H1 : Hid (DlS P B g cap L w (.int .i64 k) (.int .i64 ((k : Int) + 1)) w1) := Lib.hid ⟨k + 1, strV L, by rw [HLN.out]; exact hk, by congr 1, by rw [HKK.out, hkl], by rw [HKK.out, hkl]; omega, own_below HOW.out HB1.out, by rw [HKK.out, hkl]; unfold strV; rw [List.map_take], rfl, grown_of_below HB1.out⟩
    clear hkeep hkl hno hpk HI hks hb1
    go_wp2_with fail
    go_loopw [5, 6] (fun i j wr => DlS P B g cap L w i j wr) (fun _ j _ => n - (intOf j).toNat)
    case atStart => exact H1.out
    case round =>
      obtain ⟨k, xs, hk, rfl, rfl, hik, hown, htk, hdr, hbu⟩ := hrel
      rw [HLN.out] at hk hown
      have HOW := Lib.hid hown; have HTA := Lib.hid htk; have HDR := Lib.hid hdr; have HBU := Lib.hid hbu
      have hxl : xs.length = n := by have := hown.1; omega
      rcases own_at hown with ⟨a0, c0, hv0, h0 | ⟨g0, ha0, hgB, hgl, hcell⟩⟩
      · omega
      · injection hv0 with hv0 hx1 hx2
        clear hx1 hx2
        rw [ha0] at hv0
        injection hv0 with hv0; injection hv0 with hv0
        subst hv0
        obtain ⟨i, hi⟩ : ∃ i, (keepL P (L.take k)).length = i := ⟨_, rfl⟩
        have HI := Lib.hid hi
        rw [hi] at hik HTA ⊢
        have hfr : ∀ j, wr.frozen? ⟨g, j, none⟩ = false := fun j => by
          rcases hown.2 with ⟨hnil, _⟩ | ⟨g', c', cur, hv, _, hgg, _⟩
          · cases hnil
          · injection hv with hv; injection hv with hv; injection hv with hv; subst hv; simp [World.frozen?, hgg]
        have hcs : ∀ j, j < n → ∃ u, wr.cell? ⟨g, j, none⟩ = some u := fun j hj => ⟨_, hcell j _ (List.getElem?_eq_getElem (by omega))⟩
        have HGL := Lib.hid hgl
        clear hown htk hdr hbu hi H1 ha0 hgB hgl
        by_cases hlt : k < n
        · obtain ⟨x, hx⟩ : ∃ s, L[k]? = some s := ⟨_, List.getElem?_eq_getElem (by rw [HLN.out]; exact hlt)⟩
          have hxk : xs[k]? = some (.string x) := by
            have h1 := congrArg (fun l => l[0]?) HDR.out
            simp only [List.getElem?_drop, Nat.add_zero] at h1
            rw [h1, List.getElem?_map, hx]; rfl
          have cp := hcell k _ hxk
          have HTK := Lib.hid (take_get hx)
          have hxm := List.mem_of_getElem? hx
          have HCC := Lib.hid (HC.out x hxm wr HBU.out)
          have hki : (k : Int) < n := by omega
          have hdr2 : xs.drop (k + 1) = (strV L).drop (k + 1) := by
            have h1 := congrArg (List.drop 1) HDR.out
            rw [List.drop_drop, List.drop_drop] at h1; exact h1
          have HD2 := Lib.hid hdr2
          obtain ⟨z, hz⟩ : ∃ z, P x = z := ⟨_, rfl⟩
          have HZ := Lib.hid hz
          rw [hz] at HCC
          clear hx hxk hxm hz hdr2
          cases z with
          | true =>
            have HKP : Hid (keepL P (L.take (k + 1)) = keepL P (L.take k)) := Lib.hid (by rw [HTK.out]; exact keep_snoc_t HZ.out)
            clear hcs hcell hfr
            go_wp2_with (go_at_call 37; (with_reducible refine HCC.out.mono ?_); rintro e w2 ⟨rfl, hb2⟩; have HB2 := Lib.hid hb2; clear hb2)
            go_roundw
            case rel => exact ⟨k + 1, xs, by rw [HLN.out]; exact hlt, by go_num, by rw [HKP.out, HI.out], by rw [HKP.out, HI.out]; omega, by rw [HLN.out]; exact own_below HOW.out HB2.out, by rw [HKP.out, HI.out]; exact HTA.out, HD2.out, grow_trans HBU.out (grown_of_below HB2.out)⟩
            case measure => simp [intOf]; omega
          | false =>
            have HKP : Hid (keepL P (L.take (k + 1)) = keepL P (L.take k) ++ [x]) := Lib.hid (by rw [HTK.out]; exact keep_snoc_f HZ.out)
            obtain ⟨u0, ci⟩ := hcs i (by omega)
            have fi := hfr i
            have hii : (i : Int) < n := by omega
            have HTS : Hid ((xs.set i (.string x)).take (i + 1) = strV (keepL P (L.take k) ++ [x])) := Lib.hid (by
              rw [List.take_add_one, List.take_set_of_le (Nat.le_refl _), HTA.out, List.getElem?_set_self (by omega)]
              unfold strV; rw [List.map_append]; rfl)
            have hil : i < n := by omega
            clear hcs hcell hfr
            go_wp2_with (go_at_call 37; (with_reducible refine HCC.out.mono ?_); rintro e w2 ⟨rfl, hb2⟩; have ci2 : w2.cell? ⟨g, i, none⟩ = some u0 := (hb2.cell HGL.out).trans ci; have fi2 : w2.frozen? ⟨g, i, none⟩ = false := (hb2.frozen HGL.out).trans fi; have HB2 := Lib.hid hb2; clear hb2)
            go_roundw
            case rel => exact ⟨k + 1, xs.set i (.string x), by rw [HLN.out]; exact hlt, by go_num, by rw [HKP.out, List.length_append, HI.out]; go_num, by rw [HKP.out, List.length_append, HI.out]; simp; omega, by rw [HLN.out]; exact own_set (own_below HOW.out HB2.out) hil _, by rw [HKP.out, List.length_append, HI.out]; exact HTS.out, by rw [drop_set_lt (by omega)]; exact HD2.out, grow_trans (grow_trans HBU.out (grown_of_below HB2.out)) (set_grow _ _ _ _)⟩
            case measure => simp [intOf]; omega
        · obtain rfl : k = n := by omega
          have htl : L.take k = L := List.take_of_length_le (by rw [HLN.out]; exact Nat.le_refl _)
          rw [htl] at HTA HI
          have hcl : ∀ ty, (Builtin.clear_ #[22] ty #[.slice (some ⟨g, i, none⟩) (k - i) (cap - i)]).run Try.prog wr = .ok (.tuple #[]) (wr.setCells g i (List.replicate (k - i) (.string ⟨#[]⟩))) := fun ty => Lib.run_clear_slice wr _ _ ty _ Try.underlying22 (Try.zeroValue9) rfl rfl g i _ _ (by omega) (fun j hj => by obtain ⟨u, hu⟩ := hcs (i + j) (by omega); rw [hu]; rfl) (fun j _ => hfr _)
          obtain ⟨ys, hys, hyt⟩ := own_setCells (List.replicate (k - i) (.string ⟨#[]⟩)) i wr xs HOW.out (by simp; omega)
          have HYS := Lib.hid hys; have HYT := Lib.hid hyt
          have HBZ := Lib.hid (grow_trans HBU.out (setCells_grow (g := g) (List.replicate (k - i) (.string ⟨#[]⟩)) i wr))
          have hii : (i : Int) ≤ k := by omega
          have hic : (i : Int) ≤ cap := by omega
          have hne : ¬ cap = i := by omega
          have hicn : i ≤ cap := by omega
          clear hys hyt htl hcs hcell hfr
          go_wp2_with fail
          go_ret
          exact ⟨by rw [HI.out]; rfl, by rw [HI.out, ← HTA.out, ← HYT.out]; exact own_cut HYS.out (by omega), HBZ.out⟩
  · have HK := Lib.hid (keep_all hno)
    clear hno hb1
    go_wp2_with fail
    go_ret
    exact ⟨by rw [HK.out, HLN.out]; rfl, by rw [HK.out]; exact own_below HOW.out HB1.out, grown_of_below HB1.out⟩
end Go.Proofs.Ytjdlpcokjcmapaa
