/- Deltas, plain: a delta that is cut off gives nothing. -/
import Derived.Test.YtmdhendfmhhniaaJn
namespace Go.Proofs.Ytmdhendfmhhniaa
open Go.RowKit

/-- A number that is cut off is none. -/
theorem getI_cut (n c : Nat) (hn : n ≤ 1099511627776) (hc : c < (putL n).length) : (getI (mkB ((putL n).take c))).2.2 ≠ 0 := by
  obtain ⟨m, k, e, hg⟩ : ∃ m k e, getI (mkB ((putL n).take c)) = (m, k, e) := ⟨_, _, _, rfl⟩
  rw [hg]
  show e ≠ 0
  intro he
  subst he
  have b := getI_bounds _ _ _ _ hg
  have hb := getI_bytes _ _ _ hg
  have hk := b.2.2.2.2.2 rfl
  rw [mkB_size, List.length_take] at hk
  obtain ⟨mN, hmN⟩ : ∃ q : Nat, m = (q : Int) := ⟨m.toNat, by omega⟩
  subst hmN
  obtain ⟨kN, hkN⟩ : ∃ q : Nat, k = (q : Int) := ⟨k.toNat, by omega⟩
  subst hkN
  have hp : putL mN = (putL n).take kN := by
    show (strOfNums (putI mN)).data.toList = _
    rw [hb, Int.toNat_natCast, ext_list, mkB_data, List.drop_zero, Nat.sub_zero, List.take_take, Nat.min_eq_left (by omega)]
  have h1 : getI (mkB (putL n ++ [])) = ((n : Int), ((putL n).length : Int), 0) := getI_putL n [] hn
  have h2 : getI (mkB (putL mN ++ (putL n).drop kN)) = ((mN : Int), ((putL mN).length : Int), 0) := getI_putL mN _ (by omega)
  rw [hp, List.take_append_drop] at h2
  rw [List.append_nil] at h1
  rw [h1] at h2
  injection h2 with x1 h2
  injection h2 with x2 _
  rw [List.length_take] at x2
  omega
theorem take_cons (x : UInt8) (l : List UInt8) {c : Nat} (h : 0 < c) : (x :: l).take c = x :: l.take (c - 1) := by
  cases c with
  | zero => omega
  | succ c => rfl
theorem take_past (a b : List UInt8) {c : Nat} (h : a.length ≤ c) : (a ++ b).take c = a ++ b.take (c - a.length) := by
  rw [List.take_append, List.take_of_length_le h]
theorem take_in (a b : List UInt8) {c : Nat} (h : c ≤ a.length) : (a ++ b).take c = a.take c := List.take_append_of_le_length h
theorem getI3 (s : ByteArray) : getI s = ((getI s).1, (getI s).2.1, (getI s).2.2) := rfl
theorem insD_cut {base : ByteArray} {i : Ins} (h : insOk base i) (hb : base.size ≤ 1000000) {c : Nat} (h0 : 0 < c) (hc : c < (insB i).length) : ∃ n e, e ≠ 0 ∧ insD base (mkB ((insB i).take c)) = (⟨#[]⟩, n, e) := by
  cases i with
  | new t =>
    have ht := h.1; have ht2 := h.2
    have ea : insB (.new t) = 0 :: (putL t.size ++ t.data.toList) := by show addL t = _; unfold addL; rw [if_neg (by omega)]; rfl
    rw [ea, List.length_cons] at hc
    rw [ea, take_cons _ _ h0]
    obtain ⟨c', hc'⟩ : ∃ c', c - 1 = c' := ⟨_, rfl⟩
    rw [hc']
    have hs : (mkB (0 :: (putL t.size ++ t.data.toList).take c')).extract 1 (mkB (0 :: (putL t.size ++ t.data.toList).take c')).size = mkB ((putL t.size ++ t.data.toList).take c') := mkB_drop _ 1
    have hx : ∃ n e, e ≠ 0 ∧ addD (mkB ((putL t.size ++ t.data.toList).take c')) = (⟨#[]⟩, n, e) := by
      rcases Nat.lt_or_ge c' (putL t.size).length with hl | hl
      · rw [take_in _ _ (by omega)]
        have hg := getI_cut t.size c' (by omega) hl
        exact ⟨_, _, hg, addD_err (getI3 _) hg⟩
      · rw [take_past _ _ hl]
        have hg := getI_putL t.size (t.data.toList.take (c' - (putL t.size).length)) (by omega)
        rw [List.length_append, dl_len] at hc
        exact ⟨_, _, by decide, addD_short hg (by omega) (by rw [mkB_size, List.length_append, List.length_take, dl_len]; omega)⟩
    obtain ⟨n, e, he, hx⟩ := hx
    exact ⟨_, e, he, insD_a (by rw [byt_cons]; rfl) ((congrArg addD hs).trans hx)⟩
  | old a n =>
    have h1 : 0 < n := h.1
    have h2 : a + n ≤ base.size := h.2
    have ea : insB (.old a n) = 1 :: (putL a ++ putL n) := rfl
    rw [ea, List.length_cons] at hc
    rw [ea, take_cons _ _ h0]
    obtain ⟨c', hc'⟩ : ∃ c', c - 1 = c' := ⟨_, rfl⟩
    rw [hc']
    have hs : (mkB (1 :: (putL a ++ putL n).take c')).extract 1 (mkB (1 :: (putL a ++ putL n).take c')).size = mkB ((putL a ++ putL n).take c') := mkB_drop _ 1
    have hx : ∃ n' e, e ≠ 0 ∧ copD base (mkB ((putL a ++ putL n).take c')) = (⟨#[]⟩, n', e) := by
      rcases Nat.lt_or_ge c' (putL a).length with hl | hl
      · rw [take_in _ _ (by omega)]
        have hg := getI_cut a c' (by omega) hl
        exact ⟨_, _, hg, copD_e1 (getI3 _) hg⟩
      · rw [take_past _ _ hl]
        have hg := getI_putL a ((putL n).take (c' - (putL a).length)) (by omega)
        rw [List.length_append] at hc
        have hg2 := getI_cut n (c' - (putL a).length) (by omega) (by omega)
        have e : (mkB (putL a ++ (putL n).take (c' - (putL a).length))).extract (((putL a).length : Int)).toNat (mkB (putL a ++ (putL n).take (c' - (putL a).length))).size = mkB ((putL n).take (c' - (putL a).length)) := by
          rw [Int.toNat_natCast, mkB_drop, drop_app]
        exact ⟨_, _, hg2, copD_e2 hg ((congrArg getI e).trans (getI3 _)) hg2⟩
    obtain ⟨n', e, he, hx⟩ := hx
    exact ⟨_, e, he, insD_c (by rw [byt_cons]; rfl) ((congrArg (copD base) hs).trans hx)⟩
theorem insO_pos {base : ByteArray} {i : Ins} (h : insOk base i) : 0 < (insO base i).length := by
  cases i with
  | new t => show 0 < t.data.toList.length; rw [dl_len]; exact h.1
  | old a n =>
    show 0 < ((base.data.toList.drop a).take n).length
    have h0 : 0 < n ∧ a + n ≤ base.size := h
    rw [List.length_take, List.length_drop, dl_len]; omega
theorem rest_cut {base : ByteArray} {tg : Int} (hb : base.size ≤ 1000000) : ∀ (L : List Ins) (c : Nat) (out : List UInt8), okI base L → c < (bytesI L).length → (out.length : Int) + ((outsI base L).length : Int) ≤ tg → ∃ e, e ≠ 0 ∧ restD base tg (mkB ((bytesI L).take c)) out = (⟨#[]⟩, e)
  | [], c, out, _, hc, _ => by simp [bytesI] at hc
  | i :: L, c, out, h, hc, hl => by
    have e1 : bytesI (i :: L) = insB i ++ bytesI L := rfl
    have e2 : outsI base (i :: L) = insO base i ++ outsI base L := rfl
    have hi := h i (by simp)
    have hp := insO_pos hi
    rw [e2, List.length_append] at hl
    rw [e1, List.length_append] at hc
    rw [e1]
    rcases Nat.lt_or_ge c (insB i).length with hx | hx
    · rw [take_in _ _ (by omega)]
      rcases Nat.eq_zero_or_pos c with h0 | h0
      · subst h0
        exact ⟨4, by decide, by rw [List.take_zero, restD_end base tg out (by rw [mkB_size]; rfl), if_pos (by omega)]⟩
      · obtain ⟨n, e, he, hd⟩ := insD_cut hi hb h0 hx
        exact ⟨e, he, restD_err base tg out (by rw [mkB_size, List.length_take]; omega) hd he⟩
    · rw [take_past _ _ hx]
      have hpb := insB_pos hi
      rw [restD_more base tg out (by rw [mkB_size, List.length_append]; omega) (insD_ins _ hi hb) (by rw [mkB_size]; omega), Int.toNat_natCast, mkB_drop, drop_app, mkB_data]
      exact rest_cut hb L _ _ (fun j hj => h j (by simp [hj])) (by omega) (by rw [List.length_append]; omega)
theorem appD_cut {base target D : ByteArray} (h : MadeD base target D) (hb : base.size ≤ 262208) (ht : target.size ≤ 262208) {c : Nat} (hc : c < D.size) : ∃ e, e ≠ 0 ∧ appD base (D.extract 0 c) = (⟨#[]⟩, e) := by
  obtain ⟨L, rfl, hok, hout, _, _⟩ := h
  rw [mkB_size] at hc
  have e0 : (mkB (putL base.size ++ putL target.size ++ bytesI L)).extract 0 c = mkB ((putL base.size ++ putL target.size ++ bytesI L).take c) := by rw [mkB_cut]; rfl
  rw [e0]
  rcases Nat.lt_or_ge c (putL base.size ++ putL target.size).length with hx | hx
  · rw [take_in _ _ (by omega)]
    have hz : (sizD (mkB ((putL base.size ++ putL target.size).take c))).2.2.2 ≠ 0 := by
      rcases Nat.lt_or_ge c (putL base.size).length with hy | hy
      · rw [take_in _ _ (by omega)]
        have hg := getI_cut base.size c (by omega) hy
        unfold sizD
        rw [if_pos hg]
        exact hg
      · rw [take_past _ _ hy]
        rw [List.length_append] at hx
        have hg := getI_putL base.size ((putL target.size).take (c - (putL base.size).length)) (by omega)
        have hg2 := getI_cut target.size (c - (putL base.size).length) (by omega) (by omega)
        have e : (mkB (putL base.size ++ (putL target.size).take (c - (putL base.size).length))).extract (((putL base.size).length : Int)).toNat (mkB (putL base.size ++ (putL target.size).take (c - (putL base.size).length))).size = mkB ((putL target.size).take (c - (putL base.size).length)) := by
          rw [Int.toNat_natCast, mkB_drop, drop_app]
        unfold sizD
        rw [hg]
        dsimp only
        rw [e, if_neg (fun h => h rfl), if_pos hg2]
        dsimp only
        exact hg2
    unfold appD
    rw [if_pos hz]
    exact ⟨_, hz, rfl⟩
  · rw [take_past _ _ hx]
    unfold appD
    rw [sizD_put _ _ _ hb ht]
    dsimp only
    rw [if_neg (fun h => h rfl), if_neg (fun h => h rfl)]
    obtain ⟨c', hc'⟩ : ∃ c', c - (putL base.size ++ putL target.size).length = c' := ⟨_, rfl⟩
    rw [hc']
    rw [List.length_append] at hc
    have e : (mkB (putL base.size ++ putL target.size ++ (bytesI L).take c')).extract (((putL base.size).length : Int) + ((putL target.size).length : Int)).toNat (mkB (putL base.size ++ putL target.size ++ (bytesI L).take c')).size = mkB ((bytesI L).take c') := by
      rw [show (((putL base.size).length : Int) + ((putL target.size).length : Int)).toNat = (putL base.size ++ putL target.size).length by rw [List.length_append]; omega, mkB_drop, drop_app]
    rw [e]
    exact rest_cut (by omega) L c' [] hok (by omega) (by rw [hout, dl_len]; simp)
/-- Of a base of another length it is stale. -/
theorem appD_stale {base target D B : ByteArray} (h : MadeD base target D) (hb : base.size ≤ 262208) (ht : target.size ≤ 262208) (hB : B.size ≠ base.size) : appD B D = (⟨#[]⟩, 13) := by
  obtain ⟨L, rfl, hok, hout, _, _⟩ := h
  unfold appD
  rw [sizD_put _ _ _ hb ht]
  dsimp only
  rw [if_neg (fun h => h rfl), if_pos (by omega)]
theorem sizD_made {base target D : ByteArray} (h : MadeD base target D) (hb : base.size ≤ 262208) (ht : target.size ≤ 262208) : ∃ k, sizD D = ((base.size : Int), (target.size : Int), k, 0) := by
  obtain ⟨L, rfl, hok, hout, _, _⟩ := h
  exact ⟨_, sizD_put _ _ _ hb ht⟩
theorem made_pos {base target D : ByteArray} (h : MadeD base target D) : 0 < D.size := by
  obtain ⟨L, rfl, _, _, _, _⟩ := h
  have h1 := putL_len base.size
  rw [mkB_size, List.length_append, List.length_append]; omega
end Go.Proofs.Ytmdhendfmhhniaa
