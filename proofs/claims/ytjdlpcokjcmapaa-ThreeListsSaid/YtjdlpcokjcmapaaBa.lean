/- Three lists: equal lists, what both sides agree on; the document's Alike, In, Twice. -/
import Derived.Test.YtjdlpcokjcmapaaLr
set_option linter.unusedVariables false
set_option linter.unusedSimpArgs false
namespace Go.Proofs.Ytjdlpcokjcmapaa
open Go.RowKit Go.Maps Go.WideShapes
variable {w w' : World}

theorem toL_inj {a b : ByteArray} (h : a.toList = b.toList) : a = b := by rw [ByteArray.toList_eq, ByteArray.toList_eq] at h; exact ByteArray.ext (Array.ext' h)
theorem take_get {α : Type} {l : List α} {k : Nat} {x : α} (h : l[k]? = some x) : l.take (k + 1) = l.take k ++ [x] := by
  rw [List.take_add_one, h]; rfl
theorem tx_at {o : Option Addr} {l : List ByteArray} {k : Nat} {s : ByteArray} (h : TxAt w o l) (hs : l[k]? = some s) : s.size ≤ maxLen ∧ ∃ b i, o = some ⟨b, i, none⟩ ∧ w.cell? ⟨b, i + k, none⟩ = some (.string s) := by
  have hk := (List.getElem?_eq_some_iff.1 hs).1
  obtain ⟨h1, b, i, ho, hc⟩ := h k hk
  rw [it_get hk] at hs
  injection hs with hs
  rw [hs] at h1 hc
  exact ⟨h1, b, i, ho, hc⟩
theorem takes_eq {a b : List ByteArray} {k : Nat} {x y : ByteArray} (hx : a[k]? = some x) (hy : b[k]? = some y) (h : a.take k = b.take k) (e : x = y) : a.take (k + 1) = b.take (k + 1) := by
  rw [take_get hx, take_get hy, h, e]
theorem not_eq_at {a b : List ByteArray} {k : Nat} {x y : ByteArray} (hx : a[k]? = some x) (hy : b[k]? = some y) (e : x ≠ y) : a ≠ b := fun h => by
  subst h
  rw [hx] at hy; injection hy with hy; exact e hy
set_option maxHeartbeats 2000000 in
set_option maxRecDepth 100000 in
theorem Equal_any (oa ob : Option Addr) (a b : List ByteArray) (ca cb : Nat) (w : World) (hla : a.length ≤ maxLen) (hlb : b.length ≤ maxLen) (ha : TxAt w oa a) (hb : TxAt w ob b) :
    Calls Try.prog 31 #[.slice oa a.length ca, .slice ob b.length cb] w fun e w' => e = .returned (.bool (decide (a = b))) ∧ ∃ m, w' = w.drewN m := by
  obtain ⟨n, hn⟩ : ∃ n, a.length = n := ⟨_, rfl⟩
  obtain ⟨m, hm⟩ : ∃ n, b.length = n := ⟨_, rfl⟩
  have HN := Lib.hid hn; have HM := Lib.hid hm; have HA := Lib.hid ha; have HB := Lib.hid hb
  rw [hn] at hla ⊢
  rw [hm] at hlb ⊢
  unfold maxLen at hla hlb
  clear hn hm ha hb
  by_cases hnm : n = m
  · subst hnm
    go_enter Try.func31, Try.ntmps31
    go_wp2_with fail
    go_loopw [13] (fun i wr => ∃ k q : Nat, k ≤ n ∧ i = .int .i64 k ∧ a.take k = b.take k ∧ wr = w.drewN q) (fun i _ => n - (intOf i).toNat)
    case atStart => exact ⟨0, 0, Nat.zero_le _, rfl, by simp, rfl⟩
    case round =>
      obtain ⟨k, q, hk, rfl, hT, rfl⟩ := hrel
      have HT := Lib.hid hT
      clear hT
      by_cases hlt : k < n
      · obtain ⟨x, hx⟩ : ∃ p, a[k]? = some p := ⟨_, List.getElem?_eq_getElem (by rw [HN.out]; omega)⟩
        obtain ⟨y, hy⟩ : ∃ p, b[k]? = some p := ⟨_, List.getElem?_eq_getElem (by rw [HM.out]; omega)⟩
        obtain ⟨_, b0, i0, ho, c0'⟩ := tx_at HA.out hx
        obtain ⟨_, b1, i1, ho1, d0'⟩ := tx_at HB.out hy
        subst ho ho1
        have HX := Lib.hid hx; have HY := Lib.hid hy
        have c0 : (w.drewN q).cell? ⟨b0, i0 + k, none⟩ = some (.string x) := c0'
        have d0 : (w.drewN q).cell? ⟨b1, i1 + k, none⟩ = some (.string y) := d0'
        have hki : (k : Int) < n := by omega
        clear hx hy c0' d0'
        generalize hwd : w.drewN q = wd at c0 d0 ⊢
        have HWD := Lib.hid hwd
        clear hwd
        by_cases he : x = y
        · subst he
          go_wp2_with fail
          go_quiet (fail)
          (first | (have _h : Nat := nq; clear _h) | rename_i nq)
          go_wp2_with fail
          go_roundw
          case rel => exact ⟨k + 1, q + nq, hlt, by go_num, takes_eq HX.out HY.out HT.out rfl, by rw [← HWD.out, World.drewN_drewN]⟩
          case measure => simp [intOf]; omega
        · have hne : (x.toList == y.toList) = false := by rw [beq_eq_false_iff_ne]; exact fun e => he (toL_inj e)
          have HE : Hid (decide (a = b) = false) := Lib.hid (decide_eq_false (not_eq_at HX.out HY.out he))
          clear he
          go_wp2_with fail
          go_quiet (fail)
          (first | (have _h : Nat := nq; clear _h) | rename_i nq)
          go_wp2_with fail
          go_ret
          exact ⟨ret_bool HE.out.symm, _, by rw [← HWD.out, World.drewN_drewN]⟩
      · obtain rfl : k = n := by omega
        have HE : Hid (decide (a = b) = true) := Lib.hid (decide_eq_true (by
          have h := HT.out
          rw [List.take_of_length_le (by rw [HN.out]; exact Nat.le_refl _), List.take_of_length_le (by rw [HM.out]; exact Nat.le_refl _)] at h
          exact h))
        go_wp2_with fail
        go_ret
        exact ⟨ret_bool HE.out.symm, _, rfl⟩
  · have HE : Hid (decide (a = b) = false) := Lib.hid (decide_eq_false fun e => hnm (by rw [← HN.out, ← HM.out, e]))
    have hnmi : ¬ (n : Int) = m := by omega
    go_enter Try.func31, Try.ntmps31
    go_wp2_with fail
    go_ret
    exact ⟨ret_bool HE.out.symm, 0, rfl⟩
set_option maxHeartbeats 2000000 in
set_option maxRecDepth 100000 in
theorem Alike_any (oa ob : Option Addr) (a b : List ByteArray) (ca cb : Nat) (w : World) (hla : a.length ≤ maxLen) (hlb : b.length ≤ maxLen) (ha : TxAt w oa a) (hb : TxAt w ob b) :
    Calls Try.prog 12 #[.slice oa a.length ca, .slice ob b.length cb] w fun e w' => e = .returned (.bool (decide (a = b))) ∧ ∃ m, w' = w.drewN m := by
  obtain ⟨n, hn⟩ : ∃ n, a.length = n := ⟨_, rfl⟩
  obtain ⟨m, hm⟩ : ∃ n, b.length = n := ⟨_, rfl⟩
  have HN := Lib.hid hn; have HM := Lib.hid hm; have HA := Lib.hid ha; have HB := Lib.hid hb
  rw [hn] at hla ⊢
  rw [hm] at hlb ⊢
  unfold maxLen at hla hlb
  clear hn hm ha hb
  by_cases hnm : n = m
  · subst hnm
    go_enter Try.func12, Try.ntmps12
    go_wp2_with fail
    go_loopw [5] (fun i wr => ∃ k q : Nat, k ≤ n ∧ i = .int .i64 k ∧ a.take k = b.take k ∧ wr = w.drewN q) (fun i _ => n - (intOf i).toNat)
    case atStart => exact ⟨0, 0, Nat.zero_le _, rfl, by simp, rfl⟩
    case round =>
      obtain ⟨k, q, hk, rfl, hT, rfl⟩ := hrel
      have HT := Lib.hid hT
      clear hT
      by_cases hlt : k < n
      · obtain ⟨x, hx⟩ : ∃ p, a[k]? = some p := ⟨_, List.getElem?_eq_getElem (by rw [HN.out]; omega)⟩
        obtain ⟨y, hy⟩ : ∃ p, b[k]? = some p := ⟨_, List.getElem?_eq_getElem (by rw [HM.out]; omega)⟩
        obtain ⟨_, b0, i0, ho, c0'⟩ := tx_at HA.out hx
        obtain ⟨_, b1, i1, ho1, d0'⟩ := tx_at HB.out hy
        subst ho ho1
        have HX := Lib.hid hx; have HY := Lib.hid hy
        have c0 : (w.drewN q).cell? ⟨b0, i0 + k, none⟩ = some (.string x) := c0'
        have d0 : (w.drewN q).cell? ⟨b1, i1 + k, none⟩ = some (.string y) := d0'
        have hki : (k : Int) < n := by omega
        clear hx hy c0' d0'
        generalize hwd : w.drewN q = wd at c0 d0 ⊢
        have HWD := Lib.hid hwd
        clear hwd
        by_cases he : x = y
        · subst he
          go_wp2_with fail
          go_quiet (fail)
          (first | (have _h : Nat := nq; clear _h) | rename_i nq)
          go_wp2_with fail
          go_roundw
          case rel => exact ⟨k + 1, q + nq, hlt, by go_num, takes_eq HX.out HY.out HT.out rfl, by rw [← HWD.out, World.drewN_drewN]⟩
          case measure => simp [intOf]; omega
        · have hne : (x.toList == y.toList) = false := by rw [beq_eq_false_iff_ne]; exact fun e => he (toL_inj e)
          have HE : Hid (decide (a = b) = false) := Lib.hid (decide_eq_false (not_eq_at HX.out HY.out he))
          clear he
          go_wp2_with fail
          go_quiet (fail)
          (first | (have _h : Nat := nq; clear _h) | rename_i nq)
          go_wp2_with fail
          go_ret
          exact ⟨ret_bool HE.out.symm, _, by rw [← HWD.out, World.drewN_drewN]⟩
      · obtain rfl : k = n := by omega
        have HE : Hid (decide (a = b) = true) := Lib.hid (decide_eq_true (by
          have h := HT.out
          rw [List.take_of_length_le (by rw [HN.out]; exact Nat.le_refl _), List.take_of_length_le (by rw [HM.out]; exact Nat.le_refl _)] at h
          exact h))
        go_wp2_with fail
        go_ret
        exact ⟨ret_bool HE.out.symm, _, rfl⟩
  · have HE : Hid (decide (a = b) = false) := Lib.hid (decide_eq_false fun e => hnm (by rw [← HN.out, ← HM.out, e]))
    have hnmi : ¬ (n : Int) = m := by omega
    go_enter Try.func12, Try.ntmps12
    go_wp2_with fail
    go_ret
    exact ⟨ret_bool HE.out.symm, 0, rfl⟩
end Go.Proofs.Ytjdlpcokjcmapaa
