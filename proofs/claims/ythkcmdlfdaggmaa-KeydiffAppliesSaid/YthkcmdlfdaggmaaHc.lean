/- Keyed lists: the keys ascend. -/
import Derived.Test.YthkcmdlfdaggmaaHb
import Derived.Laws.Cover1
set_option linter.unusedVariables false
set_option linter.unusedSimpArgs false
namespace Go.Proofs.Ythkcmdlfdaggmaa
open Go.RowKit
variable {w w' : World}

theorem ba_ne {a b : ByteArray} (h : a ≠ b) : ¬ a.toList = b.toList := fun e => h (by rw [ByteArray.toList_eq, ByteArray.toList_eq] at e; exact ByteArray.ext (Array.ext' e))
theorem kv_kept {a : Addr} {v : Value} {o : Obj} (h : w.cell? a = some v) : (w.alloc o).cell? a = some v := by
  rw [(((Below.refl w.heap.size w).alloc (Nat.le_refl _) o).cell (World.block_lt_of_cell? w _ h))]; exact h
theorem Right1_any (a b : ByteArray) (w : World) :
    Calls Try.prog 22 #[.agg #[.string a, .string b]] w fun e w' => e = .returned (.string a) ∧ w' = w.alloc (.cells #[.string a, .string b] 51) := by
  go_enter Try.func22, Try.ntmps22
  go_wp2_with fail
  go_ret
  exact ⟨rfl, rfl⟩
def ascP (l : List ByteArray) (k : Nat) : Prop := ∀ j a b, j + 1 < k → l[j]? = some a → l[j + 1]? = some b → ltB a b
theorem ascP_all : ∀ {l : List ByteArray}, ascP l l.length → Asc l
  | [], _ => List.Pairwise.nil
  | [x], _ => by simp [Asc]
  | x :: y :: l, h => by
    have ih : Asc (y :: l) := ascP_all fun j a b hj ha hb => h (j + 1) a b (by simp at hj ⊢; omega) (by simpa using ha) (by simpa using hb)
    have hxy : ltB x y := h 0 x y (by simp) rfl rfl
    refine List.pairwise_cons.2 ⟨fun s hs => ?_, ih⟩
    rcases List.mem_cons.1 hs with rfl | hs
    · exact hxy
    · exact ltB_trans hxy ((List.pairwise_cons.1 ih).1 s hs)
theorem asc_get {l : List ByteArray} (h : Asc l) {j : Nat} {a b : ByteArray} (ha : l[j]? = some a) (hb : l[j + 1]? = some b) : ltB a b := by
  obtain ⟨h1, e1⟩ := List.getElem?_eq_some_iff.1 ha
  obtain ⟨h2, e2⟩ := List.getElem?_eq_some_iff.1 hb
  have := List.pairwise_iff_getElem.1 h j (j + 1) h1 h2 (by omega)
  rw [e1, e2] at this; exact this
instance (l : List ByteArray) : Decidable (Asc l) := inferInstanceAs (Decidable (l.Pairwise ltB))
set_option maxHeartbeats 2000000 in
set_option maxRecDepth 100000 in
theorem ascI_any (o : Option Addr) (l : List KvB) (c : Nat) (w : World) (hl : l.length ≤ 1000000) (h : KvAt w o l) :
    Calls Try.prog 21 #[.slice o l.length c, .func (.func 22) #[] #[]] w fun e w' => e = .returned (.bool (decide (RightK l))) ∧ Below w.heap.size w w' := by
  obtain ⟨n, hn⟩ : ∃ n, l.length = n := ⟨_, rfl⟩
  have HN := Lib.hid hn; have HL := Lib.hid h
  rw [hn] at hl ⊢
  have HW := @Right1_any
  clear hn h
  go_enter Try.func21, Try.ntmps21
  go_wp2_with fail
  go_loopw [5] (fun i wr => ∃ k : Nat, 1 ≤ k ∧ (k ≤ n ∨ k = 1) ∧ i = .int .i64 k ∧ ascP (ksK l) k ∧ Below w.heap.size w wr) (fun i _ => n - (intOf i).toNat)
  case atStart => exact ⟨1, Nat.le_refl _, .inr rfl, rfl, fun j a b hj => by omega, Below.refl _ _⟩
  case round =>
    obtain ⟨k, hk1, hk, rfl, hA, hb⟩ := hrel
    have HA := Lib.hid hA; have HB := Lib.hid hb
    clear hA
    by_cases hlt : k < n
    · obtain ⟨m, hkm⟩ : ∃ m, k = m + 1 := ⟨k - 1, by omega⟩
      obtain ⟨p, hp⟩ : ∃ p, l[m]? = some p := ⟨_, List.getElem?_eq_getElem (by rw [HN.out]; omega)⟩
      obtain ⟨q, hq⟩ : ∃ q, l[k]? = some q := ⟨_, List.getElem?_eq_getElem (by rw [HN.out]; omega)⟩
      obtain ⟨_, _, b0, i0, ho, c0, c1⟩ := (HL.out.below HB.out) m p hp
      obtain ⟨_, _, b1, i1, ho1, d0, d1⟩ := (HL.out.below HB.out) k q hq
      rw [ho] at ho1
      injection ho1 with ho1
      injection ho1 with e1 e2 _
      subst e1 e2 ho
      have HKP : Hid ((ksK l)[m]? = some p.1) := Lib.hid (by rw [List.getElem?_map, hp]; rfl)
      have HKQ : Hid ((ksK l)[m + 1]? = some q.1) := Lib.hid (by rw [List.getElem?_map, ← hkm, hq]; rfl)
      obtain ⟨a, x⟩ := p
      obtain ⟨b, y⟩ := q
      dsimp only at c0 c1 d0 d1 HKP HKQ
      clear hp hq
      have hki : (k : Int) < n := by omega
      have hmi : (m : Int) < n := by omega
      have hk0 : (0 : Int) ≤ k := by omega
      have hm0 : (0 : Int) ≤ m := by omega
      have hkc : IntKind.i64.wrap ((k : Int) + 1) = (k : Int) + 1 := IntWalk.i64_in _ (by omega)
      have hw1 : IntKind.i64.wrap ((k : Int) - 1) = (m : Int) := by rw [IntWalk.i64_in _ (by omega)]; omega
      have HKM := Lib.hid hkm
      clear hkm hk1 hk
      go_wp2_with fail
      go_region_held3 (fun w' => w'.cell? ⟨b0, i0 + m * 2, none⟩ = some (.string a) ∧ w'.cell? ⟨b0, i0 + m * 2 + 1, none⟩ = some (.string x) ∧ w'.cell? ⟨b0, i0 + k * 2, none⟩ = some (.string b) ∧ w'.cell? ⟨b0, i0 + k * 2 + 1, none⟩ = some (.string y)) (first | exact ⟨c0, c1, d0, d1⟩ | exact ⟨kv_kept c0, kv_kept c1, kv_kept d0, kv_kept d1⟩ | exact ⟨kv_kept (kv_kept c0), kv_kept (kv_kept c1), kv_kept (kv_kept d0), kv_kept (kv_kept d1)⟩) ((go_at_call 22; refine (HW _ _ _).mono ?_; rintro e w2 ⟨rfl, rfl⟩))
      have HB2 : Hid (Below w.heap.size w (((wr.alloc (.cells #[.string a, .string x] 51)).alloc (.cells #[.string b, .string y] 51)).drew)) := Lib.hid (below_drewN ((HB.out.alloc HB.out.size _).alloc (by have := HB.out.size; simp; omega) _) 1)
      generalize ((wr.alloc (.cells #[.string a, .string x] 51)).alloc (.cells #[.string b, .string y] 51)).drew = w3 at HB2 ⊢
      by_cases hab : ltB a b
      · have hb1 : Op.bytesLess a.toList b.toList = true := hab
        rw [hb1]
        go_wp2_with fail
        go_roundw
        case rel => exact ⟨k + 1, by omega, .inl (by omega), by go_num, fun j u v hj hu hv => by
          by_cases e : j = m
          · subst e
            rw [HKP.out] at hu; rw [HKQ.out] at hv
            injection hu with hu; injection hv with hv
            rw [← hu, ← hv]; exact hab
          · exact HA.out j u v (by have := HKM.out; omega) hu hv, HB2.out⟩
        case measure => simp [intOf]; omega
      · have hb1 : Op.bytesLess a.toList b.toList = false := by simpa [ltB] using hab
        have HF : Hid (decide (RightK l) = false) := Lib.hid (decide_eq_false fun hr => hab (asc_get hr HKP.out HKQ.out))
        rw [hb1]
        go_wp2_with fail
        go_ret
        exact ⟨by rw [HF.out]; rfl, HB2.out⟩
    · have HT : Hid (decide (RightK l) = true) := Lib.hid (decide_eq_true (ascP_all (fun j a b hj ha hb => HA.out j a b (by have := HN.out; rw [List.length_map] at hj; omega) ha hb)))
      go_wp2_with fail
      go_ret
      exact ⟨by rw [HT.out]; rfl, HB.out⟩
theorem Right_any (o : Option Addr) (l : List KvB) (c : Nat) (w : World) (hl : l.length ≤ 1000000) (h : KvAt w o l) :
    Calls Try.prog 11 #[.slice o l.length c] w fun e w' => e = .returned (.bool (decide (RightK l))) ∧ Below w.heap.size w w' := by
  have H := Lib.hid (ascI_any o l c w hl h)
  clear h hl
  go_enter Try.func11, Try.ntmps11
  go_wp2_with (go_at_call 21; refine H.out.mono ?_)
  rintro e w2 ⟨rfl, hb⟩
  have HB := Lib.hid hb
  go_wp2_with fail
  go_ret
  exact ⟨rfl, HB.out⟩
theorem aRight1_any (o : Option Addr) (l : List KvB) (c : Nat) (w : World) (hl : l.length ≤ 1000000) (h : KvAt w o l) :
    Calls Try.prog 31 #[.slice o l.length c] w fun e w' => e = .returned (.bool (!decide (RightK l))) ∧ Below w.heap.size w w' := by
  have H := Lib.hid (Right_any o l c w hl h)
  clear h hl
  go_enter Try.func31, Try.ntmps31
  go_wp2_with (go_at_call 11; refine H.out.mono ?_)
  rintro e w2 ⟨rfl, hb⟩
  have HB := Lib.hid hb
  go_wp2_with fail
  go_ret
  exact ⟨rfl, HB.out⟩
/-- A row of lists of items lies in memory. -/
def LkAt (w : World) (o : Option Addr) (L : List (Option Addr × List KvB × Nat)) : Prop :=
  ∀ k p, L[k]? = some p → p.2.1.length ≤ 1000000 ∧ KvAt w p.1 p.2.1 ∧ ∃ b, o = some ⟨b, 0, none⟩ ∧ w.cell? ⟨b, k, none⟩ = some (.slice p.1 p.2.1.length p.2.2)
theorem LkAt.below {o : Option Addr} {L : List (Option Addr × List KvB × Nat)} (h : LkAt w o L) (hb : Below w.heap.size w w') : LkAt w' o L := fun k p hk => by
  obtain ⟨h1, h2, b, h3, h4⟩ := h k p hk
  exact ⟨h1, h2.below hb, b, h3, (hb.cell (World.block_lt_of_cell? w _ h4)).trans h4⟩
set_option maxHeartbeats 2000000 in
theorem idxL_any (o : Option Addr) (L : List (Option Addr × List KvB × Nat)) (c : Nat) (w : World) (hl : L.length ≤ 1000) (h : LkAt w o L) :
    Calls Try.prog 37 #[.slice o L.length c, .func (.func 31) #[] #[]] w fun e w' => (∃ x : Int, e = .returned (.int .i64 x) ∧ (0 ≤ x ↔ ∃ p ∈ L, ¬ RightK p.2.1)) ∧ Below w.heap.size w w' := by
  obtain ⟨n, hn⟩ : ∃ n, L.length = n := ⟨_, rfl⟩
  have HN := Lib.hid hn; have HL := Lib.hid h
  rw [hn] at hl ⊢
  clear hn h
  go_enter Try.func37, Try.ntmps37
  go_wp2_with fail
  go_loopw [8] (fun i wr => ∃ k : Nat, k ≤ n ∧ i = .int .i64 k ∧ (∀ p ∈ L.take k, RightK p.2.1) ∧ Below w.heap.size w wr) (fun i _ => n - (intOf i).toNat)
  case atStart => exact ⟨0, Nat.zero_le _, rfl, fun p hp => by simp at hp, Below.refl _ _⟩
  case round =>
    obtain ⟨k, hk, rfl, hA, hb⟩ := hrel
    have HA := Lib.hid hA; have HB := Lib.hid hb
    clear hA
    by_cases hlt : k < n
    · obtain ⟨p, hp⟩ : ∃ p, L[k]? = some p := ⟨_, List.getElem?_eq_getElem (by rw [HN.out]; omega)⟩
      obtain ⟨h1, h2, b0, ho, c0⟩ := (HL.out.below HB.out) k p hp
      subst ho
      have HP := Lib.hid hp
      obtain ⟨op, q, cq⟩ := p
      dsimp only at h1 h2 c0
      have H := Lib.hid (aRight1_any op q cq wr h1 h2)
      obtain ⟨m, hm⟩ : ∃ m, q.length = m := ⟨_, rfl⟩
      rw [hm] at c0 H
      obtain ⟨y, hy⟩ : ∃ y, (!decide (RightK q)) = y := ⟨_, rfl⟩
      rw [hy] at H
      have HY := Lib.hid hy
      clear hp h1 h2 hm hy
      cases y with
      | false =>
        have HR : Hid (RightK q) := Lib.hid (by have := HY.out; simpa using this)
        go_wp2_with (go_at_call 31; (with_reducible refine H.out.mono ?_); rintro e w2 ⟨rfl, hb2⟩; have HB2 := Lib.hid (HB.out.trans (hb2.mono HB.out.size)); clear hb2)
        go_roundw
        case rel => exact ⟨k + 1, hlt, by go_num, fun p hp => by
          rw [take_get HP.out] at hp
          rcases List.mem_append.1 hp with hp | hp
          · exact HA.out p hp
          · simp at hp; subst hp; exact HR.out, HB2.out⟩
        case measure => simp [intOf]; omega
      | true =>
        have HR : Hid (¬ RightK q) := Lib.hid (by have := HY.out; simpa using this)
        go_wp2_with (go_at_call 31; (with_reducible refine H.out.mono ?_); rintro e w2 ⟨rfl, hb2⟩; have HB2 := Lib.hid (HB.out.trans (hb2.mono HB.out.size)); clear hb2)
        go_ret
        exact ⟨⟨k, rfl, fun _ => ⟨_, List.mem_of_getElem? HP.out, HR.out⟩, fun _ => by omega⟩, HB2.out⟩
    · obtain rfl : k = n := by omega
      have hall := HA.out
      rw [List.take_of_length_le (by rw [HN.out]; exact Nat.le_refl _)] at hall
      have HALL := Lib.hid hall
      clear hall
      go_wp2_with fail
      go_ret
      exact ⟨⟨-1, rfl, fun h => by omega, fun ⟨p, hp, hr⟩ => absurd (HALL.out p hp) hr⟩, HB.out⟩
theorem anyL_any (o : Option Addr) (L : List (Option Addr × List KvB × Nat)) (c : Nat) (w : World) (hl : L.length ≤ 1000) (h : LkAt w o L) :
    Calls Try.prog 30 #[.slice o L.length c, .func (.func 31) #[] #[]] w fun e w' => (∃ x : Bool, e = .returned (.bool x) ∧ (x = true ↔ ∃ p ∈ L, ¬ RightK p.2.1)) ∧ Below w.heap.size w w' := by
  have H := Lib.hid (idxL_any o L c w hl h)
  clear h hl
  go_enter Try.func30, Try.ntmps30
  go_wp2_with (go_at_call 37; refine H.out.mono ?_)
  rintro e w2 ⟨⟨x, rfl, hx⟩, hb⟩
  have HB := Lib.hid hb
  have HX := Lib.hid hx
  clear hx hb
  go_wp2_with fail
  go_ret
  exact ⟨⟨_, rfl, by simp only [decide_eq_true_eq]; exact HX.out⟩, HB.out⟩
theorem allRight_any (o : Option Addr) (L : List (Option Addr × List KvB × Nat)) (c : Nat) (w : World) (hl : L.length ≤ 1000) (h : LkAt w o L) :
    Calls Try.prog 18 #[.slice o L.length c] w fun e w' => (∃ x : Bool, e = .returned (.bool x) ∧ (x = true ↔ ∀ p ∈ L, RightK p.2.1)) ∧ Below w.heap.size w w' := by
  have H := Lib.hid (anyL_any o L c w hl h)
  clear h hl
  go_enter Try.func18, Try.ntmps18
  go_wp2_with (go_at_call 30; refine H.out.mono ?_)
  rintro e w2 ⟨⟨x, rfl, hx⟩, hb⟩
  have HB := Lib.hid hb
  have HX := Lib.hid hx
  clear hx hb
  go_wp2_with fail
  go_ret
  refine ⟨⟨_, rfl, ?_⟩, HB.out⟩
  have := HX.out
  cases x with
  | true =>
    obtain ⟨p, hp, hr⟩ := this.1 rfl
    exact ⟨fun h => (by cases h), fun h => absurd (h p hp) hr⟩
  | false =>
    exact ⟨fun _ p hp => Classical.byContradiction fun hr => (by have := this.2 ⟨p, hp, hr⟩; cases this), fun _ => rfl⟩
end Go.Proofs.Ythkcmdlfdaggmaa
