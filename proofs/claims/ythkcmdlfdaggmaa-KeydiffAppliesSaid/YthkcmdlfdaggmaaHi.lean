/- Keyed lists: Apply's parts. -/
import Derived.Test.YthkcmdlfdaggmaaHh
set_option linter.unusedVariables false
set_option linter.unusedSimpArgs false
namespace Go.Proofs.Ythkcmdlfdaggmaa
open Go.RowKit Go.Maps Go.WideShapes
variable {w w' : World}

theorem Apply1_any (p : ChB) (w : World) :
    Calls Try.prog 24 #[chV p] w fun e w' => e = .returned (.string p.1) ∧ w' = w.alloc (.cells #[.string p.1, .string p.2.1.1, .bool p.2.1.2, .string p.2.2.1, .bool p.2.2.2] 41) := by
  obtain ⟨a, ⟨x1, x2⟩, x3, x4⟩ := p
  go_enter Try.func24, Try.ntmps24
  go_wp2_with fail
  go_ret
  exact ⟨rfl, rfl⟩
set_option maxHeartbeats 8000000 in
set_option maxRecDepth 100000 in
theorem ascC_any (o : Option Addr) (l : List ChB) (c : Nat) (w : World) (hl : l.length ≤ 1000000) (h : ChAt w o l) :
    Calls Try.prog 23 #[.slice o l.length c, .func (.func 24) #[] #[]] w fun e w' => e = .returned (.bool (decide (Asc (l.map (·.1))))) ∧ Below w.heap.size w w' := by
  obtain ⟨n, hn⟩ : ∃ n, l.length = n := ⟨_, rfl⟩
  have HN := Lib.hid hn; have HL := Lib.hid h
  rw [hn] at hl ⊢
  have HW := @Apply1_any
  clear hn h
  go_enter Try.func23, Try.ntmps23
  go_wp2_with fail
  go_loopw [5] (fun i wr => ∃ k : Nat, 1 ≤ k ∧ (k ≤ n ∨ k = 1) ∧ i = .int .i64 k ∧ ascP ((l.map (·.1))) k ∧ Below w.heap.size w wr) (fun i _ => n - (intOf i).toNat)
  case atStart => exact ⟨1, Nat.le_refl _, .inr rfl, rfl, fun j a b hj => by omega, Below.refl _ _⟩
  case round =>
    obtain ⟨k, hk1, hk, rfl, hA, hb⟩ := hrel
    have HA := Lib.hid hA; have HB := Lib.hid hb
    clear hA
    by_cases hlt : k < n
    · obtain ⟨m, hkm⟩ : ∃ m, k = m + 1 := ⟨k - 1, by omega⟩
      obtain ⟨p, hp⟩ : ∃ p, l[m]? = some p := ⟨_, List.getElem?_eq_getElem (by rw [HN.out]; omega)⟩
      obtain ⟨q, hq⟩ : ∃ q, l[k]? = some q := ⟨_, List.getElem?_eq_getElem (by rw [HN.out]; omega)⟩
      obtain ⟨b0, i0, ho, c0, c1, c2, c3, c4⟩ := (HL.out.below HB.out) m p hp
      obtain ⟨b1, i1, ho1, d0, d1, d2, d3, d4⟩ := (HL.out.below HB.out) k q hq
      rw [ho] at ho1
      injection ho1 with ho1
      injection ho1 with e1 e2 _
      subst e1 e2 ho
      have HKP : Hid (((l.map (·.1)))[m]? = some p.1) := Lib.hid (by rw [List.getElem?_map, hp]; rfl)
      have HKQ : Hid (((l.map (·.1)))[m + 1]? = some q.1) := Lib.hid (by rw [List.getElem?_map, ← hkm, hq]; rfl)
      obtain ⟨a, ⟨x1, x2⟩, x3, x4⟩ := p
      obtain ⟨b, ⟨y1, y2⟩, y3, y4⟩ := q
      dsimp only at c0 c1 c2 c3 c4 d0 d1 d2 d3 d4 HKP HKQ
      clear hp hq
      have hki : (k : Int) < n := by omega
      have hmi : (m : Int) < n := by omega
      have hk0 : (0 : Int) ≤ k := by omega
      have hm0 : (0 : Int) ≤ m := by omega
      have hkc : IntKind.i64.wrap ((k : Int) + 1) = (k : Int) + 1 := IntWalk.i64_in _ (by omega)
      have hw1 : IntKind.i64.wrap ((k : Int) - 1) = (m : Int) := by rw [IntWalk.i64_in _ (by omega)]; omega
      have HKM := Lib.hid hkm
      clear hkm hk1 hk
      go_wp2_with fail
      go_region_held3 (fun w' => w'.cell? ⟨b0, i0 + m * 5, none⟩ = some (.string a) ∧ w'.cell? ⟨b0, i0 + m * 5 + 1, none⟩ = some (.string x1) ∧ w'.cell? ⟨b0, i0 + m * 5 + 2, none⟩ = some (.bool x2) ∧ w'.cell? ⟨b0, i0 + m * 5 + 3, none⟩ = some (.string x3) ∧ w'.cell? ⟨b0, i0 + m * 5 + 4, none⟩ = some (.bool x4) ∧ w'.cell? ⟨b0, i0 + k * 5, none⟩ = some (.string b) ∧ w'.cell? ⟨b0, i0 + k * 5 + 1, none⟩ = some (.string y1) ∧ w'.cell? ⟨b0, i0 + k * 5 + 2, none⟩ = some (.bool y2) ∧ w'.cell? ⟨b0, i0 + k * 5 + 3, none⟩ = some (.string y3) ∧ w'.cell? ⟨b0, i0 + k * 5 + 4, none⟩ = some (.bool y4)) (first | exact ⟨c0, c1, c2, c3, c4, d0, d1, d2, d3, d4⟩ | exact ⟨kv_kept (c0), kv_kept (c1), kv_kept (c2), kv_kept (c3), kv_kept (c4), kv_kept (d0), kv_kept (d1), kv_kept (d2), kv_kept (d3), kv_kept (d4)⟩ | exact ⟨kv_kept (kv_kept (c0)), kv_kept (kv_kept (c1)), kv_kept (kv_kept (c2)), kv_kept (kv_kept (c3)), kv_kept (kv_kept (c4)), kv_kept (kv_kept (d0)), kv_kept (kv_kept (d1)), kv_kept (kv_kept (d2)), kv_kept (kv_kept (d3)), kv_kept (kv_kept (d4))⟩) ((go_at_call 24; refine (HW (_, (_, _), (_, _)) _).mono ?_; rintro e w2 ⟨rfl, rfl⟩))
      have HB2 : Hid (Below w.heap.size w (((wr.alloc (.cells #[.string a, .string x1, .bool x2, .string x3, .bool x4] 41)).alloc (.cells #[.string b, .string y1, .bool y2, .string y3, .bool y4] 41)).drew)) := Lib.hid (below_drewN ((HB.out.alloc HB.out.size _).alloc (by have := HB.out.size; simp; omega) _) 1)
      generalize ((wr.alloc (.cells #[.string a, .string x1, .bool x2, .string x3, .bool x4] 41)).alloc (.cells #[.string b, .string y1, .bool y2, .string y3, .bool y4] 41)).drew = w3 at HB2 ⊢
      by_cases hab : ltB a b
      · have hb1 : Op.bytesLess a.toList b.toList = true := hab
        rw [hb1]
        go_wp2_with fail
        go_roundw
        case rel => exact ⟨k + 1, by omega, .inl (by omega), by go_num, fun j u v hj hu hv => by
          by_cases e : j = m
          · subst e
            rw [HKP.out] at hu; rw [HKQ.out] at hv
            injection hu with hu; injection hv with hv
            rw [← hu, ← hv]; exact hab
          · exact HA.out j u v (by have := HKM.out; omega) hu hv, HB2.out⟩
        case measure => simp [intOf]; omega
      · have hb1 : Op.bytesLess a.toList b.toList = false := by simpa [ltB] using hab
        have HF : Hid (decide (Asc (l.map (·.1))) = false) := Lib.hid (decide_eq_false fun hr => hab (asc_get hr HKP.out HKQ.out))
        rw [hb1]
        go_wp2_with fail
        go_ret
        exact ⟨by rw [HF.out]; rfl, HB2.out⟩
    · have HT : Hid (decide (Asc (l.map (·.1))) = true) := Lib.hid (decide_eq_true (ascP_all (fun j a b hj ha hb => HA.out j a b (by have := HN.out; rw [List.length_map] at hj; omega) ha hb)))
      go_wp2_with fail
      go_ret
      exact ⟨by rw [HT.out]; rfl, HB.out⟩
def posB2 (u : SdB) : Bool := u.2 || u.1.toList.isEmpty
theorem noB_toList : noB.toList = [] := by rw [ByteArray.toList_eq]; rfl
theorem pos_iff (u : SdB) : posB2 u = true ↔ (u.2 = false → u.1 = noB) := by
  obtain ⟨x, t⟩ := u
  cases t with
  | true => simp [posB2]
  | false =>
    simp only [posB2, Bool.false_or, List.isEmpty_iff, true_implies]
    constructor
    · intro h; exact toL_inj (h.trans noB_toList.symm)
    · rintro rfl; exact noB_toList
theorem possible_any (u : SdB) (w : World) :
    Calls Try.prog 27 #[sdV u] w fun e w' => e = .returned (.bool (posB2 u)) ∧ Below w.heap.size w w' := by
  obtain ⟨x, t⟩ := u
  have HB := Lib.hid ((Below.refl w.heap.size w).alloc (Nat.le_refl _) (.cells #[.string x, .bool t] 39))
  cases t with
  | true =>
    have HP : Hid (posB2 (x, true) = true) := Lib.hid rfl
    go_enter Try.func27, Try.ntmps27
    go_wp2_with fail
    go_ret
    exact ⟨by rw [HP.out]; rfl, HB.out⟩
  | false =>
    have HP : Hid (posB2 (x, false) = x.toList.isEmpty) := Lib.hid rfl
    go_enter Try.func27, Try.ntmps27
    go_wp2_with fail
    go_ret
    exact ⟨by rw [HP.out]; rfl, HB.out⟩
def wrongC (p : ChB) : Bool := !posB2 p.2.1 || !posB2 p.2.2
theorem Apply2_any (p : ChB) (w : World) :
    Calls Try.prog 26 #[chV p] w fun e w' => e = .returned (.bool (wrongC p)) ∧ Below w.heap.size w w' := by
  obtain ⟨a, u, v⟩ := p
  have HB := Lib.hid ((Below.refl w.heap.size w).alloc (Nat.le_refl _) (.cells #[.string a, .string u.1, .bool u.2, .string v.1, .bool v.2] 41))
  have hPu := possible_any u
  have hPv := possible_any v
  obtain ⟨pu, hpu⟩ : ∃ x, posB2 u = x := ⟨_, rfl⟩
  obtain ⟨pv, hpv⟩ : ∃ x, posB2 v = x := ⟨_, rfl⟩
  have HW : Hid (wrongC (a, u, v) = (!pu || !pv)) := Lib.hid (by unfold wrongC; rw [hpu, hpv])
  rw [hpu] at hPu
  rw [hpv] at hPv
  have HPU := Lib.hid hPu; have HPV := Lib.hid hPv
  obtain ⟨x1, t1⟩ := u
  obtain ⟨x2, t2⟩ := v
  have hc1 : (w.alloc (.cells #[.string a, .string x1, .bool t1, .string x2, .bool t2] 41)).cell? ⟨w.heap.size, 3, none⟩ = some (.string x2) := cell_of_row (World.alloc_heap_new w _)
  have hc2 : (w.alloc (.cells #[.string a, .string x1, .bool t1, .string x2, .bool t2] 41)).cell? ⟨w.heap.size, 4, none⟩ = some (.bool t2) := cell_of_row (World.alloc_heap_new w _)
  clear hpu hpv hPu hPv
  have FIRST : Hid (1 = 1) := Lib.hid rfl
  cases pu with
  | false =>
    go_enter Try.func26, Try.ntmps26
    go_wp2_with (go_at_call 27; refine (HPU.out _).mono ?_; rintro e w2 ⟨rfl, hb⟩; have HB2 := Lib.hid (HB.out.trans (hb.mono HB.out.size)); clear hb)
    go_ret
    exact ⟨by rw [HW.out]; rfl, HB2.out⟩
  | true =>
    go_enter Try.func26, Try.ntmps26
    go_wp2_with (first | (have _t : Hid (1 = 1) := FIRST; go_at_call 27; refine (HPU.out _).mono ?_; rintro e w2 ⟨rfl, hb⟩; have HB2 := Lib.hid (HB.out.trans (hb.mono HB.out.size)); have d1 := (hb.cell (World.block_lt_of_cell? _ _ hc1)).trans hc1; have d2 := (hb.cell (World.block_lt_of_cell? _ _ hc2)).trans hc2; clear hb FIRST) | (go_at_call 27; refine (HPV.out _).mono ?_; rintro e w2 ⟨rfl, hb⟩; have HB3 := Lib.hid (HB2.out.trans (hb.mono HB2.out.size)); clear hb))
    go_ret
    exact ⟨by rw [HW.out]; rfl, HB3.out⟩
set_option maxHeartbeats 2000000 in
theorem idxC_any (o : Option Addr) (L : List ChB) (c : Nat) (w : World) (hl : L.length ≤ 1000000) (h : ChAt w o L) :
    Calls Try.prog 36 #[.slice o L.length c, .func (.func 26) #[] #[]] w fun e w' => (∃ x : Int, e = .returned (.int .i64 x) ∧ (0 ≤ x ↔ ∃ p ∈ L, wrongC p = true)) ∧ Below w.heap.size w w' := by
  obtain ⟨n, hn⟩ : ∃ n, L.length = n := ⟨_, rfl⟩
  have HN := Lib.hid hn; have HL := Lib.hid h
  rw [hn] at hl ⊢
  clear hn h
  go_enter Try.func36, Try.ntmps36
  go_wp2_with fail
  go_loopw [8] (fun i wr => ∃ k : Nat, k ≤ n ∧ i = .int .i64 k ∧ (∀ p ∈ L.take k, wrongC p = false) ∧ Below w.heap.size w wr) (fun i _ => n - (intOf i).toNat)
  case atStart => exact ⟨0, Nat.zero_le _, rfl, fun p hp => by simp at hp, Below.refl _ _⟩
  case round =>
    obtain ⟨k, hk, rfl, hA, hb⟩ := hrel
    have HA := Lib.hid hA; have HB := Lib.hid hb
    clear hA
    by_cases hlt : k < n
    · obtain ⟨p, hp⟩ : ∃ p, L[k]? = some p := ⟨_, List.getElem?_eq_getElem (by rw [HN.out]; omega)⟩
      obtain ⟨b0, i0, ho, c0, c1, c2, c3, c4⟩ := (HL.out.below HB.out) k p hp
      subst ho
      have HP := Lib.hid hp
      have H := Lib.hid (Apply2_any p wr)
      obtain ⟨y, hy⟩ : ∃ y, wrongC p = y := ⟨_, rfl⟩
      rw [hy] at H
      have HY := Lib.hid hy
      obtain ⟨a, ⟨x1, t1⟩, x2, t2⟩ := p
      dsimp only at c0 c1 c2 c3 c4
      clear hp hy
      cases y with
      | false =>
        have HR := HY
        go_wp2_with (go_at_call 26; (with_reducible refine H.out.mono ?_); rintro e w2 ⟨rfl, hb2⟩; have HB2 := Lib.hid (HB.out.trans (hb2.mono HB.out.size)); clear hb2)
        go_roundw
        case rel => exact ⟨k + 1, hlt, by go_num, fun p hp => by
          rw [take_get HP.out] at hp
          rcases List.mem_append.1 hp with hp | hp
          · exact HA.out p hp
          · simp at hp; subst hp; exact HR.out, HB2.out⟩
        case measure => simp [intOf]; omega
      | true =>
        have HR := HY
        go_wp2_with (go_at_call 26; (with_reducible refine H.out.mono ?_); rintro e w2 ⟨rfl, hb2⟩; have HB2 := Lib.hid (HB.out.trans (hb2.mono HB.out.size)); clear hb2)
        go_ret
        exact ⟨⟨k, rfl, fun _ => ⟨_, List.mem_of_getElem? HP.out, HR.out⟩, fun _ => by omega⟩, HB2.out⟩
    · obtain rfl : k = n := by omega
      have hall := HA.out
      rw [List.take_of_length_le (by rw [HN.out]; exact Nat.le_refl _)] at hall
      have HALL := Lib.hid hall
      clear hall
      go_wp2_with fail
      go_ret
      exact ⟨⟨-1, rfl, fun h => by omega, fun ⟨p, hp, hr⟩ => by rw [HALL.out p hp] at hr; cases hr⟩, HB.out⟩
theorem anyC_any (o : Option Addr) (L : List ChB) (c : Nat) (w : World) (hl : L.length ≤ 1000000) (h : ChAt w o L) :
    Calls Try.prog 25 #[.slice o L.length c, .func (.func 26) #[] #[]] w fun e w' => (∃ x : Bool, e = .returned (.bool x) ∧ (x = true ↔ ∃ p ∈ L, wrongC p = true)) ∧ Below w.heap.size w w' := by
  have H := Lib.hid (idxC_any o L c w hl h)
  clear h hl
  go_enter Try.func25, Try.ntmps25
  go_wp2_with (go_at_call 36; refine H.out.mono ?_)
  rintro e w2 ⟨⟨x, rfl, hx⟩, hb⟩
  have HB := Lib.hid hb
  have HX := Lib.hid hx
  clear hx hb
  go_wp2_with fail
  go_ret
  exact ⟨⟨_, rfl, by simp only [decide_eq_true_eq]; exact HX.out⟩, HB.out⟩
end Go.Proofs.Ythkcmdlfdaggmaa
