/- Vocabularies: the document's reader of a line. -/
import Derived.Test.YtmdhendfmhhniaaDoorVh
import Derived.Deep.CutBlock
import Derived.Deep.DeepCutAuto
import Derived.Deep.RegionWith
import Derived.Deep.RegionHeld3
namespace Go.Proofs.YtmdhendfmhhniaaDoor
open Go.RowKit
variable {w w' : World}

theorem drow_end {r : Nat} {w w2 : World} {x x2 : Int} {y y2 : ByteArray} (hrow : w2.heap[r]? = some (.cells #[.int .i64 x, .string y] 41 (0, 0))) (hb : Below w.heap.size w w2) (hr : w.heap.size ≤ r) :
    ((w2.setCell ⟨r, 0, none⟩ (.int .i64 x2)).setCell ⟨r, 1, none⟩ (.string y2)).cell? ⟨r, 0, none⟩ = some (.int .i64 x2) ∧ ((w2.setCell ⟨r, 0, none⟩ (.int .i64 x2)).setCell ⟨r, 1, none⟩ (.string y2)).cell? ⟨r, 1, none⟩ = some (.string y2) ∧ Below w.heap.size w ((w2.setCell ⟨r, 0, none⟩ (.int .i64 x2)).setCell ⟨r, 1, none⟩ (.string y2)) := by
  have hw := heap_set (i := 1) (.string y2) (heap_set (i := 0) (.int .i64 x2) hrow)
  exact ⟨cell_of_row hw, cell_of_row hw, (hb.setCell (p := ⟨r, 0, none⟩) hr _).setCell (p := ⟨r, 1, none⟩) hr _⟩
theorem dg_no {x : UInt8} (h : ¬ (48 ≤ x.toNat ∧ x.toNat ≤ 57)) : isDg x = false := decide_eq_false h
def RlS (s : ByteArray) (w : World) (k n : Value) (wr : World) : Prop := ∃ a b : Nat, k = .int .i64 a ∧ n = .int .i64 b ∧ DgTo s a b ∧ wr = w.alloc (.cells #[.int .i64 0, .string ⟨#[]⟩] 41)
def RlE (s : ByteArray) (w : World) (k n : Value) (wr : World) : Prop := ∃ a b : Nat, k = .int .i64 a ∧ n = .int .i64 b ∧ DgTo s a b ∧ DgEnd s a ∧ wr = w.alloc (.cells #[.int .i64 0, .string ⟨#[]⟩] 41)
/-- Why a line is none. -/
def badL (s : ByteArray) (a b : Nat) : Prop := a = 0 ∨ a = s.size ∨ (∃ h : a < s.size, s[a] ≠ 32) ∨ 1073741824 < b ∨ (⟨(Lib.decDigits b).toArray⟩ : ByteArray) ≠ s.extract 0 a
theorem bad_none {s : ByteArray} {a b : Nat} (hD : DgTo s a b) (hE : DgEnd s a) (h : badL s a b) : entR s = none := by
  have hle := hD.le
  by_cases h0 : a = 0
  · exact ent_stop hD hE (.inl h0)
  by_cases h1 : a = s.size
  · exact ent_stop hD hE (.inr (.inl h1))
  by_cases h2 : s[a]'(by omega) = 32
  · rw [ent_go hD (by omega) (by omega) h2, if_neg]
    rintro ⟨g1, g2⟩
    rcases h with h | h | ⟨_, h⟩ | h | h
    · exact h0 h
    · exact h1 h
    · exact h h2
    · omega
    · exact h (ByteArray.ext (by rw [g2]))
  · exact ent_stop hD hE (.inr (.inr ⟨by omega, h2⟩))
theorem bad_not {s : ByteArray} {a b : Nat} (hD : DgTo s a b) (h : ¬ badL s a b) : 0 < a ∧ a < s.size ∧ entR s = if goodB (s.extract (a + 1) s.size) then some (b, s.extract (a + 1) s.size) else none := by
  unfold badL at h
  have hle := hD.le
  have h0 : ¬ a = 0 := fun e => h (.inl e)
  have h1 : ¬ a = s.size := fun e => h (.inr (.inl e))
  have h2 : s[a]'(by omega) = 32 := by
    rcases Decidable.em (s[a]'(by omega) = 32) with h2 | h2
    · exact h2
    · exact absurd (.inr (.inr (.inl ⟨by omega, h2⟩))) h
  have h3 : ¬ 1073741824 < b := fun e => h (.inr (.inr (.inr (.inl e))))
  have h4 : (⟨(Lib.decDigits b).toArray⟩ : ByteArray) = s.extract 0 a := by
    rcases Decidable.em ((⟨(Lib.decDigits b).toArray⟩ : ByteArray) = s.extract 0 a) with h4 | h4
    · exact h4
    · exact absurd (.inr (.inr (.inr (.inr h4)))) h
  refine ⟨by omega, by omega, ?_⟩
  rw [ent_go hD (by omega) (by omega) h2, if_pos ⟨by omega, by rw [← h4]⟩]
/-- What the reader gives of a line that is an entry. -/
def EntIs (s : ByteArray) (x : Int) (t : ByteArray) : Prop := ∀ p, entR s = some p → x = (p.1 : Nat) ∧ t = p.2
theorem ba_ne {x y : ByteArray} (h : ¬ x = y) : ¬ x.toList = y.toList := by
  rw [ByteArray.toList_eq, ByteArray.toList_eq]
  exact fun e => h (ByteArray.ext (Array.ext' e))
set_option maxHeartbeats 4000000 in
set_option maxRecDepth 100000 in
theorem RLineV (s : ByteArray) (w : World) (hs : s.size ≤ 262144) :
    Calls Tryd.prog 71 #[.string s] w fun e w' => ∃ (x : Int) (t : ByteArray), e = .returned (.tuple #[.agg #[.int .i64 x, .string t], .bool (entR s).isSome]) ∧ EntIs s x t ∧ Below w.heap.size w w' := by
  go_enter Tryd.func71, Tryd.ntmps71
  go_upto_block 0 with fail
  go_cut [4, 5] from 6 to 35 (fun k n wx => RlE s w k n wx)
  case first =>
    go_wp2_with fail
    go_loopw [4, 5] (fun k n wr => RlS s w k n wr) (fun k _ _ => s.size - (intOf k).toNat)
    case atStart => exact ⟨0, 0, rfl, rfl, DgTo.zero s, rfl⟩
    case round =>
      obtain ⟨a, b, rfl, rfl, hD, hw⟩ := hrel
      have hale := hD.le
      have ha10 := hD.ten
      have hb10 : b < 10000000000 := Nat.lt_of_lt_of_le hD.lt (Nat.pow_le_pow_right (by decide) ha10)
      have HW := Lib.hid hw
      rcases Nat.lt_or_ge a s.size with hlt | hge
      · have hlti : (a : Int) < s.size := by omega
        rcases Nat.lt_or_ge a 10 with h10 | h10
        · have h10i : (a : Int) < 10 := by omega
          by_cases hlo : 48 ≤ s[a].toNat
          · have hloi : (48 : Int) ≤ s[a].toNat := by omega
            by_cases hhi : s[a].toNat ≤ 57
            · have hhii : (s[a].toNat : Int) ≤ 57 := by omega
              have HD := Lib.hid (hD.step hlt h10 (decide_eq_true ⟨hlo, hhi⟩))
              clear hw hD
              go_wp2_with fail
              go_roundw
              case rel => exact ⟨a + 1, b * 10 + (s[a].toNat - 48), by first | rfl | (rw [Int.natCast_succ]), by congr 1; omega, HD.out, HW.out⟩
              case measure => simp [intOf]; omega
            · have hhii : ¬ (s[a].toNat : Int) ≤ 57 := by omega
              have HD := Lib.hid hD
              have HE := Lib.hid (show DgEnd s a from .inr (.inr ⟨hlt, dg_no (by omega)⟩))
              clear hw hD
              go_wp2_with fail
              go_meet
              exact ⟨a, b, rfl, rfl, HD.out, HE.out, HW.out⟩
          · have hloi : ¬ (48 : Int) ≤ s[a].toNat := by omega
            have HD := Lib.hid hD
            have HE := Lib.hid (show DgEnd s a from .inr (.inr ⟨hlt, dg_no (by omega)⟩))
            clear hw hD
            go_wp2_with fail
            go_meet
            exact ⟨a, b, rfl, rfl, HD.out, HE.out, HW.out⟩
        · have h10i : ¬ (a : Int) < 10 := by omega
          have HD := Lib.hid hD
          have HE := Lib.hid (show DgEnd s a from .inr (.inl (by omega)))
          clear hw hD
          go_wp2_with fail
          go_meet
          exact ⟨a, b, rfl, rfl, HD.out, HE.out, HW.out⟩
      · have hlti : ¬ (a : Int) < s.size := by omega
        have HD := Lib.hid hD
        have HE := Lib.hid (show DgEnd s a from .inl (by omega))
        clear hw hD
        go_wp2_with fail
        go_meet
        exact ⟨a, b, rfl, rfl, HD.out, HE.out, HW.out⟩
  case rest =>
    obtain ⟨a, b, rfl, rfl, hD, hE, hw⟩ := hcut
    have hale := hD.le
    have hb10 : b < 10000000000 := Nat.lt_of_lt_of_le hD.lt (Nat.pow_le_pow_right (by decide) hD.ten)
    have HD := Lib.hid hD; have HE := Lib.hid hE
    obtain ⟨q, hq1, hq0⟩ : ∃ q : Bool, (badL s a b → q = true) ∧ (¬ badL s a b → q = false) := by
      classical exact ⟨decide (badL s a b), decide_eq_true, decide_eq_false⟩
    have HQ1 := Lib.hid hq1; have HQ0 := Lib.hid hq0
    have hz : wc.heap[w.heap.size]? = some (.cells #[.int .i64 0, .string ⟨#[]⟩] 41 (0, 0)) := by rw [hw]; exact World.alloc_heap_new w _
    have hb : Below w.heap.size w wc := by rw [hw]; exact (Below.refl _ _).alloc (Nat.le_refl _) _
    have HZ := Lib.hid hz; have HB := Lib.hid hb
    clear hD hE hw hq1 hq0 hz hb
    go_upto_region 5 with fail
    go_cut [61] from 36 to 61 (fun c wx => c = .bool q ∧ Below wc.heap.size wc wx)
    case first =>
      have hwb : Hid (Below wc.heap.size wc wc) := Lib.hid (Below.refl _ _)
      by_cases h0 : a = 0
      · have HQ := Lib.hid (HQ1.out (.inl h0))
        subst h0
        go_quiet (fail)
        go_wp2_with fail
        go_meet
        exact ⟨by rw [HQ.out], below_drewN hwb.out _⟩
      by_cases h1 : a = s.size
      · have HQ := Lib.hid (HQ1.out (.inr (.inl h1)))
        have h0i : ¬ (a : Int) = 0 := by omega
        have e0 : ((s.size : Int) == 0) = false := beq_eq_false_iff_ne.2 (by omega)
        subst h1
        clear h0
        go_quiet (fail)
        go_wp2_with fail
        go_meet
        exact ⟨by rw [HQ.out], below_drewN hwb.out _⟩
      have hlt : a < s.size := by omega
      have h0i : ¬ (a : Int) = 0 := by omega
      have h1i : ¬ (a : Int) = s.size := by omega
      have hlti : (a : Int) < s.size := by omega
      have e0 : ((a : Int) == 0) = false := beq_eq_false_iff_ne.2 h0i
      have e1 : ((a : Int) == s.size) = false := beq_eq_false_iff_ne.2 h1i
      by_cases h2 : s[a] = 32
      · have h2i : (s[a].toNat : Int) = 32 := by rw [h2]; rfl
        have e2 : ((s[a].toNat : Int) != 32) = false := by rw [h2i]; rfl
        by_cases h3 : 1073741824 < b
        · have HQ := Lib.hid (HQ1.out (.inr (.inr (.inr (.inl h3)))))
          have h3i : (1073741824 : Int) < b := by omega
          clear h0 h1 h2
          go_quiet (fail)
          go_wp2_with fail
          go_meet
          exact ⟨by rw [HQ.out], below_drewN hwb.out _⟩
        · have h3i : ¬ (1073741824 : Int) < b := by omega
          have e3 : decide ((1073741824 : Int) < b) = false := decide_eq_false h3i
          have hdg := fun W => Digits_any b W (by omega)
          obtain ⟨x, hx⟩ : ∃ x, (⟨(Lib.decDigits b).toArray⟩ : ByteArray) = x := ⟨_, rfl⟩
          obtain ⟨y, hy⟩ : ∃ y, s.extract 0 a = y := ⟨_, rfl⟩
          rw [hx] at hdg
          have HDG := Lib.hid hdg
          clear hdg
          by_cases hxy : x = y
          · have HQ : Hid (q = false) := Lib.hid (HQ0.out (by
              rintro (g | g | ⟨_, g⟩ | g | g)
              · exact h0 g
              · exact h1 g
              · exact g h2
              · exact h3 g
              · exact g (by rw [hx, hy]; exact hxy)))
            have hxe : x = s.extract 0 a := by rw [hxy, hy]
            have HXE := Lib.hid hxe
            clear hx hy hxy h0 h1 h2 hxe
            go_region_held3 (fun _ : World => True) (exact trivial) ((go_at_call 91; (with_reducible refine (HDG.out _).mono ?_); rintro e w3 ⟨rfl, hw3⟩; have HW3 := Lib.hid hw3; clear hw3; rw [HXE.out]))
            all_goals
              go_wp2_with fail
              go_meet
              exact ⟨by rw [HQ.out], (show Below wc.heap.size wc wc.drew from hwb.out.drew).trans (HW3.out.mono (Nat.le_refl _))⟩
          · have HQ : Hid (q = true) := Lib.hid (HQ1.out (.inr (.inr (.inr (.inr (by rw [hx, hy]; exact hxy))))))
            have hne := ba_ne hxy
            clear hx h0 h1 h2 hxy
            go_region_held3 (fun _ : World => True) (exact trivial) ((go_at_call 91; (with_reducible refine (HDG.out _).mono ?_); rintro e w3 ⟨rfl, hw3⟩; have HW3 := Lib.hid hw3; clear hw3))
            all_goals
              go_wp2_with fail
              go_meet
              exact ⟨by rw [HQ.out, beq_eq_false_iff_ne.2 hne]; rfl, (show Below wc.heap.size wc wc.drew from hwb.out.drew).trans (HW3.out.mono (Nat.le_refl _))⟩
      · have HQ := Lib.hid (HQ1.out (.inr (.inr (.inl ⟨hlt, h2⟩))))
        have h2i : ¬ (s[a].toNat : Int) = 32 := fun e => h2 (UInt8.toNat_inj.1 (by show s[a].toNat = 32; omega))
        clear h0 h1 h2
        go_quiet (fail)
        go_wp2_with fail
        go_meet
        exact ⟨by rw [HQ.out], below_drewN hwb.out _⟩
    case rest =>
      obtain ⟨hc, hB2⟩ := hcut
      subst hc
      obtain ⟨W, hWd⟩ : ∃ W, wc.drewN 0 = W := ⟨_, rfl⟩
      have hz2 := (hB2.block w.heap.size (lt_of_some HZ.out)).trans HZ.out
      have hb2 := HB.out.trans (hB2.mono HB.out.size)
      have HZ2 := Lib.hid hz2; have HB3 := Lib.hid hb2
      clear hz2 hb2 hB2 hWd
      cases q with
      | false =>
        obtain ⟨h0, hlt, hent⟩ := bad_not HD.out (fun h => by have := HQ1.out h; cases this)
        obtain ⟨q1, hq1⟩ : ∃ q1, a + 1 = q1 := ⟨_, rfl⟩
        rw [hq1] at hent
        obtain ⟨y, hy⟩ : ∃ y, s.extract q1 s.size = y := ⟨_, rfl⟩
        have hys : y.size ≤ maxLen := by rw [← hy]; simp; unfold maxLen; omega
        rw [hy] at hent
        have HG := Lib.hid (fun W => RGood_any y W hys)
        obtain ⟨g, hg⟩ : ∃ g, goodB y = g := ⟨_, rfl⟩
        rw [hg] at HG hent
        have HEN := Lib.hid hent
        have hw1 : IntKind.i64.wrap ((a : Int) + 1) = (q1 : Int) := by rw [IntWalk.i64_in _ (by omega)]; omega
        have hw2 : IntKind.i64.wrap (q1 : Int) = (q1 : Int) := IntWalk.i64_in _ (by omega)
        have hq1i : (a : Int) + 1 = (q1 : Int) := by omega
        have hq10 : 0 ≤ (q1 : Int) := by omega
        have hq1t : (q1 : Int) ≤ s.size := by omega
        have hq1n : (q1 : Int).toNat = q1 := by omega
        have hq1s : q1 ≤ s.size := by omega
        have r0 : wc.cell? ⟨w.heap.size, 0, none⟩ = some (.int .i64 0) := cell_of_row HZ2.out
        have r1 : wc.cell? ⟨w.heap.size, 1, none⟩ = some (.string ⟨#[]⟩) := cell_of_row HZ2.out
        have rf : ∀ j, wc.frozen? ⟨w.heap.size, j, none⟩ = false := fun j => frozen_row HZ2.out
        obtain ⟨z0, z1, z2⟩ := drow_end (x2 := b) (y2 := y) HZ2.out HB3.out (Nat.le_refl _)
        have HS0 := Lib.hid z0; have HS1 := Lib.hid z1; have HS2 := Lib.hid z2
        have HY := Lib.hid hy
        clear hent hg hys z0 z1 z2 hlt h0 hq1
        subst hy
        go_wp2_with fail
        refine wp_region_still_tail 11 (by kernel_rfl) (by kernel_rfl) ?_
        change wpStill _ _ (World.drew _) _ _ _
        simp only [List.take_succ_cons, List.take_zero, List.drop_succ_cons, List.drop_zero]
        repeat still_step
        still_call (HG.out _)
        repeat still_step
        try refine wpStill_nil ?_
        change wpList _ _ _ _ _ (World.drew _)
        clear hw1 hw2
        go_wp2_with fail
        clear r0 r1 rf
        have y0 : ((wc.setCell ⟨w.heap.size, 0, none⟩ (.int .i64 b)).setCell ⟨w.heap.size, 1, none⟩ (.string (s.extract q1 s.size))).drew.cell? ⟨w.heap.size, 0, none⟩ = some (.int .i64 b) := HS0.out
        have y1 : ((wc.setCell ⟨w.heap.size, 0, none⟩ (.int .i64 b)).setCell ⟨w.heap.size, 1, none⟩ (.string (s.extract q1 s.size))).drew.cell? ⟨w.heap.size, 1, none⟩ = some (.string (s.extract q1 s.size)) := HS1.out
        have HY2 := Lib.hid (show Below w.heap.size w ((wc.setCell ⟨w.heap.size, 0, none⟩ (.int .i64 b)).setCell ⟨w.heap.size, 1, none⟩ (.string (s.extract q1 s.size))).drew from HS2.out.drew)
        clear HS0 HS1 HS2
        generalize ((wc.setCell ⟨w.heap.size, 0, none⟩ (.int .i64 b)).setCell ⟨w.heap.size, 1, none⟩ (.string (s.extract q1 s.size))).drew = V at y0 y1 HY2 ⊢
        have HN2 : Hid (EntIs s b (s.extract q1 s.size)) := Lib.hid (fun p hp => by
          rw [HEN.out] at hp
          cases g
          · cases hp
          · injection hp with hp
            subst hp; exact ⟨rfl, rfl⟩)
        have HN3 : Hid ((entR s).isSome = g) := Lib.hid (by rw [HEN.out]; cases g <;> rfl)
        rw [HN3.out]
        exact bodyPost_ret (v := .tuple #[.agg #[.int .i64 b, .string (s.extract q1 s.size)], .bool g]) (by simp [results, Tryd.results71, go_sem, y0, y1]) rfl ⟨b, _, rfl, HN2.out, HY2.out⟩
      | true =>
        have HN := Lib.hid (bad_none HD.out HE.out (by
          rcases Classical.em (badL s a b) with h | h
          · exact h
          · have := HQ0.out h; cases this))
        have r0 : wc.cell? ⟨w.heap.size, 0, none⟩ = some (.int .i64 0) := cell_of_row HZ2.out
        have r1 : wc.cell? ⟨w.heap.size, 1, none⟩ = some (.string ⟨#[]⟩) := cell_of_row HZ2.out
        have rf : ∀ j, wc.frozen? ⟨w.heap.size, j, none⟩ = false := fun j => frozen_row HZ2.out
        obtain ⟨z0, z1, z2⟩ := drow_end (x2 := 0) (y2 := ⟨#[]⟩) HZ2.out HB3.out (Nat.le_refl _)
        have HS0 := Lib.hid z0; have HS1 := Lib.hid z1; have HS2 := Lib.hid z2
        clear z0 z1 z2
        go_wp2_with fail
        clear r0 r1 rf
        have y0 := HS0.out; have y1 := HS1.out; have y2 := HS2.out
        have HY2 := Lib.hid y2
        clear HS0 HS1 HS2 y2
        generalize (wc.setCell ⟨w.heap.size, 0, none⟩ (.int .i64 0)).setCell ⟨w.heap.size, 1, none⟩ (.string ⟨#[]⟩) = V at y0 y1 HY2 ⊢
        have HN2 : Hid (EntIs s 0 ⟨#[]⟩) := Lib.hid (fun p hp => by rw [HN.out] at hp; cases hp)
        rw [HN.out]
        exact bodyPost_ret (v := .tuple #[.agg #[.int .i64 0, .string ⟨#[]⟩], .bool false]) (by simp [results, Tryd.results71, go_sem, y0, y1]) rfl ⟨0, ⟨#[]⟩, rfl, HN2.out, HY2.out⟩
end Go.Proofs.YtmdhendfmhhniaaDoor
