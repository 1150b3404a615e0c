/- Wal: takes. -/
import Derived.Test.YtbpaiiljhdohfaaDoorWc
import Derived.Deep.RegionHeld3
namespace Go.Proofs.YtbpaiiljhdohfaaDoor
open Go.RowKit
variable {l g f m n : Nat} {w : World}

set_option maxHeartbeats 4000000 in
set_option maxRecDepth 100000 in
theorem takes_any {o : Option Addr} {cap : Nat} {cu wv : Value} {done left : Int} {kp : Value} {off : Bool} (hL : LogAt l g f m w) (hD : DiskAt g (.slice o n cap) cu wv done left kp off w) (hf : f + 1 + m ≤ n) (hn : n ≤ 4096) (v : Value) (x : List (Int × ByteArray)) (hx : ChRow w v x) (r : Bool) (hr : r = true ↔ Takes n f m x) :
    Calls Tryd.prog 39 #[.pointer (some ⟨l, 0, none⟩), v] w fun e w' => e = .returned (.bool r) ∧ Below w.heap.size w w' := by
  obtain ⟨ox, cx, hv, hxm, hc⟩ := hx.opened
  subst hv
  have c2 := hL.c2
  obtain ⟨k, hk⟩ : ∃ k, x.length = k := ⟨_, rfl⟩
  have HX := Lib.hid hk; have HC := Lib.hid hc; have HL := Lib.hid hL; have HD := Lib.hid hD
  have hkm : (k : Int) ≤ 9223372036854775807 := by unfold maxLen at hxm; omega
  have hno : ¬ Takes n f m x → r = false := fun h => by
    cases r with
    | false => rfl
    | true => exact absurd (hr.1 rfl) h
  rw [hk]
  clear hx hc hL hD hk hxm
  by_cases h0 : k = 0
  · have hk0 : (k : Int) = 0 := by omega
    have hT : ¬ Takes n f m x := fun h => by have := h.1; have := HX.out; omega
    have hrf := hno hT
    subst hrf
    clear hT hno hr
    subst h0
    go_enter Tryd.func39, Tryd.ntmps39
    go_wp2_with fail
    go_ret
    exact ⟨rfl, Below.refl _ _⟩
  · have hk0 : ((k : Int) == 0) = false := beq_eq_false_iff_ne.2 (by omega)
    by_cases hm : m < k
    · have hT : ¬ Takes n f m x := fun h => by have := h.2.1; have := HX.out; omega
      have hmk : (m : Int) < k := by omega
      have hrf := hno hT
      subst hrf
      clear hT hno hr
      go_enter Tryd.func39, Tryd.ntmps39
      go_wp2_with fail
      go_ret
      exact ⟨rfl, Below.refl _ _⟩
    · have hmk : ¬ (m : Int) < k := by omega
      have HNO := Lib.hid hno; have HR := Lib.hid hr
      clear hno hr
      go_enter Tryd.func39, Tryd.ntmps39
      go_wp2_with fail
      go_loopw [23] (fun i wr => WtS n f m x w i wr) (fun i _ => k - (intOf i).toNat)
      case atStart => exact ⟨0, Nat.zero_le _, rfl, fun j c hj => absurd hj (Nat.not_lt_zero _), Below.refl _ _⟩
      case round =>
        obtain ⟨j, hj, rfl, hg, hb⟩ := hrel
        rw [HX.out] at hj
        have HG := Lib.hid hg; have HB := Lib.hid hb
        clear hg hb
        by_cases hlt : j < k
        · have hji : (j : Int) < k := by omega
          obtain ⟨p, hp⟩ : ∃ p, x[j]? = some p := ⟨_, List.getElem?_eq_getElem (by rw [HX.out]; exact hlt)⟩
          have hcr := HC.out.below HB.out
          obtain ⟨b, cur, hob, hcur, d0, d1⟩ := hcr j p hp
          subst hob
          have HP := Lib.hid hp; have HLr := Lib.hid (HL.out.below HB.out); have HDr := Lib.hid (HD.out.below HB.out)
          have c0 := HLr.out.c0
          have c1 := HLr.out.c1
          have c2 := HLr.out.c2
          obtain ⟨pi, ps⟩ := p
          have hfi : (f : Int) ≤ 4096 := by omega
          have hni : (n : Int) ≤ 4096 := by omega
          have hfm : ((f + 1 + m : Nat) : Int) ≤ n := by omega
          have e1 : ((f + 1 + m : Nat) : Int) = (f : Int) + 1 + m := by omega
          obtain ⟨q, hq⟩ : ∃ q : Nat, f + 1 + m = q := ⟨_, rfl⟩
          rw [hq] at e1 hfm
          have hfq : (f : Int) < q := by omega
          have HE1 := Lib.hid e1
          have hgz : wr.heap.size ≠ l := by have := HLr.out.lt; omega
          have HLz : Hid (LogAt l g f m (wr.alloc (.cells #[.int .i64 pi, .string ps] 55))) := Lib.hid (HLr.out.below ((Below.refl _ _).alloc (Nat.le_refl _) _))
          have HDz := Lib.hid (HDr.out.below ((Below.refl _ _).alloc (Nat.le_refl _) (.cells #[.int .i64 pi, .string ps] 55)))
          have HB1 : Hid (Below w.heap.size w (wr.alloc (.cells #[.int .i64 pi, .string ps] 55))) := Lib.hid (HB.out.alloc HB.out.size _)
          have HCZ : Hid (∀ W : World, W.heap = (wr.alloc (.cells #[.int .i64 pi, .string ps] 55)).heap → W.cell? ⟨wr.heap.size, 0, none⟩ = some (.int .i64 pi) ∧ W.cell? ⟨wr.heap.size, 1, none⟩ = some (.string ps)) := Lib.hid (fun W hW => by
            unfold World.cell?
            simp only [hW, heap_alloc_new wr]
            exact ⟨rfl, rfl⟩)
          obtain ⟨y0, y1⟩ := HCZ.out _ rfl
          have z0 := HLz.out.c0
          have HSTEP := Lib.hid (fun (h : Good1 n f m (pi, ps)) (j' : Nat) (c : Int × ByteArray) (hj' : j' < j + 1) (hc : x[j']? = some c) => show Good1 n f m c by
            by_cases e : j' = j
            · subst e; rw [HP.out] at hc; injection hc with hc; subst hc; exact h
            · exact HG.out j' c (by omega) hc)
          clear hcr hp hcur c0 c1 c2 e1
          rcases (show (pi < 0 ∧ pi < f) ∨ (0 ≤ pi ∧ (n : Int) ≤ pi ∧ (q : Int) ≤ pi) ∨ (0 ≤ pi ∧ pi < n ∧ (f : Int) ≤ pi ∧ pi < q) ∨ (0 ≤ pi ∧ pi < n ∧ pi < f) ∨ (0 ≤ pi ∧ pi < n ∧ (q : Int) ≤ pi) by omega) with ⟨a1, a2⟩ | ⟨a1, a2, a3⟩ | ⟨a1, a2, a3, a4⟩ | ⟨a1, a2, a3⟩ | ⟨a1, a2, a3⟩
          all_goals
            first | have hd1 : decide (0 ≤ pi) = true := decide_eq_true (by omega) | have hd1 : decide (0 ≤ pi) = false := decide_eq_false (by omega)
            first | have hd2 : decide (pi < (n : Int)) = true := decide_eq_true (by omega) | have hd2 : decide (pi < (n : Int)) = false := decide_eq_false (by omega)
            first | have hd3 : decide ((f : Int) ≤ pi) = true := decide_eq_true (by omega) | have hd3 : decide ((f : Int) ≤ pi) = false := decide_eq_false (by omega)
            first | have hd4 : decide (pi < (q : Int)) = true := decide_eq_true (by omega) | have hd4 : decide (pi < (q : Int)) = false := decide_eq_false (by omega)
            go_wp2_with (refine wpList_store_row rfl 55 _ _ rfl wr.heap.size #[.int .i64 pi, .string ps] rfl rfl 55 _ (heap_alloc_new wr _) change_size rfl (by rfl) ?_)
            go_quiet ((first | (go_at_call 24; exact Size_q HDz.out _)))
            obtain ⟨wX, hX⟩ : ∃ wX, (wr.alloc (.cells #[.int .i64 pi, .string ps] 55)).drewN nq = wX := ⟨_, rfl⟩
            have hh : wX.heap = (wr.alloc (.cells #[.int .i64 pi, .string ps] 55)).heap := by rw [← hX]; exact heap_drewN _ _
            have HLX := Lib.hid (HLz.out.same (congrArg (fun H => H[l]?) hh))
            have HBX : Hid (Below w.heap.size w wX) := Lib.hid (by rw [← hX]; exact below_drewN HB1.out nq)
            have HHX := Lib.hid hh
            rw [hX]
            obtain ⟨y0x, y1x⟩ := HCZ.out _ hh
            have c0 := HLX.out.c0
            have c1 := HLX.out.c1
            have c2 := HLX.out.c2
            clear hX hh y0 y1 z0
            go_wp2_with fail
            go_quiet ((first | (go_at_call 46; exact hq ▸ image_q HLX.out m (by omega) (by omega) _)))
            obtain ⟨wY, hY⟩ : ∃ wY, wX.drewN nq = wY := ⟨_, rfl⟩
            have hk2 : wY.heap = (wr.alloc (.cells #[.int .i64 pi, .string ps] 55)).heap := by rw [← hY, heap_drewN]; exact HHX.out
            have HBY : Hid (Below w.heap.size w wY) := Lib.hid (by rw [← hY]; exact below_drewN HBX.out nq)
            rw [hY]
            obtain ⟨y0y, y1y⟩ := HCZ.out _ hk2
            clear hY hk2 y0x y1x c0 c1 c2
          · have hrf := HNO.out (fun h => by have := (h.2.2 _ (List.mem_of_getElem? HP.out)).1; simp only at this; omega)
            subst hrf
            go_wp2_with fail
            go_ret
            exact ⟨rfl, HBY.out⟩
          · have hrf := HNO.out (fun h => by have := (h.2.2 _ (List.mem_of_getElem? HP.out)).2.1; simp only at this; omega)
            subst hrf
            go_wp2_with fail
            go_ret
            exact ⟨rfl, HBY.out⟩
          · have hrf := HNO.out (fun h => by have := (h.2.2 _ (List.mem_of_getElem? HP.out)).2.2.1; simp only at this; have := HE1.out; omega)
            subst hrf
            go_wp2_with fail
            go_ret
            exact ⟨rfl, HBY.out⟩
          all_goals
            by_cases hs : 512 < ps.size
            · have hrf := HNO.out (fun h => by have := (h.2.2 _ (List.mem_of_getElem? HP.out)).2.2.2; simp only at this; omega)
              subst hrf
              have hsi : (512 : Int) < ps.size := by omega
              clear hs
              go_wp2_with fail
              go_ret
              exact ⟨rfl, HBY.out⟩
            · have hst := Lib.hid (HSTEP.out ⟨a1, a2, by have := HE1.out; simp only; omega, by simp only; omega⟩)
              have hsi : ¬ (512 : Int) < ps.size := by omega
              clear hs
              go_wp2_with fail
              exact ⟨⟨j + 1, by rw [HX.out]; omega, by rw [Int.natCast_succ], hst.out, HBY.out⟩, by simp [intOf]; omega⟩
        · obtain rfl : j = k := by omega
          have hrt := HR.out.2 ⟨by have := HX.out; omega, by have := HX.out; omega, fun c hc => by
            obtain ⟨i, hi⟩ := List.mem_iff_getElem?.1 hc
            exact HG.out i c (by have := (List.getElem?_eq_some_iff.1 hi).1; rw [HX.out] at this; exact this) hi⟩
          subst hrt
          go_wp2_with fail
          go_ret
          exact ⟨rfl, HB.out⟩
end Go.Proofs.YtbpaiiljhdohfaaDoor
