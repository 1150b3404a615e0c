/- Merges: the document's reader of a line. -/
import Derived.Test.YtmdhendfmhhniaaDoorPr
import Derived.Test.YtmdhendfmhhniaaDoorPs
import Derived.RangeFuncBox
import Derived.StillTailTactics
import Derived.Deep.RegionHeld3
namespace Go.Proofs.YtmdhendfmhhniaaDoor
open Go.RowKit
variable {w w' : World}

theorem frozen_row {g j : Nat} {cur : Array Value} {t : TypeId} (h : w.heap[g]? = some (.cells cur t (0, 0))) : w.frozen? ⟨g, j, none⟩ = false := by simp [World.frozen?, h]
theorem sp_not {s : ByteArray} {k : Nat} (hk : k < spAt s) (hs : k < s.size) : s[k] ≠ 32 := by
  have hk : k < (s.data.toList.takeWhile (· != 32)).length := hk
  have hpre := List.prefix_iff_eq_take.1 (List.takeWhile_prefix (l := s.data.toList) (· != 32))
  have h2 : (s.data.toList.takeWhile (· != 32))[k]? = some s[k] := by
    rw [hpre, List.getElem?_take, if_pos hk, List.getElem?_eq_getElem (by rw [size_len]; exact hs)]
    rfl
  have := take_all _ _ _ (List.mem_of_getElem? h2)
  simpa using this
theorem tw_hit : ∀ (l : List UInt8) (h : (l.takeWhile (· != 32)).length < l.length), l[(l.takeWhile (· != 32)).length]'h = 32
  | [], h => by simp at h
  | b :: r, h => by
    by_cases hb : b = 32
    · subst hb; simp
    · have h2 : (b != 32) = true := by simpa using hb
      have e : ((b :: r).takeWhile (· != 32)) = b :: r.takeWhile (· != 32) := by rw [List.takeWhile_cons, if_pos h2]
      simp only [e, List.length_cons, List.getElem_cons_succ]
      exact tw_hit r (by rw [e] at h; simpa using h)
theorem sp_hit {s : ByteArray} (h : spAt s < s.size) : s[spAt s] = 32 := tw_hit s.data.toList (by rw [size_len]; exact h)
def LlS (w : World) (s : ByteArray) (i : Value) (wr : World) : Prop := ∃ k : Nat, k ≤ spAt s ∧ i = .int .i64 k ∧ wr = w.alloc (.cells #[.string ⟨#[]⟩, .string ⟨#[]⟩] 67)
set_option maxHeartbeats 2000000 in
set_option maxRecDepth 100000 in
theorem RLine_no (s : ByteArray) (w : World) (hs : s.size ≤ 262144) (hsp : ¬ spAt s < s.size) :
    Calls Tryd.prog 70 #[.string s] w fun e w' => e = .returned (.tuple #[.agg #[.string ⟨#[]⟩, .string ⟨#[]⟩], .bool false]) ∧ Below w.heap.size w w' := by
  have hle := spAt_le s
  have he : spAt s = s.size := by omega
  have HE := Lib.hid he
  have HN := Lib.hid (fun k (h : k < s.size) => sp_not (s := s) (k := k) (by rw [he]; exact h) h)
  have HB := Lib.hid ((Below.refl w.heap.size w).alloc (Nat.le_refl _) (.cells #[.string ⟨#[]⟩, .string ⟨#[]⟩] 67))
  clear hle he hsp
  go_enter Tryd.func70, Tryd.ntmps70
  go_wp2_with fail
  go_loopw [4] (fun i wr => LlS w s i wr) (fun i _ => s.size - (intOf i).toNat)
  case atStart => exact ⟨0, Nat.zero_le _, rfl, rfl⟩
  case round =>
    obtain ⟨k, hk, rfl, hw⟩ := hrel
    rw [HE.out] at hk
    by_cases hlt : k < s.size
    · have hne : ¬ (s[k].toNat : Int) = 32 := fun e => HN.out k hlt (UInt8.toNat_inj.1 (by show s[k].toNat = 32; omega))
      have HW := Lib.hid hw
      clear hw
      go_wp2_with fail
      go_roundw
      case rel => exact ⟨k + 1, by rw [HE.out]; omega, by rw [Int.natCast_succ], HW.out⟩
      case measure => simp [intOf]; omega
    · have hks : k = s.size := by omega
      have hki : (k : Int) = s.size := by omega
      subst hw
      have z := World.alloc_heap_new w (.cells #[.string ⟨#[]⟩, .string ⟨#[]⟩] 67)
      have z0 : (w.alloc (.cells #[.string ⟨#[]⟩, .string ⟨#[]⟩] 67)).cell? ⟨w.heap.size, 0, none⟩ = some (.string ⟨#[]⟩) := cell_of_row z
      have z1 : (w.alloc (.cells #[.string ⟨#[]⟩, .string ⟨#[]⟩] 67)).cell? ⟨w.heap.size, 1, none⟩ = some (.string ⟨#[]⟩) := cell_of_row z
      have zf : ∀ j, (w.alloc (.cells #[.string ⟨#[]⟩, .string ⟨#[]⟩] 67)).frozen? ⟨w.heap.size, j, none⟩ = false := fun j => frozen_row z
      clear z
      go_wp2_with fail
      exact bodyPost_ret (v := .tuple #[.agg #[.string ⟨#[]⟩, .string ⟨#[]⟩], .bool false]) (by simp [results, Tryd.results70, go_sem, z0, z1]) rfl ⟨rfl, HB.out⟩
/-- What a line with a space is. -/
def linG (p : PairB) : Bool := goodB p.1 && goodB p.2
set_option maxHeartbeats 4000000 in
set_option maxRecDepth 100000 in
theorem RLine_yes (s : ByteArray) (w : World) (hs : s.size ≤ 262144) (hsp : spAt s < s.size) :
    Calls Tryd.prog 70 #[.string s] w fun e w' => e = .returned (.tuple #[.agg #[.string (pairOf s).1, .string (pairOf s).2], .bool (linG (pairOf s))]) ∧ Below w.heap.size w w' := by
  have hit := sp_hit hsp
  have HN := Lib.hid (fun k (h : k < spAt s) (h2 : k < s.size) => sp_not (s := s) h h2)
  have HB := Lib.hid ((Below.refl w.heap.size w).alloc (Nat.le_refl _) (.cells #[.string ⟨#[]⟩, .string ⟨#[]⟩] 67))
  obtain ⟨q, hq⟩ : ∃ q, spAt s = q := ⟨_, rfl⟩
  have HQ := Lib.hid hq
  obtain ⟨q1, hq1⟩ : ∃ q1, q + 1 = q1 := ⟨_, rfl⟩
  obtain ⟨a, ha⟩ : ∃ a, s.extract 0 q = a := ⟨_, rfl⟩
  obtain ⟨b, hb⟩ : ∃ b, s.extract q1 s.size = b := ⟨_, rfl⟩
  have hp : pairOf s = (a, b) := by unfold pairOf; rw [hq, ha, hq1, hb]
  have has : a.size ≤ 262144 := by rw [← ha]; simp; omega
  have hbs : b.size ≤ 262144 := by rw [← hb]; simp; omega
  have HGA := fun W => RGood_any a W (by unfold maxLen; omega)
  have HGB := fun W => RGood_any b W (by unfold maxLen; omega)
  rw [hp]
  simp only [hq] at hit hsp
  have hqi : (q : Int) < s.size := by omega
  have hc : (s[q].toNat : Int) = 32 := by rw [hit]; rfl
  have hq1i : (q : Int) + 1 = (q1 : Int) := by omega
  have hq1s : q1 ≤ s.size := by omega
  have HQ1 := Lib.hid hq1
  clear hq hit hp hq1
  go_enter Tryd.func70, Tryd.ntmps70
  go_wp2_with fail
  go_loopw [4] (fun i wr => LlS w s i wr) (fun i _ => s.size - (intOf i).toNat)
  case atStart => exact ⟨0, Nat.zero_le _, rfl, rfl⟩
  case round =>
    obtain ⟨k, hk, rfl, hw⟩ := hrel
    rw [HQ.out] at hk
    by_cases hlt : k < q
    · have hks : k < s.size := by omega
      have hki : (k : Int) < s.size := by omega
      have hne : ¬ (s[k].toNat : Int) = 32 := fun e => HN.out k (by rw [HQ.out]; exact hlt) hks (UInt8.toNat_inj.1 (by show s[k].toNat = 32; omega))
      have HW := Lib.hid hw
      clear hw
      go_wp2_with fail
      go_roundw
      case rel => exact ⟨k + 1, by rw [HQ.out]; omega, by rw [Int.natCast_succ], HW.out⟩
      case measure => simp [intOf]; omega
    · obtain rfl : k = q := by omega
      have hw1 : IntKind.i64.wrap (q1 : Int) = (q1 : Int) := IntWalk.i64_in _ (by omega)
      subst hw
      have z := World.alloc_heap_new w (.cells #[.string ⟨#[]⟩, .string ⟨#[]⟩] 67)
      have HZ := Lib.hid z
      have hsz : (w.alloc (.cells #[.string ⟨#[]⟩, .string ⟨#[]⟩] 67)).heap.size = w.heap.size + 1 := by simp
      generalize w.alloc (.cells #[.string ⟨#[]⟩, .string ⟨#[]⟩] 67) = W at HZ hsz HB ⊢
      clear z
      go_wp2_with fail
      subst ha hb
      obtain ⟨GA, hGA⟩ : ∃ g, goodB (s.extract 0 k) = g := ⟨_, rfl⟩
      obtain ⟨GB, hGB⟩ : ∃ g, goodB (s.extract q1 s.size) = g := ⟨_, rfl⟩
      rw [hGA] at HGA; rw [hGB] at HGB
      have HL : Hid (linG (s.extract 0 k, s.extract q1 s.size) = (GA && GB)) := Lib.hid (by unfold linG; rw [hGA, hGB])
      have HGA := Lib.hid HGA; have HGB := Lib.hid HGB
      clear hGA hGB
      have D1 := HGA.out
      have D2 := HGB.out
      cases GA
      · go_region
        have hV0 : (W.alloc (.cells #[.string (s.extract 0 k), .string (s.extract q1 s.size)] 67)).drew.heap[w.heap.size]? = some (.cells #[.string ⟨#[]⟩, .string ⟨#[]⟩] 67 (0, 0)) := (Lib.alloc_old W _ _ (by omega)).trans HZ.out
        have hV1 : (W.alloc (.cells #[.string (s.extract 0 k), .string (s.extract q1 s.size)] 67)).drew.heap[w.heap.size + 1]? = some (.cells #[.string (s.extract 0 k), .string (s.extract q1 s.size)] 67 (0, 0)) := by
          have := World.alloc_heap_new W (.cells #[.string (s.extract 0 k), .string (s.extract q1 s.size)] 67)
          rw [hsz] at this; exact this
        have hVB : Below w.heap.size w (W.alloc (.cells #[.string (s.extract 0 k), .string (s.extract q1 s.size)] 67)).drew := below_drewN (HB.out.alloc HB.out.size _) 1
        generalize (W.alloc (.cells #[.string (s.extract 0 k), .string (s.extract q1 s.size)] 67)).drew = V at hV0 hV1 hVB ⊢
        have c0 : V.cell? ⟨w.heap.size + 1, 0, none⟩ = some (.string (s.extract 0 k)) := cell_of_row hV1
        have c1 : V.cell? ⟨w.heap.size + 1, 1, none⟩ = some (.string (s.extract q1 s.size)) := cell_of_row hV1
        have r0 : V.cell? ⟨w.heap.size, 0, none⟩ = some (.string ⟨#[]⟩) := cell_of_row hV0
        have r1 : V.cell? ⟨w.heap.size, 1, none⟩ = some (.string ⟨#[]⟩) := cell_of_row hV0
        have rf : ∀ j, V.frozen? ⟨w.heap.size, j, none⟩ = false := fun j => frozen_row hV0
        have hne1 : w.heap.size + 1 ≠ w.heap.size := by omega
        have hrow := heap_set (i := 1) (.string (s.extract q1 s.size)) (heap_set (i := 0) (.string (s.extract 0 k)) hV0)
        have hbb := (hVB.setCell (p := ⟨w.heap.size, 0, none⟩) (Nat.le_refl _) (.string (s.extract 0 k))).setCell (p := ⟨w.heap.size, 1, none⟩) (Nat.le_refl _) (.string (s.extract q1 s.size))
        have HROW := Lib.hid hrow; have HBB := Lib.hid hbb
        clear hV0 hV1 hVB hrow hbb
        go_wp2_with fail
        have HS1 : Hid ((fun w' => w'.cell? ⟨w.heap.size + 1, 0, none⟩ = some (.string (s.extract 0 k)) ∧ w'.cell? ⟨w.heap.size + 1, 1, none⟩ = some (.string (s.extract q1 s.size))) (World.drew V)) := Lib.hid ⟨c0, c1⟩
        have HS2 : Hid ((fun w' => w'.cell? ⟨w.heap.size + 1, 0, none⟩ = some (.string (s.extract 0 k)) ∧ w'.cell? ⟨w.heap.size + 1, 1, none⟩ = some (.string (s.extract q1 s.size))) (((World.drew V).setCell ⟨w.heap.size, 0, none⟩ (.string (s.extract 0 k))).setCell ⟨w.heap.size, 1, none⟩ (.string (s.extract q1 s.size)))) := Lib.hid (by
          have e1 := Below.heap_setCell (World.drew V) ⟨w.heap.size, 0, none⟩ (.string (s.extract 0 k)) (w.heap.size + 1) hne1
          have e2 := Below.heap_setCell ((World.drew V).setCell ⟨w.heap.size, 0, none⟩ (.string (s.extract 0 k))) ⟨w.heap.size, 1, none⟩ (.string (s.extract q1 s.size)) (w.heap.size + 1) hne1
          exact ⟨(World.cell?_of_block (a := ⟨w.heap.size + 1, 0, none⟩) (e2.trans e1)).trans c0, (World.cell?_of_block (a := ⟨w.heap.size + 1, 1, none⟩) (e2.trans e1)).trans c1⟩)
        refine wp_region_held_drew (S := (fun w' => w'.cell? ⟨w.heap.size + 1, 0, none⟩ = some (.string (s.extract 0 k)) ∧ w'.cell? ⟨w.heap.size + 1, 1, none⟩ = some (.string (s.extract q1 s.size)))) (by kernel_rfl) HS1.out (fun _ => ?_)
        refine wpAnyH_take (i := 0) (v := ?_) rfl (by kernel_rfl) (by kernel_rfl) (by kernel_rfl) (fun _ _ _ h => h) (Or.inl ⟨by rfl, ?_⟩) HS1.out ?_
        rotate_left
        · intro wq hSw; (try dsimp only at hSw); go_simp; try with_reducible rfl
        try simp only [Act.put, List.setIfInBounds_toArray, List.set_cons_zero, List.set_cons_succ]
        refine wpAnyH_take (i := 1) (v := ?_) rfl (by kernel_rfl) (by kernel_rfl) (by kernel_rfl) (fun _ _ _ h => h) (Or.inl ⟨by rfl, ?_⟩) HS1.out ?_
        rotate_left
        · intro wq hSw; (try dsimp only at hSw); go_simp; try with_reducible rfl
        try simp only [Act.put, List.setIfInBounds_toArray, List.set_cons_zero, List.set_cons_succ]
        refine wpAnyH_take (i := 2) (v := ?_) rfl (by kernel_rfl) (by kernel_rfl) (by kernel_rfl) (fun _ _ _ h => h) (Or.inl ⟨by rfl, ?_⟩) HS1.out ?_
        rotate_left
        · intro wq hSw; (try dsimp only at hSw); go_simp; try with_reducible rfl
        try simp only [Act.put, List.setIfInBounds_toArray, List.set_cons_zero, List.set_cons_succ]
        refine wpAnyH_ready (rs := [3]) (by kernel_rfl) (by simp) ?_
        refine AllReadyH.cons (o := _) rfl (fun K hK => ?_) AllReadyH.nil
        go_simp
        go_at_call 28
        refine (HGA.out _).mono ?_
        rintro e w5 ⟨rfl, hw5⟩
        subst hw5
        refine hK.out _ _ HS1.out (fun _ => ?_)
        try simp only [Act.put, List.setIfInBounds_toArray, List.set_cons_zero, List.set_cons_succ]
        refine wpAnyH_take (i := 4) (v := ?_) rfl (by kernel_rfl) (by kernel_rfl) (by kernel_rfl) (fun _ _ _ h => h) (Or.inl ⟨by rfl, ?_⟩) HS1.out ?_
        rotate_left
        · intro wq hSw; (try dsimp only at hSw); go_simp; try with_reducible rfl
        try simp only [Act.put, List.setIfInBounds_toArray, List.set_cons_zero, List.set_cons_succ]
        refine wpAnyH_take (i := 5) (v := undef) rfl (by kernel_rfl) (by kernel_rfl) (by kernel_rfl) (fun _ _ _ h => h) (Or.inr ⟨by rfl, rfl⟩) HS1.out ?_
        try simp only [Act.put, List.setIfInBounds_toArray, List.set_cons_zero, List.set_cons_succ]
        refine wpAnyH_take (i := 6) (v := undef) rfl (by kernel_rfl) (by kernel_rfl) (by kernel_rfl) (fun _ _ _ h => h) (Or.inr ⟨by rfl, rfl⟩) HS1.out ?_
        try simp only [Act.put, List.setIfInBounds_toArray, List.set_cons_zero, List.set_cons_succ]
        refine wpAnyH_take (i := 7) (v := undef) rfl (by kernel_rfl) (by kernel_rfl) (by kernel_rfl) (fun _ _ _ h => h) (Or.inr ⟨by rfl, rfl⟩) HS1.out ?_
        try simp only [Act.put, List.setIfInBounds_toArray, List.set_cons_zero, List.set_cons_succ]
        refine wpAnyH_take (i := 8) (v := ?_) rfl (by kernel_rfl) (by kernel_rfl) (by kernel_rfl) (fun _ _ _ h => h) (Or.inl ⟨by rfl, ?_⟩) HS1.out ?_
        rotate_left
        · intro wq hSw; (try dsimp only at hSw); go_simp; try with_reducible rfl
        try simp only [Act.put, List.setIfInBounds_toArray, List.set_cons_zero, List.set_cons_succ]
        refine wpAnyH_ready (rs := [9]) (by kernel_rfl) (by simp) ?_
        refine AllReadyH.cons (o := _) rfl (fun K hK => ?_) AllReadyH.nil
        go_simp
        refine hK.out _ _ HS2.out (fun _ => ?_)
        try simp only [Act.put, List.setIfInBounds_toArray, List.set_cons_zero, List.set_cons_succ]
        refine wpAnyH_ready (rs := [10]) (by kernel_rfl) (by simp) ?_
        refine AllReadyH.cons (o := _) rfl (fun K hK => ?_) AllReadyH.nil
        go_simp
        refine hK.out _ _ HS2.out (fun _ => ?_)
        try simp only [Act.put, List.setIfInBounds_toArray, List.set_cons_zero, List.set_cons_succ]
        refine wpAnyH_done (by kernel_rfl) ?_ _
        clear HS1 HS2
        try simp only [Act.put, List.setIfInBounds_toArray, List.set_cons_zero, List.set_cons_succ]
        go_wp2_with fail
        try simp only [Act.put, List.setIfInBounds_toArray, List.set_cons_zero, List.set_cons_succ]
        have y0 : (((V.setCell ⟨w.heap.size, 0, none⟩ (.string (s.extract 0 k))).setCell ⟨w.heap.size, 1, none⟩ (.string (s.extract q1 s.size))).drew).cell? ⟨w.heap.size, 0, none⟩ = some (.string (s.extract 0 k)) := cell_of_row HROW.out
        have y1 : (((V.setCell ⟨w.heap.size, 0, none⟩ (.string (s.extract 0 k))).setCell ⟨w.heap.size, 1, none⟩ (.string (s.extract q1 s.size))).drew).cell? ⟨w.heap.size, 1, none⟩ = some (.string (s.extract q1 s.size)) := cell_of_row HROW.out
        have HF := Lib.hid (below_drewN HBB.out 1)
        have HF : Hid (Below w.heap.size w ((V.setCell ⟨w.heap.size, 0, none⟩ (.string (s.extract 0 k))).setCell ⟨w.heap.size, 1, none⟩ (.string (s.extract q1 s.size))).drew) := Lib.hid HF.out
        clear c0 c1 r0 r1 rf HROW HBB
        generalize ((V.setCell ⟨w.heap.size, 0, none⟩ (.string (s.extract 0 k))).setCell ⟨w.heap.size, 1, none⟩ (.string (s.extract q1 s.size))).drew = Wf at y0 y1 HF ⊢
        exact bodyPost_ret (v := .tuple #[.agg #[.string (s.extract 0 k), .string (s.extract q1 s.size)], .bool false]) (by simp [results, Tryd.results70, go_sem, y0, y1]) rfl ⟨by rw [HL.out]; rfl, HF.out⟩
      · cases GB
        · go_region
          have hV0 : (W.alloc (.cells #[.string (s.extract 0 k), .string (s.extract q1 s.size)] 67)).drew.heap[w.heap.size]? = some (.cells #[.string ⟨#[]⟩, .string ⟨#[]⟩] 67 (0, 0)) := (Lib.alloc_old W _ _ (by omega)).trans HZ.out
          have hV1 : (W.alloc (.cells #[.string (s.extract 0 k), .string (s.extract q1 s.size)] 67)).drew.heap[w.heap.size + 1]? = some (.cells #[.string (s.extract 0 k), .string (s.extract q1 s.size)] 67 (0, 0)) := by
            have := World.alloc_heap_new W (.cells #[.string (s.extract 0 k), .string (s.extract q1 s.size)] 67)
            rw [hsz] at this; exact this
          have hVB : Below w.heap.size w (W.alloc (.cells #[.string (s.extract 0 k), .string (s.extract q1 s.size)] 67)).drew := below_drewN (HB.out.alloc HB.out.size _) 1
          generalize (W.alloc (.cells #[.string (s.extract 0 k), .string (s.extract q1 s.size)] 67)).drew = V at hV0 hV1 hVB ⊢
          have c0 : V.cell? ⟨w.heap.size + 1, 0, none⟩ = some (.string (s.extract 0 k)) := cell_of_row hV1
          have c1 : V.cell? ⟨w.heap.size + 1, 1, none⟩ = some (.string (s.extract q1 s.size)) := cell_of_row hV1
          have r0 : V.cell? ⟨w.heap.size, 0, none⟩ = some (.string ⟨#[]⟩) := cell_of_row hV0
          have r1 : V.cell? ⟨w.heap.size, 1, none⟩ = some (.string ⟨#[]⟩) := cell_of_row hV0
          have rf : ∀ j, V.frozen? ⟨w.heap.size, j, none⟩ = false := fun j => frozen_row hV0
          have hne1 : w.heap.size + 1 ≠ w.heap.size := by omega
          have hrow := heap_set (i := 1) (.string (s.extract q1 s.size)) (heap_set (i := 0) (.string (s.extract 0 k)) hV0)
          have hbb := (hVB.setCell (p := ⟨w.heap.size, 0, none⟩) (Nat.le_refl _) (.string (s.extract 0 k))).setCell (p := ⟨w.heap.size, 1, none⟩) (Nat.le_refl _) (.string (s.extract q1 s.size))
          have HROW := Lib.hid hrow; have HBB := Lib.hid hbb
          clear hV0 hV1 hVB hrow hbb
          go_wp2_with fail
          go_region_held3 (fun w' => w'.cell? ⟨w.heap.size + 1, 0, none⟩ = some (.string (s.extract 0 k)) ∧ w'.cell? ⟨w.heap.size + 1, 1, none⟩ = some (.string (s.extract q1 s.size))) (go_keep) ((go_at_call 28; (first | (with_reducible refine (HGA.out _).mono ?_) | (with_reducible refine (HGB.out _).mono ?_)); rintro e w5 ⟨rfl, hw5⟩; subst hw5))
          all_goals
            go_wp2_with fail
          have y0 : (((V.setCell ⟨w.heap.size, 0, none⟩ (.string (s.extract 0 k))).setCell ⟨w.heap.size, 1, none⟩ (.string (s.extract q1 s.size))).drew).cell? ⟨w.heap.size, 0, none⟩ = some (.string (s.extract 0 k)) := cell_of_row HROW.out
          have y1 : (((V.setCell ⟨w.heap.size, 0, none⟩ (.string (s.extract 0 k))).setCell ⟨w.heap.size, 1, none⟩ (.string (s.extract q1 s.size))).drew).cell? ⟨w.heap.size, 1, none⟩ = some (.string (s.extract q1 s.size)) := cell_of_row HROW.out
          have HF := Lib.hid (below_drewN HBB.out 1)
          have HF : Hid (Below w.heap.size w ((V.setCell ⟨w.heap.size, 0, none⟩ (.string (s.extract 0 k))).setCell ⟨w.heap.size, 1, none⟩ (.string (s.extract q1 s.size))).drew) := Lib.hid HF.out
          clear c0 c1 r0 r1 rf HROW HBB
          generalize ((V.setCell ⟨w.heap.size, 0, none⟩ (.string (s.extract 0 k))).setCell ⟨w.heap.size, 1, none⟩ (.string (s.extract q1 s.size))).drew = Wf at y0 y1 HF ⊢
          exact bodyPost_ret (v := .tuple #[.agg #[.string (s.extract 0 k), .string (s.extract q1 s.size)], .bool false]) (by simp [results, Tryd.results70, go_sem, y0, y1]) rfl ⟨by rw [HL.out]; rfl, HF.out⟩
        · go_region
          have hV0 : (W.alloc (.cells #[.string (s.extract 0 k), .string (s.extract q1 s.size)] 67)).drew.heap[w.heap.size]? = some (.cells #[.string ⟨#[]⟩, .string ⟨#[]⟩] 67 (0, 0)) := (Lib.alloc_old W _ _ (by omega)).trans HZ.out
          have hV1 : (W.alloc (.cells #[.string (s.extract 0 k), .string (s.extract q1 s.size)] 67)).drew.heap[w.heap.size + 1]? = some (.cells #[.string (s.extract 0 k), .string (s.extract q1 s.size)] 67 (0, 0)) := by
            have := World.alloc_heap_new W (.cells #[.string (s.extract 0 k), .string (s.extract q1 s.size)] 67)
            rw [hsz] at this; exact this
          have hVB : Below w.heap.size w (W.alloc (.cells #[.string (s.extract 0 k), .string (s.extract q1 s.size)] 67)).drew := below_drewN (HB.out.alloc HB.out.size _) 1
          generalize (W.alloc (.cells #[.string (s.extract 0 k), .string (s.extract q1 s.size)] 67)).drew = V at hV0 hV1 hVB ⊢
          have c0 : V.cell? ⟨w.heap.size + 1, 0, none⟩ = some (.string (s.extract 0 k)) := cell_of_row hV1
          have c1 : V.cell? ⟨w.heap.size + 1, 1, none⟩ = some (.string (s.extract q1 s.size)) := cell_of_row hV1
          have r0 : V.cell? ⟨w.heap.size, 0, none⟩ = some (.string ⟨#[]⟩) := cell_of_row hV0
          have r1 : V.cell? ⟨w.heap.size, 1, none⟩ = some (.string ⟨#[]⟩) := cell_of_row hV0
          have rf : ∀ j, V.frozen? ⟨w.heap.size, j, none⟩ = false := fun j => frozen_row hV0
          have hne1 : w.heap.size + 1 ≠ w.heap.size := by omega
          have hrow := heap_set (i := 1) (.string (s.extract q1 s.size)) (heap_set (i := 0) (.string (s.extract 0 k)) hV0)
          have hbb := (hVB.setCell (p := ⟨w.heap.size, 0, none⟩) (Nat.le_refl _) (.string (s.extract 0 k))).setCell (p := ⟨w.heap.size, 1, none⟩) (Nat.le_refl _) (.string (s.extract q1 s.size))
          have HROW := Lib.hid hrow; have HBB := Lib.hid hbb
          clear hV0 hV1 hVB hrow hbb
          go_wp2_with fail
          go_region_held3 (fun w' => w'.cell? ⟨w.heap.size + 1, 0, none⟩ = some (.string (s.extract 0 k)) ∧ w'.cell? ⟨w.heap.size + 1, 1, none⟩ = some (.string (s.extract q1 s.size))) (go_keep) ((go_at_call 28; (first | (with_reducible refine (HGA.out _).mono ?_) | (with_reducible refine (HGB.out _).mono ?_)); rintro e w5 ⟨rfl, hw5⟩; subst hw5))
          all_goals
            go_wp2_with fail
          have y0 : (((V.setCell ⟨w.heap.size, 0, none⟩ (.string (s.extract 0 k))).setCell ⟨w.heap.size, 1, none⟩ (.string (s.extract q1 s.size))).drew).cell? ⟨w.heap.size, 0, none⟩ = some (.string (s.extract 0 k)) := cell_of_row HROW.out
          have y1 : (((V.setCell ⟨w.heap.size, 0, none⟩ (.string (s.extract 0 k))).setCell ⟨w.heap.size, 1, none⟩ (.string (s.extract q1 s.size))).drew).cell? ⟨w.heap.size, 1, none⟩ = some (.string (s.extract q1 s.size)) := cell_of_row HROW.out
          have HF := Lib.hid (below_drewN HBB.out 1)
          have HF : Hid (Below w.heap.size w ((V.setCell ⟨w.heap.size, 0, none⟩ (.string (s.extract 0 k))).setCell ⟨w.heap.size, 1, none⟩ (.string (s.extract q1 s.size))).drew) := Lib.hid HF.out
          clear c0 c1 r0 r1 rf HROW HBB
          generalize ((V.setCell ⟨w.heap.size, 0, none⟩ (.string (s.extract 0 k))).setCell ⟨w.heap.size, 1, none⟩ (.string (s.extract q1 s.size))).drew = Wf at y0 y1 HF ⊢
          exact bodyPost_ret (v := .tuple #[.agg #[.string (s.extract 0 k), .string (s.extract q1 s.size)], .bool true]) (by simp [results, Tryd.results70, go_sem, y0, y1]) rfl ⟨by rw [HL.out]; rfl, HF.out⟩
end Go.Proofs.YtmdhendfmhhniaaDoor
