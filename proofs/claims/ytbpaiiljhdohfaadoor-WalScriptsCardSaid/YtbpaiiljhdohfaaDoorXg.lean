/- Wal's laws: two lists of changes. -/
import Derived.Test.YtbpaiiljhdohfaaDoorXf
import Derived.Test.YtbpaiiljhdohfaaDoorWs
import Derived.Deep.AppendLies
import Derived.Deep.RegionHeld3
namespace Go.Proofs.YtbpaiiljhdohfaaDoor
open Go.RowKit
variable {w w' : World}

/-- A change that came in, as the law makes it. -/
def cutC (c : Int × ByteArray) : Int × ByteArray := (c.1, if 600 < c.2.size then c.2.extract 0 513 else c.2)
def chgL (l : List (Int × ByteArray)) : List (Int × ByteArray) := (l.take 70).map cutC
theorem flatI_take (l : List (Int × ByteArray)) (k : Nat) (p : Int × ByteArray) (h : l[k]? = some p) : flatI (l.take (k + 1)) = flatI (l.take k) ++ [Value.int .i64 p.1, Value.string p.2] := by
  unfold flatI
  exact flatMap_take _ l k p h
theorem chg_mem {a : Int} {b : ByteArray} : ∀ u ∈ [Value.int .i64 a, Value.string b], u.oneCell' = true := by
  intro u hu; simp at hu; rcases hu with rfl | rfl <;> rfl
/-- A row of changes that came in. -/
def InC (w : World) (o : Option Addr) (l : List (Int × ByteArray)) : Prop :=
  ∀ k p, l[k]? = some p → ∃ b i, o = some ⟨b, i, none⟩ ∧ w.cell? ⟨b, i + k * 2, none⟩ = some (.int .i64 p.1) ∧ w.cell? ⟨b, i + k * 2 + 1, none⟩ = some (.string p.2)
theorem row_apart {w : World} {B B' : Nat} {t t' : TypeId} {v v' : Value} {n n' s s' : Nat} {xs ys : List Value} (h : w.ownsRow B t s v n xs) (h' : w.ownsRow B' t' s' v' n' ys) (hne : t ≠ t') : v.ownBlock = none ∨ v.ownBlock ≠ v'.ownBlock := by
  rcases h.2 with ⟨h1, _⟩ | ⟨g, cap, cur, h1, _, hg, _⟩
  · exact .inl (by rw [h1]; rfl)
  · right
    subst h1
    rcases h'.2 with ⟨h2, _⟩ | ⟨g', cap', cur', h2, _, hg', _⟩
    · subst h2; simp [Value.ownBlock]
    · subst h2
      intro e
      have : g = g' := by simpa [Value.ownBlock] using e
      subst this
      rw [hg] at hg'
      injection hg' with hg'
      injection hg' with _ h3
      exact hne h3
theorem own_bs {w : World} {B : Nat} {t : TypeId} {v : Value} {n s : Nat} {xs : List Value} (h : w.ownsRow B t s v n xs) : ∀ k, v.ownBlock = some k → B ≤ k := fun k hk => (h.lt k hk).1
theorem IsLC.inC {w : World} {a : Option Addr} {len : Nat} {zs : List (Int × ByteArray)} (h : IsLC w a len zs) : InC w a zs := fun k p hp => by
  obtain ⟨b, o, h1, _, h3⟩ := h.2 (by have := (List.getElem?_eq_some_iff.1 hp).1; have := h.1; omega)
  exact ⟨b, o, h1, h3 k p hp⟩
theorem chgL_size (l : List (Int × ByteArray)) : ∀ c ∈ chgL l, c.2.size ≤ 600 := fun c hc => by
  unfold chgL at hc
  obtain ⟨d, _, rfl⟩ := List.mem_map.1 hc
  unfold cutC
  simp only
  split
  · rw [ByteArray.size_extract]; omega
  · omega
theorem chgL_len (l : List (Int × ByteArray)) : (chgL l).length ≤ 70 := by unfold chgL; rw [List.length_map]; exact List.length_take_le _ _
def PC (w : World) (x : List (Int × ByteArray)) (a b i : Value) (wr : World) : Prop :=
  ∃ k : Nat, k ≤ x.length ∧ k ≤ 70 ∧ i = .int .i64 k ∧ wr.ownsRow w.heap.size 55 2 a k (flatI (x.take k)) ∧ wr.ownsRow w.heap.size 57 2 b k (flatI (x.take k)) ∧ Below w.heap.size w wr
set_option linter.unusedSimpArgs false
set_option linter.unusedVariables false
set_option maxHeartbeats 8000000 in
set_option maxRecDepth 100000 in
theorem changes_any (o : Option Addr) (l : List (Int × ByteArray)) (cap : Nat) (w : World) (hl : l.length ≤ maxLen) (hi : InC w o l) :
    Calls Tryd.prog 9 #[.slice o l.length cap] w fun e w' => ∃ a b, e = .returned (.tuple #[a, b]) ∧ w'.ownsRow w.heap.size 55 2 a (chgL l).length (flatI (chgL l)) ∧ w'.ownsRow w.heap.size 57 2 b (chgL l).length (flatI (chgL l)) ∧ Below w.heap.size w w' := by
  obtain ⟨n, hn⟩ : ∃ n, l.length = n := ⟨_, rfl⟩
  rw [hn] at hl ⊢
  unfold maxLen at hl
  obtain ⟨x, hx⟩ : ∃ x, chgL l = x := ⟨_, rfl⟩
  have hxl : x.length = min 70 n := by rw [← hx]; unfold chgL; rw [List.length_map, List.length_take, hn]
  rw [hx]
  obtain ⟨i1, hi1, hz0, hz1, hz2⟩ := info_parts info_change
  obtain ⟨i2, hi2, hy0, hy1, hy2⟩ := info_parts info_rchange
  have HI1 := Lib.hid hi1; have HZ0 := Lib.hid hz0; have HZ1 := Lib.hid hz1; have HZ2 := Lib.hid hz2
  have HI2 := Lib.hid hi2; have HY0 := Lib.hid hy0; have HY1 := Lib.hid hy1; have HY2 := Lib.hid hy2
  have HN := Lib.hid hn; have HI := Lib.hid hi; have HX := Lib.hid hx; have HXL := Lib.hid hxl
  have H0 : Hid (PC w x (.slice none 0 0) (.slice none 0 0) (.int .i64 0) w) := Lib.hid ⟨0, Nat.zero_le _, Nat.zero_le _, rfl, World.ownsRow_nil _ _ _ _, World.ownsRow_nil _ _ _ _, Below.refl _ _⟩
  clear hi1 hz0 hz1 hz2 hi2 hy0 hy1 hy2 hn hi hx hxl
  go_enter Tryd.func9, Tryd.ntmps9
  go_wp2_with fail
  go_loopw [4, 5, 6] (fun a b i wr => PC w x a b i wr) (fun _ _ i _ => n - (intOf i).toNat)
  case atStart => exact H0.out
  case round =>
    obtain ⟨k, hk, hk70, rfl, ha, hb, hbel⟩ := hrel
    have hkn1 : k ≤ n := by have := HXL.out; omega
    have HA := Lib.hid ha; have HB := Lib.hid hb; have HW := Lib.hid hbel
    clear ha hb hbel H0
    by_cases hlt : k < n
    · by_cases h70 : k < 70
      · obtain ⟨p, hp⟩ : ∃ p, l[k]? = some p := ⟨_, List.getElem?_eq_getElem (by rw [HN.out]; exact hlt)⟩
        obtain ⟨b0, i0, hob, c0, c1⟩ := HI.out k p hp
        subst hob
        have hlt0 : b0 < w.heap.size := World.block_lt_of_cell? w _ c0
        have d0 := (HW.out.cell (p := ⟨b0, i0 + k * 2, none⟩) hlt0).trans c0
        have d1 := (HW.out.cell (p := ⟨b0, i0 + k * 2 + 1, none⟩) hlt0).trans c1
        have HP0 : Hid (x[k]? = some (cutC p)) := Lib.hid (by
          rw [← HX.out]
          unfold chgL
          rw [List.getElem?_map, List.getElem?_take_of_lt h70, hp]; rfl)
        obtain ⟨ci, p2⟩ := p
        have HC0 := Lib.hid c0; have HC1 := Lib.hid c1
        clear hp c0 c1
        simp only at d0 d1 HC0 HC1
        have hki : (k : Int) < n := by omega
        have hk7i : (k : Int) < 70 := by omega
        have hkx : k < x.length := by have := HXL.out; omega
        obtain ⟨D, hD⟩ : ∃ D, cutC (ci, p2) = (ci, D) := ⟨_, rfl⟩
        rw [hD] at HP0
        have HP := HP0
        unfold cutC at hD
        rcases (show 600 < p2.size ∧ p2.extract 0 513 = D ∨ ¬ 600 < p2.size ∧ p2 = D by
          injection hD with _ hD
          by_cases h : 600 < p2.size
          · rw [if_pos h] at hD; exact .inl ⟨h, hD⟩
          · rw [if_neg h] at hD; exact .inr ⟨h, hD⟩) with ⟨hbig, hDe⟩ | ⟨hbig, hDe⟩
        all_goals clear hD
        · have hbi : (600 : Int) < p2.size := by omega
          have hbi2 : (513 : Int) ≤ p2.size := by omega
          obtain ⟨ao, am, ac, hav⟩ : ∃ ao am ac, u4 = .slice ao am ac := by
            rcases HA.out.2 with ⟨h, _⟩ | ⟨_, _, _, h, _⟩
            · exact ⟨_, _, _, h⟩
            · exact ⟨_, _, _, h⟩
          subst hav
          obtain ⟨bo, bm, bc, hbv⟩ : ∃ bo bm bc, u5 = .slice bo bm bc := by
            rcases HB.out.2 with ⟨h, _⟩ | ⟨_, _, _, h, _⟩
            · exact ⟨_, _, _, h⟩
            · exact ⟨_, _, _, h⟩
          subst hbv
          have HMX : Hid (k + 1 ≤ maxLen) := Lib.hid (by unfold maxLen; omega)
          have HBY : Hid ((k + 1) * 24 ≤ 140737488355328) := Lib.hid (by omega)
          have HAd := Lib.hid (show (wr.drew).ownsRow w.heap.size 55 2 (.slice ao am ac) k (flatI (x.take k)) from HA.out)
          have HBd := Lib.hid (show (wr.drew).ownsRow w.heap.size 57 2 (.slice bo bm bc) k (flatI (x.take k)) from HB.out)
          have HWd : Hid (Below w.heap.size w wr.drew) := Lib.hid HW.out.drew
          have HSV : Hid (∀ V, Below w.heap.size w V → ((fun w' : World => w'.cell? ⟨b0, i0 + k * 2, none⟩ = some (.int .i64 ci))) V) := Lib.hid (fun V hV => (hV.cell (p := ⟨b0, i0 + k * 2, none⟩) hlt0).trans HC0.out)
          have HS1 : Hid (((fun w' : World => w'.cell? ⟨b0, i0 + k * 2, none⟩ = some (.int .i64 ci))) wr.drew) := Lib.hid (HSV.out _ HWd.out)
          have HEND : Hid (∀ gA cA gB cB (W : World), W.ownsRow w.heap.size 55 2 (.slice (some ⟨gA, 0, none⟩) (k + 1) cA) (k + 1) (flatI (x.take k) ++ [Value.int .i64 ci, Value.string D]) → W.ownsRow w.heap.size 57 2 (.slice (some ⟨gB, 0, none⟩) (k + 1) cB) (k + 1) (flatI (x.take k) ++ [Value.int .i64 ci, Value.string D]) → Below w.heap.size w W → PC w x (.slice (some ⟨gA, 0, none⟩) (k + 1) cA) (.slice (some ⟨gB, 0, none⟩) (k + 1) cB) (.int .i64 ((k : Int) + 1)) W) := Lib.hid (fun gA cA gB cB W h1 h2 h3 =>
            ⟨k + 1, by omega, by omega, by rw [Int.natCast_succ], by rw [flatI_take x k _ HP.out]; exact h1, by rw [flatI_take x k _ HP.out]; exact h2, h3⟩)
          go_wp2_with (fail)
          refine wp_region_held_drew (S := (fun w' : World => w'.cell? ⟨b0, i0 + k * 2, none⟩ = some (.int .i64 ci))) (by kernel_rfl) HS1.out (fun hHeld => ?_)
          refine wpAnyH_take (i := 0) (v := ?_) rfl (by kernel_rfl) (by kernel_rfl) (by kernel_rfl) (fun _ _ _ h => h) (Or.inl ⟨by kernel_rfl, ?_⟩) HS1.out ?_
          rotate_left
          · intro wq hSw; (try dsimp only at hSw); go_simp; try with_reducible rfl
          try simp only [Act.put, List.setIfInBounds_toArray, List.set_cons_zero, List.set_cons_succ]
          refine wpAnyH_take (i := 1) (v := ?_) rfl (by kernel_rfl) (by kernel_rfl) (by kernel_rfl) (fun _ _ _ h => h) (Or.inl ⟨by kernel_rfl, ?_⟩) HS1.out ?_
          rotate_left
          · intro wq hSw; (try dsimp only at hSw); go_simp; try with_reducible rfl
          try simp only [Act.put, List.setIfInBounds_toArray, List.set_cons_zero, List.set_cons_succ]
          refine wpAnyH_take (i := 2) (v := ?_) rfl (by kernel_rfl) (by kernel_rfl) (by kernel_rfl) (fun _ _ _ h => h) (Or.inl ⟨by kernel_rfl, ?_⟩) HS1.out ?_
          rotate_left
          · intro wq hSw; (try dsimp only at hSw); go_simp; try with_reducible rfl
          try simp only [Act.put, List.setIfInBounds_toArray, List.set_cons_zero, List.set_cons_succ]
          refine wpAnyH_take (i := 3) (v := ?_) rfl (by kernel_rfl) (by kernel_rfl) (by kernel_rfl) (fun _ _ _ h => h) (Or.inl ⟨by kernel_rfl, ?_⟩) HS1.out ?_
          rotate_left
          · intro wq hSw; (try dsimp only at hSw); go_simp; try with_reducible rfl
          try simp only [Act.put, List.setIfInBounds_toArray, List.set_cons_zero, List.set_cons_succ]
          refine wpAnyH_take (i := 4) (v := ?_) rfl (by kernel_rfl) (by kernel_rfl) (by kernel_rfl) (fun _ _ _ h => h) (Or.inl ⟨by kernel_rfl, ?_⟩) HS1.out ?_
          rotate_left
          · intro wq hSw; (try dsimp only at hSw); go_simp; try with_reducible rfl
          try simp only [Act.put, List.setIfInBounds_toArray, List.set_cons_zero, List.set_cons_succ]
          refine wpAnyH_take (i := 5) (v := ?_) rfl (by kernel_rfl) (by kernel_rfl) (by kernel_rfl) (fun _ _ _ h => h) (Or.inl ⟨by kernel_rfl, ?_⟩) HS1.out ?_
          rotate_left
          · intro wq hSw; (try dsimp only at hSw); go_simp; try with_reducible rfl
          try simp only [Act.put, List.setIfInBounds_toArray, List.set_cons_zero, List.set_cons_succ]
          refine wpAnyH_take (i := 6) (v := ?_) rfl (by kernel_rfl) (by kernel_rfl) (by kernel_rfl) (fun _ _ _ h => h) (Or.inl ⟨by kernel_rfl, ?_⟩) HS1.out ?_
          rotate_left
          · intro wq hSw; (try dsimp only at hSw); go_simp; try with_reducible rfl
          try simp only [Act.put, List.setIfInBounds_toArray, List.set_cons_zero, List.set_cons_succ]
          refine wpAnyH_take (i := 7) (v := ?_) rfl (by kernel_rfl) (by kernel_rfl) (by kernel_rfl) (fun _ _ _ h => h) (Or.inl ⟨by kernel_rfl, ?_⟩) HS1.out ?_
          rotate_left
          · intro wq hSw; (try dsimp only at hSw); go_simp; try with_reducible rfl
          try simp only [Act.put, List.setIfInBounds_toArray, List.set_cons_zero, List.set_cons_succ]
          refine wpAnyH_take (i := 10) (v := ?_) rfl (by kernel_rfl) (by kernel_rfl) (by kernel_rfl) (fun _ _ _ h => h) (Or.inl ⟨by kernel_rfl, ?_⟩) HS1.out ?_
          rotate_left
          · intro wq hSw; (try dsimp only at hSw); go_simp; try with_reducible rfl
          try simp only [Act.put, List.setIfInBounds_toArray, List.set_cons_zero, List.set_cons_succ]
          refine wpAnyH_take (i := 11) (v := ?_) rfl (by kernel_rfl) (by kernel_rfl) (by kernel_rfl) (fun _ _ _ h => h) (Or.inl ⟨by kernel_rfl, ?_⟩) HS1.out ?_
          rotate_left
          · intro wq hSw; (try dsimp only at hSw); go_simp; try with_reducible rfl
          try simp only [Act.put, List.setIfInBounds_toArray, List.set_cons_zero, List.set_cons_succ]
          refine wpAnyH_take (i := 12) (v := ?_) rfl (by kernel_rfl) (by kernel_rfl) (by kernel_rfl) (fun _ _ _ h => h) (Or.inl ⟨by kernel_rfl, ?_⟩) HS1.out ?_
          rotate_left
          · intro wq hSw; (try dsimp only at hSw); go_simp; try with_reducible rfl
          try simp only [Act.put, List.setIfInBounds_toArray, List.set_cons_zero, List.set_cons_succ]
          refine wpAnyH_take (i := 13) (v := ?_) rfl (by kernel_rfl) (by kernel_rfl) (by kernel_rfl) (fun _ _ _ h => h) (Or.inl ⟨by kernel_rfl, ?_⟩) HS1.out ?_
          rotate_left
          · intro wq hSw; (try dsimp only at hSw); go_simp; try with_reducible rfl
          try simp only [Act.put, List.setIfInBounds_toArray, List.set_cons_zero, List.set_cons_succ]
          refine wpAnyH_take (i := 14) (v := ?_) rfl (by kernel_rfl) (by kernel_rfl) (by kernel_rfl) (fun _ _ _ h => h) (Or.inl ⟨by kernel_rfl, ?_⟩) HS1.out ?_
          rotate_left
          · intro wq hSw; (try dsimp only at hSw); go_simp; try with_reducible rfl
          try simp only [Act.put, List.setIfInBounds_toArray, List.set_cons_zero, List.set_cons_succ]
          refine wpAnyH_take (i := 15) (v := ?_) rfl (by kernel_rfl) (by kernel_rfl) (by kernel_rfl) (fun _ _ _ h => h) (Or.inl ⟨by kernel_rfl, ?_⟩) HS1.out ?_
          rotate_left
          · intro wq hSw; (try dsimp only at hSw); go_simp; try with_reducible rfl
          try simp only [Act.put, List.setIfInBounds_toArray, List.set_cons_zero, List.set_cons_succ]
          refine wpAnyH_take (i := 16) (v := ?_) rfl (by kernel_rfl) (by kernel_rfl) (by kernel_rfl) (fun _ _ _ h => h) (Or.inl ⟨by kernel_rfl, ?_⟩) HS1.out ?_
          rotate_left
          · intro wq hSw; (try dsimp only at hSw); go_simp; try with_reducible rfl
          try simp only [Act.put, List.setIfInBounds_toArray, List.set_cons_zero, List.set_cons_succ]
          refine wpAnyH_take (i := 17) (v := ?_) rfl (by kernel_rfl) (by kernel_rfl) (by kernel_rfl) (fun _ _ _ h => h) (Or.inl ⟨by kernel_rfl, ?_⟩) HS1.out ?_
          rotate_left
          · intro wq hSw; (try dsimp only at hSw); go_simp; try with_reducible rfl
          try simp only [Act.put, List.setIfInBounds_toArray, List.set_cons_zero, List.set_cons_succ]
          refine wpAnyH_ready (rs := [8, 18]) (by kernel_rfl) (by simp) ?_
          refine AllReadyH.cons (o := _) rfl (fun K hK => ?_) (AllReadyH.cons (o := _) rfl (fun K hK => ?_) AllReadyH.nil)
          · go_simp
            refine hK.out _ _ ?_ (fun hHeld => ?_)
            · exact HSV.out _ (HW.out.alloc HW.out.size _).drew
            have hV1 : Below w.heap.size w ((wr.alloc (.cells #[.int .i64 ci, .string D] 55)).drew) := (HW.out.alloc HW.out.size _).drew
            have hn1 : ((wr.alloc (.cells #[.int .i64 ci, .string D] 55)).drew).heap[(wr.drew).heap.size]? = _ := heap_alloc_new wr (.cells #[.int .i64 ci, .string D] 55)
            have ho1 := own_below HA.out (show Below wr.heap.size wr ((wr.alloc (.cells #[.int .i64 ci, .string D] 55)).drew) from ((Below.refl _ wr).alloc (Nat.le_refl _) _).drew)
            have hq1 := own_below HB.out (show Below wr.heap.size wr ((wr.alloc (.cells #[.int .i64 ci, .string D] 55)).drew) from ((Below.refl _ wr).alloc (Nat.le_refl _) _).drew)
            have hl1 : (wr.drew).heap.size < ((wr.alloc (.cells #[.int .i64 ci, .string D] 55)).drew).heap.size := by simp
            generalize ((wr.alloc (.cells #[.int .i64 ci, .string D] 55)).drew) = V1 at hV1 hn1 ho1 hq1 hl1 ⊢
            refine wpAnyH_ready (rs := [9, 18]) (by kernel_rfl) (by simp) ?_
            refine AllReadyH.cons (o := _) rfl (fun K hK => ?_) (AllReadyH.cons (o := _) rfl (fun K hK => ?_) AllReadyH.nil)
            · refine step_append_lies _ rfl (.tmp 28) (.tmp 36) 42 rfl w.heap.size 55 i1 _ 2 24 Tryd.underlying42 HI1.out HZ0.out HZ1.out HZ2.out rfl (by decide) (.slice ao am ac) k (flatI (x.take k)) (by simp [Act.eval, Act.put]) ho1 ⟨(wr.drew).heap.size, 0, none⟩ 1 1 [Value.int .i64 ci, Value.string D] (by simp [Act.eval, Act.put]) rfl (World.news_of_block hn1) chg_mem (by decide) HMX.out HBY.out (hV1.size) V1.heap.size rfl ?_; intro gA cA w3 hown hgrow hat hlt
              have hB3 : w3.ownsRow w.heap.size 57 2 (.slice bo bm bc) k (flatI (x.take k)) := hq1.kept hgrow (row_apart hq1 ho1 (by decide))
              have hb3 : Below w.heap.size w w3 := hV1.grown hgrow hV1.size (own_bs ho1)
              have hA3 := hown
              clear hown hgrow hat hlt
              refine hK.out _ _ ?_ (fun hHeld => ?_)
              · exact HSV.out _ hb3
              refine wpAnyH_ready (rs := [18]) (by kernel_rfl) (by simp) ?_
              refine AllReadyH.cons (o := _) rfl (fun K hK => ?_) AllReadyH.nil
              go_simp
              refine hK.out _ _ ?_ (fun hHeld => ?_)
              · exact HSV.out _ (hb3.alloc hb3.size _)
              have hV4 : Below w.heap.size w (w3.alloc (.cells #[.int .i64 ci, .string D] 57)) := hb3.alloc hb3.size _
              have hn4 := heap_alloc_new w3 (.cells #[.int .i64 ci, .string D] 57)
              have hA3b := hA3.alloc (.cells #[.int .i64 ci, .string D] 57)
              have hB3b := hB3.alloc (.cells #[.int .i64 ci, .string D] 57)
              generalize w3.alloc (.cells #[.int .i64 ci, .string D] 57) = V4 at hV4 hn4 hA3b hB3b ⊢
              refine wpAnyH_ready (rs := [19]) (by kernel_rfl) (by simp) ?_
              refine AllReadyH.cons (o := _) rfl (fun K hK => ?_) AllReadyH.nil
              refine step_append_lies _ rfl (.tmp 38) (.tmp 46) 43 rfl w.heap.size 57 i2 _ 2 24 Tryd.underlying43 HI2.out HY0.out HY1.out HY2.out rfl (by decide) (.slice bo bm bc) k (flatI (x.take k)) (by simp [Act.eval, Act.put]) hB3b ⟨w3.heap.size, 0, none⟩ 1 1 [Value.int .i64 ci, Value.string D] (by simp [Act.eval, Act.put]) rfl (World.news_of_block hn4) chg_mem (by decide) HMX.out HBY.out (hV4.size) V4.heap.size rfl ?_; intro gB cB w4 hown hgrow hat hlt
              have hA4 : w4.ownsRow w.heap.size 55 2 (.slice (some ⟨gA, 0, none⟩) (k + 1) cA) (k + 1) (flatI (x.take k) ++ [Value.int .i64 ci, Value.string D]) := hA3b.kept hgrow (row_apart hA3b hB3b (by decide))
              have hb4 : Below w.heap.size w w4 := hV4.grown hgrow hV4.size (own_bs hB3b)
              have hB4 := hown
              clear hown hgrow hat hlt
              refine hK.out _ _ ?_ (fun hHeld => ?_)
              · exact HSV.out _ hb4
              refine wpAnyH_ready (rs := [20]) (by kernel_rfl) (by simp) ?_
              refine AllReadyH.cons (o := _) rfl (fun K hK => ?_) AllReadyH.nil
              go_simp
              refine hK.out _ _ ?_ (fun hHeld => ?_)
              · exact HSV.out _ hb4
              refine wpAnyH_ready (rs := [21]) (by kernel_rfl) (by simp) ?_
              refine AllReadyH.cons (o := _) rfl (fun K hK => ?_) AllReadyH.nil
              go_simp
              refine hK.out _ _ ?_ (fun hHeld => ?_)
              · exact HSV.out _ hb4
              refine wpAnyH_done (by kernel_rfl) ?_ _
              have HN4 := Lib.hid (HEND.out gA cA gB cB w4 hA4 hB4 hb4)
              clear hA4 hB4 hb4 hHeld
              go_wp2_with fail
              first | exact ⟨HN4.out, by simp [intOf]; omega⟩ | (go_roundw; case rel => exact HN4.out; case measure => simp [intOf]; omega)
            · go_simp
              refine hK.out _ _ ?_ (fun hHeld => ?_)
              · exact HSV.out _ (hV1.alloc hV1.size _)
              have hV2 : Below w.heap.size w (V1.alloc (.cells #[.int .i64 ci, .string D] 57)) := hV1.alloc hV1.size _
              have hn2 := heap_alloc_new V1 (.cells #[.int .i64 ci, .string D] 57)
              have ho2 := ho1.alloc (.cells #[.int .i64 ci, .string D] 57)
              have hq2 := hq1.alloc (.cells #[.int .i64 ci, .string D] 57)
              have hn12 := (Lib.alloc_old V1 (.cells #[.int .i64 ci, .string D] 57) _ hl1).trans hn1
              have hl2 : V1.heap.size < (V1.alloc (.cells #[.int .i64 ci, .string D] 57)).heap.size := by simp
              have hl12 : (wr.drew).heap.size < (V1.alloc (.cells #[.int .i64 ci, .string D] 57)).heap.size := Nat.lt_trans hl1 hl2
              generalize V1.alloc (.cells #[.int .i64 ci, .string D] 57) = V2 at hV2 hn2 ho2 hq2 hn12 hl2 hl12 ⊢
              refine wpAnyH_ready (rs := [9]) (by kernel_rfl) (by simp) ?_
              refine AllReadyH.cons (o := _) rfl (fun K hK => ?_) AllReadyH.nil
              refine step_append_lies _ rfl (.tmp 28) (.tmp 36) 42 rfl w.heap.size 55 i1 _ 2 24 Tryd.underlying42 HI1.out HZ0.out HZ1.out HZ2.out rfl (by decide) (.slice ao am ac) k (flatI (x.take k)) (by simp [Act.eval, Act.put]) ho2 ⟨(wr.drew).heap.size, 0, none⟩ 1 1 [Value.int .i64 ci, Value.string D] (by simp [Act.eval, Act.put]) rfl (World.news_of_block hn12) chg_mem (by decide) HMX.out HBY.out (hV2.size) V2.heap.size rfl ?_; intro gA cA w3 hown hgrow hat hlt
              have hB3 : w3.ownsRow w.heap.size 57 2 (.slice bo bm bc) k (flatI (x.take k)) := hq2.kept hgrow (row_apart hq2 ho2 (by decide))
              have hb3 : Below w.heap.size w w3 := hV2.grown hgrow hV2.size (own_bs ho2)
              have hA3 := hown
              have hn3 := (hgrow.block V1.heap.size (by omega) (fun e => by have := (HAd.out.lt _ e.symm).2; have hsd : (wr.drew).heap.size = wr.heap.size := rfl; omega)).trans hn2
              clear hown hgrow hat hlt
              refine hK.out _ _ ?_ (fun hHeld => ?_)
              · exact HSV.out _ hb3
              refine wpAnyH_ready (rs := [19]) (by kernel_rfl) (by simp) ?_
              refine AllReadyH.cons (o := _) rfl (fun K hK => ?_) AllReadyH.nil
              refine step_append_lies _ rfl (.tmp 38) (.tmp 46) 43 rfl w.heap.size 57 i2 _ 2 24 Tryd.underlying43 HI2.out HY0.out HY1.out HY2.out rfl (by decide) (.slice bo bm bc) k (flatI (x.take k)) (by simp [Act.eval, Act.put]) hB3 ⟨V1.heap.size, 0, none⟩ 1 1 [Value.int .i64 ci, Value.string D] (by simp [Act.eval, Act.put]) rfl (World.news_of_block hn3) chg_mem (by decide) HMX.out HBY.out (hb3.size) w3.heap.size rfl ?_; intro gB cB w4 hown hgrow hat hlt
              have hA4 : w4.ownsRow w.heap.size 55 2 (.slice (some ⟨gA, 0, none⟩) (k + 1) cA) (k + 1) (flatI (x.take k) ++ [Value.int .i64 ci, Value.string D]) := hA3.kept hgrow (row_apart hA3 hB3 (by decide))
              have hb4 : Below w.heap.size w w4 := hb3.grown hgrow hb3.size (own_bs hB3)
              have hB4 := hown
              clear hown hgrow hat hlt
              refine hK.out _ _ ?_ (fun hHeld => ?_)
              · exact HSV.out _ hb4
              refine wpAnyH_ready (rs := [20]) (by kernel_rfl) (by simp) ?_
              refine AllReadyH.cons (o := _) rfl (fun K hK => ?_) AllReadyH.nil
              go_simp
              refine hK.out _ _ ?_ (fun hHeld => ?_)
              · exact HSV.out _ hb4
              refine wpAnyH_ready (rs := [21]) (by kernel_rfl) (by simp) ?_
              refine AllReadyH.cons (o := _) rfl (fun K hK => ?_) AllReadyH.nil
              go_simp
              refine hK.out _ _ ?_ (fun hHeld => ?_)
              · exact HSV.out _ hb4
              refine wpAnyH_done (by kernel_rfl) ?_ _
              have HN4 := Lib.hid (HEND.out gA cA gB cB w4 hA4 hB4 hb4)
              clear hA4 hB4 hb4 hHeld
              go_wp2_with fail
              first | exact ⟨HN4.out, by simp [intOf]; omega⟩ | (go_roundw; case rel => exact HN4.out; case measure => simp [intOf]; omega)
          · go_simp
            refine hK.out _ _ ?_ (fun hHeld => ?_)
            · exact HSV.out _ (HW.out.alloc HW.out.size _).drew
            have hV1 : Below w.heap.size w ((wr.alloc (.cells #[.int .i64 ci, .string D] 57)).drew) := (HW.out.alloc HW.out.size _).drew
            have hn1 : ((wr.alloc (.cells #[.int .i64 ci, .string D] 57)).drew).heap[(wr.drew).heap.size]? = _ := heap_alloc_new wr (.cells #[.int .i64 ci, .string D] 57)
            have ho1 := own_below HA.out (show Below wr.heap.size wr ((wr.alloc (.cells #[.int .i64 ci, .string D] 57)).drew) from ((Below.refl _ wr).alloc (Nat.le_refl _) _).drew)
            have hq1 := own_below HB.out (show Below wr.heap.size wr ((wr.alloc (.cells #[.int .i64 ci, .string D] 57)).drew) from ((Below.refl _ wr).alloc (Nat.le_refl _) _).drew)
            have hl1 : (wr.drew).heap.size < ((wr.alloc (.cells #[.int .i64 ci, .string D] 57)).drew).heap.size := by simp
            generalize ((wr.alloc (.cells #[.int .i64 ci, .string D] 57)).drew) = V1 at hV1 hn1 ho1 hq1 hl1 ⊢
            refine wpAnyH_ready (rs := [8]) (by kernel_rfl) (by simp) ?_
            refine AllReadyH.cons (o := _) rfl (fun K hK => ?_) AllReadyH.nil
            go_simp
            refine hK.out _ _ ?_ (fun hHeld => ?_)
            · exact HSV.out _ (hV1.alloc hV1.size _)
            have hV2 : Below w.heap.size w (V1.alloc (.cells #[.int .i64 ci, .string D] 55)) := hV1.alloc hV1.size _
            have hn2 := heap_alloc_new V1 (.cells #[.int .i64 ci, .string D] 55)
            have ho2 := ho1.alloc (.cells #[.int .i64 ci, .string D] 55)
            have hq2 := hq1.alloc (.cells #[.int .i64 ci, .string D] 55)
            have hn12 := (Lib.alloc_old V1 (.cells #[.int .i64 ci, .string D] 55) _ hl1).trans hn1
            have hl2 : V1.heap.size < (V1.alloc (.cells #[.int .i64 ci, .string D] 55)).heap.size := by simp
            have hl12 : (wr.drew).heap.size < (V1.alloc (.cells #[.int .i64 ci, .string D] 55)).heap.size := Nat.lt_trans hl1 hl2
            generalize V1.alloc (.cells #[.int .i64 ci, .string D] 55) = V2 at hV2 hn2 ho2 hq2 hn12 hl2 hl12 ⊢
            refine wpAnyH_ready (rs := [9]) (by kernel_rfl) (by simp) ?_
            refine AllReadyH.cons (o := _) rfl (fun K hK => ?_) AllReadyH.nil
            refine step_append_lies _ rfl (.tmp 28) (.tmp 36) 42 rfl w.heap.size 55 i1 _ 2 24 Tryd.underlying42 HI1.out HZ0.out HZ1.out HZ2.out rfl (by decide) (.slice ao am ac) k (flatI (x.take k)) (by simp [Act.eval, Act.put]) ho2 ⟨V1.heap.size, 0, none⟩ 1 1 [Value.int .i64 ci, Value.string D] (by simp [Act.eval, Act.put]) rfl (World.news_of_block hn2) chg_mem (by decide) HMX.out HBY.out (hV2.size) V2.heap.size rfl ?_; intro gA cA w3 hown hgrow hat hlt
            have hB3 : w3.ownsRow w.heap.size 57 2 (.slice bo bm bc) k (flatI (x.take k)) := hq2.kept hgrow (row_apart hq2 ho2 (by decide))
            have hb3 : Below w.heap.size w w3 := hV2.grown hgrow hV2.size (own_bs ho2)
            have hA3 := hown
            have hn3 := (hgrow.block (wr.drew).heap.size (by omega) (fun e => by have := (HAd.out.lt _ e.symm).2; have hsd : (wr.drew).heap.size = wr.heap.size := rfl; omega)).trans hn12
            clear hown hgrow hat hlt
            refine hK.out _ _ ?_ (fun hHeld => ?_)
            · exact HSV.out _ hb3
            refine wpAnyH_ready (rs := [19]) (by kernel_rfl) (by simp) ?_
            refine AllReadyH.cons (o := _) rfl (fun K hK => ?_) AllReadyH.nil
            refine step_append_lies _ rfl (.tmp 38) (.tmp 46) 43 rfl w.heap.size 57 i2 _ 2 24 Tryd.underlying43 HI2.out HY0.out HY1.out HY2.out rfl (by decide) (.slice bo bm bc) k (flatI (x.take k)) (by simp [Act.eval, Act.put]) hB3 ⟨(wr.drew).heap.size, 0, none⟩ 1 1 [Value.int .i64 ci, Value.string D] (by simp [Act.eval, Act.put]) rfl (World.news_of_block hn3) chg_mem (by decide) HMX.out HBY.out (hb3.size) w3.heap.size rfl ?_; intro gB cB w4 hown hgrow hat hlt
            have hA4 : w4.ownsRow w.heap.size 55 2 (.slice (some ⟨gA, 0, none⟩) (k + 1) cA) (k + 1) (flatI (x.take k) ++ [Value.int .i64 ci, Value.string D]) := hA3.kept hgrow (row_apart hA3 hB3 (by decide))
            have hb4 : Below w.heap.size w w4 := hb3.grown hgrow hb3.size (own_bs hB3)
            have hB4 := hown
            clear hown hgrow hat hlt
            refine hK.out _ _ ?_ (fun hHeld => ?_)
            · exact HSV.out _ hb4
            refine wpAnyH_ready (rs := [20]) (by kernel_rfl) (by simp) ?_
            refine AllReadyH.cons (o := _) rfl (fun K hK => ?_) AllReadyH.nil
            go_simp
            refine hK.out _ _ ?_ (fun hHeld => ?_)
            · exact HSV.out _ hb4
            refine wpAnyH_ready (rs := [21]) (by kernel_rfl) (by simp) ?_
            refine AllReadyH.cons (o := _) rfl (fun K hK => ?_) AllReadyH.nil
            go_simp
            refine hK.out _ _ ?_ (fun hHeld => ?_)
            · exact HSV.out _ hb4
            refine wpAnyH_done (by kernel_rfl) ?_ _
            have HN4 := Lib.hid (HEND.out gA cA gB cB w4 hA4 hB4 hb4)
            clear hA4 hB4 hb4 hHeld
            go_wp2_with fail
            first | exact ⟨HN4.out, by simp [intOf]; omega⟩ | (go_roundw; case rel => exact HN4.out; case measure => simp [intOf]; omega)
        · have hbi : ¬ (600 : Int) < p2.size := by omega
          subst hDe
          obtain ⟨ao, am, ac, hav⟩ : ∃ ao am ac, u4 = .slice ao am ac := by
            rcases HA.out.2 with ⟨h, _⟩ | ⟨_, _, _, h, _⟩
            · exact ⟨_, _, _, h⟩
            · exact ⟨_, _, _, h⟩
          subst hav
          obtain ⟨bo, bm, bc, hbv⟩ : ∃ bo bm bc, u5 = .slice bo bm bc := by
            rcases HB.out.2 with ⟨h, _⟩ | ⟨_, _, _, h, _⟩
            · exact ⟨_, _, _, h⟩
            · exact ⟨_, _, _, h⟩
          subst hbv
          have HMX : Hid (k + 1 ≤ maxLen) := Lib.hid (by unfold maxLen; omega)
          have HBY : Hid ((k + 1) * 24 ≤ 140737488355328) := Lib.hid (by omega)
          have HAd := Lib.hid (show (wr.drew).ownsRow w.heap.size 55 2 (.slice ao am ac) k (flatI (x.take k)) from HA.out)
          have HBd := Lib.hid (show (wr.drew).ownsRow w.heap.size 57 2 (.slice bo bm bc) k (flatI (x.take k)) from HB.out)
          have HWd : Hid (Below w.heap.size w wr.drew) := Lib.hid HW.out.drew
          have HSV : Hid (∀ V, Below w.heap.size w V → ((fun w' : World => w'.cell? ⟨b0, i0 + k * 2, none⟩ = some (.int .i64 ci))) V) := Lib.hid (fun V hV => (hV.cell (p := ⟨b0, i0 + k * 2, none⟩) hlt0).trans HC0.out)
          have HS1 : Hid (((fun w' : World => w'.cell? ⟨b0, i0 + k * 2, none⟩ = some (.int .i64 ci))) wr.drew) := Lib.hid (HSV.out _ HWd.out)
          have HEND : Hid (∀ gA cA gB cB (W : World), W.ownsRow w.heap.size 55 2 (.slice (some ⟨gA, 0, none⟩) (k + 1) cA) (k + 1) (flatI (x.take k) ++ [Value.int .i64 ci, Value.string p2]) → W.ownsRow w.heap.size 57 2 (.slice (some ⟨gB, 0, none⟩) (k + 1) cB) (k + 1) (flatI (x.take k) ++ [Value.int .i64 ci, Value.string p2]) → Below w.heap.size w W → PC w x (.slice (some ⟨gA, 0, none⟩) (k + 1) cA) (.slice (some ⟨gB, 0, none⟩) (k + 1) cB) (.int .i64 ((k : Int) + 1)) W) := Lib.hid (fun gA cA gB cB W h1 h2 h3 =>
            ⟨k + 1, by omega, by omega, by rw [Int.natCast_succ], by rw [flatI_take x k _ HP.out]; exact h1, by rw [flatI_take x k _ HP.out]; exact h2, h3⟩)
          go_wp2_with fail
          refine wp_region_held_drew (S := (fun w' : World => w'.cell? ⟨b0, i0 + k * 2, none⟩ = some (.int .i64 ci))) (by kernel_rfl) HS1.out (fun hHeld => ?_)
          refine wpAnyH_take (i := 0) (v := ?_) rfl (by kernel_rfl) (by kernel_rfl) (by kernel_rfl) (fun _ _ _ h => h) (Or.inl ⟨by kernel_rfl, ?_⟩) HS1.out ?_
          rotate_left
          · intro wq hSw; (try dsimp only at hSw); go_simp; try with_reducible rfl
          try simp only [Act.put, List.setIfInBounds_toArray, List.set_cons_zero, List.set_cons_succ]
          refine wpAnyH_take (i := 1) (v := ?_) rfl (by kernel_rfl) (by kernel_rfl) (by kernel_rfl) (fun _ _ _ h => h) (Or.inl ⟨by kernel_rfl, ?_⟩) HS1.out ?_
          rotate_left
          · intro wq hSw; (try dsimp only at hSw); go_simp; try with_reducible rfl
          try simp only [Act.put, List.setIfInBounds_toArray, List.set_cons_zero, List.set_cons_succ]
          refine wpAnyH_take (i := 2) (v := ?_) rfl (by kernel_rfl) (by kernel_rfl) (by kernel_rfl) (fun _ _ _ h => h) (Or.inl ⟨by kernel_rfl, ?_⟩) HS1.out ?_
          rotate_left
          · intro wq hSw; (try dsimp only at hSw); go_simp; try with_reducible rfl
          try simp only [Act.put, List.setIfInBounds_toArray, List.set_cons_zero, List.set_cons_succ]
          refine wpAnyH_take (i := 3) (v := ?_) rfl (by kernel_rfl) (by kernel_rfl) (by kernel_rfl) (fun _ _ _ h => h) (Or.inl ⟨by kernel_rfl, ?_⟩) HS1.out ?_
          rotate_left
          · intro wq hSw; (try dsimp only at hSw); go_simp; try with_reducible rfl
          try simp only [Act.put, List.setIfInBounds_toArray, List.set_cons_zero, List.set_cons_succ]
          refine wpAnyH_take (i := 4) (v := ?_) rfl (by kernel_rfl) (by kernel_rfl) (by kernel_rfl) (fun _ _ _ h => h) (Or.inl ⟨by kernel_rfl, ?_⟩) HS1.out ?_
          rotate_left
          · intro wq hSw; (try dsimp only at hSw); go_simp; try with_reducible rfl
          try simp only [Act.put, List.setIfInBounds_toArray, List.set_cons_zero, List.set_cons_succ]
          refine wpAnyH_take (i := 5) (v := ?_) rfl (by kernel_rfl) (by kernel_rfl) (by kernel_rfl) (fun _ _ _ h => h) (Or.inl ⟨by kernel_rfl, ?_⟩) HS1.out ?_
          rotate_left
          · intro wq hSw; (try dsimp only at hSw); go_simp; try with_reducible rfl
          try simp only [Act.put, List.setIfInBounds_toArray, List.set_cons_zero, List.set_cons_succ]
          refine wpAnyH_take (i := 6) (v := ?_) rfl (by kernel_rfl) (by kernel_rfl) (by kernel_rfl) (fun _ _ _ h => h) (Or.inl ⟨by kernel_rfl, ?_⟩) HS1.out ?_
          rotate_left
          · intro wq hSw; (try dsimp only at hSw); go_simp; try with_reducible rfl
          try simp only [Act.put, List.setIfInBounds_toArray, List.set_cons_zero, List.set_cons_succ]
          refine wpAnyH_take (i := 7) (v := ?_) rfl (by kernel_rfl) (by kernel_rfl) (by kernel_rfl) (fun _ _ _ h => h) (Or.inl ⟨by kernel_rfl, ?_⟩) HS1.out ?_
          rotate_left
          · intro wq hSw; (try dsimp only at hSw); go_simp; try with_reducible rfl
          try simp only [Act.put, List.setIfInBounds_toArray, List.set_cons_zero, List.set_cons_succ]
          refine wpAnyH_take (i := 10) (v := ?_) rfl (by kernel_rfl) (by kernel_rfl) (by kernel_rfl) (fun _ _ _ h => h) (Or.inl ⟨by kernel_rfl, ?_⟩) HS1.out ?_
          rotate_left
          · intro wq hSw; (try dsimp only at hSw); go_simp; try with_reducible rfl
          try simp only [Act.put, List.setIfInBounds_toArray, List.set_cons_zero, List.set_cons_succ]
          refine wpAnyH_take (i := 11) (v := ?_) rfl (by kernel_rfl) (by kernel_rfl) (by kernel_rfl) (fun _ _ _ h => h) (Or.inl ⟨by kernel_rfl, ?_⟩) HS1.out ?_
          rotate_left
          · intro wq hSw; (try dsimp only at hSw); go_simp; try with_reducible rfl
          try simp only [Act.put, List.setIfInBounds_toArray, List.set_cons_zero, List.set_cons_succ]
          refine wpAnyH_take (i := 12) (v := ?_) rfl (by kernel_rfl) (by kernel_rfl) (by kernel_rfl) (fun _ _ _ h => h) (Or.inl ⟨by kernel_rfl, ?_⟩) HS1.out ?_
          rotate_left
          · intro wq hSw; (try dsimp only at hSw); go_simp; try with_reducible rfl
          try simp only [Act.put, List.setIfInBounds_toArray, List.set_cons_zero, List.set_cons_succ]
          refine wpAnyH_take (i := 13) (v := ?_) rfl (by kernel_rfl) (by kernel_rfl) (by kernel_rfl) (fun _ _ _ h => h) (Or.inl ⟨by kernel_rfl, ?_⟩) HS1.out ?_
          rotate_left
          · intro wq hSw; (try dsimp only at hSw); go_simp; try with_reducible rfl
          try simp only [Act.put, List.setIfInBounds_toArray, List.set_cons_zero, List.set_cons_succ]
          refine wpAnyH_take (i := 14) (v := ?_) rfl (by kernel_rfl) (by kernel_rfl) (by kernel_rfl) (fun _ _ _ h => h) (Or.inl ⟨by kernel_rfl, ?_⟩) HS1.out ?_
          rotate_left
          · intro wq hSw; (try dsimp only at hSw); go_simp; try with_reducible rfl
          try simp only [Act.put, List.setIfInBounds_toArray, List.set_cons_zero, List.set_cons_succ]
          refine wpAnyH_take (i := 15) (v := ?_) rfl (by kernel_rfl) (by kernel_rfl) (by kernel_rfl) (fun _ _ _ h => h) (Or.inl ⟨by kernel_rfl, ?_⟩) HS1.out ?_
          rotate_left
          · intro wq hSw; (try dsimp only at hSw); go_simp; try with_reducible rfl
          try simp only [Act.put, List.setIfInBounds_toArray, List.set_cons_zero, List.set_cons_succ]
          refine wpAnyH_take (i := 16) (v := ?_) rfl (by kernel_rfl) (by kernel_rfl) (by kernel_rfl) (fun _ _ _ h => h) (Or.inl ⟨by kernel_rfl, ?_⟩) HS1.out ?_
          rotate_left
          · intro wq hSw; (try dsimp only at hSw); go_simp; try with_reducible rfl
          try simp only [Act.put, List.setIfInBounds_toArray, List.set_cons_zero, List.set_cons_succ]
          refine wpAnyH_take (i := 17) (v := ?_) rfl (by kernel_rfl) (by kernel_rfl) (by kernel_rfl) (fun _ _ _ h => h) (Or.inl ⟨by kernel_rfl, ?_⟩) HS1.out ?_
          rotate_left
          · intro wq hSw; (try dsimp only at hSw); go_simp; try with_reducible rfl
          try simp only [Act.put, List.setIfInBounds_toArray, List.set_cons_zero, List.set_cons_succ]
          refine wpAnyH_ready (rs := [8, 18]) (by kernel_rfl) (by simp) ?_
          refine AllReadyH.cons (o := _) rfl (fun K hK => ?_) (AllReadyH.cons (o := _) rfl (fun K hK => ?_) AllReadyH.nil)
          · go_simp
            refine hK.out _ _ ?_ (fun hHeld => ?_)
            · exact HSV.out _ (HW.out.alloc HW.out.size _).drew
            have hV1 : Below w.heap.size w ((wr.alloc (.cells #[.int .i64 ci, .string p2] 55)).drew) := (HW.out.alloc HW.out.size _).drew
            have hn1 : ((wr.alloc (.cells #[.int .i64 ci, .string p2] 55)).drew).heap[(wr.drew).heap.size]? = _ := heap_alloc_new wr (.cells #[.int .i64 ci, .string p2] 55)
            have ho1 := own_below HA.out (show Below wr.heap.size wr ((wr.alloc (.cells #[.int .i64 ci, .string p2] 55)).drew) from ((Below.refl _ wr).alloc (Nat.le_refl _) _).drew)
            have hq1 := own_below HB.out (show Below wr.heap.size wr ((wr.alloc (.cells #[.int .i64 ci, .string p2] 55)).drew) from ((Below.refl _ wr).alloc (Nat.le_refl _) _).drew)
            have hl1 : (wr.drew).heap.size < ((wr.alloc (.cells #[.int .i64 ci, .string p2] 55)).drew).heap.size := by simp
            generalize ((wr.alloc (.cells #[.int .i64 ci, .string p2] 55)).drew) = V1 at hV1 hn1 ho1 hq1 hl1 ⊢
            refine wpAnyH_ready (rs := [9, 18]) (by kernel_rfl) (by simp) ?_
            refine AllReadyH.cons (o := _) rfl (fun K hK => ?_) (AllReadyH.cons (o := _) rfl (fun K hK => ?_) AllReadyH.nil)
            · refine step_append_lies _ rfl (.tmp 28) (.tmp 36) 42 rfl w.heap.size 55 i1 _ 2 24 Tryd.underlying42 HI1.out HZ0.out HZ1.out HZ2.out rfl (by decide) (.slice ao am ac) k (flatI (x.take k)) (by simp [Act.eval, Act.put]) ho1 ⟨(wr.drew).heap.size, 0, none⟩ 1 1 [Value.int .i64 ci, Value.string p2] (by simp [Act.eval, Act.put]) rfl (World.news_of_block hn1) chg_mem (by decide) HMX.out HBY.out (hV1.size) V1.heap.size rfl ?_; intro gA cA w3 hown hgrow hat hlt
              have hB3 : w3.ownsRow w.heap.size 57 2 (.slice bo bm bc) k (flatI (x.take k)) := hq1.kept hgrow (row_apart hq1 ho1 (by decide))
              have hb3 : Below w.heap.size w w3 := hV1.grown hgrow hV1.size (own_bs ho1)
              have hA3 := hown
              clear hown hgrow hat hlt
              refine hK.out _ _ ?_ (fun hHeld => ?_)
              · exact HSV.out _ hb3
              refine wpAnyH_ready (rs := [18]) (by kernel_rfl) (by simp) ?_
              refine AllReadyH.cons (o := _) rfl (fun K hK => ?_) AllReadyH.nil
              go_simp
              refine hK.out _ _ ?_ (fun hHeld => ?_)
              · exact HSV.out _ (hb3.alloc hb3.size _)
              have hV4 : Below w.heap.size w (w3.alloc (.cells #[.int .i64 ci, .string p2] 57)) := hb3.alloc hb3.size _
              have hn4 := heap_alloc_new w3 (.cells #[.int .i64 ci, .string p2] 57)
              have hA3b := hA3.alloc (.cells #[.int .i64 ci, .string p2] 57)
              have hB3b := hB3.alloc (.cells #[.int .i64 ci, .string p2] 57)
              generalize w3.alloc (.cells #[.int .i64 ci, .string p2] 57) = V4 at hV4 hn4 hA3b hB3b ⊢
              refine wpAnyH_ready (rs := [19]) (by kernel_rfl) (by simp) ?_
              refine AllReadyH.cons (o := _) rfl (fun K hK => ?_) AllReadyH.nil
              refine step_append_lies _ rfl (.tmp 38) (.tmp 46) 43 rfl w.heap.size 57 i2 _ 2 24 Tryd.underlying43 HI2.out HY0.out HY1.out HY2.out rfl (by decide) (.slice bo bm bc) k (flatI (x.take k)) (by simp [Act.eval, Act.put]) hB3b ⟨w3.heap.size, 0, none⟩ 1 1 [Value.int .i64 ci, Value.string p2] (by simp [Act.eval, Act.put]) rfl (World.news_of_block hn4) chg_mem (by decide) HMX.out HBY.out (hV4.size) V4.heap.size rfl ?_; intro gB cB w4 hown hgrow hat hlt
              have hA4 : w4.ownsRow w.heap.size 55 2 (.slice (some ⟨gA, 0, none⟩) (k + 1) cA) (k + 1) (flatI (x.take k) ++ [Value.int .i64 ci, Value.string p2]) := hA3b.kept hgrow (row_apart hA3b hB3b (by decide))
              have hb4 : Below w.heap.size w w4 := hV4.grown hgrow hV4.size (own_bs hB3b)
              have hB4 := hown
              clear hown hgrow hat hlt
              refine hK.out _ _ ?_ (fun hHeld => ?_)
              · exact HSV.out _ hb4
              refine wpAnyH_ready (rs := [20]) (by kernel_rfl) (by simp) ?_
              refine AllReadyH.cons (o := _) rfl (fun K hK => ?_) AllReadyH.nil
              go_simp
              refine hK.out _ _ ?_ (fun hHeld => ?_)
              · exact HSV.out _ hb4
              refine wpAnyH_ready (rs := [21]) (by kernel_rfl) (by simp) ?_
              refine AllReadyH.cons (o := _) rfl (fun K hK => ?_) AllReadyH.nil
              go_simp
              refine hK.out _ _ ?_ (fun hHeld => ?_)
              · exact HSV.out _ hb4
              refine wpAnyH_done (by kernel_rfl) ?_ _
              have HN4 := Lib.hid (HEND.out gA cA gB cB w4 hA4 hB4 hb4)
              clear hA4 hB4 hb4 hHeld
              go_wp2_with fail
              first | exact ⟨HN4.out, by simp [intOf]; omega⟩ | (go_roundw; case rel => exact HN4.out; case measure => simp [intOf]; omega)
            · go_simp
              refine hK.out _ _ ?_ (fun hHeld => ?_)
              · exact HSV.out _ (hV1.alloc hV1.size _)
              have hV2 : Below w.heap.size w (V1.alloc (.cells #[.int .i64 ci, .string p2] 57)) := hV1.alloc hV1.size _
              have hn2 := heap_alloc_new V1 (.cells #[.int .i64 ci, .string p2] 57)
              have ho2 := ho1.alloc (.cells #[.int .i64 ci, .string p2] 57)
              have hq2 := hq1.alloc (.cells #[.int .i64 ci, .string p2] 57)
              have hn12 := (Lib.alloc_old V1 (.cells #[.int .i64 ci, .string p2] 57) _ hl1).trans hn1
              have hl2 : V1.heap.size < (V1.alloc (.cells #[.int .i64 ci, .string p2] 57)).heap.size := by simp
              have hl12 : (wr.drew).heap.size < (V1.alloc (.cells #[.int .i64 ci, .string p2] 57)).heap.size := Nat.lt_trans hl1 hl2
              generalize V1.alloc (.cells #[.int .i64 ci, .string p2] 57) = V2 at hV2 hn2 ho2 hq2 hn12 hl2 hl12 ⊢
              refine wpAnyH_ready (rs := [9]) (by kernel_rfl) (by simp) ?_
              refine AllReadyH.cons (o := _) rfl (fun K hK => ?_) AllReadyH.nil
              refine step_append_lies _ rfl (.tmp 28) (.tmp 36) 42 rfl w.heap.size 55 i1 _ 2 24 Tryd.underlying42 HI1.out HZ0.out HZ1.out HZ2.out rfl (by decide) (.slice ao am ac) k (flatI (x.take k)) (by simp [Act.eval, Act.put]) ho2 ⟨(wr.drew).heap.size, 0, none⟩ 1 1 [Value.int .i64 ci, Value.string p2] (by simp [Act.eval, Act.put]) rfl (World.news_of_block hn12) chg_mem (by decide) HMX.out HBY.out (hV2.size) V2.heap.size rfl ?_; intro gA cA w3 hown hgrow hat hlt
              have hB3 : w3.ownsRow w.heap.size 57 2 (.slice bo bm bc) k (flatI (x.take k)) := hq2.kept hgrow (row_apart hq2 ho2 (by decide))
              have hb3 : Below w.heap.size w w3 := hV2.grown hgrow hV2.size (own_bs ho2)
              have hA3 := hown
              have hn3 := (hgrow.block V1.heap.size (by omega) (fun e => by have := (HAd.out.lt _ e.symm).2; have hsd : (wr.drew).heap.size = wr.heap.size := rfl; omega)).trans hn2
              clear hown hgrow hat hlt
              refine hK.out _ _ ?_ (fun hHeld => ?_)
              · exact HSV.out _ hb3
              refine wpAnyH_ready (rs := [19]) (by kernel_rfl) (by simp) ?_
              refine AllReadyH.cons (o := _) rfl (fun K hK => ?_) AllReadyH.nil
              refine step_append_lies _ rfl (.tmp 38) (.tmp 46) 43 rfl w.heap.size 57 i2 _ 2 24 Tryd.underlying43 HI2.out HY0.out HY1.out HY2.out rfl (by decide) (.slice bo bm bc) k (flatI (x.take k)) (by simp [Act.eval, Act.put]) hB3 ⟨V1.heap.size, 0, none⟩ 1 1 [Value.int .i64 ci, Value.string p2] (by simp [Act.eval, Act.put]) rfl (World.news_of_block hn3) chg_mem (by decide) HMX.out HBY.out (hb3.size) w3.heap.size rfl ?_; intro gB cB w4 hown hgrow hat hlt
              have hA4 : w4.ownsRow w.heap.size 55 2 (.slice (some ⟨gA, 0, none⟩) (k + 1) cA) (k + 1) (flatI (x.take k) ++ [Value.int .i64 ci, Value.string p2]) := hA3.kept hgrow (row_apart hA3 hB3 (by decide))
              have hb4 : Below w.heap.size w w4 := hb3.grown hgrow hb3.size (own_bs hB3)
              have hB4 := hown
              clear hown hgrow hat hlt
              refine hK.out _ _ ?_ (fun hHeld => ?_)
              · exact HSV.out _ hb4
              refine wpAnyH_ready (rs := [20]) (by kernel_rfl) (by simp) ?_
              refine AllReadyH.cons (o := _) rfl (fun K hK => ?_) AllReadyH.nil
              go_simp
              refine hK.out _ _ ?_ (fun hHeld => ?_)
              · exact HSV.out _ hb4
              refine wpAnyH_ready (rs := [21]) (by kernel_rfl) (by simp) ?_
              refine AllReadyH.cons (o := _) rfl (fun K hK => ?_) AllReadyH.nil
              go_simp
              refine hK.out _ _ ?_ (fun hHeld => ?_)
              · exact HSV.out _ hb4
              refine wpAnyH_done (by kernel_rfl) ?_ _
              have HN4 := Lib.hid (HEND.out gA cA gB cB w4 hA4 hB4 hb4)
              clear hA4 hB4 hb4 hHeld
              go_wp2_with fail
              first | exact ⟨HN4.out, by simp [intOf]; omega⟩ | (go_roundw; case rel => exact HN4.out; case measure => simp [intOf]; omega)
          · go_simp
            refine hK.out _ _ ?_ (fun hHeld => ?_)
            · exact HSV.out _ (HW.out.alloc HW.out.size _).drew
            have hV1 : Below w.heap.size w ((wr.alloc (.cells #[.int .i64 ci, .string p2] 57)).drew) := (HW.out.alloc HW.out.size _).drew
            have hn1 : ((wr.alloc (.cells #[.int .i64 ci, .string p2] 57)).drew).heap[(wr.drew).heap.size]? = _ := heap_alloc_new wr (.cells #[.int .i64 ci, .string p2] 57)
            have ho1 := own_below HA.out (show Below wr.heap.size wr ((wr.alloc (.cells #[.int .i64 ci, .string p2] 57)).drew) from ((Below.refl _ wr).alloc (Nat.le_refl _) _).drew)
            have hq1 := own_below HB.out (show Below wr.heap.size wr ((wr.alloc (.cells #[.int .i64 ci, .string p2] 57)).drew) from ((Below.refl _ wr).alloc (Nat.le_refl _) _).drew)
            have hl1 : (wr.drew).heap.size < ((wr.alloc (.cells #[.int .i64 ci, .string p2] 57)).drew).heap.size := by simp
            generalize ((wr.alloc (.cells #[.int .i64 ci, .string p2] 57)).drew) = V1 at hV1 hn1 ho1 hq1 hl1 ⊢
            refine wpAnyH_ready (rs := [8]) (by kernel_rfl) (by simp) ?_
            refine AllReadyH.cons (o := _) rfl (fun K hK => ?_) AllReadyH.nil
            go_simp
            refine hK.out _ _ ?_ (fun hHeld => ?_)
            · exact HSV.out _ (hV1.alloc hV1.size _)
            have hV2 : Below w.heap.size w (V1.alloc (.cells #[.int .i64 ci, .string p2] 55)) := hV1.alloc hV1.size _
            have hn2 := heap_alloc_new V1 (.cells #[.int .i64 ci, .string p2] 55)
            have ho2 := ho1.alloc (.cells #[.int .i64 ci, .string p2] 55)
            have hq2 := hq1.alloc (.cells #[.int .i64 ci, .string p2] 55)
            have hn12 := (Lib.alloc_old V1 (.cells #[.int .i64 ci, .string p2] 55) _ hl1).trans hn1
            have hl2 : V1.heap.size < (V1.alloc (.cells #[.int .i64 ci, .string p2] 55)).heap.size := by simp
            have hl12 : (wr.drew).heap.size < (V1.alloc (.cells #[.int .i64 ci, .string p2] 55)).heap.size := Nat.lt_trans hl1 hl2
            generalize V1.alloc (.cells #[.int .i64 ci, .string p2] 55) = V2 at hV2 hn2 ho2 hq2 hn12 hl2 hl12 ⊢
            refine wpAnyH_ready (rs := [9]) (by kernel_rfl) (by simp) ?_
            refine AllReadyH.cons (o := _) rfl (fun K hK => ?_) AllReadyH.nil
            refine step_append_lies _ rfl (.tmp 28) (.tmp 36) 42 rfl w.heap.size 55 i1 _ 2 24 Tryd.underlying42 HI1.out HZ0.out HZ1.out HZ2.out rfl (by decide) (.slice ao am ac) k (flatI (x.take k)) (by simp [Act.eval, Act.put]) ho2 ⟨V1.heap.size, 0, none⟩ 1 1 [Value.int .i64 ci, Value.string p2] (by simp [Act.eval, Act.put]) rfl (World.news_of_block hn2) chg_mem (by decide) HMX.out HBY.out (hV2.size) V2.heap.size rfl ?_; intro gA cA w3 hown hgrow hat hlt
            have hB3 : w3.ownsRow w.heap.size 57 2 (.slice bo bm bc) k (flatI (x.take k)) := hq2.kept hgrow (row_apart hq2 ho2 (by decide))
            have hb3 : Below w.heap.size w w3 := hV2.grown hgrow hV2.size (own_bs ho2)
            have hA3 := hown
            have hn3 := (hgrow.block (wr.drew).heap.size (by omega) (fun e => by have := (HAd.out.lt _ e.symm).2; have hsd : (wr.drew).heap.size = wr.heap.size := rfl; omega)).trans hn12
            clear hown hgrow hat hlt
            refine hK.out _ _ ?_ (fun hHeld => ?_)
            · exact HSV.out _ hb3
            refine wpAnyH_ready (rs := [19]) (by kernel_rfl) (by simp) ?_
            refine AllReadyH.cons (o := _) rfl (fun K hK => ?_) AllReadyH.nil
            refine step_append_lies _ rfl (.tmp 38) (.tmp 46) 43 rfl w.heap.size 57 i2 _ 2 24 Tryd.underlying43 HI2.out HY0.out HY1.out HY2.out rfl (by decide) (.slice bo bm bc) k (flatI (x.take k)) (by simp [Act.eval, Act.put]) hB3 ⟨(wr.drew).heap.size, 0, none⟩ 1 1 [Value.int .i64 ci, Value.string p2] (by simp [Act.eval, Act.put]) rfl (World.news_of_block hn3) chg_mem (by decide) HMX.out HBY.out (hb3.size) w3.heap.size rfl ?_; intro gB cB w4 hown hgrow hat hlt
            have hA4 : w4.ownsRow w.heap.size 55 2 (.slice (some ⟨gA, 0, none⟩) (k + 1) cA) (k + 1) (flatI (x.take k) ++ [Value.int .i64 ci, Value.string p2]) := hA3.kept hgrow (row_apart hA3 hB3 (by decide))
            have hb4 : Below w.heap.size w w4 := hb3.grown hgrow hb3.size (own_bs hB3)
            have hB4 := hown
            clear hown hgrow hat hlt
            refine hK.out _ _ ?_ (fun hHeld => ?_)
            · exact HSV.out _ hb4
            refine wpAnyH_ready (rs := [20]) (by kernel_rfl) (by simp) ?_
            refine AllReadyH.cons (o := _) rfl (fun K hK => ?_) AllReadyH.nil
            go_simp
            refine hK.out _ _ ?_ (fun hHeld => ?_)
            · exact HSV.out _ hb4
            refine wpAnyH_ready (rs := [21]) (by kernel_rfl) (by simp) ?_
            refine AllReadyH.cons (o := _) rfl (fun K hK => ?_) AllReadyH.nil
            go_simp
            refine hK.out _ _ ?_ (fun hHeld => ?_)
            · exact HSV.out _ hb4
            refine wpAnyH_done (by kernel_rfl) ?_ _
            have HN4 := Lib.hid (HEND.out gA cA gB cB w4 hA4 hB4 hb4)
            clear hA4 hB4 hb4 hHeld
            go_wp2_with fail
            first | exact ⟨HN4.out, by simp [intOf]; omega⟩ | (go_roundw; case rel => exact HN4.out; case measure => simp [intOf]; omega)
      · have hk6 : k = 70 := by omega
        have hend : Hid (x.length = k ∧ x.take k = x) := Lib.hid ⟨by have := HXL.out; omega, List.take_of_length_le (by have := HXL.out; omega)⟩
        have hx1 : (k : Int) < n := by omega
        have hx2 : ¬ (k : Int) < 70 := by omega
        go_wp2_with fail
        refine bodyPost_ret (v := .tuple #[u4, u5]) (by simp [results, Tryd.results9, go_sem]) rfl ⟨_, _, rfl, ?_, ?_, HW.out⟩
        · have h1 := HA.out; rw [hend.out.2] at h1; rw [hend.out.1]; exact h1
        · have h1 := HB.out; rw [hend.out.2] at h1; rw [hend.out.1]; exact h1
    · have hkn : k = n := by omega
      have hend : Hid (x.length = k ∧ x.take k = x) := Lib.hid ⟨by have := HXL.out; omega, List.take_of_length_le (by have := HXL.out; omega)⟩
      have hx1 : ¬ (k : Int) < n := by omega
      go_wp2_with fail
      refine bodyPost_ret (v := .tuple #[u4, u5]) (by simp [results, Tryd.results9, go_sem]) rfl ⟨_, _, rfl, ?_, ?_, HW.out⟩
      · have h1 := HA.out; rw [hend.out.2] at h1; rw [hend.out.1]; exact h1
      · have h1 := HB.out; rw [hend.out.2] at h1; rw [hend.out.1]; exact h1
end Go.Proofs.YtbpaiiljhdohfaaDoor
