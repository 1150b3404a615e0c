/- Keyed lists: the law's items, which makes both sides' lists. -/
import Derived.Test.YthkcmdlfdaggmaaHm
import Derived.Deep.AppendLies
import Derived.Deep.RegionHeld3
set_option linter.unusedVariables false
set_option linter.unusedSimpArgs false
namespace Go.Proofs.Ythkcmdlfdaggmaa
open Go.RowKit
variable {w w' : World}

theorem row_apart {w : World} {B B' : Nat} {t t' : TypeId} {v v' : Value} {n n' s s' : Nat} {xs ys : List Value} (h : w.ownsRow B t s v n xs) (h' : w.ownsRow B' t' s' v' n' ys) (hne : t ≠ t') : v.ownBlock = none ∨ v.ownBlock ≠ v'.ownBlock := by
  rcases h.2 with ⟨h1, _⟩ | ⟨g, cap, cur, h1, _, hg, _⟩
  · exact .inl (by rw [h1]; rfl)
  · right
    subst h1
    rcases h'.2 with ⟨h2, _⟩ | ⟨g', cap', cur', h2, _, hg', _⟩
    · subst h2; simp [Value.ownBlock]
    · subst h2
      intro e
      have : g = g' := by simpa [Value.ownBlock] using e
      subst this
      rw [hg] at hg'
      injection hg' with hg'; injection hg' with _ h3
      exact hne h3
theorem flatK_take (l : List KvB) (k : Nat) (p : KvB) (h : l[k]? = some p) : flatK (l.take (k + 1)) = flatK (l.take k) ++ [Value.string p.1, Value.string p.2] := by
  rw [List.take_add_one, h, Option.toList_some, flatK_snoc]
def PS (w : World) (l : List KvB) (a b i : Value) (wr : World) : Prop :=
  ∃ k : Nat, k ≤ l.length ∧ k ≤ 40 ∧ i = .int .i64 k ∧ wr.ownsRow w.heap.size 51 2 a k (flatK (l.take k)) ∧ wr.ownsRow w.heap.size 50 2 b k (flatK (l.take k)) ∧ Below w.heap.size w wr
theorem own_lt_blk {w : World} {B : Nat} {t : TypeId} {v : Value} {n s : Nat} {xs : List Value} (h : w.ownsRow B t s v n xs) : ∀ k, v.ownBlock = some k → k < w.heap.size := fun k hk => by
  rcases h.2 with ⟨h1, h2⟩ | ⟨g, cap, cur, h1, hB, hg, _⟩
  · rw [h1] at hk; cases hk
  · rw [h1] at hk
    injection hk with hk
    rw [← hk]
    rcases Nat.lt_or_ge g w.heap.size with hl | hl
    · exact hl
    · rw [Array.getElem?_eq_none hl] at hg; cases hg
set_option maxHeartbeats 8000000 in
set_option maxRecDepth 100000 in
theorem items20_any (o : Option Addr) (l : List KvB) (cap : Nat) (w : World) (hl : l.length ≤ maxLen) (hi : KvAt w o l) :
    Calls Try.prog 9 #[.slice o l.length cap] w fun e w' => ∃ a b, e = .returned (.tuple #[a, b]) ∧ w'.ownsRow w.heap.size 51 2 a (l.take 40).length (flatK (l.take 40)) ∧ w'.ownsRow w.heap.size 50 2 b (l.take 40).length (flatK (l.take 40)) ∧ Below w.heap.size w w' := by
  obtain ⟨n, hn⟩ : ∃ n, l.length = n := ⟨_, rfl⟩
  rw [hn] at hl ⊢
  unfold maxLen at hl
  obtain ⟨i1, hi1, hz0, hz1, hz2⟩ := info_parts info_ki
  obtain ⟨i2, hi2, hy0, hy1, hy2⟩ := info_parts info_ri
  have HI1 := Lib.hid hi1; have HZ0 := Lib.hid hz0; have HZ1 := Lib.hid hz1; have HZ2 := Lib.hid hz2
  have HI2 := Lib.hid hi2; have HY0 := Lib.hid hy0; have HY1 := Lib.hid hy1; have HY2 := Lib.hid hy2
  have HN := Lib.hid hn; have HI := Lib.hid hi
  have H0 : Hid (PS w l (.slice none 0 0) (.slice none 0 0) (.int .i64 0) w) := Lib.hid ⟨0, Nat.zero_le _, Nat.zero_le _, rfl, World.ownsRow_nil _ _ _ _, World.ownsRow_nil _ _ _ _, Below.refl _ _⟩
  clear hi1 hz0 hz1 hz2 hi2 hy0 hy1 hy2 hn hi
  go_enter Try.func9, Try.ntmps9
  go_wp2_with fail
  go_loopw [4, 5, 6] (fun a b i wr => PS w l a b i wr) (fun _ _ i _ => n - (intOf i).toNat)
  case atStart => exact H0.out
  case round =>
    obtain ⟨k, hk, hk40, rfl, ha, hb, hbel⟩ := hrel
    rw [HN.out] at hk
    have HA := Lib.hid ha; have HB := Lib.hid hb; have HW := Lib.hid hbel
    clear ha hb hbel H0
    by_cases hlt : k < n
    · by_cases h40 : k < 40
      · obtain ⟨p, hp⟩ : ∃ p, l[k]? = some p := ⟨_, List.getElem?_eq_getElem (by rw [HN.out]; exact hlt)⟩
        obtain ⟨_, _, b0, i0, hob, c0, c1⟩ := HI.out k p hp
        subst hob
        have hlt0 : b0 < w.heap.size := World.block_lt_of_cell? w _ c0
        have d0 := (HW.out.cell (p := ⟨b0, i0 + k * 2, none⟩) hlt0).trans c0
        have d1 := (HW.out.cell (p := ⟨b0, i0 + k * 2 + 1, none⟩) hlt0).trans c1
        obtain ⟨p1, p2⟩ := p
        have HP := Lib.hid hp
        have HC0 := Lib.hid c0; have HC1 := Lib.hid c1
        clear hp c0 c1
        simp only at d0 d1 HC0 HC1
        obtain ⟨ao, am, ac, hav⟩ : ∃ ao am ac, u4 = .slice ao am ac := by
          rcases HA.out.2 with ⟨h, _⟩ | ⟨_, _, _, h, _⟩
          · exact ⟨_, _, _, h⟩
          · exact ⟨_, _, _, h⟩
        subst hav
        obtain ⟨bo, bm, bc, hbv⟩ : ∃ bo bm bc, u5 = .slice bo bm bc := by
          rcases HB.out.2 with ⟨h, _⟩ | ⟨_, _, _, h, _⟩
          · exact ⟨_, _, _, h⟩
          · exact ⟨_, _, _, h⟩
        subst hbv
        have HMX : Hid (k + 1 ≤ maxLen) := Lib.hid (by unfold maxLen; omega)
        have HBY : Hid ((k + 1) * 32 ≤ 140737488355328) := Lib.hid (by omega)
        have HAd := Lib.hid (show (wr.drew).ownsRow w.heap.size 51 2 (.slice ao am ac) k (flatK (l.take k)) from HA.out)
        have HBd := Lib.hid (show (wr.drew).ownsRow w.heap.size 50 2 (.slice bo bm bc) k (flatK (l.take k)) from HB.out)
        have HWd : Hid (Below w.heap.size w wr.drew) := Lib.hid HW.out.drew
        have HSV : Hid (∀ V, Below w.heap.size w V → ((fun w' => w'.cell? ⟨b0, i0 + k * 2, none⟩ = some (.string p1) ∧ w'.cell? ⟨b0, i0 + k * 2 + 1, none⟩ = some (.string p2))) V) := Lib.hid (fun V hV => ⟨(hV.cell (p := ⟨b0, i0 + k * 2, none⟩) hlt0).trans HC0.out, (hV.cell (p := ⟨b0, i0 + k * 2 + 1, none⟩) hlt0).trans HC1.out⟩)
        have HS1 : Hid (((fun w' => w'.cell? ⟨b0, i0 + k * 2, none⟩ = some (.string p1) ∧ w'.cell? ⟨b0, i0 + k * 2 + 1, none⟩ = some (.string p2))) wr.drew) := Lib.hid (HSV.out _ HWd.out)
        have HEND : Hid (∀ gA cA gB cB (W : World), W.ownsRow w.heap.size 51 2 (.slice (some ⟨gA, 0, none⟩) (k + 1) cA) (k + 1) (flatK (l.take k) ++ [Value.string p1, Value.string p2]) → W.ownsRow w.heap.size 50 2 (.slice (some ⟨gB, 0, none⟩) (k + 1) cB) (k + 1) (flatK (l.take k) ++ [Value.string p1, Value.string p2]) → Below w.heap.size w W → PS w l (.slice (some ⟨gA, 0, none⟩) (k + 1) cA) (.slice (some ⟨gB, 0, none⟩) (k + 1) cB) (.int .i64 ((k : Int) + 1)) W) := Lib.hid (fun gA cA gB cB W h1 h2 h3 =>
          ⟨k + 1, by rw [HN.out]; omega, by omega, by rw [Int.natCast_succ], by rw [flatK_take l k _ HP.out]; exact h1, by rw [flatK_take l k _ HP.out]; exact h2, h3⟩)
        go_wp2_with fail
        refine wp_region_held_drew (S := (fun w' => w'.cell? ⟨b0, i0 + k * 2, none⟩ = some (.string p1) ∧ w'.cell? ⟨b0, i0 + k * 2 + 1, none⟩ = some (.string p2))) (by kernel_rfl) HS1.out (fun hHeld => ?_)
        refine wpAnyH_take (i := 0) (v := ?_) rfl (by kernel_rfl) (by kernel_rfl) (by kernel_rfl) (fun _ _ _ h => h) (Or.inl ⟨by rfl, ?_⟩) HS1.out ?_
        rotate_left
        · intro wq hSw; (try dsimp only at hSw); go_simp; try with_reducible rfl
        try simp only [Act.put, List.setIfInBounds_toArray, List.set_cons_zero, List.set_cons_succ]
        refine wpAnyH_take (i := 1) (v := ?_) rfl (by kernel_rfl) (by kernel_rfl) (by kernel_rfl) (fun _ _ _ h => h) (Or.inl ⟨by rfl, ?_⟩) HS1.out ?_
        rotate_left
        · intro wq hSw; (try dsimp only at hSw); go_simp; try with_reducible rfl
        try simp only [Act.put, List.setIfInBounds_toArray, List.set_cons_zero, List.set_cons_succ]
        refine wpAnyH_take (i := 2) (v := ?_) rfl (by kernel_rfl) (by kernel_rfl) (by kernel_rfl) (fun _ _ _ h => h) (Or.inl ⟨by rfl, ?_⟩) HS1.out ?_
        rotate_left
        · intro wq hSw; (try dsimp only at hSw); go_simp; try with_reducible rfl
        try simp only [Act.put, List.setIfInBounds_toArray, List.set_cons_zero, List.set_cons_succ]
        refine wpAnyH_take (i := 3) (v := ?_) rfl (by kernel_rfl) (by kernel_rfl) (by kernel_rfl) (fun _ _ _ h => h) (Or.inl ⟨by rfl, ?_⟩) HS1.out ?_
        rotate_left
        · intro wq hSw; (try dsimp only at hSw); go_simp; try with_reducible rfl
        try simp only [Act.put, List.setIfInBounds_toArray, List.set_cons_zero, List.set_cons_succ]
        refine wpAnyH_take (i := 4) (v := ?_) rfl (by kernel_rfl) (by kernel_rfl) (by kernel_rfl) (fun _ _ _ h => h) (Or.inl ⟨by rfl, ?_⟩) HS1.out ?_
        rotate_left
        · intro wq hSw; (try dsimp only at hSw); go_simp; try with_reducible rfl
        try simp only [Act.put, List.setIfInBounds_toArray, List.set_cons_zero, List.set_cons_succ]
        refine wpAnyH_take (i := 5) (v := ?_) rfl (by kernel_rfl) (by kernel_rfl) (by kernel_rfl) (fun _ _ _ h => h) (Or.inl ⟨by rfl, ?_⟩) HS1.out ?_
        rotate_left
        · intro wq hSw; (try dsimp only at hSw); go_simp; try with_reducible rfl
        try simp only [Act.put, List.setIfInBounds_toArray, List.set_cons_zero, List.set_cons_succ]
        refine wpAnyH_take (i := 6) (v := ?_) rfl (by kernel_rfl) (by kernel_rfl) (by kernel_rfl) (fun _ _ _ h => h) (Or.inl ⟨by rfl, ?_⟩) HS1.out ?_
        rotate_left
        · intro wq hSw; (try dsimp only at hSw); go_simp; try with_reducible rfl
        try simp only [Act.put, List.setIfInBounds_toArray, List.set_cons_zero, List.set_cons_succ]
        refine wpAnyH_take (i := 7) (v := ?_) rfl (by kernel_rfl) (by kernel_rfl) (by kernel_rfl) (fun _ _ _ h => h) (Or.inl ⟨by rfl, ?_⟩) HS1.out ?_
        rotate_left
        · intro wq hSw; (try dsimp only at hSw); go_simp; try with_reducible rfl
        try simp only [Act.put, List.setIfInBounds_toArray, List.set_cons_zero, List.set_cons_succ]
        refine wpAnyH_take (i := 8) (v := ?_) rfl (by kernel_rfl) (by kernel_rfl) (by kernel_rfl) (fun _ _ _ h => h) (Or.inl ⟨by rfl, ?_⟩) HS1.out ?_
        rotate_left
        · intro wq hSw; (try dsimp only at hSw); go_simp; try with_reducible rfl
        try simp only [Act.put, List.setIfInBounds_toArray, List.set_cons_zero, List.set_cons_succ]
        refine wpAnyH_take (i := 9) (v := ?_) rfl (by kernel_rfl) (by kernel_rfl) (by kernel_rfl) (fun _ _ _ h => h) (Or.inl ⟨by rfl, ?_⟩) HS1.out ?_
        rotate_left
        · intro wq hSw; (try dsimp only at hSw); go_simp; try with_reducible rfl
        try simp only [Act.put, List.setIfInBounds_toArray, List.set_cons_zero, List.set_cons_succ]
        refine wpAnyH_take (i := 10) (v := ?_) rfl (by kernel_rfl) (by kernel_rfl) (by kernel_rfl) (fun _ _ _ h => h) (Or.inl ⟨by rfl, ?_⟩) HS1.out ?_
        rotate_left
        · intro wq hSw; (try dsimp only at hSw); go_simp; try with_reducible rfl
        try simp only [Act.put, List.setIfInBounds_toArray, List.set_cons_zero, List.set_cons_succ]
        refine wpAnyH_take (i := 11) (v := ?_) rfl (by kernel_rfl) (by kernel_rfl) (by kernel_rfl) (fun _ _ _ h => h) (Or.inl ⟨by rfl, ?_⟩) HS1.out ?_
        rotate_left
        · intro wq hSw; (try dsimp only at hSw); go_simp; try with_reducible rfl
        try simp only [Act.put, List.setIfInBounds_toArray, List.set_cons_zero, List.set_cons_succ]
        refine wpAnyH_take (i := 14) (v := ?_) rfl (by kernel_rfl) (by kernel_rfl) (by kernel_rfl) (fun _ _ _ h => h) (Or.inl ⟨by rfl, ?_⟩) HS1.out ?_
        rotate_left
        · intro wq hSw; (try dsimp only at hSw); go_simp; try with_reducible rfl
        try simp only [Act.put, List.setIfInBounds_toArray, List.set_cons_zero, List.set_cons_succ]
        refine wpAnyH_take (i := 15) (v := ?_) rfl (by kernel_rfl) (by kernel_rfl) (by kernel_rfl) (fun _ _ _ h => h) (Or.inl ⟨by rfl, ?_⟩) HS1.out ?_
        rotate_left
        · intro wq hSw; (try dsimp only at hSw); go_simp; try with_reducible rfl
        try simp only [Act.put, List.setIfInBounds_toArray, List.set_cons_zero, List.set_cons_succ]
        refine wpAnyH_take (i := 16) (v := ?_) rfl (by kernel_rfl) (by kernel_rfl) (by kernel_rfl) (fun _ _ _ h => h) (Or.inl ⟨by rfl, ?_⟩) HS1.out ?_
        rotate_left
        · intro wq hSw; (try dsimp only at hSw); go_simp; try with_reducible rfl
        try simp only [Act.put, List.setIfInBounds_toArray, List.set_cons_zero, List.set_cons_succ]
        refine wpAnyH_take (i := 17) (v := ?_) rfl (by kernel_rfl) (by kernel_rfl) (by kernel_rfl) (fun _ _ _ h => h) (Or.inl ⟨by rfl, ?_⟩) HS1.out ?_
        rotate_left
        · intro wq hSw; (try dsimp only at hSw); go_simp; try with_reducible rfl
        try simp only [Act.put, List.setIfInBounds_toArray, List.set_cons_zero, List.set_cons_succ]
        refine wpAnyH_take (i := 18) (v := ?_) rfl (by kernel_rfl) (by kernel_rfl) (by kernel_rfl) (fun _ _ _ h => h) (Or.inl ⟨by rfl, ?_⟩) HS1.out ?_
        rotate_left
        · intro wq hSw; (try dsimp only at hSw); go_simp; try with_reducible rfl
        try simp only [Act.put, List.setIfInBounds_toArray, List.set_cons_zero, List.set_cons_succ]
        refine wpAnyH_take (i := 19) (v := ?_) rfl (by kernel_rfl) (by kernel_rfl) (by kernel_rfl) (fun _ _ _ h => h) (Or.inl ⟨by rfl, ?_⟩) HS1.out ?_
        rotate_left
        · intro wq hSw; (try dsimp only at hSw); go_simp; try with_reducible rfl
        try simp only [Act.put, List.setIfInBounds_toArray, List.set_cons_zero, List.set_cons_succ]
        refine wpAnyH_take (i := 20) (v := ?_) rfl (by kernel_rfl) (by kernel_rfl) (by kernel_rfl) (fun _ _ _ h => h) (Or.inl ⟨by rfl, ?_⟩) HS1.out ?_
        rotate_left
        · intro wq hSw; (try dsimp only at hSw); go_simp; try with_reducible rfl
        try simp only [Act.put, List.setIfInBounds_toArray, List.set_cons_zero, List.set_cons_succ]
        refine wpAnyH_take (i := 21) (v := ?_) rfl (by kernel_rfl) (by kernel_rfl) (by kernel_rfl) (fun _ _ _ h => h) (Or.inl ⟨by rfl, ?_⟩) HS1.out ?_
        rotate_left
        · intro wq hSw; (try dsimp only at hSw); go_simp; try with_reducible rfl
        try simp only [Act.put, List.setIfInBounds_toArray, List.set_cons_zero, List.set_cons_succ]
        refine wpAnyH_take (i := 22) (v := ?_) rfl (by kernel_rfl) (by kernel_rfl) (by kernel_rfl) (fun _ _ _ h => h) (Or.inl ⟨by rfl, ?_⟩) HS1.out ?_
        rotate_left
        · intro wq hSw; (try dsimp only at hSw); go_simp; try with_reducible rfl
        try simp only [Act.put, List.setIfInBounds_toArray, List.set_cons_zero, List.set_cons_succ]
        refine wpAnyH_take (i := 23) (v := ?_) rfl (by kernel_rfl) (by kernel_rfl) (by kernel_rfl) (fun _ _ _ h => h) (Or.inl ⟨by rfl, ?_⟩) HS1.out ?_
        rotate_left
        · intro wq hSw; (try dsimp only at hSw); go_simp; try with_reducible rfl
        try simp only [Act.put, List.setIfInBounds_toArray, List.set_cons_zero, List.set_cons_succ]
        refine wpAnyH_take (i := 24) (v := ?_) rfl (by kernel_rfl) (by kernel_rfl) (by kernel_rfl) (fun _ _ _ h => h) (Or.inl ⟨by rfl, ?_⟩) HS1.out ?_
        rotate_left
        · intro wq hSw; (try dsimp only at hSw); go_simp; try with_reducible rfl
        try simp only [Act.put, List.setIfInBounds_toArray, List.set_cons_zero, List.set_cons_succ]
        refine wpAnyH_take (i := 25) (v := ?_) rfl (by kernel_rfl) (by kernel_rfl) (by kernel_rfl) (fun _ _ _ h => h) (Or.inl ⟨by rfl, ?_⟩) HS1.out ?_
        rotate_left
        · intro wq hSw; (try dsimp only at hSw); go_simp; try with_reducible rfl
        try simp only [Act.put, List.setIfInBounds_toArray, List.set_cons_zero, List.set_cons_succ]
        refine wpAnyH_ready (rs := [12, 26]) (by kernel_rfl) (by simp) ?_
        refine AllReadyH.cons (o := _) rfl (fun K hK => ?_) (AllReadyH.cons (o := _) rfl (fun K hK => ?_) AllReadyH.nil)
        · go_simp
          refine hK.out _ _ ?_ (fun hHeld => ?_)
          · exact HSV.out _ (HW.out.alloc HW.out.size _).drew
          have hV1 : Below w.heap.size w ((wr.alloc (.cells #[.string p1, .string p2] 51)).drew) := (HW.out.alloc HW.out.size _).drew
          have hn1 : ((wr.alloc (.cells #[.string p1, .string p2] 51)).drew).heap[(wr.drew).heap.size]? = _ := World.alloc_heap_new wr (.cells #[.string p1, .string p2] 51)
          have ho1 := own_below HA.out (show Below wr.heap.size wr ((wr.alloc (.cells #[.string p1, .string p2] 51)).drew) from ((Below.refl _ wr).alloc (Nat.le_refl _) _).drew)
          have hq1 := own_below HB.out (show Below wr.heap.size wr ((wr.alloc (.cells #[.string p1, .string p2] 51)).drew) from ((Below.refl _ wr).alloc (Nat.le_refl _) _).drew)
          have hl1 : (wr.drew).heap.size < ((wr.alloc (.cells #[.string p1, .string p2] 51)).drew).heap.size := by simp
          generalize ((wr.alloc (.cells #[.string p1, .string p2] 51)).drew) = V1 at hV1 hn1 ho1 hq1 hl1 ⊢
          refine wpAnyH_ready (rs := [13, 26]) (by kernel_rfl) (by simp) ?_
          refine AllReadyH.cons (o := _) rfl (fun K hK => ?_) (AllReadyH.cons (o := _) rfl (fun K hK => ?_) AllReadyH.nil)
          · refine step_append_lies _ rfl (.tmp 17) (.tmp 29) 24 rfl w.heap.size 51 i1 _ 2 32 Try.underlying24 HI1.out HZ0.out HZ1.out HZ2.out rfl (by decide) (.slice ao am ac) k (flatK (l.take k)) (by simp [Act.eval, Act.put]) ho1 ⟨(wr.drew).heap.size, 0, none⟩ 1 1 [Value.string p1, Value.string p2] (by simp [Act.eval, Act.put]) rfl (World.news_of_block hn1) two_memK (by decide) HMX.out HBY.out (hV1.size) V1.heap.size rfl ?_; intro gA cA w3 hown hgrow hat hlt
            have hB3 : w3.ownsRow w.heap.size 50 2 (.slice bo bm bc) k (flatK (l.take k)) := hq1.kept hgrow (row_apart hq1 ho1 (by decide))
            have hb3 : Below w.heap.size w w3 := hV1.grown hgrow hV1.size (own_base ho1)
            have hA3 := hown
            clear hown hgrow hat hlt
            refine hK.out _ _ ?_ (fun hHeld => ?_)
            · exact HSV.out _ hb3
            refine wpAnyH_ready (rs := [26]) (by kernel_rfl) (by simp) ?_
            refine AllReadyH.cons (o := _) rfl (fun K hK => ?_) AllReadyH.nil
            go_simp
            refine hK.out _ _ ?_ (fun hHeld => ?_)
            · exact HSV.out _ (hb3.alloc hb3.size _)
            have hV4 : Below w.heap.size w (w3.alloc (.cells #[.string p1, .string p2] 50)) := hb3.alloc hb3.size _
            have hn4 := World.alloc_heap_new w3 (.cells #[.string p1, .string p2] 50)
            have hA3b := hA3.alloc (.cells #[.string p1, .string p2] 50)
            have hB3b := hB3.alloc (.cells #[.string p1, .string p2] 50)
            generalize w3.alloc (.cells #[.string p1, .string p2] 50) = V4 at hV4 hn4 hA3b hB3b ⊢
            refine wpAnyH_ready (rs := [27]) (by kernel_rfl) (by simp) ?_
            refine AllReadyH.cons (o := _) rfl (fun K hK => ?_) AllReadyH.nil
            refine step_append_lies _ rfl (.tmp 31) (.tmp 43) 25 rfl w.heap.size 50 i2 _ 2 32 Try.underlying25 HI2.out HY0.out HY1.out HY2.out rfl (by decide) (.slice bo bm bc) k (flatK (l.take k)) (by simp [Act.eval, Act.put]) hB3b ⟨w3.heap.size, 0, none⟩ 1 1 [Value.string p1, Value.string p2] (by simp [Act.eval, Act.put]) rfl (World.news_of_block hn4) two_memK (by decide) HMX.out HBY.out (hV4.size) V4.heap.size rfl ?_; intro gB cB w4 hown hgrow hat hlt
            have hA4 : w4.ownsRow w.heap.size 51 2 (.slice (some ⟨gA, 0, none⟩) (k + 1) cA) (k + 1) (flatK (l.take k) ++ [Value.string p1, Value.string p2]) := hA3b.kept hgrow (row_apart hA3b hB3b (by decide))
            have hb4 : Below w.heap.size w w4 := hV4.grown hgrow hV4.size (own_base hB3b)
            have hB4 := hown
            clear hown hgrow hat hlt
            refine hK.out _ _ ?_ (fun hHeld => ?_)
            · exact HSV.out _ hb4
            refine wpAnyH_ready (rs := [28]) (by kernel_rfl) (by simp) ?_
            refine AllReadyH.cons (o := _) rfl (fun K hK => ?_) AllReadyH.nil
            go_simp
            refine hK.out _ _ ?_ (fun hHeld => ?_)
            · exact HSV.out _ hb4
            refine wpAnyH_ready (rs := [29]) (by kernel_rfl) (by simp) ?_
            refine AllReadyH.cons (o := _) rfl (fun K hK => ?_) AllReadyH.nil
            go_simp
            refine hK.out _ _ ?_ (fun hHeld => ?_)
            · exact HSV.out _ hb4
            refine wpAnyH_done (by kernel_rfl) ?_ _
            have HN4 := Lib.hid (HEND.out gA cA gB cB w4 hA4 hB4 hb4)
            clear hA4 hB4 hb4 hHeld
            go_wp2_with fail
            first | exact ⟨HN4.out, by simp [intOf]; omega⟩ | (go_roundw; case rel => exact HN4.out; case measure => simp [intOf]; omega)
          · go_simp
            refine hK.out _ _ ?_ (fun hHeld => ?_)
            · exact HSV.out _ (hV1.alloc hV1.size _)
            have hV2 : Below w.heap.size w (V1.alloc (.cells #[.string p1, .string p2] 50)) := hV1.alloc hV1.size _
            have hn2 := World.alloc_heap_new V1 (.cells #[.string p1, .string p2] 50)
            have ho2 := ho1.alloc (.cells #[.string p1, .string p2] 50)
            have hq2 := hq1.alloc (.cells #[.string p1, .string p2] 50)
            have hn12 := (Lib.alloc_old V1 (.cells #[.string p1, .string p2] 50) _ hl1).trans hn1
            have hl2 : V1.heap.size < (V1.alloc (.cells #[.string p1, .string p2] 50)).heap.size := by simp
            have hl12 : (wr.drew).heap.size < (V1.alloc (.cells #[.string p1, .string p2] 50)).heap.size := Nat.lt_trans hl1 hl2
            generalize V1.alloc (.cells #[.string p1, .string p2] 50) = V2 at hV2 hn2 ho2 hq2 hn12 hl2 hl12 ⊢
            refine wpAnyH_ready (rs := [13]) (by kernel_rfl) (by simp) ?_
            refine AllReadyH.cons (o := _) rfl (fun K hK => ?_) AllReadyH.nil
            refine step_append_lies _ rfl (.tmp 17) (.tmp 29) 24 rfl w.heap.size 51 i1 _ 2 32 Try.underlying24 HI1.out HZ0.out HZ1.out HZ2.out rfl (by decide) (.slice ao am ac) k (flatK (l.take k)) (by simp [Act.eval, Act.put]) ho2 ⟨(wr.drew).heap.size, 0, none⟩ 1 1 [Value.string p1, Value.string p2] (by simp [Act.eval, Act.put]) rfl (World.news_of_block hn12) two_memK (by decide) HMX.out HBY.out (hV2.size) V2.heap.size rfl ?_; intro gA cA w3 hown hgrow hat hlt
            have hB3 : w3.ownsRow w.heap.size 50 2 (.slice bo bm bc) k (flatK (l.take k)) := hq2.kept hgrow (row_apart hq2 ho2 (by decide))
            have hb3 : Below w.heap.size w w3 := hV2.grown hgrow hV2.size (own_base ho2)
            have hA3 := hown
            have hn3 := (hgrow.block V1.heap.size (by omega) (fun e => by have := own_lt_blk HAd.out _ e.symm; have hsd : (wr.drew).heap.size = wr.heap.size := rfl; omega)).trans hn2
            clear hown hgrow hat hlt
            refine hK.out _ _ ?_ (fun hHeld => ?_)
            · exact HSV.out _ hb3
            refine wpAnyH_ready (rs := [27]) (by kernel_rfl) (by simp) ?_
            refine AllReadyH.cons (o := _) rfl (fun K hK => ?_) AllReadyH.nil
            refine step_append_lies _ rfl (.tmp 31) (.tmp 43) 25 rfl w.heap.size 50 i2 _ 2 32 Try.underlying25 HI2.out HY0.out HY1.out HY2.out rfl (by decide) (.slice bo bm bc) k (flatK (l.take k)) (by simp [Act.eval, Act.put]) hB3 ⟨V1.heap.size, 0, none⟩ 1 1 [Value.string p1, Value.string p2] (by simp [Act.eval, Act.put]) rfl (World.news_of_block hn3) two_memK (by decide) HMX.out HBY.out (hb3.size) w3.heap.size rfl ?_; intro gB cB w4 hown hgrow hat hlt
            have hA4 : w4.ownsRow w.heap.size 51 2 (.slice (some ⟨gA, 0, none⟩) (k + 1) cA) (k + 1) (flatK (l.take k) ++ [Value.string p1, Value.string p2]) := hA3.kept hgrow (row_apart hA3 hB3 (by decide))
            have hb4 : Below w.heap.size w w4 := hb3.grown hgrow hb3.size (own_base hB3)
            have hB4 := hown
            clear hown hgrow hat hlt
            refine hK.out _ _ ?_ (fun hHeld => ?_)
            · exact HSV.out _ hb4
            refine wpAnyH_ready (rs := [28]) (by kernel_rfl) (by simp) ?_
            refine AllReadyH.cons (o := _) rfl (fun K hK => ?_) AllReadyH.nil
            go_simp
            refine hK.out _ _ ?_ (fun hHeld => ?_)
            · exact HSV.out _ hb4
            refine wpAnyH_ready (rs := [29]) (by kernel_rfl) (by simp) ?_
            refine AllReadyH.cons (o := _) rfl (fun K hK => ?_) AllReadyH.nil
            go_simp
            refine hK.out _ _ ?_ (fun hHeld => ?_)
            · exact HSV.out _ hb4
            refine wpAnyH_done (by kernel_rfl) ?_ _
            have HN4 := Lib.hid (HEND.out gA cA gB cB w4 hA4 hB4 hb4)
            clear hA4 hB4 hb4 hHeld
            go_wp2_with fail
            first | exact ⟨HN4.out, by simp [intOf]; omega⟩ | (go_roundw; case rel => exact HN4.out; case measure => simp [intOf]; omega)
        · go_simp
          refine hK.out _ _ ?_ (fun hHeld => ?_)
          · exact HSV.out _ (HW.out.alloc HW.out.size _).drew
          have hV1 : Below w.heap.size w ((wr.alloc (.cells #[.string p1, .string p2] 50)).drew) := (HW.out.alloc HW.out.size _).drew
          have hn1 : ((wr.alloc (.cells #[.string p1, .string p2] 50)).drew).heap[(wr.drew).heap.size]? = _ := World.alloc_heap_new wr (.cells #[.string p1, .string p2] 50)
          have ho1 := own_below HA.out (show Below wr.heap.size wr ((wr.alloc (.cells #[.string p1, .string p2] 50)).drew) from ((Below.refl _ wr).alloc (Nat.le_refl _) _).drew)
          have hq1 := own_below HB.out (show Below wr.heap.size wr ((wr.alloc (.cells #[.string p1, .string p2] 50)).drew) from ((Below.refl _ wr).alloc (Nat.le_refl _) _).drew)
          have hl1 : (wr.drew).heap.size < ((wr.alloc (.cells #[.string p1, .string p2] 50)).drew).heap.size := by simp
          generalize ((wr.alloc (.cells #[.string p1, .string p2] 50)).drew) = V1 at hV1 hn1 ho1 hq1 hl1 ⊢
          refine wpAnyH_ready (rs := [12]) (by kernel_rfl) (by simp) ?_
          refine AllReadyH.cons (o := _) rfl (fun K hK => ?_) AllReadyH.nil
          go_simp
          refine hK.out _ _ ?_ (fun hHeld => ?_)
          · exact HSV.out _ (hV1.alloc hV1.size _)
          have hV2 : Below w.heap.size w (V1.alloc (.cells #[.string p1, .string p2] 51)) := hV1.alloc hV1.size _
          have hn2 := World.alloc_heap_new V1 (.cells #[.string p1, .string p2] 51)
          have ho2 := ho1.alloc (.cells #[.string p1, .string p2] 51)
          have hq2 := hq1.alloc (.cells #[.string p1, .string p2] 51)
          have hn12 := (Lib.alloc_old V1 (.cells #[.string p1, .string p2] 51) _ hl1).trans hn1
          have hl2 : V1.heap.size < (V1.alloc (.cells #[.string p1, .string p2] 51)).heap.size := by simp
          have hl12 : (wr.drew).heap.size < (V1.alloc (.cells #[.string p1, .string p2] 51)).heap.size := Nat.lt_trans hl1 hl2
          generalize V1.alloc (.cells #[.string p1, .string p2] 51) = V2 at hV2 hn2 ho2 hq2 hn12 hl2 hl12 ⊢
          refine wpAnyH_ready (rs := [13]) (by kernel_rfl) (by simp) ?_
          refine AllReadyH.cons (o := _) rfl (fun K hK => ?_) AllReadyH.nil
          refine step_append_lies _ rfl (.tmp 17) (.tmp 29) 24 rfl w.heap.size 51 i1 _ 2 32 Try.underlying24 HI1.out HZ0.out HZ1.out HZ2.out rfl (by decide) (.slice ao am ac) k (flatK (l.take k)) (by simp [Act.eval, Act.put]) ho2 ⟨V1.heap.size, 0, none⟩ 1 1 [Value.string p1, Value.string p2] (by simp [Act.eval, Act.put]) rfl (World.news_of_block hn2) two_memK (by decide) HMX.out HBY.out (hV2.size) V2.heap.size rfl ?_; intro gA cA w3 hown hgrow hat hlt
          have hB3 : w3.ownsRow w.heap.size 50 2 (.slice bo bm bc) k (flatK (l.take k)) := hq2.kept hgrow (row_apart hq2 ho2 (by decide))
          have hb3 : Below w.heap.size w w3 := hV2.grown hgrow hV2.size (own_base ho2)
          have hA3 := hown
          have hn3 := (hgrow.block (wr.drew).heap.size (by omega) (fun e => by have := own_lt_blk HAd.out _ e.symm; have hsd : (wr.drew).heap.size = wr.heap.size := rfl; omega)).trans hn12
          clear hown hgrow hat hlt
          refine hK.out _ _ ?_ (fun hHeld => ?_)
          · exact HSV.out _ hb3
          refine wpAnyH_ready (rs := [27]) (by kernel_rfl) (by simp) ?_
          refine AllReadyH.cons (o := _) rfl (fun K hK => ?_) AllReadyH.nil
          refine step_append_lies _ rfl (.tmp 31) (.tmp 43) 25 rfl w.heap.size 50 i2 _ 2 32 Try.underlying25 HI2.out HY0.out HY1.out HY2.out rfl (by decide) (.slice bo bm bc) k (flatK (l.take k)) (by simp [Act.eval, Act.put]) hB3 ⟨(wr.drew).heap.size, 0, none⟩ 1 1 [Value.string p1, Value.string p2] (by simp [Act.eval, Act.put]) rfl (World.news_of_block hn3) two_memK (by decide) HMX.out HBY.out (hb3.size) w3.heap.size rfl ?_; intro gB cB w4 hown hgrow hat hlt
          have hA4 : w4.ownsRow w.heap.size 51 2 (.slice (some ⟨gA, 0, none⟩) (k + 1) cA) (k + 1) (flatK (l.take k) ++ [Value.string p1, Value.string p2]) := hA3.kept hgrow (row_apart hA3 hB3 (by decide))
          have hb4 : Below w.heap.size w w4 := hb3.grown hgrow hb3.size (own_base hB3)
          have hB4 := hown
          clear hown hgrow hat hlt
          refine hK.out _ _ ?_ (fun hHeld => ?_)
          · exact HSV.out _ hb4
          refine wpAnyH_ready (rs := [28]) (by kernel_rfl) (by simp) ?_
          refine AllReadyH.cons (o := _) rfl (fun K hK => ?_) AllReadyH.nil
          go_simp
          refine hK.out _ _ ?_ (fun hHeld => ?_)
          · exact HSV.out _ hb4
          refine wpAnyH_ready (rs := [29]) (by kernel_rfl) (by simp) ?_
          refine AllReadyH.cons (o := _) rfl (fun K hK => ?_) AllReadyH.nil
          go_simp
          refine hK.out _ _ ?_ (fun hHeld => ?_)
          · exact HSV.out _ hb4
          refine wpAnyH_done (by kernel_rfl) ?_ _
          have HN4 := Lib.hid (HEND.out gA cA gB cB w4 hA4 hB4 hb4)
          clear hA4 hB4 hb4 hHeld
          go_wp2_with fail
          first | exact ⟨HN4.out, by simp [intOf]; omega⟩ | (go_roundw; case rel => exact HN4.out; case measure => simp [intOf]; omega)
      · have hk6 : k = 40 := by omega
        have hend : Hid ((List.take 40 l).length = k ∧ List.take 40 l = List.take k l) := Lib.hid ⟨by rw [List.length_take, HN.out]; omega, by rw [hk6]⟩
        go_wp2_with fail
        refine bodyPost_ret (v := .tuple #[u4, u5]) (by simp [results, Try.results9, go_sem]) rfl ⟨_, _, rfl, ?_, ?_, HW.out⟩
        · rw [hend.out.1, hend.out.2]; exact HA.out
        · rw [hend.out.1, hend.out.2]; exact HB.out
    · have hkn : k = n := by omega
      have hend : Hid ((List.take 40 l).length = k ∧ List.take 40 l = List.take k l) := Lib.hid ⟨by rw [List.length_take, HN.out]; omega, by rw [List.take_of_length_le (by rw [HN.out]; omega), List.take_of_length_le (by rw [HN.out]; omega)]⟩
      go_wp2_with fail
      refine bodyPost_ret (v := .tuple #[u4, u5]) (by simp [results, Try.results9, go_sem]) rfl ⟨_, _, rfl, ?_, ?_, HW.out⟩
      · rw [hend.out.1, hend.out.2]; exact HA.out
      · rw [hend.out.1, hend.out.2]; exact HB.out
end Go.Proofs.Ythkcmdlfdaggmaa
