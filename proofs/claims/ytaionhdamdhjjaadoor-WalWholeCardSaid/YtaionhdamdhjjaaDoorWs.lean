/- Wal's laws: tame. -/
import Derived.Test.YtaionhdamdhjjaaDoorWr
import Derived.Deep.RegionHeld3
namespace Go.Proofs.YtaionhdamdhjjaaDoor
open Go.RowKit
variable {w : World}

/-- A row of changes that came in. -/
def IsLC (w : World) (a : Option Addr) (len : Nat) (zs : List (Int × ByteArray)) : Prop :=
  zs.length = len ∧ (0 < len → ∃ b o, a = some ⟨b, o, none⟩ ∧ b < w.heap.size ∧ ∀ i z, zs[i]? = some z → w.cell? ⟨b, o + i * 2, none⟩ = some (.int .i64 z.1) ∧ w.cell? ⟨b, o + i * 2 + 1, none⟩ = some (.string z.2))
theorem IsLC.below {a : Option Addr} {len : Nat} {zs : List (Int × ByteArray)} {w' : World} (h : IsLC w a len zs) (hb : Below w.heap.size w w') : IsLC w' a len zs :=
  ⟨h.1, fun h0 => by
    obtain ⟨b, o, h1, h2, h3⟩ := h.2 h0
    exact ⟨b, o, h1, Nat.lt_of_lt_of_le h2 hb.size, fun i z hz => by
      obtain ⟨c0, c1⟩ := h3 i z hz
      exact ⟨(hb.cell (p := ⟨b, o + i * 2, none⟩) (by show b < _; exact h2)).trans c0, (hb.cell (p := ⟨b, o + i * 2 + 1, none⟩) (by show b < _; exact h2)).trans c1⟩⟩⟩
def tameR (k : Int) : Int := (k.tmod 6 + 6).tmod 6
theorem tameR_rng (k : Int) : 0 ≤ tameR k ∧ tameR k ≤ 5 ∧ -5 ≤ k.tmod 6 ∧ k.tmod 6 ≤ 5 := by
  have h1 : -5 ≤ k.tmod 6 ∧ k.tmod 6 ≤ 5 := by
    by_cases h : 0 ≤ k
    · rw [Int.tmod_eq_emod_of_nonneg h]; omega
    · have e1 : k.tmod 6 = -((-k).tmod 6) := by rw [← Int.neg_tmod, Int.neg_neg]
      rw [e1, Int.tmod_eq_emod_of_nonneg (by omega)]; omega
  unfold tameR
  rw [Int.tmod_eq_emod_of_nonneg (by omega)]
  omega
def tameSec (k : Int) : Nat := [0, 1, 2, 9, 10, 11].getD (tameR k).toNat 0
def tame1 (c : Int × ByteArray) : Nat × ByteArray := (tameSec c.1, c.2.extract 0 (min c.2.size 512))
def tameL (zs : List (Int × ByteArray)) : List (Nat × ByteArray) := (zs.take 5).map tame1
theorem wpAnyH_weaken {P : Program} {md : Region.Mode} {ops : Array Oper} {Q : Exit → Act → World → Prop} {S S' : World → Prop} (hS : ∀ w, S' w → S w) :
    ∀ (fuel : Nat) (listed : Array Bool) (a : Act) (w : World), wpAnyH P md ops Q S' fuel listed a w → wpAnyH P md ops Q S fuel listed a w
  | 0, _, _, _, h => h
  | fuel + 1, _, _, _, h => ⟨h.1, fun i hi => wpOp_mono (fun a' w' h' => ⟨hS _ h'.1, wpAnyH_weaken hS fuel _ a' w' h'.2⟩) (h.2 i hi)⟩
def TmS (B : Nat) (zs : List (Int × ByteArray)) (w : World) (v i : Value) (wr : World) : Prop :=
  ∃ j : Nat, j ≤ zs.length ∧ j ≤ 5 ∧ i = .int .i64 j ∧ wr.ownsRow B 55 2 v j (flat ((zs.take j).map tame1)) ∧ Below B w wr
theorem tame_step {zs : List (Int × ByteArray)} {j : Nat} {z : Int × ByteArray} (h : zs[j]? = some z) : flat ((zs.take (j + 1)).map tame1) = flat ((zs.take j).map tame1) ++ [Value.int .i64 (tameSec z.1 : Int), Value.string (z.2.extract 0 (min z.2.size 512))] := by
  obtain ⟨h1, h2⟩ := List.getElem?_eq_some_iff.1 h
  rw [List.take_succ_eq_append_getElem h1, List.map_append, flat_append, h2]
  rfl
set_option maxHeartbeats 4000000 in
set_option maxRecDepth 100000 in
theorem tame_any (a : Option Addr) (len cap : Nat) (zs : List (Int × ByteArray)) (hz : IsLC w a len zs) (hl : len ≤ 9223372036854775807) :
    Calls Tryd.prog 20 #[.slice a len cap] w fun e w' => ∃ v, e = .returned v ∧ w'.ownsRow w.heap.size 55 2 v (tameL zs).length (flat (tameL zs)) ∧ Below w.heap.size w w' := by
  have HZ := Lib.hid hz
  have hli : (len : Int) ≤ 9223372036854775807 := by omega
  have H0 : Hid (TmS w.heap.size zs w (.slice none 0 0) (.int .i64 0) w) := Lib.hid ⟨0, Nat.zero_le _, Nat.zero_le _, rfl, World.ownsRow_nil _ _ _ _, Below.refl _ _⟩
  obtain ⟨i0, hi0, hz0, hs0, hy0⟩ := info_parts info_change
  clear hz
  go_enter Tryd.func20, Tryd.ntmps20
  go_wp2_with fail
  go_loopw [3, 4] (fun v i wr => TmS w.heap.size zs w v i wr) (fun _ i _ => 5 - (intOf i).toNat)
  case atStart => exact H0.out
  case round =>
    obtain ⟨j, hj, hj5, rfl, hown, hbl⟩ := hrel
    rw [HZ.out.1] at hj
    have HO := Lib.hid hown; have HBL := Lib.hid hbl
    clear hown hbl
    by_cases hlt : j < len ∧ j < 5
    · obtain ⟨h1, h2⟩ := hlt
      have hj1 : (j : Int) < len := by omega
      have hj2 : (j : Int) < 5 := by omega
      obtain ⟨b, o, rfl, hbw, hcell⟩ := HZ.out.2 (by omega)
      obtain ⟨z, hzj⟩ : ∃ z, zs[j]? = some z := ⟨_, List.getElem?_eq_getElem (by rw [HZ.out.1]; exact h1)⟩
      obtain ⟨c0, c1⟩ := hcell j z hzj
      have d0 := (HBL.out.cell (p := ⟨b, o + j * 2, none⟩) (by show b < _; exact hbw)).trans c0
      have d1 := (HBL.out.cell (p := ⟨b, o + j * 2 + 1, none⟩) (by show b < _; exact hbw)).trans c1
      have hst := Lib.hid (tame_step hzj)
      obtain ⟨kz, sz⟩ := z
      simp only at d0 d1
      have hbr := Nat.lt_of_lt_of_le hbw HBL.out.size
      obtain ⟨q1, q2, q3, q4⟩ := tameR_rng kz
      obtain ⟨ao, am, ac, hv⟩ : ∃ ao am ac, u3 = .slice ao am ac := by
        rcases HO.out.2 with ⟨h, _⟩ | ⟨_, _, _, h, _⟩
        · exact ⟨_, _, _, h⟩
        · exact ⟨_, _, _, h⟩
      subst hv
      obtain ⟨t6, ht6⟩ : ∃ t6, kz.tmod 6 = t6 := ⟨_, rfl⟩
      obtain ⟨r, hr⟩ : ∃ r : Int, (t6 + 6).tmod 6 = r := ⟨_, rfl⟩
      have hrr : tameR kz = r := by unfold tameR; rw [ht6, hr]
      obtain ⟨C, hC⟩ : ∃ C : Int, (tameSec kz : Int) = C := ⟨_, rfl⟩
      have HSEC := Lib.hid (show C = (([0, 1, 2, 9, 10, 11] : List Nat).getD r.toNat 0 : Nat) by rw [← hC]; unfold tameSec; rw [hrr])
      rw [hrr] at q1 q2
      rw [ht6] at q3 q4
      obtain ⟨mn, hmn⟩ : ∃ mn, min sz.size 512 = mn := ⟨_, rfl⟩
      have hmni : min (sz.size : Int) 512 = (mn : Int) := by omega
      have hmle : mn ≤ sz.size := by omega
      have hmlei : (mn : Int) ≤ sz.size := by omega
      obtain ⟨D, hD⟩ : ∃ D, sz.extract 0 mn = D := ⟨_, rfl⟩
      have HST : Hid (flat ((zs.take (j + 1)).map tame1) = flat ((zs.take j).map tame1) ++ [Value.int .i64 C, Value.string D]) := Lib.hid (by rw [hst.out]; simp only; rw [hC, hmn, hD])
      clear hcell hzj c0 c1 hrr hC hst
      have HIR := Lib.hid (show ∃ W1 W2 : World, (wr.drew).alloc (.cells #[.int .i64 0, .int .i64 1, .int .i64 2, .int .i64 9, .int .i64 10, .int .i64 11] 3) = W1 ∧ W1.alloc (.cells #[.int .i64 C, .string D] 55) = W2 from ⟨_, _, rfl, rfl⟩)
      have hW2b : Below wr.heap.size wr (((wr.drew).alloc (.cells #[.int .i64 0, .int .i64 1, .int .i64 2, .int .i64 9, .int .i64 10, .int .i64 11] 3)).alloc (.cells #[.int .i64 C, .string D] 55)) := (((Below.refl _ _).drew).alloc (Nat.le_refl _) _).alloc (by show wr.heap.size ≤ (wr.heap.push _).size; simp) _
      have hW2s : (((wr.drew).alloc (.cells #[.int .i64 0, .int .i64 1, .int .i64 2, .int .i64 9, .int .i64 10, .int .i64 11] 3)).alloc (.cells #[.int .i64 C, .string D] 55)).heap.size = wr.heap.size + 2 := by show ((wr.heap.push _).push _).size = _; simp
      have HOW2 := Lib.hid (own_below HO.out hW2b)
      have HBS2 : Hid (w.heap.size ≤ (((wr.drew).alloc (.cells #[.int .i64 0, .int .i64 1, .int .i64 2, .int .i64 9, .int .i64 10, .int .i64 11] 3)).alloc (.cells #[.int .i64 C, .string D] 55)).heap.size) := Lib.hid (by rw [hW2s]; have := HBL.out.size; omega)
      have HNEW : Hid (∀ i u, [Value.int .i64 C, Value.string D][i]? = some u → (((wr.drew).alloc (.cells #[.int .i64 0, .int .i64 1, .int .i64 2, .int .i64 9, .int .i64 10, .int .i64 11] 3)).alloc (.cells #[.int .i64 C, .string D] 55)).cell? ((⟨wr.heap.size + 1, 0, none⟩ : Addr).add i) = some u) := Lib.hid (World.news_of_block (show (((wr.drew).alloc (.cells #[.int .i64 0, .int .i64 1, .int .i64 2, .int .i64 9, .int .i64 10, .int .i64 11] 3)).alloc (.cells #[.int .i64 C, .string D] 55)).heap[wr.heap.size + 1]? = some (.cells #[.int .i64 C, .string D] 55 (0, 0)) from by
        show ((wr.heap.push _).push _)[wr.heap.size + 1]? = _
        rw [Array.getElem?_push, if_pos (by simp)]))
      have HKP : Hid (∀ w3, (((wr.drew).alloc (.cells #[.int .i64 0, .int .i64 1, .int .i64 2, .int .i64 9, .int .i64 10, .int .i64 11] 3)).alloc (.cells #[.int .i64 C, .string D] 55)).grownBy w3 (Value.slice ao am ac).ownBlock → w3.cell? ⟨b, o + j * 2, none⟩ = some (.int .i64 kz) ∧ w3.cell? ⟨b, o + j * 2 + 1, none⟩ = some (.string sz) ∧ Below w.heap.size w w3) := Lib.hid (fun w3 hg => by
        have hlt2 : b < (((wr.drew).alloc (.cells #[.int .i64 0, .int .i64 1, .int .i64 2, .int .i64 9, .int .i64 10, .int .i64 11] 3)).alloc (.cells #[.int .i64 C, .string D] 55)).heap.size := by rw [hW2s]; omega
        have e := (hg.block b hlt2 (fun e => by have := (HO.out.lt b e.symm).1; omega)).trans (hW2b.block b hbr)
        refine ⟨?_, ?_, ?_⟩
        · unfold World.cell? at d0 ⊢; simp only [e]; exact d0
        · unfold World.cell? at d1 ⊢; simp only [e]; exact d1
        · exact (HBL.out.trans (hW2b.mono HBL.out.size)).grown hg (by rw [hW2s]; have := HBL.out.size; omega) (fun k hk => (HO.out.lt k hk).1))
      have HWS := Lib.hid hW2s
      have HW2B := Lib.hid hW2b
      have HMX : Hid (j + 1 ≤ maxLen) := Lib.hid (by unfold maxLen; omega)
      have HBY : Hid ((j + 1) * 24 ≤ 140737488355328) := Lib.hid (by omega)
      clear hW2b hW2s HIR
      have hw6 : IntKind.i64.wrap (t6 + 6) = t6 + 6 := IntWalk.i64_in _ (by omega)
      have hw7 : wrap64 (t6 + 6) = t6 + 6 := IntWalk.wrap64_in _ (by omega)
      obtain ⟨rn, hrn⟩ : ∃ rn : Nat, r = (rn : Int) := ⟨r.toNat, by omega⟩
      subst hrn
      have hrn5 : rn ≤ 5 := by omega
      have hrn6 : (rn : Int) < 6 := by omega
      have HRC : Hid ((wr.drew.alloc (.cells #[.int .i64 0, .int .i64 1, .int .i64 2, .int .i64 9, .int .i64 10, .int .i64 11] 3)).cell? ⟨wr.heap.size, rn, none⟩ = some (.int .i64 C)) := Lib.hid (by
        rw [HSEC.out]
        unfold World.cell?
        simp only [show (wr.drew.alloc (.cells #[.int .i64 0, .int .i64 1, .int .i64 2, .int .i64 9, .int .i64 10, .int .i64 11] 3)).heap[wr.heap.size]? = _ from heap_alloc_new wr.drew _]
        rcases (show rn = 0 ∨ rn = 1 ∨ rn = 2 ∨ rn = 3 ∨ rn = 4 ∨ rn = 5 by omega) with rfl | rfl | rfl | rfl | rfl | rfl <;> rfl)
      have HS1 : Hid ((fun w' => w'.cell? ⟨b, o + j * 2, none⟩ = some (.int .i64 kz) ∧ w'.cell? ⟨b, o + j * 2 + 1, none⟩ = some (.string sz)) (wr.drew)) := Lib.hid ⟨d0, d1⟩
      have HS2 : Hid ((fun w' => w'.cell? ⟨b, o + j * 2, none⟩ = some (.int .i64 kz) ∧ w'.cell? ⟨b, o + j * 2 + 1, none⟩ = some (.string sz) ∧ w'.cell? ⟨wr.heap.size, rn, none⟩ = some (.int .i64 C)) (wr.drew.alloc (.cells #[.int .i64 0, .int .i64 1, .int .i64 2, .int .i64 9, .int .i64 10, .int .i64 11] 3))) := Lib.hid ⟨(World.cell?_alloc_past _ _ _ hbr).trans d0, (World.cell?_alloc_past _ _ _ hbr).trans d1, HRC.out⟩
      have HS3 : Hid ((fun w' => w'.cell? ⟨b, o + j * 2, none⟩ = some (.int .i64 kz) ∧ w'.cell? ⟨b, o + j * 2 + 1, none⟩ = some (.string sz) ∧ w'.cell? ⟨wr.heap.size, rn, none⟩ = some (.int .i64 C)) (((wr.drew).alloc (.cells #[.int .i64 0, .int .i64 1, .int .i64 2, .int .i64 9, .int .i64 10, .int .i64 11] 3)).alloc (.cells #[.int .i64 C, .string D] 55))) := Lib.hid (by
        have hsz : (wr.drew.alloc (.cells #[.int .i64 0, .int .i64 1, .int .i64 2, .int .i64 9, .int .i64 10, .int .i64 11] 3)).heap.size = wr.heap.size + 1 := by show (wr.heap.push _).size = _; simp
        exact ⟨(World.cell?_alloc_past _ _ _ (by rw [hsz]; omega)).trans HS2.out.1, (World.cell?_alloc_past _ _ _ (by rw [hsz]; omega)).trans HS2.out.2.1, (World.cell?_alloc_past _ _ _ (by rw [hsz]; omega)).trans HS2.out.2.2⟩)
      have HS4 : Hid (∀ w3, (((wr.drew).alloc (.cells #[.int .i64 0, .int .i64 1, .int .i64 2, .int .i64 9, .int .i64 10, .int .i64 11] 3)).alloc (.cells #[.int .i64 C, .string D] 55)).grownBy w3 (Value.slice ao am ac).ownBlock → w3.cell? ⟨wr.heap.size, rn, none⟩ = some (.int .i64 C)) := Lib.hid (fun w3 hg => by
        have e := hg.block wr.heap.size (by rw [HWS.out]; omega) (fun e => by have := (HO.out.lt _ e.symm).2; omega)
        have e2 := HS3.out.2.2
        unfold World.cell? at e2 ⊢
        simp only [e]; exact e2)
      go_wp2_with fail
      refine wp_region_held_drew (S := (fun w' => w'.cell? ⟨b, o + j * 2, none⟩ = some (.int .i64 kz) ∧ w'.cell? ⟨b, o + j * 2 + 1, none⟩ = some (.string sz))) (by kernel_rfl) HS1.out (fun hHeld => ?_)
      refine wpAnyH_take (i := 0) (v := ?_) rfl (by kernel_rfl) (by kernel_rfl) (by kernel_rfl) (fun _ _ _ h => h) (Or.inl ⟨by rfl, ?_⟩) HS1.out ?_
      rotate_left
      · intro wq hSw; (try dsimp only at hSw); go_simp; try with_reducible rfl
      try simp only [Act.put, List.setIfInBounds_toArray, List.set_cons_zero, List.set_cons_succ]
      refine wpAnyH_take (i := 2) (v := ?_) rfl (by kernel_rfl) (by kernel_rfl) (by kernel_rfl) (fun _ _ _ h => h) (Or.inl ⟨by rfl, ?_⟩) HS1.out ?_
      rotate_left
      · intro wq hSw; (try dsimp only at hSw); go_simp; try with_reducible rfl
      try simp only [Act.put, List.setIfInBounds_toArray, List.set_cons_zero, List.set_cons_succ]
      refine wpAnyH_take (i := 3) (v := ?_) rfl (by kernel_rfl) (by kernel_rfl) (by kernel_rfl) (fun _ _ _ h => h) (Or.inl ⟨by rfl, ?_⟩) HS1.out ?_
      rotate_left
      · intro wq hSw; (try dsimp only at hSw); go_simp; try with_reducible rfl
      try simp only [Act.put, List.setIfInBounds_toArray, List.set_cons_zero, List.set_cons_succ]
      refine wpAnyH_take (i := 4) (v := ?_) rfl (by kernel_rfl) (by kernel_rfl) (by kernel_rfl) (fun _ _ _ h => h) (Or.inl ⟨by rfl, ?_⟩) HS1.out ?_
      rotate_left
      · intro wq hSw; (try dsimp only at hSw); go_simp; try with_reducible rfl
      try simp only [Act.put, List.setIfInBounds_toArray, List.set_cons_zero, List.set_cons_succ]
      refine wpAnyH_take (i := 5) (v := ?_) rfl (by kernel_rfl) (by kernel_rfl) (by kernel_rfl) (fun _ _ _ h => h) (Or.inl ⟨by rfl, ?_⟩) HS1.out ?_
      rotate_left
      · intro wq hSw; (try dsimp only at hSw); go_simp; try with_reducible rfl
      try simp only [Act.put, List.setIfInBounds_toArray, List.set_cons_zero, List.set_cons_succ]
      refine wpAnyH_take (i := 6) (v := ?_) rfl (by kernel_rfl) (by kernel_rfl) (by kernel_rfl) (fun _ _ _ h => h) (Or.inl ⟨by rfl, ?_⟩) HS1.out ?_
      rotate_left
      · intro wq hSw; (try dsimp only at hSw); go_simp; try with_reducible rfl
      try simp only [Act.put, List.setIfInBounds_toArray, List.set_cons_zero, List.set_cons_succ]
      refine wpAnyH_take (i := 7) (v := ?_) rfl (by kernel_rfl) (by kernel_rfl) (by kernel_rfl) (fun _ _ _ h => h) (Or.inl ⟨by rfl, ?_⟩) HS1.out ?_
      rotate_left
      · intro wq hSw; (try dsimp only at hSw); go_simp; try with_reducible rfl
      try simp only [Act.put, List.setIfInBounds_toArray, List.set_cons_zero, List.set_cons_succ]
      refine wpAnyH_take (i := 8) (v := ?_) rfl (by kernel_rfl) (by kernel_rfl) (by kernel_rfl) (fun _ _ _ h => h) (Or.inl ⟨by rfl, ?_⟩) HS1.out ?_
      rotate_left
      · intro wq hSw; (try dsimp only at hSw); go_simp; try with_reducible rfl
      try simp only [Act.put, List.setIfInBounds_toArray, List.set_cons_zero, List.set_cons_succ]
      refine wpAnyH_take (i := 9) (v := ?_) rfl (by kernel_rfl) (by kernel_rfl) (by kernel_rfl) (fun _ _ _ h => h) (Or.inl ⟨by rfl, ?_⟩) HS1.out ?_
      rotate_left
      · intro wq hSw; (try dsimp only at hSw); go_simp; try with_reducible rfl
      try simp only [Act.put, List.setIfInBounds_toArray, List.set_cons_zero, List.set_cons_succ]
      refine wpAnyH_take (i := 12) (v := ?_) rfl (by kernel_rfl) (by kernel_rfl) (by kernel_rfl) (fun _ _ _ h => h) (Or.inl ⟨by rfl, ?_⟩) HS1.out ?_
      rotate_left
      · intro wq hSw; (try dsimp only at hSw); go_simp; try with_reducible rfl
      try simp only [Act.put, List.setIfInBounds_toArray, List.set_cons_zero, List.set_cons_succ]
      refine wpAnyH_take (i := 13) (v := ?_) rfl (by kernel_rfl) (by kernel_rfl) (by kernel_rfl) (fun _ _ _ h => h) (Or.inl ⟨by rfl, ?_⟩) HS1.out ?_
      rotate_left
      · intro wq hSw; (try dsimp only at hSw); go_simp; try with_reducible rfl
      try simp only [Act.put, List.setIfInBounds_toArray, List.set_cons_zero, List.set_cons_succ]
      refine wpAnyH_take (i := 14) (v := ?_) rfl (by kernel_rfl) (by kernel_rfl) (by kernel_rfl) (fun _ _ _ h => h) (Or.inl ⟨by rfl, ?_⟩) HS1.out ?_
      rotate_left
      · intro wq hSw; (try dsimp only at hSw); go_simp; try with_reducible rfl
      try simp only [Act.put, List.setIfInBounds_toArray, List.set_cons_zero, List.set_cons_succ]
      refine wpAnyH_take (i := 15) (v := ?_) rfl (by kernel_rfl) (by kernel_rfl) (by kernel_rfl) (fun _ _ _ h => h) (Or.inl ⟨by rfl, ?_⟩) HS1.out ?_
      rotate_left
      · intro wq hSw; (try dsimp only at hSw); go_simp; try with_reducible rfl
      try simp only [Act.put, List.setIfInBounds_toArray, List.set_cons_zero, List.set_cons_succ]
      refine wpAnyH_take (i := 16) (v := ?_) rfl (by kernel_rfl) (by kernel_rfl) (by kernel_rfl) (fun _ _ _ h => h) (Or.inl ⟨by rfl, ?_⟩) HS1.out ?_
      rotate_left
      · intro wq hSw; (try dsimp only at hSw); go_simp; try with_reducible rfl
      try simp only [Act.put, List.setIfInBounds_toArray, List.set_cons_zero, List.set_cons_succ]
      refine wpAnyH_take (i := 17) (v := ?_) rfl (by kernel_rfl) (by kernel_rfl) (by kernel_rfl) (fun _ _ _ h => h) (Or.inl ⟨by rfl, ?_⟩) HS1.out ?_
      rotate_left
      · intro wq hSw; (try dsimp only at hSw); go_simp; try with_reducible rfl
      try simp only [Act.put, List.setIfInBounds_toArray, List.set_cons_zero, List.set_cons_succ]
      refine wpAnyH_take (i := 18) (v := ?_) rfl (by kernel_rfl) (by kernel_rfl) (by kernel_rfl) (fun _ _ _ h => h) (Or.inl ⟨by rfl, ?_⟩) HS1.out ?_
      rotate_left
      · intro wq hSw; (try dsimp only at hSw); go_simp; try with_reducible rfl
      try simp only [Act.put, List.setIfInBounds_toArray, List.set_cons_zero, List.set_cons_succ]
      refine wpAnyH_take (i := 19) (v := ?_) rfl (by kernel_rfl) (by kernel_rfl) (by kernel_rfl) (fun _ _ _ h => h) (Or.inl ⟨by rfl, ?_⟩) HS1.out ?_
      rotate_left
      · intro wq hSw; (try dsimp only at hSw); go_simp; try with_reducible rfl
      try simp only [Act.put, List.setIfInBounds_toArray, List.set_cons_zero, List.set_cons_succ]
      refine wpAnyH_take (i := 20) (v := ?_) rfl (by kernel_rfl) (by kernel_rfl) (by kernel_rfl) (fun _ _ _ h => h) (Or.inl ⟨by rfl, ?_⟩) HS1.out ?_
      rotate_left
      · intro wq hSw; (try dsimp only at hSw); go_simp; try with_reducible rfl
      try simp only [Act.put, List.setIfInBounds_toArray, List.set_cons_zero, List.set_cons_succ]
      refine wpAnyH_take (i := 21) (v := ?_) rfl (by kernel_rfl) (by kernel_rfl) (by kernel_rfl) (fun _ _ _ h => h) (Or.inl ⟨by rfl, ?_⟩) HS1.out ?_
      rotate_left
      · intro wq hSw; (try dsimp only at hSw); go_simp; try with_reducible rfl
      try simp only [Act.put, List.setIfInBounds_toArray, List.set_cons_zero, List.set_cons_succ]
      refine wpAnyH_take (i := 22) (v := ?_) rfl (by kernel_rfl) (by kernel_rfl) (by kernel_rfl) (fun _ _ _ h => h) (Or.inl ⟨by rfl, ?_⟩) HS1.out ?_
      rotate_left
      · intro wq hSw; (try dsimp only at hSw); go_simp; try with_reducible rfl
      try simp only [Act.put, List.setIfInBounds_toArray, List.set_cons_zero, List.set_cons_succ]
      refine wpAnyH_take (i := 23) (v := ?_) rfl (by kernel_rfl) (by kernel_rfl) (by kernel_rfl) (fun _ _ _ h => h) (Or.inl ⟨by rfl, ?_⟩) HS1.out ?_
      rotate_left
      · intro wq hSw; (try dsimp only at hSw); go_simp; try with_reducible rfl
      try simp only [Act.put, List.setIfInBounds_toArray, List.set_cons_zero, List.set_cons_succ]
      refine wpAnyH_take (i := 24) (v := ?_) rfl (by kernel_rfl) (by kernel_rfl) (by kernel_rfl) (fun _ _ _ h => h) (Or.inl ⟨by rfl, ?_⟩) HS1.out ?_
      rotate_left
      · intro wq hSw; (try dsimp only at hSw); go_simp; try with_reducible rfl
      try simp only [Act.put, List.setIfInBounds_toArray, List.set_cons_zero, List.set_cons_succ]
      refine wpAnyH_ready (rs := [1]) (by kernel_rfl) (by simp) ?_
      refine AllReadyH.cons (o := _) rfl (fun K hK => ?_) AllReadyH.nil
      go_simp
      refine hK.out _ _ ?_ (fun hHeld => ?_)
      · exact ⟨HS2.out.1, HS2.out.2.1⟩
      refine wpAnyH_weaken (S' := (fun w' => w'.cell? ⟨b, o + j * 2, none⟩ = some (.int .i64 kz) ∧ w'.cell? ⟨b, o + j * 2 + 1, none⟩ = some (.string sz) ∧ w'.cell? ⟨wr.heap.size, rn, none⟩ = some (.int .i64 C))) (fun _ h => ⟨h.1, h.2.1⟩) _ _ _ _ ?_
      refine wpAnyH_take (i := 10) (v := ?_) rfl (by kernel_rfl) (by kernel_rfl) (by kernel_rfl) (fun _ _ _ h => h) (Or.inl ⟨by rfl, ?_⟩) HS2.out ?_
      rotate_left
      · intro wq hSw; (try dsimp only at hSw); go_simp; try with_reducible rfl
      try simp only [Act.put, List.setIfInBounds_toArray, List.set_cons_zero, List.set_cons_succ]
      refine wpAnyH_take (i := 11) (v := ?_) rfl (by kernel_rfl) (by kernel_rfl) (by kernel_rfl) (fun _ _ _ h => h) (Or.inl ⟨by rfl, ?_⟩) HS2.out ?_
      rotate_left
      · intro wq hSw; (try dsimp only at hSw); go_simp; try with_reducible rfl
      try simp only [Act.put, List.setIfInBounds_toArray, List.set_cons_zero, List.set_cons_succ]
      refine wpAnyH_take (i := 25) (v := ?_) rfl (by kernel_rfl) (by kernel_rfl) (by kernel_rfl) (fun _ _ _ h => h) (Or.inl ⟨by rfl, ?_⟩) HS2.out ?_
      rotate_left
      · intro wq hSw; (try dsimp only at hSw); go_simp; try with_reducible rfl
      try simp only [Act.put, List.setIfInBounds_toArray, List.set_cons_zero, List.set_cons_succ]
      refine wpAnyH_ready (rs := [26]) (by kernel_rfl) (by simp) ?_
      refine AllReadyH.cons (o := _) rfl (fun K hK => ?_) AllReadyH.nil
      go_simp
      refine hK.out _ _ ?_ (fun hHeld => ?_)
      · exact HS3.out
      refine wpAnyH_ready (rs := [27]) (by kernel_rfl) (by simp) ?_
      refine AllReadyH.cons (o := _) rfl (fun K hK => ?_) AllReadyH.nil
      (refine step_append_lies _ rfl (.tmp 15) (.tmp 41) 42 rfl w.heap.size 55 i0 _ 2 24 Tryd.underlying42 hi0 hz0 hs0 hy0 rfl (by decide) (.slice ao am ac) j (flat ((zs.take j).map tame1)) (by simp [Act.eval, Act.put]) HOW2.out ⟨wr.heap.size + 1, 0, none⟩ 1 1 [Value.int .i64 C, Value.string D] (by simp [Act.eval, Act.put]) rfl HNEW.out (by intro u hu; simp at hu; rcases hu with rfl | rfl <;> rfl) (by decide) HMX.out HBY.out HBS2.out (wr.heap.size + 2) HWS.out ?_; intro gx cx w3 hown hgrow hat hlt; obtain ⟨e0, e1, e2⟩ := HKP.out w3 hgrow; have e3 := HS4.out w3 hgrow; have HOWN := Lib.hid hown; have HB3 := Lib.hid e2; clear hown hgrow hat hlt e2)
      refine hK.out _ _ ?_ (fun hHeld => ?_)
      · exact ⟨e0, e1, e3⟩
      refine wpAnyH_ready (rs := [28]) (by kernel_rfl) (by simp) ?_
      refine AllReadyH.cons (o := _) rfl (fun K hK => ?_) AllReadyH.nil
      go_simp
      refine hK.out _ _ ?_ (fun hHeld => ?_)
      · exact ⟨e0, e1, e3⟩
      refine wpAnyH_done (by kernel_rfl) ?_ _
      have HN : Hid (TmS w.heap.size zs w (.slice (some ⟨gx, 0, none⟩) (j + 1) cx) (.int .i64 ((j : Int) + 1)) w3) := Lib.hid ⟨j + 1, by rw [HZ.out.1]; omega, by omega, by rw [Int.natCast_succ], by rw [HST.out]; exact HOWN.out, HB3.out⟩
      clear e0 e1 e3
      go_wp2_with fail
      exact ⟨HN.out, by simp [intOf]; omega⟩
    · have hown := HO.out
      have HE : Hid (wr.ownsRow w.heap.size 55 2 u3 (tameL zs).length (flat (tameL zs))) := Lib.hid (by
        have e : (zs.take j).map tame1 = tameL zs := by
          unfold tameL
          rcases (show j = len ∨ j = 5 by omega) with e | e
          · rw [e, ← HZ.out.1, List.take_length, List.take_of_length_le (by rw [HZ.out.1]; omega)]
          · rw [e]
        have e2 : (tameL zs).length = j := by rw [← e, List.length_map, List.length_take, HZ.out.1]; omega
        rw [e2, ← e]; exact hown)
      obtain ⟨ao, am, ac, hv⟩ : ∃ ao am ac, u3 = .slice ao am ac := by
        rcases hown.2 with ⟨h, _⟩ | ⟨_, _, _, h, _⟩
        · exact ⟨_, _, _, h⟩
        · exact ⟨_, _, _, h⟩
      subst hv
      clear hown
      have hex : (¬ (j : Int) < len) ∨ ((j : Int) < len ∧ ¬ (j : Int) < 5) := by omega
      rcases hex with hx1 | ⟨hx1, hx2⟩
      all_goals
        go_wp2_with fail
        go_ret
        exact ⟨_, rfl, HE.out, HBL.out⟩
end Go.Proofs.YtaionhdamdhjjaaDoor
