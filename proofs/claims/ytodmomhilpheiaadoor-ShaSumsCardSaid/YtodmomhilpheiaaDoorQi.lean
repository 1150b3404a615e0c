/- end. -/
import Derived.Test.YtodmomhilpheiaaDoorQh
namespace Go.Proofs.YtodmomhilpheiaaDoor
open Go.RowKit

/-- clear of the block from place o on. -/
theorem run_clear_at (b o n c : Nat) (f blk : Nat → Int) (m : Int) (w : World) (hH : HashAt b f blk m w) (hn : o + n ≤ 64) (t e ty : TypeId) (ht : Tryd.prog.underlying t = some (.slice e)) (he : ∀ w, (zeroValue e).run Tryd.prog w = .ok (.int .u8 0) w) :
    (Builtin.clear_ #[t] ty #[.slice (some ⟨b, 8 + o, none⟩) n c]).run Tryd.prog w = .ok (.tuple #[]) (w.setCells b (8 + o) ((List.replicate n (0 : Int)).map (Value.int .u8))) := by
  rw [List.map_replicate]
  by_cases h0 : n = 0
  · subst h0
    simp [Builtin.clear_, run_underlying ht, World.setCells]
  · exact Lib.run_clear_slice w t e ty (.int .u8 0) ht he rfl rfl b (8 + o) n c (by omega) (fun j hj => by rw [Nat.add_assoc, hH.byte (o + j) (by omega)]; rfl) (fun j _ => hH.free _)
theorem zero_u8 : ∀ w, (zeroValue 5).run Tryd.prog w = .ok (.int .u8 0) w := fun w => by kernel_rfl

def LenSlot (b : Nat) (f blk : Nat → Int) (m : Nat) (w : World) (i : Value) (wr : World) : Prop :=
  ∃ j : Nat, j ≤ 8 ∧ i = .int .i64 j ∧ HashAt b f (fun i => if 56 ≤ i ∧ i < 56 + j then lenF m (i - 56) else blk i) m wr ∧ w.grownBy wr (some b)
theorem len_start {b : Nat} {f blk : Nat → Int} {m : Nat} {w wr : World} (h : HashAt b f blk m wr) (g : w.grownBy wr (some b)) : LenSlot b f blk m w (.int .i64 0) wr :=
  ⟨0, by omega, rfl, hash_congr h (fun _ _ => rfl) (fun i _ => by rw [if_neg (by omega)]), g⟩
theorem len_step {b : Nat} {f blk : Nat → Int} {m j : Nat} {w wr : World} (h : HashAt b f (fun i => if 56 ≤ i ∧ i < 56 + j then lenF m (i - 56) else blk i) m wr) (g : w.grownBy wr (some b)) (hj : j < 8) (v : Int) (hv : v = lenF m j) (i : Int) (hi : i = ((j + 1 : Nat) : Int)) :
    LenSlot b f blk m w (.int .i64 i) (wr.setCell ⟨b, 8 + (56 + j), none⟩ (.int .u8 v)).drew := by
  refine ⟨j + 1, by omega, by rw [hi], ?_, kept_drew (kept_set g _ _)⟩
  refine hash_congr (h.setB (56 + j) (by omega) v).drew (fun _ _ => rfl) (fun i _ => ?_)
  by_cases e : i = 56 + j
  · rw [if_pos e, if_pos (by omega), hv, e, show 56 + j - 56 = j by omega]
  · rw [if_neg e]
    by_cases e2 : 56 ≤ i ∧ i < 56 + j
    · rw [if_pos e2, if_pos (by omega)]
    · rw [if_neg e2, if_neg (by omega)]
/-- The last block, when all is in it. -/
theorem len_full {b : Nat} {D f blk : Nat → Int} {m k : Nat} {wr : World} (h : HashAt b f (fun i => if 56 ≤ i ∧ i < 56 + 8 then lenF m (i - 56) else blk i) m wr) (hk : k + 1 = nblk m) (hz : ∀ i, i < 56 → blk i = padF D m (64 * k + i)) :
    HashAt b f (fun i => padF D m (64 * k + i)) m wr := by
  refine hash_congr h (fun _ _ => rfl) (fun i hi => ?_)
  by_cases e : 56 ≤ i
  · rw [if_pos (by omega)]
    have h1 : m < 64 * k + 56 := by unfold nblk at hk; split at hk <;> omega
    unfold padF
    rw [if_neg (by omega), if_neg (by omega), if_neg (by omega), show 64 * k + i + 8 - 64 * nblk m = i - 56 by omega]
  · rw [if_neg (by omega)]; exact hz i (by omega)
theorem len0 (m : Nat) (hm : m < 1152921504606846976) : 8 * (m : Int) / 72057594037927936 = lenF m 0 := by unfold lenF; simp; omega
theorem len1 (m : Nat) : 8 * (m : Int) / 281474976710656 % 256 = lenF m 1 := by unfold lenF; simp
theorem len2 (m : Nat) : 8 * (m : Int) / 1099511627776 % 256 = lenF m 2 := by unfold lenF; simp
theorem len3 (m : Nat) : 8 * (m : Int) / 4294967296 % 256 = lenF m 3 := by unfold lenF; simp
theorem len4 (m : Nat) : 8 * (m : Int) / 16777216 % 256 = lenF m 4 := by unfold lenF; simp
theorem len5 (m : Nat) : 8 * (m : Int) / 65536 % 256 = lenF m 5 := by unfold lenF; simp
theorem len6 (m : Nat) : 8 * (m : Int) / 256 % 256 = lenF m 6 := by unfold lenF; simp
theorem len7 (m : Nat) : 8 * (m : Int) % 256 = lenF m 7 := by unfold lenF; simp
/-- The block behind the mark. -/
theorem mark_blk {b : Nat} {D f blk : Nat → Int} {m u : Nat} {w : World} (h : HashAt b f (fun j => if j = u then 128 else blk j) m w) (hu : m % 64 = u) (hB : ∀ i, i < u → blk i = D (64 * (m / 64) + i)) (W : World) (n : Nat) (hn : u + 1 + n = 64) (hW : W = w.setCells b (8 + (u + 1)) ((List.replicate n (0 : Int)).map (Value.int .u8))) :
    HashAt b f (fun i => if i < u then D (64 * (m / 64) + i) else if i = u then 128 else 0) m W := by
  rw [hW]
  refine hash_congr (HashAt.puts (List.replicate n (0 : Int)) (u + 1) _ _ h (by rw [List.length_replicate]; omega)) (fun _ _ => rfl) (fun i hi => ?_)
  unfold putF
  simp only [List.length_replicate]
  by_cases e : i < u
  · rw [if_neg (by omega), if_neg (by omega), if_pos e, hB i e]
  · by_cases e2 : i = u
    · rw [if_neg (by omega), if_pos e2, if_neg e, if_pos e2]
    · rw [if_pos (by omega), if_neg e, if_neg e2]
      rw [List.getD_eq_getElem?_getD, List.getElem?_replicate]
      split <;> rfl
theorem mark_low {D : Nat → Int} {m u : Nat} (hu : m % 64 = u) (h : u < 56) (i : Nat) (hi : i < 56) : (if i < u then D (64 * (m / 64) + i) else if i = u then 128 else 0) = padF D m (64 * (m / 64) + i) := by
  have hk : nblk m = m / 64 + 1 := by unfold nblk; rw [if_pos (by omega)]
  unfold padF
  by_cases e : i < u
  · rw [if_pos e, if_pos (by omega)]
  · by_cases e2 : i = u
    · rw [if_neg e, if_pos e2, if_neg (by omega), if_pos (by omega)]
    · rw [if_neg e, if_neg e2, if_neg (by omega), if_neg (by omega), if_pos (by omega)]
theorem mark_high {D : Nat → Int} {m u : Nat} (hu : m % 64 = u) (h : ¬ u < 56) (i : Nat) (hi : i < 64) : (if i < u then D (64 * (m / 64) + i) else if i = u then 128 else 0) = padF D m (64 * (m / 64) + i) := by
  have hk : nblk m = m / 64 + 2 := by unfold nblk; rw [if_neg (by omega)]
  unfold padF
  by_cases e : i < u
  · rw [if_pos e, if_pos (by omega)]
  · by_cases e2 : i = u
    · rw [if_neg e, if_pos e2, if_neg (by omega), if_pos (by omega)]
    · rw [if_neg e, if_neg e2, if_neg (by omega), if_neg (by omega), if_pos (by omega)]
theorem zero_high {D : Nat → Int} {m u : Nat} (hu : m % 64 = u) (h : ¬ u < 56) (i : Nat) (hi : i < 56) : (0 : Int) = padF D m (64 * (m / 64 + 1) + i) := by
  have hk : nblk m = m / 64 + 2 := by unfold nblk; rw [if_neg (by omega)]
  have := Nat.mod_lt m (show 0 < 64 by decide)
  unfold padF
  rw [if_neg (by omega), if_neg (by omega), if_pos (by omega)]
theorem stF_pad (D : Nat → Int) (m k : Nat) (h : 64 * k ≤ m) : stF D k = stF (padF D m) k := stF_congr k (fun i hi => by unfold padF; rw [if_pos (by omega)])
theorem all_zero {b : Nat} {f blk : Nat → Int} {m : Int} {w : World} (h : HashAt b f blk m w) (W : World) (hW : W = w.setCells b (8 + 0) ((List.replicate 64 (0 : Int)).map (Value.int .u8))) : HashAt b f (fun _ => 0) m W := by
  rw [hW]
  refine hash_congr (HashAt.puts (List.replicate 64 (0 : Int)) 0 _ _ h (by rw [List.length_replicate]; omega)) (fun _ _ => rfl) (fun i hi => ?_)
  unfold putF
  simp only [List.length_replicate]
  rw [if_pos (by omega), List.getD_eq_getElem?_getD, List.getElem?_replicate]
  split <;> rfl

set_option maxHeartbeats 2000000 in
set_option maxRecDepth 100000 in
theorem end_low (b : Nat) (D : Nat → Int) (m : Nat) (w : World) (hB : Begun b D m w) (hD : Bytes8 D) (hV : VarsAt w) (hb : 1 < b) (hm : m < 1152921504606846976) (hc : m % 64 < 56) :
    Calls Tryd.prog 20 #[.pointer (some ⟨b, 0, none⟩)] w fun e w' => e = .returned (.tuple #[]) ∧ (∃ blk, HashAt b (stF (padF D m) (nblk m)) blk m w') ∧ w.grownBy w' (some b) := by
  obtain ⟨blk, hH, hB8, hBD⟩ := hB
  have hl := hH.len
  obtain ⟨u, hue⟩ : ∃ u, m % 64 = u := ⟨_, rfl⟩
  rw [hue] at hc hBD
  have hui : (m : Int) % 64 = u := by omega
  have hcu := hH.byte u (by omega)
  have hzu := hH.free (8 + u)
  have h1 := hH.setB u (by omega) 128
  obtain ⟨w2, hcl, h2, g2⟩ : ∃ w2, (Builtin.clear_ #[44] 0 #[.slice (some ⟨b, 8 + (u + 1), none⟩) (63 - u) (63 - u)]).run Tryd.prog (w.setCell ⟨b, 8 + u, none⟩ (.int .u8 128)) = .ok (.tuple #[]) w2 ∧ HashAt b (stF D (m / 64)) (fun i => if i < u then D (64 * (m / 64) + i) else if i = u then 128 else 0) m w2 ∧ w.grownBy w2 (some b) :=
    ⟨_, run_clear_at b (u + 1) (63 - u) (63 - u) _ _ _ _ h1 (by omega) 44 5 0 Tryd.underlying44 zero_u8, mark_blk (D := D) h1 hue hBD _ (63 - u) (by omega) rfl, kept_sets _ _ _ (kept_set (kept_below (Below.refl _ _)) (8 + u) _)⟩
  have HU := Lib.hid hue
  have un : ¬ u = 63 := by omega
  have u0 : 0 ≤ (u : Int) := by omega
  have u64 : (u : Int) < 64 := by omega
  have ul : (u : Int) + 1 ≤ 64 := by omega
  have ug : 0 ≤ (u : Int) + 1 := by omega
  have u56 : (u : Int) < 56 := by omega
  clear hue
  rw [stF_pad D m (m / 64) (by omega)] at h2
  obtain ⟨k, hk⟩ : ∃ k, k = m / 64 := ⟨_, rfl⟩
  obtain ⟨F, hF⟩ : ∃ F, F = stF (padF D m) k := ⟨_, rfl⟩
  obtain ⟨Z, hZ⟩ : ∃ Z, Z = (fun i => if i < u then D (64 * (m / 64) + i) else if i = u then 128 else 0) := ⟨_, rfl⟩
  have hz : ∀ i, i < 56 → Z i = padF D m (64 * k + i) := fun i hi => by rw [hZ, hk]; exact mark_low HU.out hc i hi
  have hkn : k + 1 = nblk m := by have := HU.out; unfold nblk; rw [if_pos (by omega), hk]
  rw [← hk, ← hF] at h2
  have h2 : HashAt b F Z m w2 := by rw [hZ, ← hk]; exact h2
  have H2 := Lib.hid h2; have K2 := Lib.hid g2; have HZ := Lib.hid hz; have HK := Lib.hid hkn; have HF := Lib.hid hF
  have HV := Lib.hid hV; have HD := Lib.hid hD; have HM := Lib.hid hm
  clear hH hV hB8 hBD hD hm h1 h2 g2 hc hz hk hkn hF hZ
  go_enter Tryd.func20, Tryd.ntmps20
  go_wp2_with fail
  go_loopw [29] (fun i wr => LenSlot b F Z m w i wr) (fun i _ => 8 - (intOf i).toNat)
  case atStart => exact len_start H2.out K2.out
  case round =>
    obtain ⟨j, hj, rfl, hHj, hGj⟩ := hrel
    have HHj := Lib.hid hHj; have HGj := Lib.hid hGj
    clear hHj hGj
    by_cases hlt : j < 8
    · have hlj := HHj.out.len
      have cj := HHj.out.byte (56 + j) (by omega)
      have zj := HHj.out.free (8 + (56 + j))
      have hmm := HM.out
      have hmi : (m : Int) < 1152921504606846976 := by omega
      have hm0 : 0 ≤ (m : Int) := by omega
      clear hmm
      rcases (show j = 0 ∨ j = 1 ∨ j = 2 ∨ j = 3 ∨ j = 4 ∨ j = 5 ∨ j = 6 ∨ j = 7 by omega) with rfl | rfl | rfl | rfl | rfl | rfl | rfl | rfl
      · have hs := Lib.hid (len_step HHj.out HGj.out (by omega) (8 * (m : Int) / 72057594037927936) (len0 m HM.out) 1 rfl)
        go_wp2_with fail
        go_region
        go_wp2_with fail
        exact ⟨hs.out, by simp [intOf]⟩
      · have hs := Lib.hid (len_step HHj.out HGj.out (by omega) (8 * (m : Int) / 281474976710656 % 256) (len1 m) 2 rfl)
        go_wp2_with fail
        go_region
        go_wp2_with fail
        exact ⟨hs.out, by simp [intOf]⟩
      · have hs := Lib.hid (len_step HHj.out HGj.out (by omega) (8 * (m : Int) / 1099511627776 % 256) (len2 m) 3 rfl)
        go_wp2_with fail
        go_region
        go_wp2_with fail
        exact ⟨hs.out, by simp [intOf]⟩
      · have hs := Lib.hid (len_step HHj.out HGj.out (by omega) (8 * (m : Int) / 4294967296 % 256) (len3 m) 4 rfl)
        go_wp2_with fail
        go_region
        go_wp2_with fail
        exact ⟨hs.out, by simp [intOf]⟩
      · have hs := Lib.hid (len_step HHj.out HGj.out (by omega) (8 * (m : Int) / 16777216 % 256) (len4 m) 5 rfl)
        go_wp2_with fail
        go_region
        go_wp2_with fail
        exact ⟨hs.out, by simp [intOf]⟩
      · have hs := Lib.hid (len_step HHj.out HGj.out (by omega) (8 * (m : Int) / 65536 % 256) (len5 m) 6 rfl)
        go_wp2_with fail
        go_region
        go_wp2_with fail
        exact ⟨hs.out, by simp [intOf]⟩
      · have hs := Lib.hid (len_step HHj.out HGj.out (by omega) (8 * (m : Int) / 256 % 256) (len6 m) 7 rfl)
        go_wp2_with fail
        go_region
        go_wp2_with fail
        exact ⟨hs.out, by simp [intOf]⟩
      · have hs := Lib.hid (len_step HHj.out HGj.out (by omega) (8 * (m : Int) % 256) (len7 m) 8 rfl)
        go_wp2_with fail
        go_region
        go_wp2_with fail
        exact ⟨hs.out, by simp [intOf]⟩
    · obtain rfl : j = 8 := by omega
      go_wp2_with fail
      refine (mix_ok b F (fun i => padF D m (64 * k + i)) m _ (len_full HHj.out HK.out HZ.out) (HV.out.kept HGj.out hb) (fun i => padF_rng D m HD.out _) (stOf_ok _ (HF.out ▸ stF_rng _ _))).mono ?_
      rintro e w3 ⟨rfl, h3, g3⟩
      have H3 : Hid (∃ blk, HashAt b (stF (padF D m) (nblk m)) blk m w3) := Lib.hid ⟨_, by rw [← HK.out]; rw [HF.out] at h3; exact h3⟩
      have G3 := Lib.hid (kept_trans HGj.out g3)
      clear h3 g3
      go_wp2_with fail
      go_end0
      exact ⟨rfl, H3.out, G3.out⟩

set_option maxHeartbeats 2000000 in
set_option maxRecDepth 100000 in
theorem end_high (b : Nat) (D : Nat → Int) (m : Nat) (w : World) (hB : Begun b D m w) (hD : Bytes8 D) (hV : VarsAt w) (hb : 1 < b) (hm : m < 1152921504606846976) (hc : ¬ m % 64 < 56 ∧ m % 64 ≠ 63) :
    Calls Tryd.prog 20 #[.pointer (some ⟨b, 0, none⟩)] w fun e w' => e = .returned (.tuple #[]) ∧ (∃ blk, HashAt b (stF (padF D m) (nblk m)) blk m w') ∧ w.grownBy w' (some b) := by
  obtain ⟨blk, hH, hB8, hBD⟩ := hB
  have hl := hH.len
  obtain ⟨u, hue⟩ : ∃ u, m % 64 = u := ⟨_, rfl⟩
  rw [hue] at hc hBD
  have hui : (m : Int) % 64 = u := by omega
  have hcu := hH.byte u (by omega)
  have hzu := hH.free (8 + u)
  have h1 := hH.setB u (by omega) 128
  obtain ⟨w2, hcl, h2, g2⟩ : ∃ w2, (Builtin.clear_ #[44] 0 #[.slice (some ⟨b, 8 + (u + 1), none⟩) (63 - u) (63 - u)]).run Tryd.prog (w.setCell ⟨b, 8 + u, none⟩ (.int .u8 128)) = .ok (.tuple #[]) w2 ∧ HashAt b (stF D (m / 64)) (fun i => if i < u then D (64 * (m / 64) + i) else if i = u then 128 else 0) m w2 ∧ w.grownBy w2 (some b) :=
    ⟨_, run_clear_at b (u + 1) (63 - u) (63 - u) _ _ _ _ h1 (by omega) 44 5 0 Tryd.underlying44 zero_u8, mark_blk (D := D) h1 hue hBD _ (63 - u) (by omega) rfl, kept_sets _ _ _ (kept_set (kept_below (Below.refl _ _)) (8 + u) _)⟩
  have HU := Lib.hid hue
  have un : ¬ u = 63 := by omega
  have u0 : 0 ≤ (u : Int) := by omega
  have u64 : (u : Int) < 64 := by omega
  have ul : (u : Int) + 1 ≤ 64 := by omega
  have ug : 0 ≤ (u : Int) + 1 := by omega
  have u56 : 56 ≤ (u : Int) := by omega
  clear hue
  have h2 := hash_congr h2 (fun i _ => congrFun (stF_pad D m (m / 64) (by omega)) i) (fun i hi => mark_high (D := D) HU.out (by omega) i hi)
  have h3 := fun (w3 : World) (h : HashAt b (stF (padF D m) (m / 64 + 1)) (fun i => padF D m (64 * (m / 64) + i)) m w3) =>
    (⟨run_clear_at b 0 64 64 _ _ _ _ h (by omega) 44 5 0 Tryd.underlying44 zero_u8, all_zero h _ rfl⟩ : And _ _)
  have H3 := Lib.hid h3
  obtain ⟨k, hk⟩ : ∃ k, k = m / 64 + 1 := ⟨_, rfl⟩
  obtain ⟨F, hF⟩ : ∃ F, F = stF (padF D m) k := ⟨_, rfl⟩
  obtain ⟨Z, hZ⟩ : ∃ Z : Nat → Int, Z = (fun _ => 0) := ⟨_, rfl⟩
  have hz : ∀ i, i < 56 → Z i = padF D m (64 * k + i) := fun i hi => by rw [hZ, hk]; exact zero_high (u := u) HU.out (by omega) i hi
  have hkn : k + 1 = nblk m := by have := HU.out; unfold nblk; rw [if_neg (by omega), hk]
  have HM2 := Lib.hid h2; have G2 := Lib.hid g2; have HZ := Lib.hid hz; have HK := Lib.hid hkn; have HF := Lib.hid hF; have HZZ := Lib.hid hZ; have HKK := Lib.hid hk
  have HV := Lib.hid hV; have HD := Lib.hid hD; have HM := Lib.hid hm
  clear hH hV hB8 hBD hD hm h1 h2 g2 hc hz hk hkn hF hZ h3
  go_enter Tryd.func20, Tryd.ntmps20
  go_wp2_with fail
  refine (mix_ok b _ _ m _ HM2.out (HV.out.kept G2.out hb) (fun i => padF_rng D m HD.out _) (stOf_ok _ (stF_rng _ _))).mono ?_
  rintro e w3 ⟨rfl, h3, g3⟩
  obtain ⟨w4, hcl2, h4, g4⟩ : ∃ w4, (Builtin.clear_ #[44] 0 #[.slice (some ⟨b, 8, none⟩) 64 64]).run Tryd.prog w3 = .ok (.tuple #[]) w4 ∧ HashAt b F Z m w4 ∧ w.grownBy w4 (some b) := by
    refine ⟨_, (H3.out w3 h3).1, ?_, kept_sets _ _ _ (kept_trans G2.out g3)⟩
    rw [HF.out, HZZ.out, HKK.out]; exact (H3.out w3 h3).2
  have H2 := Lib.hid h4; have K2 := Lib.hid g4
  clear h3 g3 h4 g4
  go_wp2_with fail
  go_loopw [29] (fun i wr => LenSlot b F Z m w i wr) (fun i _ => 8 - (intOf i).toNat)
  case atStart => exact len_start H2.out K2.out
  case round =>
    obtain ⟨j, hj, rfl, hHj, hGj⟩ := hrel
    have HHj := Lib.hid hHj; have HGj := Lib.hid hGj
    clear hHj hGj
    by_cases hlt : j < 8
    · have hlj := HHj.out.len
      have cj := HHj.out.byte (56 + j) (by omega)
      have zj := HHj.out.free (8 + (56 + j))
      have hmm := HM.out
      have hmi : (m : Int) < 1152921504606846976 := by omega
      have hm0 : 0 ≤ (m : Int) := by omega
      clear hmm
      rcases (show j = 0 ∨ j = 1 ∨ j = 2 ∨ j = 3 ∨ j = 4 ∨ j = 5 ∨ j = 6 ∨ j = 7 by omega) with rfl | rfl | rfl | rfl | rfl | rfl | rfl | rfl
      · have hs := Lib.hid (len_step HHj.out HGj.out (by omega) (8 * (m : Int) / 72057594037927936) (len0 m HM.out) 1 rfl)
        go_wp2_with fail
        go_region
        go_wp2_with fail
        exact ⟨hs.out, by simp [intOf]⟩
      · have hs := Lib.hid (len_step HHj.out HGj.out (by omega) (8 * (m : Int) / 281474976710656 % 256) (len1 m) 2 rfl)
        go_wp2_with fail
        go_region
        go_wp2_with fail
        exact ⟨hs.out, by simp [intOf]⟩
      · have hs := Lib.hid (len_step HHj.out HGj.out (by omega) (8 * (m : Int) / 1099511627776 % 256) (len2 m) 3 rfl)
        go_wp2_with fail
        go_region
        go_wp2_with fail
        exact ⟨hs.out, by simp [intOf]⟩
      · have hs := Lib.hid (len_step HHj.out HGj.out (by omega) (8 * (m : Int) / 4294967296 % 256) (len3 m) 4 rfl)
        go_wp2_with fail
        go_region
        go_wp2_with fail
        exact ⟨hs.out, by simp [intOf]⟩
      · have hs := Lib.hid (len_step HHj.out HGj.out (by omega) (8 * (m : Int) / 16777216 % 256) (len4 m) 5 rfl)
        go_wp2_with fail
        go_region
        go_wp2_with fail
        exact ⟨hs.out, by simp [intOf]⟩
      · have hs := Lib.hid (len_step HHj.out HGj.out (by omega) (8 * (m : Int) / 65536 % 256) (len5 m) 6 rfl)
        go_wp2_with fail
        go_region
        go_wp2_with fail
        exact ⟨hs.out, by simp [intOf]⟩
      · have hs := Lib.hid (len_step HHj.out HGj.out (by omega) (8 * (m : Int) / 256 % 256) (len6 m) 7 rfl)
        go_wp2_with fail
        go_region
        go_wp2_with fail
        exact ⟨hs.out, by simp [intOf]⟩
      · have hs := Lib.hid (len_step HHj.out HGj.out (by omega) (8 * (m : Int) % 256) (len7 m) 8 rfl)
        go_wp2_with fail
        go_region
        go_wp2_with fail
        exact ⟨hs.out, by simp [intOf]⟩
    · obtain rfl : j = 8 := by omega
      go_wp2_with fail
      refine (mix_ok b F (fun i => padF D m (64 * k + i)) m _ (len_full HHj.out HK.out HZ.out) (HV.out.kept HGj.out hb) (fun i => padF_rng D m HD.out _) (stOf_ok _ (HF.out ▸ stF_rng _ _))).mono ?_
      rintro e w3 ⟨rfl, h3, g3⟩
      have H3 : Hid (∃ blk, HashAt b (stF (padF D m) (nblk m)) blk m w3) := Lib.hid ⟨_, by rw [← HK.out]; rw [HF.out] at h3; exact h3⟩
      have G3 := Lib.hid (kept_trans HGj.out g3)
      clear h3 g3
      go_wp2_with fail
      go_end0
      exact ⟨rfl, H3.out, G3.out⟩

set_option maxHeartbeats 2000000 in
set_option maxRecDepth 100000 in
theorem end_last (b : Nat) (D : Nat → Int) (m : Nat) (w : World) (hB : Begun b D m w) (hD : Bytes8 D) (hV : VarsAt w) (hb : 1 < b) (hm : m < 1152921504606846976) (hc : m % 64 = 63) :
    Calls Tryd.prog 20 #[.pointer (some ⟨b, 0, none⟩)] w fun e w' => e = .returned (.tuple #[]) ∧ (∃ blk, HashAt b (stF (padF D m) (nblk m)) blk m w') ∧ w.grownBy w' (some b) := by
  obtain ⟨blk, hH, hB8, hBD⟩ := hB
  have hl := hH.len
  have hui : (m : Int) % 64 = 63 := by omega
  have hcu := hH.byte 63 (by omega)
  have hzu := hH.free (8 + 63)
  have h1 := hH.setB 63 (by omega) 128
  obtain ⟨w2, hcl, h2, g2⟩ : ∃ w2, (Builtin.clear_ #[44] 0 #[.slice (some ⟨b, 8, none⟩) 0 0]).run Tryd.prog (w.setCell ⟨b, 71, none⟩ (.int .u8 128)) = .ok (.tuple #[]) w2 ∧ HashAt b (stF D (m / 64)) (fun i => if i < 63 then D (64 * (m / 64) + i) else if i = 63 then 128 else 0) m w2 ∧ w.grownBy w2 (some b) :=
    ⟨w.setCell ⟨b, 71, none⟩ (.int .u8 128), by simp [Builtin.clear_, run_underlying Tryd.underlying44], mark_blk (D := D) (u := 63) (n := 0) h1 hc (fun i hi => hBD i (by omega)) _ rfl rfl, kept_set (kept_below (Below.refl _ _)) 71 _⟩
  have HU := Lib.hid hc
  have u63 : ¬ (63 < 56) := by omega
  have h2 := hash_congr h2 (fun i _ => congrFun (stF_pad D m (m / 64) (by omega)) i) (fun i hi => mark_high (D := D) HU.out (by omega) i hi)
  have h3 := fun (w3 : World) (h : HashAt b (stF (padF D m) (m / 64 + 1)) (fun i => padF D m (64 * (m / 64) + i)) m w3) =>
    (⟨run_clear_at b 0 64 64 _ _ _ _ h (by omega) 44 5 0 Tryd.underlying44 zero_u8, all_zero h _ rfl⟩ : And _ _)
  have H3 := Lib.hid h3
  obtain ⟨k, hk⟩ : ∃ k, k = m / 64 + 1 := ⟨_, rfl⟩
  obtain ⟨F, hF⟩ : ∃ F, F = stF (padF D m) k := ⟨_, rfl⟩
  obtain ⟨Z, hZ⟩ : ∃ Z : Nat → Int, Z = (fun _ => 0) := ⟨_, rfl⟩
  have hz : ∀ i, i < 56 → Z i = padF D m (64 * k + i) := fun i hi => by rw [hZ, hk]; exact zero_high (u := 63) HU.out (by omega) i hi
  have hkn : k + 1 = nblk m := by have := HU.out; unfold nblk; rw [if_neg (by omega), hk]
  have HM2 := Lib.hid h2; have G2 := Lib.hid g2; have HZ := Lib.hid hz; have HK := Lib.hid hkn; have HF := Lib.hid hF; have HZZ := Lib.hid hZ; have HKK := Lib.hid hk
  have HV := Lib.hid hV; have HD := Lib.hid hD; have HM := Lib.hid hm
  clear hH hV hB8 hBD hD hm h1 h2 g2 hc hz hk hkn hF hZ h3
  go_enter Tryd.func20, Tryd.ntmps20
  go_wp2_with fail
  refine (mix_ok b _ _ m _ HM2.out (HV.out.kept G2.out hb) (fun i => padF_rng D m HD.out _) (stOf_ok _ (stF_rng _ _))).mono ?_
  rintro e w3 ⟨rfl, h3, g3⟩
  obtain ⟨w4, hcl2, h4, g4⟩ : ∃ w4, (Builtin.clear_ #[44] 0 #[.slice (some ⟨b, 8, none⟩) 64 64]).run Tryd.prog w3 = .ok (.tuple #[]) w4 ∧ HashAt b F Z m w4 ∧ w.grownBy w4 (some b) := by
    refine ⟨_, (H3.out w3 h3).1, ?_, kept_sets _ _ _ (kept_trans G2.out g3)⟩
    rw [HF.out, HZZ.out, HKK.out]; exact (H3.out w3 h3).2
  have H2 := Lib.hid h4; have K2 := Lib.hid g4
  clear h3 g3 h4 g4
  go_wp2_with fail
  go_loopw [29] (fun i wr => LenSlot b F Z m w i wr) (fun i _ => 8 - (intOf i).toNat)
  case atStart => exact len_start H2.out K2.out
  case round =>
    obtain ⟨j, hj, rfl, hHj, hGj⟩ := hrel
    have HHj := Lib.hid hHj; have HGj := Lib.hid hGj
    clear hHj hGj
    by_cases hlt : j < 8
    · have hlj := HHj.out.len
      have cj := HHj.out.byte (56 + j) (by omega)
      have zj := HHj.out.free (8 + (56 + j))
      have hmm := HM.out
      have hmi : (m : Int) < 1152921504606846976 := by omega
      have hm0 : 0 ≤ (m : Int) := by omega
      clear hmm
      rcases (show j = 0 ∨ j = 1 ∨ j = 2 ∨ j = 3 ∨ j = 4 ∨ j = 5 ∨ j = 6 ∨ j = 7 by omega) with rfl | rfl | rfl | rfl | rfl | rfl | rfl | rfl
      · have hs := Lib.hid (len_step HHj.out HGj.out (by omega) (8 * (m : Int) / 72057594037927936) (len0 m HM.out) 1 rfl)
        go_wp2_with fail
        go_region
        go_wp2_with fail
        exact ⟨hs.out, by simp [intOf]⟩
      · have hs := Lib.hid (len_step HHj.out HGj.out (by omega) (8 * (m : Int) / 281474976710656 % 256) (len1 m) 2 rfl)
        go_wp2_with fail
        go_region
        go_wp2_with fail
        exact ⟨hs.out, by simp [intOf]⟩
      · have hs := Lib.hid (len_step HHj.out HGj.out (by omega) (8 * (m : Int) / 1099511627776 % 256) (len2 m) 3 rfl)
        go_wp2_with fail
        go_region
        go_wp2_with fail
        exact ⟨hs.out, by simp [intOf]⟩
      · have hs := Lib.hid (len_step HHj.out HGj.out (by omega) (8 * (m : Int) / 4294967296 % 256) (len3 m) 4 rfl)
        go_wp2_with fail
        go_region
        go_wp2_with fail
        exact ⟨hs.out, by simp [intOf]⟩
      · have hs := Lib.hid (len_step HHj.out HGj.out (by omega) (8 * (m : Int) / 16777216 % 256) (len4 m) 5 rfl)
        go_wp2_with fail
        go_region
        go_wp2_with fail
        exact ⟨hs.out, by simp [intOf]⟩
      · have hs := Lib.hid (len_step HHj.out HGj.out (by omega) (8 * (m : Int) / 65536 % 256) (len5 m) 6 rfl)
        go_wp2_with fail
        go_region
        go_wp2_with fail
        exact ⟨hs.out, by simp [intOf]⟩
      · have hs := Lib.hid (len_step HHj.out HGj.out (by omega) (8 * (m : Int) / 256 % 256) (len6 m) 7 rfl)
        go_wp2_with fail
        go_region
        go_wp2_with fail
        exact ⟨hs.out, by simp [intOf]⟩
      · have hs := Lib.hid (len_step HHj.out HGj.out (by omega) (8 * (m : Int) % 256) (len7 m) 8 rfl)
        go_wp2_with fail
        go_region
        go_wp2_with fail
        exact ⟨hs.out, by simp [intOf]⟩
    · obtain rfl : j = 8 := by omega
      go_wp2_with fail
      refine (mix_ok b F (fun i => padF D m (64 * k + i)) m _ (len_full HHj.out HK.out HZ.out) (HV.out.kept HGj.out hb) (fun i => padF_rng D m HD.out _) (stOf_ok _ (HF.out ▸ stF_rng _ _))).mono ?_
      rintro e w3 ⟨rfl, h3, g3⟩
      have H3 : Hid (∃ blk, HashAt b (stF (padF D m) (nblk m)) blk m w3) := Lib.hid ⟨_, by rw [← HK.out]; rw [HF.out] at h3; exact h3⟩
      have G3 := Lib.hid (kept_trans HGj.out g3)
      clear h3 g3
      go_wp2_with fail
      go_end0
      exact ⟨rfl, H3.out, G3.out⟩

theorem end_any (b : Nat) (D : Nat → Int) (m : Nat) (w : World) (hB : Begun b D m w) (hD : Bytes8 D) (hV : VarsAt w) (hb : 1 < b) (hm : m < 1152921504606846976) :
    Calls Tryd.prog 20 #[.pointer (some ⟨b, 0, none⟩)] w fun e w' => e = .returned (.tuple #[]) ∧ (∃ blk, HashAt b (stF (padF D m) (nblk m)) blk m w') ∧ w.grownBy w' (some b) := by
  by_cases h1 : m % 64 < 56
  · exact end_low b D m w hB hD hV hb hm h1
  · by_cases h2 : m % 64 = 63
    · exact end_last b D m w hB hD hV hb hm h2
    · exact end_high b D m w hB hD hV hb hm ⟨h1, h2⟩
end Go.Proofs.YtodmomhilpheiaaDoor
