/- Wal, the document's side: Head. -/
import Derived.Test.YtbpaiiljhdohfaaDoorXc
namespace Go.Proofs.YtbpaiiljhdohfaaDoor
open Go.RowKit
set_option linter.unusedSimpArgs false
set_option linter.unusedVariables false
variable {w : World}

def FrSlot (S : ByteArray) (c : Int) (w : World) (s cc i : Value) (wr : World) : Prop :=
  ∃ (j : Nat) (y : Int), j ≤ 4 ∧ i = .int .i64 j ∧ (j = 0 ∧ y = c ∨ j = 1 ∧ y = c / 256 ∨ j = 2 ∧ y = c / 256 / 256 ∨ j = 3 ∧ y = c / 256 / 256 / 256 ∨ j = 4 ∧ y = c / 256 / 256 / 256 / 256) ∧ cc = .int .u32 y ∧ s = .string (S ++ strOfNums ((leI c).take j)) ∧ Below w.heap.size w wr ∧ w.heap.size ≤ wr.heap.size
theorem fr_rng (c y : Int) (j : Nat) (c0 : 0 ≤ c) (c1 : c < 4294967296) (hy : j = 0 ∧ y = c ∨ j = 1 ∧ y = c / 256 ∨ j = 2 ∧ y = c / 256 / 256 ∨ j = 3 ∧ y = c / 256 / 256 / 256 ∨ j = 4 ∧ y = c / 256 / 256 / 256 / 256) : 0 ≤ y ∧ y < 4294967296 := by omega
theorem fr_step (S T : ByteArray) (c y : Int) (j : Nat) (hT : S ++ strOfNums ((leI c).take j) = T) (hy : j = 0 ∧ y = c ∨ j = 1 ∧ y = c / 256 ∨ j = 2 ∧ y = c / 256 / 256 ∨ j = 3 ∧ y = c / 256 / 256 / 256 ∨ j = 4 ∧ y = c / 256 / 256 / 256 / 256) (hj : j < 4) (c0 : 0 ≤ c) :
    T ++ strOfNums [y % 256] = S ++ strOfNums ((leI c).take (j + 1)) ∧ (j + 1 = 0 ∧ y / 256 = c ∨ j + 1 = 1 ∧ y / 256 = c / 256 ∨ j + 1 = 2 ∧ y / 256 = c / 256 / 256 ∨ j + 1 = 3 ∧ y / 256 = c / 256 / 256 / 256 ∨ j + 1 = 4 ∧ y / 256 = c / 256 / 256 / 256 / 256) := by
  rw [← hT, ByteArray.append_assoc, str_app]
  have d2 : c / 65536 = c / 256 / 256 := by omega
  have d3 : c / 16777216 = c / 256 / 256 / 256 := by omega
  unfold leI
  rw [d2, d3]
  rcases hy with ⟨rfl, rfl⟩ | ⟨rfl, rfl⟩ | ⟨rfl, rfl⟩ | ⟨rfl, rfl⟩ | ⟨rfl, rfl⟩
  · exact ⟨rfl, by simp⟩
  · exact ⟨rfl, by simp⟩
  · exact ⟨rfl, by simp⟩
  · exact ⟨rfl, by simp⟩
  · omega
theorem ba_end (s : ByteArray) : s ++ (⟨#[]⟩ : ByteArray) = s := by
  cases s; rename_i d; show _ ++ ByteArray.empty = _; simp
theorem mkBy_app (a b : List UInt8) : mkBy a ++ mkBy b = mkBy (a ++ b) := by
  apply ByteArray.ext
  unfold mkBy
  simp
theorem mkBy_size (a : List UInt8) : (mkBy a).size = a.length := by unfold mkBy; show (a.toArray).size = _; simp
theorem sec_nums (pi : Nat) (ps : ByteArray) (h : pi < 65536) : strOfNums [(pi : Int) / 256, (pi : Int) % 256] = mkBy (secB (pi, ps)) := by
  unfold strOfNums mkBy secB
  congr 1
  simp only [List.map_cons, List.map_nil]
  have e1 : ((pi : Int) / 256).toNat = pi / 256 % 256 := by omega
  have e2 : ((pi : Int) % 256).toNat = pi % 256 := by omega
  rw [e1, e2]
theorem hd_nums (k : Nat) : (⟨#[87, 76]⟩ : ByteArray) ++ strOfNums [(k : Int)] = mkBy (hd3 k) := by
  have e : strOfNums [(k : Int)] = mkBy [UInt8.ofNat k] := rfl
  have e2 : (⟨#[87, 76]⟩ : ByteArray) = mkBy [87, 76] := rfl
  rw [e, e2, mkBy_app]; rfl
def H1S (k : Nat) (x : List (Nat × ByteArray)) (w : World) (s i : Value) (wr : World) : Prop :=
  ∃ j : Nat, j ≤ k ∧ i = .int .i64 j ∧ s = .string (mkBy (hd3 k ++ (x.take j).flatMap secB)) ∧ Below w.heap.size w wr
def H2S (k : Nat) (x : List (Nat × ByteArray)) (w : World) (s i : Value) (wr : World) : Prop :=
  ∃ j : Nat, j ≤ k ∧ i = .int .i64 j ∧ s = .string (mkBy (hdL x ++ bodyL (x.take j))) ∧ Below w.heap.size w wr
set_option maxHeartbeats 4000000 in
set_option maxRecDepth 100000 in
theorem RHead (o : Option Addr) (cap : Nat) (x : List (Nat × ByteArray)) (w : World) (hc : DrAt w o x) (hk : ∀ c ∈ x, c.1 < 65536 ∧ c.2.size ≤ 512) (hl : x.length ≤ 64) :
    Calls Tryd.prog 30 #[.slice o x.length cap] w fun e w' => e = .returned (.string (headB x)) ∧ Below w.heap.size w w' := by
  obtain ⟨k, hkl⟩ : ∃ k, x.length = k := ⟨_, rfl⟩
  have hki : (k : Int) ≤ 64 := by omega
  have hmod : (k : Int) % 256 = k := by omega
  have HLN : Hid (∀ j, (hd3 k ++ (x.take j).flatMap secB).length ≤ 131) := Lib.hid (fun j => by rw [List.length_append, secs_len]; have := List.length_take_le' j x; show 3 + _ ≤ _; omega)
  rw [hkl]
  have HX := Lib.hid hkl; have HC := Lib.hid hc; have HK := Lib.hid hk
  have HBDY : Hid (∀ j, (hdL x ++ bodyL (x.take j)).length ≤ 131 + 512 * 64) := Lib.hid (fun j => by
    have h1 := HLN.out k
    rw [List.take_of_length_le (by omega)] at h1
    rw [List.length_append, hdL_eq, hkl]
    have h2 := body_len (x.take j) (fun c hc => (hk c (List.mem_of_mem_take hc)).2)
    have := List.length_take_le' j x
    rw [h2]; omega)
  have hcn0 := conv_one w w.heap.size (k : Int) rfl
  have HB0 : Hid (Below w.heap.size w (w.alloc (.cells #[.int .u8 (k : Int)] 5))) := Lib.hid ((Below.refl _ _).alloc (Nat.le_refl _) _)
  have HH0 := Lib.hid (hd_nums k)
  have hs0 : (strOfNums [(k : Int)]).size = 1 := rfl
  have hn0 : ¬ 9223372036854775807 < (⟨#[87, 76]⟩ : ByteArray).size + (strOfNums [(k : Int)]).size := by rw [hs0]; decide
  clear hc hk hkl
  go_enter Tryd.func30, Tryd.ntmps30
  go_wp2_with fail
  rw [HH0.out]
  go_loopw [3, 4] (fun s i wr => H1S k x w s i wr) (fun _ i _ => k - (intOf i).toNat)
  case atStart => exact ⟨0, Nat.zero_le _, rfl, by rw [List.take_zero, List.flatMap_nil, List.append_nil], HB0.out⟩
  case round =>
    obtain ⟨j, hj, rfl, rfl, hbl⟩ := hrel
    have HBL := Lib.hid hbl
    clear hbl hcn0
    by_cases hlt : j < k
    · have hji : (j : Int) < k := by omega
      obtain ⟨c, hcx⟩ : ∃ c, x[j]? = some c := ⟨_, List.getElem?_eq_getElem (by rw [HX.out]; exact hlt)⟩
      have hcr : DrAt wr o x := HC.out.same (fun b cur _ hb => HBL.out.block b (lt_of_some hb))
      obtain ⟨b, cur, hob, hcur, d0, d1⟩ := hcr j c hcx
      subst hob
      have hft := Lib.hid (flatMap_take secB x j c hcx)
      obtain ⟨hcn, hcs⟩ := HK.out c (List.mem_of_getElem? hcx)
      obtain ⟨pi, ps⟩ := c
      simp only at d0 d1 hcn hcs
      have hpi : (pi : Int) < 65536 := by omega
      obtain ⟨T, hT⟩ : ∃ T, mkBy (hd3 k ++ (x.take j).flatMap secB) = T := ⟨_, rfl⟩
      have hTs : T.size ≤ 131 := by rw [← hT, mkBy_size]; exact HLN.out j
      have HT := Lib.hid hT
      rw [hT]
      have HV1 : Hid (IntKind.i64.wrap ((pi : Int) / 256) = (pi : Int) / 256) := Lib.hid (IntWalk.i64_in _ (by omega))
      have HV2 : Hid ((pi : Int).tmod 256 = (pi : Int) % 256) := Lib.hid (Int.tmod_eq_emod_of_nonneg (by omega))
      have HV3 : Hid (IntKind.u8.wrap ((pi : Int) / 256) = (pi : Int) / 256) := Lib.hid (IntWalk.u8_in _ (by omega))
      have HV4 : Hid (IntKind.u8.wrap ((pi : Int) % 256) = (pi : Int) % 256) := Lib.hid (IntWalk.u8_in _ (by omega))
      have hs2 : (strOfNums [(pi : Int) / 256, (pi : Int) % 256]).size = 2 := rfl
      have hn2 : ¬ 9223372036854775807 < T.size + 2 := by omega
      have hcd' := conv_drew wr [(pi : Int) / 256, (pi : Int) % 256] 2 rfl _ rfl
      have hcd : (convert 100 9 (.slice (some ⟨wr.heap.size, 0, none⟩) 2 2)).run Tryd.prog (wr.alloc (.cells #[.int .u8 ((pi : Int) / 256), .int .u8 ((pi : Int) % 256)] 5)).drew = .ok (.string (strOfNums [(pi : Int) / 256, (pi : Int) % 256])) (wr.alloc (.cells #[.int .u8 ((pi : Int) / 256), .int .u8 ((pi : Int) % 256)] 5)).drew := hcd'
      have HN : Hid (H1S k x w (.string (T ++ strOfNums [(pi : Int) / 256, (pi : Int) % 256])) (.int .i64 ((j : Int) + 1)) (wr.alloc (.cells #[.int .u8 ((pi : Int) / 256), .int .u8 ((pi : Int) % 256)] 5)).drew) := Lib.hid ⟨j + 1, by omega, by rw [Int.natCast_succ], by
        rw [← hT, sec_nums pi ps hcn, mkBy_app, hft.out, List.append_assoc], (HBL.out.alloc HBL.out.size _).drew⟩
      have HS1 : Hid ((fun w' : World => w'.cell? ⟨b, j * 2, none⟩ = some (.int .i64 pi)) wr.drew) := Lib.hid d0
      have HS2 : Hid ((fun w' : World => w'.cell? ⟨b, j * 2, none⟩ = some (.int .i64 pi)) (wr.alloc (.cells #[.int .u8 ((pi : Int) / 256), .int .u8 ((pi : Int) % 256)] 5)).drew) := Lib.hid ((((Below.refl _ wr).alloc (Nat.le_refl _) (.cells #[.int .u8 ((pi : Int) / 256), .int .u8 ((pi : Int) % 256)] 5)).cell (p := ⟨b, j * 2, none⟩) (lt_of_some hcur)).trans d0)
      clear hcr hcx hcur hT hcd'
      go_wp2_with fail
      refine wp_region_held_drew (S := (fun w' : World => w'.cell? ⟨b, j * 2, none⟩ = some (.int .i64 pi))) (by kernel_rfl) HS1.out (fun hHeld => ?_)
      refine wpAnyH_take (i := 0) (v := ?_) rfl (by kernel_rfl) (by kernel_rfl) (by kernel_rfl) (fun _ _ _ h => h) (Or.inl ⟨by kernel_rfl, ?_⟩) HS1.out ?_
      rotate_left
      · intro wq hSw; (try dsimp only at hSw); go_simp; (try simp only [HV1.out]); (try simp only [HV2.out]); (try simp only [HV3.out]); (try simp only [HV4.out]); try with_reducible rfl
      try simp only [Act.put, List.setIfInBounds_toArray, List.set_cons_zero, List.set_cons_succ]
      refine wpAnyH_take (i := 1) (v := ?_) rfl (by kernel_rfl) (by kernel_rfl) (by kernel_rfl) (fun _ _ _ h => h) (Or.inl ⟨by kernel_rfl, ?_⟩) HS1.out ?_
      rotate_left
      · intro wq hSw; (try dsimp only at hSw); go_simp; (try simp only [HV1.out]); (try simp only [HV2.out]); (try simp only [HV3.out]); (try simp only [HV4.out]); try with_reducible rfl
      try simp only [Act.put, List.setIfInBounds_toArray, List.set_cons_zero, List.set_cons_succ]
      refine wpAnyH_take (i := 2) (v := ?_) rfl (by kernel_rfl) (by kernel_rfl) (by kernel_rfl) (fun _ _ _ h => h) (Or.inl ⟨by kernel_rfl, ?_⟩) HS1.out ?_
      rotate_left
      · intro wq hSw; (try dsimp only at hSw); go_simp; (try simp only [HV1.out]); (try simp only [HV2.out]); (try simp only [HV3.out]); (try simp only [HV4.out]); try with_reducible rfl
      try simp only [Act.put, List.setIfInBounds_toArray, List.set_cons_zero, List.set_cons_succ]
      refine wpAnyH_take (i := 3) (v := ?_) rfl (by kernel_rfl) (by kernel_rfl) (by kernel_rfl) (fun _ _ _ h => h) (Or.inl ⟨by kernel_rfl, ?_⟩) HS1.out ?_
      rotate_left
      · intro wq hSw; (try dsimp only at hSw); go_simp; (try simp only [HV1.out]); (try simp only [HV2.out]); (try simp only [HV3.out]); (try simp only [HV4.out]); try with_reducible rfl
      try simp only [Act.put, List.setIfInBounds_toArray, List.set_cons_zero, List.set_cons_succ]
      refine wpAnyH_take (i := 4) (v := ?_) rfl (by kernel_rfl) (by kernel_rfl) (by kernel_rfl) (fun _ _ _ h => h) (Or.inl ⟨by kernel_rfl, ?_⟩) HS1.out ?_
      rotate_left
      · intro wq hSw; (try dsimp only at hSw); go_simp; (try simp only [HV1.out]); (try simp only [HV2.out]); (try simp only [HV3.out]); (try simp only [HV4.out]); try with_reducible rfl
      try simp only [Act.put, List.setIfInBounds_toArray, List.set_cons_zero, List.set_cons_succ]
      refine wpAnyH_take (i := 5) (v := ?_) rfl (by kernel_rfl) (by kernel_rfl) (by kernel_rfl) (fun _ _ _ h => h) (Or.inl ⟨by kernel_rfl, ?_⟩) HS1.out ?_
      rotate_left
      · intro wq hSw; (try dsimp only at hSw); go_simp; (try simp only [HV1.out]); (try simp only [HV2.out]); (try simp only [HV3.out]); (try simp only [HV4.out]); try with_reducible rfl
      try simp only [Act.put, List.setIfInBounds_toArray, List.set_cons_zero, List.set_cons_succ]
      refine wpAnyH_take (i := 6) (v := ?_) rfl (by kernel_rfl) (by kernel_rfl) (by kernel_rfl) (fun _ _ _ h => h) (Or.inl ⟨by kernel_rfl, ?_⟩) HS1.out ?_
      rotate_left
      · intro wq hSw; (try dsimp only at hSw); go_simp; (try simp only [HV1.out]); (try simp only [HV2.out]); (try simp only [HV3.out]); (try simp only [HV4.out]); try with_reducible rfl
      try simp only [Act.put, List.setIfInBounds_toArray, List.set_cons_zero, List.set_cons_succ]
      refine wpAnyH_take (i := 7) (v := ?_) rfl (by kernel_rfl) (by kernel_rfl) (by kernel_rfl) (fun _ _ _ h => h) (Or.inl ⟨by kernel_rfl, ?_⟩) HS1.out ?_
      rotate_left
      · intro wq hSw; (try dsimp only at hSw); go_simp; (try simp only [HV1.out]); (try simp only [HV2.out]); (try simp only [HV3.out]); (try simp only [HV4.out]); try with_reducible rfl
      try simp only [Act.put, List.setIfInBounds_toArray, List.set_cons_zero, List.set_cons_succ]
      refine wpAnyH_take (i := 8) (v := ?_) rfl (by kernel_rfl) (by kernel_rfl) (by kernel_rfl) (fun _ _ _ h => h) (Or.inl ⟨by kernel_rfl, ?_⟩) HS1.out ?_
      rotate_left
      · intro wq hSw; (try dsimp only at hSw); go_simp; (try simp only [HV1.out]); (try simp only [HV2.out]); (try simp only [HV3.out]); (try simp only [HV4.out]); try with_reducible rfl
      try simp only [Act.put, List.setIfInBounds_toArray, List.set_cons_zero, List.set_cons_succ]
      refine wpAnyH_take (i := 9) (v := ?_) rfl (by kernel_rfl) (by kernel_rfl) (by kernel_rfl) (fun _ _ _ h => h) (Or.inl ⟨by kernel_rfl, ?_⟩) HS1.out ?_
      rotate_left
      · intro wq hSw; (try dsimp only at hSw); go_simp; (try simp only [HV1.out]); (try simp only [HV2.out]); (try simp only [HV3.out]); (try simp only [HV4.out]); try with_reducible rfl
      try simp only [Act.put, List.setIfInBounds_toArray, List.set_cons_zero, List.set_cons_succ]
      refine wpAnyH_take (i := 10) (v := ?_) rfl (by kernel_rfl) (by kernel_rfl) (by kernel_rfl) (fun _ _ _ h => h) (Or.inl ⟨by kernel_rfl, ?_⟩) HS1.out ?_
      rotate_left
      · intro wq hSw; (try dsimp only at hSw); go_simp; (try simp only [HV1.out]); (try simp only [HV2.out]); (try simp only [HV3.out]); (try simp only [HV4.out]); try with_reducible rfl
      try simp only [Act.put, List.setIfInBounds_toArray, List.set_cons_zero, List.set_cons_succ]
      refine wpAnyH_take (i := 11) (v := ?_) rfl (by kernel_rfl) (by kernel_rfl) (by kernel_rfl) (fun _ _ _ h => h) (Or.inl ⟨by kernel_rfl, ?_⟩) HS1.out ?_
      rotate_left
      · intro wq hSw; (try dsimp only at hSw); go_simp; (try simp only [HV1.out]); (try simp only [HV2.out]); (try simp only [HV3.out]); (try simp only [HV4.out]); try with_reducible rfl
      try simp only [Act.put, List.setIfInBounds_toArray, List.set_cons_zero, List.set_cons_succ]
      refine wpAnyH_take (i := 12) (v := ?_) rfl (by kernel_rfl) (by kernel_rfl) (by kernel_rfl) (fun _ _ _ h => h) (Or.inl ⟨by kernel_rfl, ?_⟩) HS1.out ?_
      rotate_left
      · intro wq hSw; (try dsimp only at hSw); go_simp; (try simp only [HV1.out]); (try simp only [HV2.out]); (try simp only [HV3.out]); (try simp only [HV4.out]); try with_reducible rfl
      try simp only [Act.put, List.setIfInBounds_toArray, List.set_cons_zero, List.set_cons_succ]
      refine wpAnyH_take (i := 13) (v := ?_) rfl (by kernel_rfl) (by kernel_rfl) (by kernel_rfl) (fun _ _ _ h => h) (Or.inl ⟨by kernel_rfl, ?_⟩) HS1.out ?_
      rotate_left
      · intro wq hSw; (try dsimp only at hSw); go_simp; (try simp only [HV1.out]); (try simp only [HV2.out]); (try simp only [HV3.out]); (try simp only [HV4.out]); try with_reducible rfl
      try simp only [Act.put, List.setIfInBounds_toArray, List.set_cons_zero, List.set_cons_succ]
      refine wpAnyH_take (i := 14) (v := ?_) rfl (by kernel_rfl) (by kernel_rfl) (by kernel_rfl) (fun _ _ _ h => h) (Or.inl ⟨by kernel_rfl, ?_⟩) HS1.out ?_
      rotate_left
      · intro wq hSw; (try dsimp only at hSw); go_simp; (try simp only [HV1.out]); (try simp only [HV2.out]); (try simp only [HV3.out]); (try simp only [HV4.out]); try with_reducible rfl
      try simp only [Act.put, List.setIfInBounds_toArray, List.set_cons_zero, List.set_cons_succ]
      refine wpAnyH_ready (rs := [15]) (by kernel_rfl) (by simp) ?_
      refine AllReadyH.cons (o := _) rfl (fun K hK => ?_) AllReadyH.nil
      go_simp
      refine hK.out _ _ HS2.out (fun _ => ?_)
      try simp only [Act.put, List.setIfInBounds_toArray, List.set_cons_zero, List.set_cons_succ]
      refine wpAnyH_ready (rs := [16]) (by kernel_rfl) (by simp) ?_
      refine AllReadyH.cons (o := _) rfl (fun K hK => ?_) AllReadyH.nil
      go_simp
      refine hK.out _ _ HS2.out (fun _ => ?_)
      try simp only [Act.put, List.setIfInBounds_toArray, List.set_cons_zero, List.set_cons_succ]
      refine wpAnyH_ready (rs := [17]) (by kernel_rfl) (by simp) ?_
      refine AllReadyH.cons (o := _) rfl (fun K hK => ?_) AllReadyH.nil
      go_simp
      refine hK.out _ _ HS2.out (fun _ => ?_)
      try simp only [Act.put, List.setIfInBounds_toArray, List.set_cons_zero, List.set_cons_succ]
      refine wpAnyH_ready (rs := [18]) (by kernel_rfl) (by simp) ?_
      refine AllReadyH.cons (o := _) rfl (fun K hK => ?_) AllReadyH.nil
      go_simp
      refine hK.out _ _ HS2.out (fun _ => ?_)
      try simp only [Act.put, List.setIfInBounds_toArray, List.set_cons_zero, List.set_cons_succ]
      refine wpAnyH_done (by kernel_rfl) ?_ _
      clear hHeld
      go_wp2_with fail
      exact ⟨HN.out, by simp [intOf]; omega⟩
    · obtain rfl : j = k := by omega
      have e : hd3 j ++ (x.take j).flatMap secB = hdL x := by rw [hdL_eq, ← HX.out, List.take_length]
      rw [e]
      have HB1 := HBL
      have H20 : Hid (H2S j x w (.string (mkBy (hdL x))) (.int .i64 0) wr) := Lib.hid ⟨0, Nat.zero_le _, rfl, by rw [List.take_zero]; simp [bodyL], HBL.out⟩
      obtain ⟨S0, hS0⟩ : ∃ S0, mkBy (hdL x) = S0 := ⟨_, rfl⟩
      have hS0s : S0.size ≤ 131 := by rw [← hS0, ← e, mkBy_size]; exact HLN.out j
      have HS0 := Lib.hid hS0
      rw [hS0] at H20 ⊢
      clear e hS0
      go_wp2_with fail
      go_loopw [5, 6] (fun s i wr => H2S j x w s i wr) (fun _ i _ => j - (intOf i).toNat)
      case atStart => exact H20.out
      case round =>
        obtain ⟨q, hq, rfl, rfl, hbl⟩ := hrel
        have HBM := Lib.hid hbl
        clear hbl H20
        by_cases hlt : q < j
        · have hji : (q : Int) < j := by omega
          obtain ⟨c, hcx⟩ : ∃ c, x[q]? = some c := ⟨_, List.getElem?_eq_getElem (by rw [HX.out]; exact hlt)⟩
          have hcr : DrAt wr o x := HC.out.same (fun b cur _ hb => HBM.out.block b (lt_of_some hb))
          obtain ⟨b, cur, hob, hcur, d0, d1⟩ := hcr q c hcx
          subst hob
          have hft := Lib.hid (flatMap_take (fun c : Nat × ByteArray => (padB c.2).data.toList) x q c hcx)
          obtain ⟨hcn, hcs⟩ := HK.out c (List.mem_of_getElem? hcx)
          obtain ⟨pi, ps⟩ := c
          simp only at d0 d1 hcn hcs hft
          obtain ⟨T, hT⟩ : ∃ T, mkBy (hdL x ++ bodyL (x.take q)) = T := ⟨_, rfl⟩
          have hTs : T.size ≤ 131 + 512 * 64 := by rw [← hT, mkBy_size]; exact HBDY.out q
          rw [hT]
          have hps := padB_size ps hcs
          have hn2 : ¬ 9223372036854775807 < T.size + (padB ps).size := by rw [hps]; omega
          have HF := Lib.hid (Full_any ps wr hcs)
          have HTE : Hid (T ++ padB ps = mkBy (hdL x ++ bodyL (x.take (q + 1)))) := Lib.hid (by
            have e1 : padB ps = mkBy (padB ps).data.toList := by unfold mkBy; simp
            rw [← hT, e1, mkBy_app, List.append_assoc]
            congr 2
            unfold bodyL
            rw [hft.out])
          clear hcr hcx hcur hT hps
          go_wp2_with (go_at_call 23; refine HF.out.mono ?_)
          first | rintro e w3 rfl hb3 | rintro e w3 ⟨rfl, hb3⟩
          have HN : Hid (H2S j x w (.string (T ++ padB ps)) (.int .i64 ((q : Int) + 1)) w3) := Lib.hid ⟨q + 1, by omega, by rw [Int.natCast_succ], by rw [HTE.out], HBM.out.trans (hb3.mono HBM.out.size)⟩
          clear hb3
          go_wp2_with fail
          exact ⟨HN.out, by simp [intOf]; omega⟩
        · obtain rfl : q = j := by omega
          have e : hdL x ++ bodyL (x.take q) = hdL x ++ bodyL x := by rw [← HX.out, List.take_length]
          obtain ⟨T, hT⟩ : ∃ T, mkBy (hdL x ++ bodyL (x.take q)) = T := ⟨_, rfl⟩
          have hTs : T.size ≤ 131 + 512 * 64 := by rw [← hT, mkBy_size]; exact HBDY.out q
          have hTl : T.data.toList = hdL x ++ bodyL x := by rw [← hT, e]; simp [mkBy]
          rw [hT]
          have HSM := Lib.hid (RSum_any T wr (by unfold maxLen; omega))
          rw [hTl] at HSM
          obtain ⟨C, hC⟩ : ∃ C, crcL (hdL x ++ bodyL x) = C := ⟨_, rfl⟩
          rw [hC] at HSM
          have c1 : (C.toNat : Int) < 4294967296 := by have := C.isLt; omega
          have c0 : 0 ≤ (C.toNat : Int) := by omega
          have HFIN : Hid (padB (S0 ++ strOfNums (leI C.toNat)) = headB x) := Lib.hid (by
            unfold headB; rw [hC, HS0.out]; rfl)
          obtain ⟨c, hcc⟩ : ∃ c : Int, (C.toNat : Int) = c := ⟨_, rfl⟩
          rw [hcc] at HSM HFIN c1 c0
          clear e hT hTl hC hcc hTs
          go_wp2_with (go_at_call 49; refine HSM.out.mono ?_)
          first | rintro e w3 rfl hw3 | rintro e w3 ⟨rfl, hw3⟩
          subst hw3
          have hzr0 := HBM.out.size
          go_wp2_with fail
          go_loopw [3, 7, 8] (fun s cc i wr => FrSlot S0 c w s cc i wr) (fun _ _ i _ => 4 - (intOf i).toNat)
          case atStart => exact ⟨0, c, by omega, rfl, Or.inl ⟨rfl, rfl⟩, rfl, by rw [show strOfNums ((leI c).take 0) = ⟨#[]⟩ from rfl, ba_end], HBM.out, hzr0⟩
          case round =>
            obtain ⟨j, y, hj, rfl, hy, rfl, rfl, hB, hzr⟩ := hrel
            have HB2 := Lib.hid hB
            obtain ⟨T, hT⟩ : ∃ T, S0 ++ strOfNums ((leI c).take j) = T := ⟨_, rfl⟩
            have hTz : T.size ≤ 135 := by rw [← hT, ByteArray.size_append, strOfNums_size]; have : ((leI c).take j).length ≤ j := List.length_take_le _ _; omega
            rw [hT]
            by_cases hlt : j < 4
            · have hj4 : (j : Int) < 4 := by omega
              obtain ⟨y0, y1⟩ := fr_rng c y j c0 c1 hy
              have hstep := fr_step S0 T c y j hT hy hlt c0
              have hz1 : (strOfNums [y % 256]).size = 1 := rfl
              have n1 : ¬ 9223372036854775807 < T.size + 1 := by omega
              have hend : Hid (FrSlot S0 c w (.string (T ++ strOfNums [y % 256])) (.int .u32 (y / 256)) (.int .i64 ((j : Int) + 1)) (wr.alloc (.cells #[.int .u8 (y % 256)] 5))) := Lib.hid ⟨j + 1, y / 256, by omega, by rw [Int.natCast_succ], hstep.2, rfl, by rw [hstep.1], HB2.out.alloc hzr _, by show _ ≤ (wr.heap.push _).size; simp; omega⟩
              clear hstep hT hB hy hTz
              have hcn := conv_one wr wr.heap.size (y % 256) rfl
              go_wp2_with fail
              exact ⟨hend.out, by simp [intOf]; omega⟩
            · obtain rfl : j = 4 := by omega
              have hfin : padB T = headB x := by rw [← hT, ← HFIN.out]; rfl
              have HF := Lib.hid (Full_any T wr (by omega))
              rw [hfin] at HF
              clear hT hTz hfin
              go_wp2_with (go_at_call 23; refine HF.out.mono ?_)
              first | rintro e w3 rfl hb3 | rintro e w3 ⟨rfl, hb3⟩
              have HB3 := Lib.hid (HB2.out.trans (hb3.mono HB2.out.size))
              clear hb3
              go_wp2_with fail
              go_ret
              exact ⟨rfl, HB3.out⟩
end Go.Proofs.YtbpaiiljhdohfaaDoor
