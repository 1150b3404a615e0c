/- The document's Hex; the laws ShaHex and ShaParses, at whatever world that has the package's variables. -/
import Derived.Test.YtodmomhilpheiaaDoorQl
namespace Go.Proofs.YtodmomhilpheiaaDoor
open Go.RowKit

theorem str_at (s : ByteArray) : strOfNums ((List.range s.size).map (atI s)) = s := by
  have h : (strOfNums ((List.range s.size).map (atI s))).data = s.data := by
    apply Array.ext
    · simp [strOfNums]
    · intro i h1 h2
      have hi : i < s.size := h2
      simp [strOfNums, atI, Array.getElem?_eq_getElem h2]
  cases s; cases hq : strOfNums _; simp_all
theorem dig_back (c : Int) (h0 : 0 ≤ c) (h : 0 ≤ digV c) : digF (digV c) = c := by
  unfold digF; unfold digV at h ⊢
  by_cases h1 : 48 ≤ c ∧ c ≤ 57
  · rw [if_pos h1, if_pos (by omega)]; omega
  · rw [if_neg h1] at h ⊢
    by_cases h2 : 97 ≤ c ∧ c ≤ 102
    · rw [if_pos h2, if_neg (by omega)]; omega
    · rw [if_neg h2] at h; omega
theorem dig_val (d : Int) (h0 : 0 ≤ d) (h : d < 16) : digV (digF d) = d := by
  unfold digF
  by_cases h1 : d < 10
  · rw [if_pos h1]; unfold digV; rw [if_pos (by omega)]; omega
  · rw [if_neg h1]; unfold digV; rw [if_neg (by omega), if_pos (by omega)]; omega
def parB (s : ByteArray) : ByteArray := strOfNums ((List.range 32).map (parF s))
theorem parB_size (s : ByteArray) : (parB s).size = 32 := by unfold parB; rw [strOfNums_size]; simp
theorem hexB_size (s : ByteArray) : (hexB s).size = 64 := by unfold hexB; rw [strOfNums_size]; simp
theorem atI_map (f : Nat → Int) (n i : Nat) (h : i < n) (hr : 0 ≤ f i ∧ f i < 256) : atI (strOfNums ((List.range n).map f)) i = f i := by
  rw [atI_nums _ i (by simp; exact h) (by simpa using hr)]
  simp
theorem parF_rng (s : ByteArray) (hd : Digits s) (i : Nat) (h : i < 32) : 0 ≤ parF s i ∧ parF s i < 256 := by
  have a := hd (2 * i) (by omega); have b := hd (2 * i + 1) (by omega)
  have c := digV_rng (atI s (2 * i)); have d := digV_rng (atI s (2 * i + 1))
  unfold parF; omega
theorem hex_par (s : ByteArray) (hs : s.size = 64) (hd : Digits s) : hexB (parB s) = s := by
  have e : (List.range 64).map (hexF (atI (parB s))) = (List.range s.size).map (atI s) := by
    rw [hs]
    refine List.map_congr_left fun i hi => ?_
    have hi := List.mem_range.1 hi
    unfold hexF
    have hp : atI (parB s) (i / 2) = parF s (i / 2) := atI_map _ 32 _ (by omega) (parF_rng s hd _ (by omega))
    have a := hd (2 * (i / 2)) (by omega); have b := hd (2 * (i / 2) + 1) (by omega)
    have c := digV_rng (atI s (2 * (i / 2))); have d := digV_rng (atI s (2 * (i / 2) + 1))
    rw [hp]
    unfold parF
    by_cases h2 : i % 2 = 0
    · rw [if_pos h2, show (digV (atI s (2 * (i / 2))) * 16 + digV (atI s (2 * (i / 2) + 1))) / 16 = digV (atI s (2 * (i / 2))) by omega, dig_back _ (atI_rng _ _).1 a]
      congr 1; omega
    · rw [if_neg h2, show (digV (atI s (2 * (i / 2))) * 16 + digV (atI s (2 * (i / 2) + 1))) % 16 = digV (atI s (2 * (i / 2) + 1)) by omega, dig_back _ (atI_rng _ _).1 b]
      congr 1; omega
  unfold hexB; rw [e]; exact str_at s
theorem hexF_rng (s : ByteArray) (i : Nat) : 0 ≤ hexF (atI s) i ∧ hexF (atI s) i < 256 := by
  have := atI_rng s (i / 2)
  unfold hexF digF
  split <;> split <;> omega
theorem hex_digits (s : ByteArray) : Digits (hexB s) := by
  intro i hi
  unfold hexB
  rw [atI_map _ 64 i hi (hexF_rng s i)]
  have := atI_rng s (i / 2)
  unfold hexF
  rw [dig_val _ (by split <;> omega) (by split <;> omega)]
  split <;> omega
theorem par_hex (s : ByteArray) (hs : s.size = 32) : parB (hexB s) = s := by
  have e : (List.range 32).map (parF (hexB s)) = (List.range s.size).map (atI s) := by
    rw [hs]
    refine List.map_congr_left fun i hi => ?_
    have hi := List.mem_range.1 hi
    have := atI_rng s i
    unfold parF hexB
    rw [atI_map _ 64 _ (by omega) (hexF_rng s _), atI_map _ 64 _ (by omega) (hexF_rng s _), hex_0, hex_1, dig_val _ (by omega) (by omega), dig_val _ (by omega) (by omega)]
    omega
  unfold parB; rw [e]; exact str_at s

theorem nums_snoc2 (xs : List Int) (a b : Int) : strOfNums xs ++ (strOfNums [a] ++ strOfNums [b]) = strOfNums (xs ++ [a, b]) := by
  simp [strOfNums]
  rfl
def RefSlot (s : ByteArray) (w : World) (o i : Value) (wr : World) : Prop :=
  ∃ k : Nat, k ≤ 32 ∧ i = .int .i64 k ∧ o = .string (strOfNums ((List.range (2 * k)).map (hexF (atI s)))) ∧ Below w.heap.size w wr
theorem tab_cut (d : Int) (h0 : 0 ≤ d) (h1 : d < 16) (W : World) : (Instr.slice 9 (.string tabS) (some (.int .u8 d)) (some (.int .u8 (d + 1))) none).run Tryd.prog W = .ok (.string (strOfNums [digF d])) W := by
  rcases (show d = 0 ∨ d = 1 ∨ d = 2 ∨ d = 3 ∨ d = 4 ∨ d = 5 ∨ d = 6 ∨ d = 7 ∨ d = 8 ∨ d = 9 ∨ d = 10 ∨ d = 11 ∨ d = 12 ∨ d = 13 ∨ d = 14 ∨ d = 15 by omega) with rfl | rfl | rfl | rfl | rfl | rfl | rfl | rfl | rfl | rfl | rfl | rfl | rfl | rfl | rfl | rfl <;> kernel_rfl

set_option maxHeartbeats 1000000 in
set_option maxRecDepth 100000 in
theorem RHex_not (s : ByteArray) (w : World) (hs : s.size ≠ 32) :
    Calls Tryd.prog 14 #[.string s] w fun e w' => e = .returned (.string ByteArray.empty) ∧ Below w.heap.size w w' := by
  have hne : ((s.size : Int) == 32) = false := by rw [beq_eq_false_iff_ne]; omega
  clear hs
  go_enter Tryd.func14, Tryd.ntmps14
  go_wp2_with fail
  go_ret
  exact ⟨rfl, Below.refl _ _⟩

set_option maxHeartbeats 1000000 in
set_option maxRecDepth 100000 in
theorem RHex_any (s : ByteArray) (w : World) (hs : s.size = 32) :
    Calls Tryd.prog 14 #[.string s] w fun e w' => e = .returned (.string (hexB s)) ∧ Below w.heap.size w w' := by
  have hne : ((s.size : Int) == 32) = true := by rw [hs]; rfl
  go_enter Tryd.func14, Tryd.ntmps14
  go_wp2_with fail
  go_loopw [3, 4] (fun o i wr => RefSlot s w o i wr) (fun _ i _ => 32 - (intOf i).toNat)
  case atStart => exact ⟨0, by omega, rfl, rfl, Below.refl _ _⟩
  case round =>
    obtain ⟨k, hk, rfl, rfl, hB⟩ := hrel
    have HB := Lib.hid hB
    clear hB
    by_cases hlt : k < 32
    · have hix := idx_at s k (by omega)
      have hx := atI_rng s k
      obtain ⟨x, hxe⟩ : ∃ x, atI s k = x := ⟨_, rfl⟩
      rw [hxe] at hix hx
      obtain ⟨hx0, hx1⟩ := hx
      have T1 := tab_cut (x / 16) (by omega) (by omega)
      have T2 := tab_cut (x % 16) (by omega) (by omega)
      unfold tabS at T1 T2
      have hst : Hid (RefSlot s w (.string (strOfNums ((List.range (2 * k)).map (hexF (atI s))) ++ (strOfNums [digF (x / 16)] ++ strOfNums [digF (x % 16)]))) (.int .i64 ((k : Int) + 1)) wr.drew) := Lib.hid ⟨k + 1, by omega, by rw [Int.natCast_succ], by
        rw [nums_snoc2, show 2 * (k + 1) = 2 * k + 1 + 1 by omega, List.range_succ, List.range_succ, List.map_append, List.map_append, List.append_assoc]
        simp only [List.map_cons, List.map_nil, List.cons_append, List.nil_append]
        rw [hex_0, hex_1, hxe], HB.out.drew⟩
      have hos : (strOfNums ((List.range (2 * k)).map (hexF (atI s)))).size = 2 * k := by rw [strOfNums_size]; simp
      obtain ⟨O, hO⟩ : ∃ O, strOfNums ((List.range (2 * k)).map (hexF (atI s))) = O := ⟨_, rfl⟩
      obtain ⟨P, hP⟩ : ∃ P, strOfNums [digF (x / 16)] = P := ⟨_, rfl⟩
      obtain ⟨Q, hQ⟩ : ∃ Q, strOfNums [digF (x % 16)] = Q := ⟨_, rfl⟩
      have hPs : P.size = 1 := by rw [← hP]; rfl
      have hQs : Q.size = 1 := by rw [← hQ]; rfl
      have hPQ : (P ++ Q).size = 2 := by rw [ByteArray.size_append]; omega
      have hO2 : O.size ≤ 64 := by rw [← hO, hos]; omega
      rw [hO, hP, hQ] at hst
      rw [hO] at hos ⊢
      rw [hP] at T1
      rw [hQ] at T2
      have n1 : ¬ 9223372036854775807 < O.size + (P.size + Q.size) := by omega
      have n2 : ¬ 9223372036854775807 < P.size + Q.size := by omega
      clear hxe hO hP hQ hos hO2 hPs hQs hPQ
      have q1 : x.tdiv 16 = x / 16 := Int.tdiv_eq_ediv_of_nonneg hx0
      have q2 : x.tmod 16 = x % 16 := Int.tmod_eq_emod_of_nonneg hx0
      have k8 : (k : Int) < 32 := by omega
      have d0 : 0 ≤ x / 16 := by omega
      have d1 : x / 16 < 16 := by omega
      have e0 : 0 ≤ x % 16 := by omega
      have e1 : x % 16 < 16 := by omega
      have v1 : IntKind.u8.wrap (x / 16) = x / 16 := IntWalk.u8_in _ (by omega)
      have v2 : IntKind.u8.wrap (x / 16 + 1) = x / 16 + 1 := IntWalk.u8_in _ (by omega)
      have v3 : IntKind.u8.wrap (x % 16) = x % 16 := IntWalk.u8_in _ (by omega)
      have v4 : IntKind.u8.wrap (x % 16 + 1) = x % 16 + 1 := IntWalk.u8_in _ (by omega)
      go_wp2_with fail
      refine wp_region_still_tail 25 (by kernel_rfl) (by kernel_rfl) ?_
      change wpStill _ _ (World.drew _) _ _ _
      simp only [List.take_succ_cons, List.take_zero, List.drop_succ_cons, List.drop_zero]
      repeat still_step
      try refine wpStill_nil ?_
      change wpList _ _ _ _ _ (World.drew _)
      go_wp2_with fail
      exact ⟨hst.out, by simp [intOf]; omega⟩
    · obtain rfl : k = 32 := by omega
      go_wp2_with fail
      go_ret
      exact ⟨rfl, HB.out⟩
end Go.Proofs.YtodmomhilpheiaaDoor
