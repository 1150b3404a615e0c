/- Contracts of the document's Get where the first byte tells 3 more: for every such text. -/
import Derived.Test.YtmdhendfmhhniaaD
namespace Go.Proofs.Ytmdhendfmhhniaa
open Go.RowKit

set_option maxHeartbeats 800000 in
set_option maxRecDepth 100000 in
theorem rget_short3 (s : ByteArray) (w : World) (hs : 0 < s.size) (hk : leadI (byt s 0) = 3) (hl : s.size ≤ 3) :
    Calls Try.prog 20 #[.string s] w fun e w' => e = .returned (.tuple #[.int .i64 (getI s).1, .int .i64 (getI s).2.1, .int .i64 (getI s).2.2]) ∧ Below w.heap.size w w' := by
  have hem := ba_some s hs
  have hg := Lib.hid (show getI s = (0, 0, 3) by unfold getI; rw [if_neg (by omega), if_neg (by omega), if_pos (by omega)])
  have F0 := lead_yes s[0] 0 3 128 rfl (by rw [byt_eq]; exact hk) (by omega) (by omega)
  have F1 := lead_yes s[0] 1 3 64 rfl (by rw [byt_eq]; exact hk) (by omega) (by omega)
  have F2 := lead_yes s[0] 2 3 32 rfl (by rw [byt_eq]; exact hk) (by omega) (by omega)
  have F3 := lead_no s[0] 3 3 16 rfl (by rw [byt_eq]; exact hk) (by omega) (by omega)
  clear hk
  have hlt : (s.size : Int) < 4 := by omega
  go_enter Try.func20, Try.ntmps20
  go_wp2_with fail
  refine wp_loop_rounds 4 ?_
  iterate 4 (rw [rounds_succ]; go_wp2_with fail)
  go_ret3
  exact ⟨ret3_of hg.out, bel_refl _⟩

set_option maxHeartbeats 1600000 in
set_option maxRecDepth 100000 in
theorem rget_3_odd (s : ByteArray) (w : World) (hs : 3 < s.size) (hm : s.size ≤ maxLen) (hk : leadI (byt s 0) = 3) (hv : valI s ≤ 1099511627776) (hf : folI (valI s) ≠ 3) :
    Calls Try.prog 20 #[.string s] w fun e w' => e = .returned (.tuple #[.int .i64 (getI s).1, .int .i64 (getI s).2.1, .int .i64 (getI s).2.2]) ∧ Below w.heap.size w w' := by
  unfold maxLen at hm
  have hem := ba_some s (by omega)
  have hg : getI s = (0, 0, 2) := by unfold getI; rw [if_neg (by omega), if_neg (by omega), if_neg (by omega), if_neg (by omega), if_pos (by rw [hk]; exact hf)] <;> rfl
  obtain ⟨p, hp⟩ : ∃ p, strOfNums (putI (valI s)) = p := ⟨_, rfl⟩
  obtain ⟨q, hq⟩ : ∃ q, s.extract 0 4 = q := ⟨_, rfl⟩
  have hc : (p.toList == q.toList) = false := by rw [← hp, ← hq]; exact cmp_ne s 3 _ hs hf
  have hsl : ∀ W, (Instr.slice 9 (.string s) none (some (.int .i64 4)) none).run Try.prog W = .ok (.string q) W := fun W => by rw [← hq]; exact run_slice_string_h W _ s Try.underlying9 .i64 4 (by omega) (by omega)
  clear hq
  have hs3 : (4 : Int) ≤ (s.size : Int) := by omega
  have F0 := lead_yes s[0] 0 3 128 rfl (by rw [byt_eq]; exact hk) (by omega) (by omega)
  have F1 := lead_yes s[0] 1 3 64 rfl (by rw [byt_eq]; exact hk) (by omega) (by omega)
  have F2 := lead_yes s[0] 2 3 32 rfl (by rw [byt_eq]; exact hk) (by omega) (by omega)
  have F3 := lead_no s[0] 3 3 16 rfl (by rw [byt_eq]; exact hk) (by omega) (by omega)
  have hb := lead_rng3 _ (byt_lo s 0) (byt_hi s 0) hk
  have hval := val_3 s hk
  obtain ⟨y0, hy0, hz0⟩ : ∃ y, wrap64 (s[0].toNat : Int) = y ∧ byt s 0 = y := ⟨_, by rw [wrap64_byt, byt_eq], rfl⟩
  rw [hz0] at hval hb
  obtain ⟨hl0, hh0⟩ := hb
  obtain ⟨y1, hy1, hz1⟩ : ∃ y, wrap64 (s[1].toNat : Int) = y ∧ byt s 1 = y := ⟨_, by rw [wrap64_byt, byt_eq], rfl⟩
  have hl1 := byt_lo s 1; have hh1 := byt_hi s 1
  rw [hz1] at hval hl1 hh1
  obtain ⟨y2, hy2, hz2⟩ : ∃ y, wrap64 (s[2].toNat : Int) = y ∧ byt s 2 = y := ⟨_, by rw [wrap64_byt, byt_eq], rfl⟩
  have hl2 := byt_lo s 2; have hh2 := byt_hi s 2
  rw [hz2] at hval hl2 hh2
  obtain ⟨y3, hy3, hz3⟩ : ∃ y, wrap64 (s[3].toNat : Int) = y ∧ byt s 3 = y := ⟨_, by rw [wrap64_byt, byt_eq], rfl⟩
  have hl3 := byt_lo s 3; have hh3 := byt_hi s 3
  rw [hz3] at hval hl3 hh3
  have HX := Lib.hid (hor_start s (y0 - 224) (by omega) (by omega))
  have hvx : valI s = horner s (y0 - 224) 3 := by rw [hval]; simp only [horner, hz1, hz2, hz3]; try omega
  have HV := Lib.hid hvx; have HVV := Lib.hid hv
  have HZ1 := Lib.hid hz1
  have HZ2 := Lib.hid hz2
  have HZ3 := Lib.hid hz3
  have HG := Lib.hid hg; have HP := Lib.hid hp
  clear hk hval hvx hv hg hp hz0 hz1 hz2 hz3 hf
  go_enter Try.func20, Try.ntmps20
  go_wp2_with fail
  refine wp_loop_rounds 4 ?_
  iterate 4 (rw [rounds_succ]; go_wp2_with fail)
  go_region
  go_wp2_with fail
  clear hy0
  go_loop [6, 7] (fun n i => HorSlot s (y0 - 224) 4 n i) (fun _ i => 5 - (intOf i).toNat)
  case atStart => exact ⟨1, _, by omega, by omega, rfl, rfl, HX.out⟩
  case round =>
    obtain ⟨j, x, hj1, hj2, rfl, rfl, hH0⟩ := hrel
    have hH := Lib.hid hH0
    clear hH0
    have hxb := hor_bnd s _ j x hH.out (by omega)
    obtain ⟨hx0, hx1⟩ := hxb
    obtain rfl | hj : j = 4 ∨ j < 4 := by omega
    · have hxv : x = valI s := by rw [HV.out]; exact hH.out.1
      have hv2 := HVV.out
      rw [← hxv] at hv2
      have HP2 : Hid (strOfNums (putI x) = p) := by rw [hxv]; exact HP
      have HG2 : Hid (getI s = (0, 0, 2)) := by exact HG
      clear hxv
      go_wp2_with fail
      have hw3 : IntKind.i64.wrap 4 = 4 := by decide
      go_region_with (go_at_call 28; refine (rput_str _ p _ (by omega) (by omega) HP2.out).mono ?_; rintro e w' ⟨rfl, hb1⟩)
      go_wp2_with fail
      go_ret3
      exact ⟨ret3_of HG2.out, by first | exact bel_trans (bel_drew (bel_drew (bel_alloc (bel_refl _) _))) hb1 | exact bel_trans (bel_drew (bel_alloc (bel_refl _) _)) hb1⟩
    · rcases (show j = 1 ∨ j = 2 ∨ j = 3 by omega) with rfl | rfl | rfl
      · have hst : Hid (HorRel s (y0 - 224) 2 (256 * x + y1)) := Lib.hid (hor_step s _ 1 x y1 hH.out (by omega) HZ1.out)
        clear hH hj hj1 hj2
        go_wp2_with fail
        go_round
        case rel => exact ⟨2, _, by omega, by omega, rfl, rfl, hst.out⟩
        case measure => simp [intOf]
      · have hst : Hid (HorRel s (y0 - 224) 3 (256 * x + y2)) := Lib.hid (hor_step s _ 2 x y2 hH.out (by omega) HZ2.out)
        clear hH hj hj1 hj2
        go_wp2_with fail
        go_round
        case rel => exact ⟨3, _, by omega, by omega, rfl, rfl, hst.out⟩
        case measure => simp [intOf]
      · have hst : Hid (HorRel s (y0 - 224) 4 (256 * x + y3)) := Lib.hid (hor_step s _ 3 x y3 hH.out (by omega) HZ3.out)
        clear hH hj hj1 hj2
        go_wp2_with fail
        go_round
        case rel => exact ⟨4, _, by omega, by omega, rfl, rfl, hst.out⟩
        case measure => simp [intOf]

set_option maxHeartbeats 1600000 in
set_option maxRecDepth 100000 in
theorem rget_3_ok (s : ByteArray) (w : World) (hs : 3 < s.size) (hm : s.size ≤ maxLen) (hk : leadI (byt s 0) = 3) (hv : valI s ≤ 1099511627776) (hf : folI (valI s) = 3) :
    Calls Try.prog 20 #[.string s] w fun e w' => e = .returned (.tuple #[.int .i64 (getI s).1, .int .i64 (getI s).2.1, .int .i64 (getI s).2.2]) ∧ Below w.heap.size w w' := by
  unfold maxLen at hm
  have hem := ba_some s (by omega)
  have hg : getI s = (valI s, 4, 0) := by unfold getI; rw [if_neg (by omega), if_neg (by omega), if_neg (by omega), if_neg (by omega), if_neg (by rw [hk]; omega), hk] <;> rfl
  obtain ⟨p, hp⟩ : ∃ p, strOfNums (putI (valI s)) = p := ⟨_, rfl⟩
  obtain ⟨q, hq⟩ : ∃ q, s.extract 0 4 = q := ⟨_, rfl⟩
  have hc : (p.toList == q.toList) = true := by rw [← hp, ← hq]; exact by rw [cmp_ok3 s hs hk hf]; simp
  have hsl : ∀ W, (Instr.slice 9 (.string s) none (some (.int .i64 4)) none).run Try.prog W = .ok (.string q) W := fun W => by rw [← hq]; exact run_slice_string_h W _ s Try.underlying9 .i64 4 (by omega) (by omega)
  clear hq
  have hs3 : (4 : Int) ≤ (s.size : Int) := by omega
  have F0 := lead_yes s[0] 0 3 128 rfl (by rw [byt_eq]; exact hk) (by omega) (by omega)
  have F1 := lead_yes s[0] 1 3 64 rfl (by rw [byt_eq]; exact hk) (by omega) (by omega)
  have F2 := lead_yes s[0] 2 3 32 rfl (by rw [byt_eq]; exact hk) (by omega) (by omega)
  have F3 := lead_no s[0] 3 3 16 rfl (by rw [byt_eq]; exact hk) (by omega) (by omega)
  have hb := lead_rng3 _ (byt_lo s 0) (byt_hi s 0) hk
  have hval := val_3 s hk
  obtain ⟨y0, hy0, hz0⟩ : ∃ y, wrap64 (s[0].toNat : Int) = y ∧ byt s 0 = y := ⟨_, by rw [wrap64_byt, byt_eq], rfl⟩
  rw [hz0] at hval hb
  obtain ⟨hl0, hh0⟩ := hb
  obtain ⟨y1, hy1, hz1⟩ : ∃ y, wrap64 (s[1].toNat : Int) = y ∧ byt s 1 = y := ⟨_, by rw [wrap64_byt, byt_eq], rfl⟩
  have hl1 := byt_lo s 1; have hh1 := byt_hi s 1
  rw [hz1] at hval hl1 hh1
  obtain ⟨y2, hy2, hz2⟩ : ∃ y, wrap64 (s[2].toNat : Int) = y ∧ byt s 2 = y := ⟨_, by rw [wrap64_byt, byt_eq], rfl⟩
  have hl2 := byt_lo s 2; have hh2 := byt_hi s 2
  rw [hz2] at hval hl2 hh2
  obtain ⟨y3, hy3, hz3⟩ : ∃ y, wrap64 (s[3].toNat : Int) = y ∧ byt s 3 = y := ⟨_, by rw [wrap64_byt, byt_eq], rfl⟩
  have hl3 := byt_lo s 3; have hh3 := byt_hi s 3
  rw [hz3] at hval hl3 hh3
  have HX := Lib.hid (hor_start s (y0 - 224) (by omega) (by omega))
  have hvx : valI s = horner s (y0 - 224) 3 := by rw [hval]; simp only [horner, hz1, hz2, hz3]; try omega
  have HV := Lib.hid hvx; have HVV := Lib.hid hv
  have HZ1 := Lib.hid hz1
  have HZ2 := Lib.hid hz2
  have HZ3 := Lib.hid hz3
  have HG := Lib.hid hg; have HP := Lib.hid hp
  clear hk hval hvx hv hg hp hz0 hz1 hz2 hz3 hf
  go_enter Try.func20, Try.ntmps20
  go_wp2_with fail
  refine wp_loop_rounds 4 ?_
  iterate 4 (rw [rounds_succ]; go_wp2_with fail)
  go_region
  go_wp2_with fail
  clear hy0
  go_loop [6, 7] (fun n i => HorSlot s (y0 - 224) 4 n i) (fun _ i => 5 - (intOf i).toNat)
  case atStart => exact ⟨1, _, by omega, by omega, rfl, rfl, HX.out⟩
  case round =>
    obtain ⟨j, x, hj1, hj2, rfl, rfl, hH0⟩ := hrel
    have hH := Lib.hid hH0
    clear hH0
    have hxb := hor_bnd s _ j x hH.out (by omega)
    obtain ⟨hx0, hx1⟩ := hxb
    obtain rfl | hj : j = 4 ∨ j < 4 := by omega
    · have hxv : x = valI s := by rw [HV.out]; exact hH.out.1
      have hv2 := HVV.out
      rw [← hxv] at hv2
      have HP2 : Hid (strOfNums (putI x) = p) := by rw [hxv]; exact HP
      have HG2 : Hid (getI s = (x, 4, 0)) := by rw [hxv]; exact HG
      clear hxv
      go_wp2_with fail
      have hw3 : IntKind.i64.wrap 4 = 4 := by decide
      go_region_with (go_at_call 28; refine (rput_str _ p _ (by omega) (by omega) HP2.out).mono ?_; rintro e w' ⟨rfl, hb1⟩)
      go_wp2_with fail
      go_ret3
      exact ⟨ret3_of HG2.out, by first | exact bel_trans (bel_drew (bel_drew (bel_alloc (bel_refl _) _))) hb1 | exact bel_trans (bel_drew (bel_alloc (bel_refl _) _)) hb1⟩
    · rcases (show j = 1 ∨ j = 2 ∨ j = 3 by omega) with rfl | rfl | rfl
      · have hst : Hid (HorRel s (y0 - 224) 2 (256 * x + y1)) := Lib.hid (hor_step s _ 1 x y1 hH.out (by omega) HZ1.out)
        clear hH hj hj1 hj2
        go_wp2_with fail
        go_round
        case rel => exact ⟨2, _, by omega, by omega, rfl, rfl, hst.out⟩
        case measure => simp [intOf]
      · have hst : Hid (HorRel s (y0 - 224) 3 (256 * x + y2)) := Lib.hid (hor_step s _ 2 x y2 hH.out (by omega) HZ2.out)
        clear hH hj hj1 hj2
        go_wp2_with fail
        go_round
        case rel => exact ⟨3, _, by omega, by omega, rfl, rfl, hst.out⟩
        case measure => simp [intOf]
      · have hst : Hid (HorRel s (y0 - 224) 4 (256 * x + y3)) := Lib.hid (hor_step s _ 3 x y3 hH.out (by omega) HZ3.out)
        clear hH hj hj1 hj2
        go_wp2_with fail
        go_round
        case rel => exact ⟨4, _, by omega, by omega, rfl, rfl, hst.out⟩
        case measure => simp [intOf]

end Go.Proofs.Ytmdhendfmhhniaa
