/- SpaceCounts: the sum of any extents. -/
import Derived.Test.YtbegjgceemffcaaZh
import Derived.Test.YtbegjgceemffcaaVac
namespace Go.Proofs.Ytbegjgceemffcaa
open Go.RowKit Go.Shelf
variable {w w' : World}

/-- The row that the law makes of the first k numbers, and its sum. -/
def exL (zs : List Int) (k : Nat) : List (Int × Int) := (List.range k).map fun (i : Nat) => ((i : Int), zs.getD i 0)
theorem exL_len (zs : List Int) (k : Nat) : (exL zs k).length = k := by simp [exL]
theorem exL_succ (zs : List Int) (k : Nat) : exL zs (k + 1) = exL zs k ++ [((k : Int), zs.getD k 0)] := by unfold exL; rw [List.range_succ, List.map_append]; rfl
theorem flX_snoc (l : List (Int × Int)) (p : Int × Int) : flX (l ++ [p]) = flX l ++ [.int .i64 p.1, .int .i64 p.2] := by unfold flX; rw [List.flatMap_append]; rfl
theorem cnt_pos (zs : List Int) (k : Nat) (h : 0 < zs.getD k 0) : cntX (exL zs (k + 1)) = min (cntX (exL zs k) + min (zs.getD k 0) 1099511627776) 1099511627776 := by
  rw [exL_succ, cntX_snoc]; simp only; rw [Int.max_eq_left (by omega)]
theorem cnt_neg (zs : List Int) (k : Nat) (h : ¬ 0 < zs.getD k 0) : cntX (exL zs (k + 1)) = cntX (exL zs k) := by
  rw [exL_succ, cntX_snoc]; simp only
  have := cntX_bound (exL zs k)
  rw [Int.max_eq_right (by omega)]; omega
def ScS (w1 : World) (zs : List Int) (v a i : Value) (wr : World) : Prop :=
  ∃ k : Nat, k ≤ zs.length ∧ k ≤ 100 ∧ i = .int .i64 k ∧ a = .int .i64 (cntX (exL zs k)) ∧ wr.ownsRow w1.heap.size 26 2 v k (flX (exL zs k)) ∧ Below w1.heap.size w1 wr
set_option maxHeartbeats 2000000 in
set_option maxRecDepth 100000 in
theorem LCounts_any (ia : Option Addr) (zs : List Int) (ic : Nat) (w : World) (hint : IsInts w (.slice ia zs.length ic) zs) :
    Calls Try.prog 3 #[.slice ia zs.length ic] w fun e w' => e = .returned (.bool true) ∧ Below w.heap.size w w' := by
  have HS := Lib.hid (speaks_any w)
  have HC := Lib.hid (fun o l cap W (h1 : List.length l ≤ maxLen) hp => Count_any o l cap W h1 hp)
  obtain ⟨i1, hi1, hz0, hz1, hz2⟩ := info_parts info_ex
  have HI1 := Lib.hid hi1; have HZ0 := Lib.hid hz0; have HZ1 := Lib.hid hz1; have HZ2 := Lib.hid hz2
  clear hi1 hz0 hz1 hz2
  have HIN := Lib.hid hint
  obtain ⟨n, hn⟩ : ∃ n, zs.length = n := ⟨_, rfl⟩
  have hnb : n ≤ 17592186044415 := by obtain ⟨_, _, _, h, _⟩ := hint; omega
  have HN := Lib.hid hn
  rw [hn]
  clear hint hn
  go_enter Try.func3, Try.ntmps3
  go_wp2_with (go_at_call 4; refine HS.out.mono ?_)
  rintro e w1 ⟨rfl, hb1⟩
  have HB1 := Lib.hid hb1
  have HIN1 := Lib.hid (HIN.out.below hb1)
  clear hb1 HIN HS
  go_wp2_with fail
  go_loopw [3, 4, 5] (fun v a i wr => ScS w1 zs v a i wr) (fun _ _ i _ => n - (intOf i).toNat)
  case atStart => exact ⟨0, Nat.zero_le _, by decide, rfl, rfl, (World.ownsRow_nil _ _ _ _ : World.ownsRow _ _ _ _ (.slice none 0 0) 0 []), Below.refl _ _⟩
  case round =>
    obtain ⟨k, hk, hk2, rfl, rfl, hown, hb⟩ := hrel
    rw [HN.out] at hk
    have HB := Lib.hid hb
    have HO := Lib.hid hown
    obtain ⟨hc0, hc1⟩ := cntX_bound (exL zs k)
    by_cases hlt : k < n ∧ k < 100
    · obtain ⟨hl1, hl2⟩ := hlt
      obtain ⟨_, _, _, _, hrd⟩ := HIN1.out
      obtain ⟨b, o, rfl, hbl, hcell⟩ := hrd (by rw [HN.out]; omega)
      have HX1 := Lib.hid (hcell k (by rw [HN.out]; exact hl1))
      have hx := (hb.cell (p := ⟨b, o + k, none⟩) hbl).trans HX1.out
      have hsz := hb.size
      clear hcell hrd hb hown
      have hbelow : True := trivial
      by_cases hp : 0 < zs.getD k 0
      · have HP := Lib.hid (cnt_pos zs k hp)
        have HE := Lib.hid (exL_succ zs k)
        generalize zs.getD k 0 = x at *
        generalize cntX (exL zs k) = c at *
        clear hbelow
        go_wp2_with (at_builtin; refine wpList_append_own _ rfl _ _ 24 rfl w1.heap.size 26 i1 (.agg #[.int .i64 0, .int .i64 0]) 2 16 Try.underlying24 HI1.out HZ0.out HZ1.out HZ2.out rfl (by decide) _ _ _ rfl (HO.out.alloc _) ⟨wr.heap.size, 0, none⟩ 1 1 [.int .i64 k, .int .i64 x] rfl rfl (cell_two_new _ _ _ _) two_memX (by unfold maxLen; omega) (by omega) (by simp; omega) ?_; intro v' w4 hown hgrow _; have hb4 : Below w1.heap.size w1 w4 := ((HB.out.alloc hsz _).grown hgrow (by simp; omega) (fun g hg => own_base HO.out g hg)); have hx4 : w4.cell? ⟨b, o + k, none⟩ = some (.int .i64 x) := ((hb4.cell (p := ⟨b, o + k, none⟩) hbl).trans HX1.out); have HO4 := Lib.hid hown; have HB4 := Lib.hid hb4; clear hown hgrow hb4)
        go_roundw
        case rel => exact ⟨k + 1, by rw [HN.out]; omega, by omega, by rw [Int.natCast_succ], by rw [HP.out], by rw [HE.out, flX_snoc]; exact HO4.out, HB4.out⟩
        case measure => simp [intOf]; omega
      · have HP := Lib.hid (cnt_neg zs k hp)
        have HE := Lib.hid (exL_succ zs k)
        generalize zs.getD k 0 = x at *
        generalize cntX (exL zs k) = c at *
        clear hbelow
        go_wp2_with (at_builtin; refine wpList_append_own _ rfl _ _ 24 rfl w1.heap.size 26 i1 (.agg #[.int .i64 0, .int .i64 0]) 2 16 Try.underlying24 HI1.out HZ0.out HZ1.out HZ2.out rfl (by decide) _ _ _ rfl (HO.out.alloc _) ⟨wr.heap.size, 0, none⟩ 1 1 [.int .i64 k, .int .i64 x] rfl rfl (cell_two_new _ _ _ _) two_memX (by unfold maxLen; omega) (by omega) (by simp; omega) ?_; intro v' w4 hown hgrow _; have hb4 : Below w1.heap.size w1 w4 := ((HB.out.alloc hsz _).grown hgrow (by simp; omega) (fun g hg => own_base HO.out g hg)); have hx4 : w4.cell? ⟨b, o + k, none⟩ = some (.int .i64 x) := ((hb4.cell (p := ⟨b, o + k, none⟩) hbl).trans HX1.out); have HO4 := Lib.hid hown; have HB4 := Lib.hid hb4; clear hown hgrow hb4)
        go_roundw
        case rel => exact ⟨k + 1, by rw [HN.out]; omega, by omega, by rw [Int.natCast_succ], by rw [HP.out], by rw [HE.out, flX_snoc]; exact HO4.out, HB4.out⟩
        case measure => simp [intOf]; omega
    · have hlen : (exL zs k).length = k := exL_len zs k
      obtain ⟨oo, cap, hv, hex⟩ := own_exts (l := exL zs k) (by rw [hlen]; exact hown)
      have HCC := Lib.hid (HC.out oo (exL zs k) cap wr (by rw [hlen]; unfold maxLen; omega) hex)
      rw [hlen] at hv HCC
      subst hv
      clear hown hb hex hlen
      generalize cntX (exL zs k) = c at *
      by_cases h1 : k < n
      · have h2 : ¬ k < 100 := fun h => hlt ⟨h1, h⟩
        go_wp2_with (go_at_call 5; refine HCC.out.mono ?_)
        rintro e w5 ⟨rfl, hb5⟩
        have HB5 := Lib.hid (HB1.out.trans ((HB.out.trans (hb5.mono HB.out.size)).mono HB1.out.size))
        clear hb5
        go_wp2_with fail
        go_ret
        exact ⟨by simp, HB5.out⟩
      · go_wp2_with (go_at_call 5; refine HCC.out.mono ?_)
        rintro e w5 ⟨rfl, hb5⟩
        have HB5 := Lib.hid (HB1.out.trans ((HB.out.trans (hb5.mono HB.out.size)).mono HB1.out.size))
        clear hb5
        go_wp2_with fail
        go_ret
        exact ⟨by simp, HB5.out⟩
end Go.Proofs.Ytbegjgceemffcaa
