/- Rules: the law of a front and of lines in another order. -/
import Derived.Test.YtlfjlkmikmajaaaRj
import Derived.Test.YtlfjlkmikmajaaaRh
import Derived.StillTailTactics
namespace Go.Proofs.Ytlfjlkmikmajaaa
open Go.RowKit
variable {w w' : World}

theorem tmod_bd (x b : Int) (hb : 0 < b) : -b < x.tmod b ∧ x.tmod b < b := by
  have h := Int.natAbs_tmod x b
  have h2 := Nat.mod_lt x.natAbs (show 0 < b.natAbs by omega)
  rw [← h] at h2
  omega
theorem mod_front (x : Int) (n : Nat) (hn : n ≤ 4096) : ∃ m : Nat, (wrap64 (wrap64 (x.tmod ((n : Int) + 1) + n) + 1)).tmod ((n : Int) + 1) = (m : Int) ∧ m ≤ n := by
  have h1 := tmod_bd x ((n : Int) + 1) (by omega)
  rw [IntWalk.wrap64_in (x.tmod ((n : Int) + 1) + n) (by omega), IntWalk.wrap64_in (x.tmod ((n : Int) + 1) + n + 1) (by omega)]
  have h2 := tmod_bd (x.tmod ((n : Int) + 1) + n + 1) ((n : Int) + 1) (by omega)
  have h3 := Int.tmod_nonneg (a := x.tmod ((n : Int) + 1) + n + 1) ((n : Int) + 1) (by omega)
  exact ⟨((x.tmod ((n : Int) + 1) + n + 1).tmod ((n : Int) + 1)).toNat, by omega, by omega⟩
theorem mod_turn (y : Int) (n1 : Nat) (hn : n1 ≤ 4096) (h0 : 0 < n1) : ∃ m : Nat, (wrap64 (wrap64 (y.tmod (n1 : Int) + ((n1 : Int) + 1)) - 1)).tmod (n1 : Int) = (m : Int) ∧ m < n1 := by
  have h1 := tmod_bd y (n1 : Int) (by omega)
  rw [IntWalk.wrap64_in (y.tmod (n1 : Int) + ((n1 : Int) + 1)) (by omega), IntWalk.wrap64_in (y.tmod (n1 : Int) + ((n1 : Int) + 1) - 1) (by omega)]
  have h2 := tmod_bd (y.tmod (n1 : Int) + ((n1 : Int) + 1) - 1) (n1 : Int) (by omega)
  have h3 := Int.tmod_nonneg (a := y.tmod (n1 : Int) + ((n1 : Int) + 1) - 1) (n1 : Int) (by omega)
  exact ⟨((y.tmod (n1 : Int) + ((n1 : Int) + 1) - 1).tmod (n1 : Int)).toNat, by omega, by omega⟩
theorem own_cap {B : Nat} {t : TypeId} {o : Option Addr} {n c : Nat} {xs : List Value} {s : Nat} (h : w.ownsRow B t s (.slice o n c) n xs) : n ≤ c := by
  rcases h.2 with ⟨h1, h2⟩ | ⟨g, cap, cur, h1, _, hg, hn, _⟩
  · injection h1 with _ h3 h4; omega
  · injection h1 with _ _ h4; omega
theorem PrAt.take {t : TypeId} {o : Option Addr} {l : List PairB} (h : PrAt w t o l) (n : Nat) : PrAt w t o (l.take n) := fun k p hp => by
  rw [List.getElem?_take] at hp
  split at hp
  · exact h k p hp
  · cases hp
theorem swap_row {g : Nat} {cu : Array Value} {T : TypeId} {L : List PairB} {t : Nat} {p q : PairB} (hg : w.heap[g]? = some (.cells cu T (0, 0))) (hfl : ∀ (j : Nat) (u : Value), (flatP L)[j]? = some u → cu[j]? = some u) (hp : L[t]? = some p) (hq : L[t + 1]? = some q) :
    PrAt ((((w.setCell ⟨g, t * 2, none⟩ (.string q.1)).setCell ⟨g, t * 2 + 1, none⟩ (.string q.2)).setCell ⟨g, (t + 1) * 2, none⟩ (.string p.1)).setCell ⟨g, (t + 1) * 2 + 1, none⟩ (.string p.2)) T (some ⟨g, 0, none⟩) ((L.set t q).set (t + 1) p) := fun k r hr => by
  have h4 := heap_set (i := (t + 1) * 2 + 1) (.string p.2) (heap_set (i := (t + 1) * 2) (.string p.1) (heap_set (i := t * 2 + 1) (.string q.2) (heap_set (i := t * 2) (.string q.1) hg)))
  have hlq := (List.getElem?_eq_some_iff.1 hq).1
  have hsz : (t + 1) * 2 + 1 < cu.size := (Array.getElem?_eq_some_iff.1 (hfl _ _ (flatP_get L (t + 1) q hq).2)).1
  refine ⟨g, _, rfl, h4, ?_, ?_⟩
  all_goals
    rw [cell_of_row h4]
    simp only [Array.getElem?_setIfInBounds, Array.size_setIfInBounds]
    rw [List.getElem?_set, List.length_set, List.getElem?_set] at hr
    by_cases h1 : t + 1 = k
    · subst h1
      rw [if_pos rfl, if_pos hlq] at hr
      have hr := Option.some.inj hr
      subst hr
      first
        | (rw [if_neg (by omega), if_pos rfl, if_pos (by omega)])
        | (rw [if_pos rfl, if_pos (by omega)])
    · rw [if_neg h1] at hr
      by_cases h2 : t = k
      · subst h2
        rw [if_pos rfl, if_pos (by omega)] at hr
        have hr := Option.some.inj hr
        subst hr
        first
          | (rw [if_neg (by omega), if_neg (by omega), if_neg (by omega), if_pos rfl, if_pos (by omega)])
          | (rw [if_neg (by omega), if_neg (by omega), if_pos rfl, if_pos (by omega)])
      · rw [if_neg h2] at hr
        rw [if_neg (by omega), if_neg (by omega), if_neg (by omega), if_neg (by omega)]
        first | exact hfl _ _ (flatP_get L k r hr).1 | exact hfl _ _ (flatP_get L k r hr).2
set_option maxHeartbeats 2000000 in
set_option maxRecDepth 100000 in
theorem LFront_any (s : ByteArray) (x y : Int) (w : World) (hs : s.size ≤ maxLen) (hx : (Lit.int .i64 x).wf = true) (hy : (Lit.int .i64 y).wf = true) :
    Calls Try.prog 9 #[.string s, .int .i64 x, .int .i64 y] w fun e w' => e = .returned (.bool true) ∧ Below w.heap.size w w' := by
  go_enter Try.func9, Try.ntmps9
  go_wp2_with (go_at_call 16; refine (speaksR_any w).mono ?_)
  first | rintro e w1 ⟨rfl, hb1⟩ | rintro e w1 rfl hb1
  have HB1 := Lib.hid hb1
  clear hb1
  by_cases h3 : 3000 < s.size
  · unfold maxLen at hs
    go_wp2_with fail
    go_ret
    exact ⟨rfl, HB1.out⟩
  · have h3' : (s.size : Int) ≤ 3000 := by omega
    have HP := Lib.hid (ParseR_any s w1 hs)
    go_wp2_with (go_at_call 17; refine HP.out.mono ?_)
    first | rintro e w2 ⟨v, rfl, ho, hb2⟩ | rintro e w2 v rfl ho hb2
    obtain ⟨⟨L, N, E⟩, hr⟩ : ∃ r, parseR s = r := ⟨_, rfl⟩
    have HSH : Hid (E = 0 → showM L = s.data.toList ∧ N = 0 ∧ Ris L ∧ L.length ≤ 4096) := Lib.hid (fun h => by subst h; have := parseR_show hr; exact ⟨this.1, this.2.1, this.2.2.1, this.2.2.2.1⟩)
    rw [hr] at ho ⊢
    simp only at ho ⊢
    have HB2 := Lib.hid (HB1.out.trans (hb2.mono HB1.out.size))
    by_cases hE : E = 0
    · subst hE
      obtain ⟨hsh, hN, hR, hL4⟩ := HSH.out rfl
      subst hN
      obtain ⟨o, cap, rfl, hpr⟩ := own_pairs ho
      have HPR := Lib.hid hpr; have HO := Lib.hid ho
      have HS := Lib.hid hsh; have HR := Lib.hid hR
      obtain ⟨n, hn⟩ : ∃ n, L.length = n := ⟨_, rfl⟩
      have HN := Lib.hid hn
      rw [hn] at hL4 ⊢
      clear ho hpr hsh hR hn hr hb2 HP HSH
      have hni : (n : Int) ≤ 4096 := by omega
      have hcap : L.length ≤ cap := own_cap HO.out
      rw [HN.out] at hcap
      obtain ⟨m, hm, hmn⟩ := mod_front x n hL4
      have hsl : (showM L).length = s.size := by rw [HS.out, size_len]
      have htl : (L.take m).length = m := by rw [List.length_take, HN.out]; omega
      have htk := showM_take L m
      have HSA := Lib.hid (ShowR_any o (L.take m) cap w2 (by omega) (HPR.out.take m) (by omega))
      rw [htl] at HSA
      obtain ⟨S1, hS1⟩ : ∃ S1 : ByteArray, (⟨(showM (L.take m)).toArray⟩ : ByteArray) = S1 := ⟨_, rfl⟩
      have hd1 : S1.data.toList = showM (L.take m) := by rw [← hS1]
      have hz1 : S1.size ≤ 3000 := by rw [← size_len, hd1]; omega
      have hp1 : parseR S1 = (L.take m, 0, 0) := showR_parse hd1 (by omega) (by omega) (HR.out.take m)
      have HP1 : Hid (∀ W, Calls Try.prog 17 #[.string S1] W fun e w' => ∃ v, e = .returned (.tuple #[v, .int .i64 0, .int .i64 0]) ∧ w'.ownsRow W.heap.size 52 2 v m (flatP (L.take m)) ∧ Below W.heap.size W w') := Lib.hid (fun W => by have := ParseR_any S1 W (by unfold maxLen; omega); rw [hp1, htl] at this; exact this)
      rw [hS1] at HSA
      have hmi : (m : Int) ≤ n := by omega
      have hcapi : (n : Int) ≤ cap := by omega
      clear hS1 hd1 hz1 hp1 htk htl
      go_wp2_with (go_at_call 21; (with_reducible refine HSA.out.mono ?_); rintro e w3 ⟨rfl, hb3⟩; have HB3 := Lib.hid (HB2.out.trans (hb3.mono HB2.out.size)); have HPR3 := Lib.hid (HPR.out.below hb3); have HO3 := Lib.hid (own_below HO.out hb3); clear hb3 HSA)
      refine (HP1.out _).mono ?_
      first | rintro e w4 ⟨v4, rfl, ho4, hb4⟩ | rintro e w4 v4 rfl ho4 hb4
      obtain ⟨o4, c4, rfl, _⟩ : ∃ o4 c4, v4 = .slice o4 m c4 ∧ True := by
        rcases ho4.2 with ⟨h1, h2⟩ | ⟨g, c, cur, h1, _⟩
        · exact ⟨none, 0, by rw [h1, h2], trivial⟩
        · exact ⟨_, c, h1, trivial⟩
      have HB4 := Lib.hid (HB3.out.trans (hb4.mono HB3.out.size)); have HPR4 := Lib.hid (HPR3.out.below hb4); have HO4 := Lib.hid (own_below HO3.out hb4)
      clear hb4 ho4 HPR3 HO3 HP1
      by_cases h2 : n < 2
      · have h2i : (n : Int) < 2 := by omega
        go_wp2_with fail
        go_ret
        exact ⟨rfl, HB4.out⟩
      · have h2i : ¬ (n : Int) < 2 := by omega
        obtain ⟨n1, hn1⟩ : ∃ n1, n = n1 + 1 := ⟨n - 1, by omega⟩
        obtain ⟨t, ht, htn⟩ := mod_turn y n1 (by omega) (by omega)
        subst hn1
        rcases HO4.out.2 with ⟨hv, hn0⟩ | ⟨g, c', cur, hv, _, hg, _, hcc, _, hflat⟩
        · exact absurd hn0 (by rw [HN.out]; omega)
        obtain ⟨rfl, _, rfl⟩ : o = some ⟨g, 0, none⟩ ∧ n1 + 1 = n1 + 1 ∧ cap = c' := by injection hv with a b c; exact ⟨a, rfl, c⟩
        obtain ⟨i1, hi1, hz0, hz1, hz2⟩ := info_parts info_rr
        have HI1 := Lib.hid hi1; have HZ0 := Lib.hid hz0; have HZ1 := Lib.hid hz1; have HZ2 := Lib.hid hz2
        have HA0 := Lib.hid ((Below.refl w4.heap.size w4).alloc (Nat.le_refl _) (.cells #[] 52))
        have H0R : Hid ((w4.alloc (.cells #[] 52)).ownsRow w4.heap.size 52 2 (.slice (some ⟨w4.heap.size, 0, none⟩) 0 0) 0 []) := Lib.hid ⟨rfl, .inr ⟨w4.heap.size, 0, #[], rfl, Nat.le_refl _, World.alloc_heap_new _ _, Nat.le_refl _, Nat.zero_le _, rfl, rfl⟩⟩
        have HCELL : Hid (∀ (j : Nat) (u : Value), (flatP L)[j]? = some u → (w4.alloc (.cells #[] 52)).cell? ((⟨g, 0, none⟩ : Addr).add j) = some u) := Lib.hid (fun j u hj => by
          have hg5 : (w4.alloc (.cells #[] 52)).heap[g]? = some (.cells cur 52 (0, 0)) := (Lib.alloc_old _ _ _ (lt_of_some hg)).trans hg
          rw [addr_at, cell_of_row hg5]
          rw [← hflat, List.getElem?_take] at hj
          split at hj
          · rw [Array.getElem?_toList] at hj; exact hj
          · cases hj)
        have HLEN : Hid ((flatP L).length = (n1 + 1) * 2) := Lib.hid (by rw [flatP_length, HN.out])
        have HONE : Hid (∀ u ∈ flatP L, u.oneCell' = true) := Lib.hid (fun u hu => by
          unfold flatP at hu
          obtain ⟨p, _, hp⟩ := List.mem_flatMap.1 hu
          simp at hp
          rcases hp with rfl | rfl <;> rfl)
        have hz5 : w4.heap.size ≤ (w4.alloc (.cells #[] 52)).heap.size := by simp
        clear hv hg hcc hflat hi1 hz0 hz1 hz2
        go_wp2_with (at_builtin; refine wpList_append_own _ rfl _ _ 44 rfl w4.heap.size 52 i1 (.agg #[.string ⟨#[]⟩, .string ⟨#[]⟩]) 2 32 Try.underlying44 HI1.out HZ0.out HZ1.out HZ2.out rfl (by decide) _ _ _ rfl H0R.out ⟨g, 0, none⟩ (n1 + 1) cap (flatP L) rfl HLEN.out HCELL.out HONE.out (by unfold maxLen; omega) (by omega) hz5 ?_; intro v5 w5 hown5 hgrow5 _)
        obtain ⟨g5, c5, rfl⟩ := ownsRow_succ (show w5.ownsRow w4.heap.size 52 2 v5 (n1 + 1) (flatP L) by have h := hown5; rw [Nat.zero_add, List.nil_append] at h; exact h)
        have HB5 := Lib.hid (HB4.out.trans ((HA0.out.grown hgrow5 HA0.out.size (own_base H0R.out)).mono HB4.out.size))
        have hown5' : w5.ownsRow w4.heap.size 52 2 (.slice (some ⟨g5, 0, none⟩) (n1 + 1) c5) (n1 + 1) (flatP L) := by have h := hown5; rw [Nat.zero_add, List.nil_append] at h; exact h
        have HBG := Lib.hid (own_base hown5' g5 rfl)
        obtain ⟨cu5, hg5, hfl5⟩ : ∃ cu, w5.heap[g5]? = some (.cells cu 52 (0, 0)) ∧ ∀ (j : Nat) (u : Value), (flatP L)[j]? = some u → cu[j]? = some u := by
          rcases hown5'.2 with ⟨h1, _⟩ | ⟨g', c', cu, h1, _, h3, _, _, _, h7⟩
          · cases h1
          · injection h1 with h1 _ _; injection h1 with h1; injection h1 with h1
            subst h1
            refine ⟨cu, h3, fun j u hj => ?_⟩
            rw [← h7, List.getElem?_take] at hj
            split at hj
            · rw [Array.getElem?_toList] at hj; exact hj
            · cases hj
        obtain ⟨p, hp⟩ : ∃ p, L[t]? = some p := ⟨_, List.getElem?_eq_getElem (by rw [HN.out]; omega)⟩
        obtain ⟨q, hq⟩ : ∃ q, L[t + 1]? = some q := ⟨_, List.getElem?_eq_getElem (by rw [HN.out]; omega)⟩
        have HPq := Lib.hid hp; have HQq := Lib.hid hq; have HG5 := Lib.hid hg5; have HF5 := Lib.hid hfl5
        have e0 : w5.cell? ⟨g5, t * 2, none⟩ = some (.string p.1) := by rw [cell_of_row hg5]; exact hfl5 _ _ (flatP_get L t p hp).1
        have e1 : w5.cell? ⟨g5, t * 2 + 1, none⟩ = some (.string p.2) := by rw [cell_of_row hg5]; exact hfl5 _ _ (flatP_get L t p hp).2
        obtain ⟨t1, ht1⟩ : ∃ t1, t + 1 = t1 := ⟨_, rfl⟩
        rw [ht1] at hq
        have e2 : w5.cell? ⟨g5, t1 * 2, none⟩ = some (.string q.1) := by rw [cell_of_row hg5]; exact hfl5 _ _ (flatP_get L t1 q hq).1
        have e3 : w5.cell? ⟨g5, t1 * 2 + 1, none⟩ = some (.string q.2) := by rw [cell_of_row hg5]; exact hfl5 _ _ (flatP_get L t1 q hq).2
        have ef : ∀ j, w5.frozen? ⟨g5, j, none⟩ = false := fun j => by simp [World.frozen?, hg5]
        have b1 : t < n1 + 1 := by omega
        have b2 : t1 < n1 + 1 := by omega
        have b3 : (t : Int) + 1 = (t1 : Int) := by omega
        have b4 : (t1 : Int) < (n1 : Int) + 1 := by omega
        have b5 : (t : Int) < (n1 : Int) + 1 := by omega
        have HT1 := Lib.hid ht1
        clear hown5 hown5' hgrow5 hp hq hg5 hfl5 ht1 HCELL HLEN HONE H0R HA0 hz5
        go_wp2_with fail
        have hw1 : IntKind.i64.wrap (t1 : Int) = (t1 : Int) := IntWalk.i64_in _ (by omega)
        have hprs := swap_row HG5.out HF5.out HPq.out HQq.out
        rw [HT1.out] at hprs
        have hb6 : Below w.heap.size w ((((w5.setCell ⟨g5, t * 2, none⟩ (.string q.1)).setCell ⟨g5, t * 2 + 1, none⟩ (.string q.2)).setCell ⟨g5, t1 * 2, none⟩ (.string p.1)).setCell ⟨g5, t1 * 2 + 1, none⟩ (.string p.2)) := by
          have hgb : w.heap.size ≤ g5 := Nat.le_trans HB4.out.size HBG.out
          exact (((HB5.out.setCell (p := ⟨g5, t * 2, none⟩) hgb _).setCell (p := ⟨g5, t * 2 + 1, none⟩) hgb _).setCell (p := ⟨g5, t1 * 2, none⟩) hgb _).setCell (p := ⟨g5, t1 * 2 + 1, none⟩) hgb _
        have HB6 := Lib.hid (below_drewN hb6 1)
        have HPR6 := Lib.hid (hprs.below (below_drewN (Below.refl _ _) 1))
        have hl2 : ((L.set t q).set t1 p).length = n1 + 1 := by rw [List.length_set, List.length_set, HN.out]
        have hs2 : (showM ((L.set t q).set t1 p)).length = s.size := by rw [← HT1.out, showM_swap HPq.out HQq.out, hsl]
        obtain ⟨S2, hS2⟩ : ∃ S2 : ByteArray, (⟨(showM ((L.set t q).set t1 p)).toArray⟩ : ByteArray) = S2 := ⟨_, rfl⟩
        have hd2 : S2.data.toList = showM ((L.set t q).set t1 p) := by rw [← hS2]
        have hz2 : S2.size ≤ 3000 := by rw [← size_len, hd2]; omega
        have hp2 : parseR S2 = ([], (t : Int) + 2, 12) := swap_parse HR.out HPq.out HQq.out (by rw [HT1.out]; exact hd2) (by omega) (by rw [HN.out]; omega)
        have HP2 : Hid (∀ W, Calls Try.prog 17 #[.string S2] W fun e w' => ∃ v, e = .returned (.tuple #[v, .int .i64 ((t : Int) + 2), .int .i64 12]) ∧ Below W.heap.size W w') := Lib.hid (fun W => by
          have := ParseR_any S2 W (by unfold maxLen; omega)
          rw [hp2] at this
          refine this.mono ?_
          first | rintro e w' ⟨v, rfl, _, hb⟩ | rintro e w' v rfl _ hb
          exact ⟨v, rfl, hb⟩)
        have HSB := Lib.hid (ShowR_any (some ⟨g5, 0, none⟩) ((L.set t q).set t1 p) c5 _ (by omega) HPR6.out (by omega))
        rw [hl2, hS2] at HSB
        clear hprs hb6 hl2 hs2 hS2 hd2 hz2 hp2
        have hti : (t : Int) ≤ 4096 := by omega
        go_region
        all_goals
          go_wp2_with (go_at_call 21; (refine HSB.out.mono ?_); rintro e w7 ⟨rfl, hb7⟩; have HB7 := Lib.hid (HB6.out.trans (hb7.mono HB6.out.size)); clear hb7 HSB)
          refine (HP2.out _).mono ?_
          first | rintro e w8 ⟨v8, rfl, hb8⟩ | rintro e w8 v8 rfl hb8
          have HB8 := Lib.hid (HB7.out.trans (hb8.mono HB7.out.size))
          clear hb8
          go_wp2_with fail
          go_ret
          exact ⟨by simp, HB8.out⟩
    · have hE2 : (E == 0) = false := by simpa using hE
      clear hr hb2 HP HSH ho
      go_wp2_with fail
      go_ret
      exact ⟨rfl, HB2.out⟩
end Go.Proofs.Ytlfjlkmikmajaaa
