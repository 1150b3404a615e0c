/- Lists' edits: the law on any edits applied. -/
import Derived.Test.YtmapddghlabaeaaLt
set_option linter.unusedVariables false
set_option linter.unusedSimpArgs false
namespace Go.Proofs.Ytmapddghlabaeaa
open Go.RowKit
variable {w w' : World}

def XbS (l : List EdZ) (W : World) (v i : Value) (wr : World) : Prop :=
  ∃ k : Nat, k ≤ l.length ∧ k ≤ 60 ∧ i = .int .i64 k ∧ wr.ownsRow W.heap.size 37 2 v k (flatZ (l.take k)) ∧ Below W.heap.size W wr
theorem XbS.more {l : List EdZ} {k : Nat} {W wr w4 : World} {v v' : Value} {p : EdZ} {o : Obj} (hp : l[k]? = some p) (h60 : k < 60) (hb : Below W.heap.size W wr) (hrow : wr.ownsRow W.heap.size 37 2 v k (flatZ (l.take k)))
    (hown : w4.ownsRow W.heap.size 37 2 v' (k + 1) (flatZ (l.take k) ++ [.int .i64 p.1, .string p.2])) (hg : (wr.alloc o).grownBy w4 v.ownBlock) : XbS l W v' (.int .i64 (k + 1 : Nat)) w4 :=
  ⟨k + 1, (List.getElem?_eq_some_iff.1 hp).1, h60, rfl, by rw [List.take_add_one, hp, Option.toList_some, flatZ_snoc]; exact hown, (hb.alloc hb.size _).grown hg (by have := hb.size; simp; omega) (fun j hj => (hrow.lt j hj).1)⟩
def WaS (a : List ByteArray) (l : List EdZ) (B : Nat) (W : World) (v u e i : Value) (wr : World) : Prop :=
  ∃ (k q : Nat) (er : Int) (made : List ByteArray), k ≤ l.length ∧ q ≤ a.length ∧ made.length ≤ k ∧ i = .int .i64 k ∧ u = .int .i64 q ∧ e = .int .i64 er ∧ wr.ownsRow B 9 1 v made.length (strV made) ∧ ((er = 0 ∧ apD a 0 [] l = apD a q made (l.drop k)) ∨ (er ≠ 0 ∧ apD a 0 [] l = ([], er))) ∧ (∀ s ∈ made, s.size ≤ maxLen) ∧ Below W.heap.size W wr
theorem WaS.more {a made : List ByteArray} {l : List EdZ} {k : Nat} {W wr w4 : World} {v' v : Value} {s : ByteArray} {q q' : Nat} {o : Obj} (hk : k < l.length) (hq : q' ≤ a.length) (hm : made.length ≤ k) (hs : s.size ≤ maxLen) (hms : ∀ s ∈ made, s.size ≤ maxLen) (hap : apD a 0 [] l = apD a q made (l.drop k)) (hst : apD a q made (l.drop k) = apD a q' (made ++ [s]) (l.drop (k + 1)))
    (hb : Below W.heap.size W wr) (hown0 : wr.ownsRow W.heap.size 9 1 v made.length (strV made)) (hown : w4.ownsRow W.heap.size 9 1 v' (made.length + 1) (strV made ++ [.string s])) (hg : (wr.alloc o).grownBy w4 v.ownBlock) : WaS a l W.heap.size W v' (.int .i64 q') (.int .i64 0) (.int .i64 (k + 1 : Nat)) w4 := by
  refine ⟨k + 1, q', 0, made ++ [s], hk, hq, by simp; omega, rfl, rfl, rfl, by rw [List.length_append]; show World.ownsRow _ _ _ _ _ _ (strV (made ++ [s])); unfold strV; rw [List.map_append]; exact hown, .inl ⟨rfl, hap.trans hst⟩, fun x hx => ?_, (hb.alloc hb.size _).grown hg (by have := hb.size; simp; omega) (fun k hk => (hown0.lt k hk).1)⟩
  rcases List.mem_append.1 hx with h | h
  · exact hms x h
  · simp at h; subst h; exact hs
set_option maxHeartbeats 16000000 in
set_option maxRecDepth 100000 in
theorem LApplies_any (oa : Option Addr) (A : List ByteArray) (ca : Nat) (ol : Option Addr) (L : List EdZ) (cl : Nat) (w : World) (hA : A.length ≤ maxLen) (hac : A.length ≤ ca) (ha : TxAt w oa A) (hL : L.length ≤ maxLen) (hls : ∀ q ∈ L, q.2.size ≤ maxLen) (hl : EdAt w ol L) :
    Calls Try.prog 4 #[.slice oa A.length ca, .slice ol L.length cl] w fun e w' => e = .returned (.bool true) ∧ Below w.heap.size w w' := by
  have HS := Lib.hid (speaks_any w)
  have HA := Lib.hid (fun W (hW : TxAt W oa A) => short_at oa A ca W hA hac hW)
  obtain ⟨a, hae⟩ : ∃ a, A.take 40 = a := ⟨_, rfl⟩
  have hla : a.length ≤ 40 := by rw [← hae, List.length_take]; exact Nat.min_le_left _ _
  have hsa : ∀ s ∈ a, s.size ≤ maxLen := fun s hs => ha.small s (List.mem_of_mem_take (by rw [hae]; exact hs))
  rw [hae] at HA
  have HTA := Lib.hid ha; have HSA := Lib.hid hsa; have HEL := Lib.hid hl; have HLS := Lib.hid hls
  obtain ⟨nL, hnL⟩ : ∃ n, L.length = n := ⟨_, rfl⟩
  have HNL := Lib.hid hnL
  rw [hnL] at hL ⊢
  unfold maxLen at hL
  obtain ⟨i1, hi1, hz0, hz1, hz2⟩ := info_parts info_de
  have HI1 := Lib.hid hi1; have HZ0 := Lib.hid hz0; have HZ1 := Lib.hid hz1; have HZ2 := Lib.hid hz2
  obtain ⟨i2, hi2, hy0, hy1, hy2⟩ := info_parts info_s
  have HI2 := Lib.hid hi2; have HY0 := Lib.hid hy0; have HY1 := Lib.hid hy1; have HY2 := Lib.hid hy2
  generalize A.length = nA at *
  clear ha hae hsa hA hac hl hls hnL hi1 hz0 hz1 hz2 hi2 hy0 hy1 hy2
  go_enter Try.func4, Try.ntmps4
  go_wp2_with (go_at_call 8; refine HS.out.mono ?_)
  rintro e w1 ⟨rfl, hb1⟩
  have HB1 := Lib.hid hb1
  clear hb1 HS
  go_wp2_with (go_at_call 9; refine (HA.out w1 (HTA.out.below HB1.out)).mono ?_)
  rintro e w2 ⟨o2, c2, rfl, ta2, hb2⟩
  have HB2 := Lib.hid (HB1.out.trans (hb2.mono HB1.out.size)); have TA := Lib.hid ta2
  have EL2 := Lib.hid (HEL.out.below HB2.out)
  clear hb2 ta2 HA
  have H0 : Hid (XbS L w2 (.slice none 0 0) (.int .i64 0) w2) := Lib.hid ⟨0, Nat.zero_le _, by omega, rfl, World.ownsRow_nil _ _ _ _, Below.refl _ _⟩
  go_wp2_with fail
  go_loopw [5, 6] (fun v i wr => XbS L w2 v i wr) (fun _ i _ => nL - (intOf i).toNat)
  case atStart => exact H0.out
  case round =>
    obtain ⟨k, hk, hk60, rfl, hrow, hb⟩ := hrel
    rw [HNL.out] at hk
    have HROW := Lib.hid hrow; have HBB := Lib.hid hb
    clear hrow hb H0
    by_cases hgo : k < nL ∧ k < 60
    · obtain ⟨hlt, h60⟩ := hgo
      obtain ⟨p, hp⟩ : ∃ p, L[k]? = some p := ⟨_, List.getElem?_eq_getElem (by rw [HNL.out]; exact hlt)⟩
      obtain ⟨b0, i0, ho0, c0, c1⟩ := (EL2.out.below HBB.out) k p hp
      subst ho0
      obtain ⟨op, s⟩ := p
      have HP := Lib.hid hp
      dsimp only at c0 c1
      have hki : (k : Int) < nL := by omega
      have h6i : (k : Int) < 60 := by omega
      clear hp
      go_wp2_with (at_builtin; (refine wpList_append_own _ rfl _ _ 25 rfl w2.heap.size 37 i1 (.agg #[.int .i64 0, .string ⟨#[]⟩]) 2 24 Try.underlying25 HI1.out HZ0.out HZ1.out HZ2.out rfl (by decide) _ _ _ rfl (HROW.out.alloc _) ⟨wr.heap.size, 0, none⟩ 1 1 [.int .i64 op, .string s] rfl rfl (cell_two_new _ _ _ _) two_memZ (by unfold maxLen; omega) (by omega) (by have := HBB.out.size; simp; omega) ?_); intro v' w4 hown hgrow _; have HO4 := Lib.hid hown; have HG4 := Lib.hid hgrow; clear hown hgrow)
      go_roundw
      case rel => exact XbS.more HP.out h60 HBB.out HROW.out HO4.out HG4.out
      case measure => simp [intOf]; omega
    · have htk : L.take k = L.take 60 := by
        by_cases h : k < nL
        · rw [show k = 60 by omega]
        · rw [List.take_of_length_le (by rw [HNL.out]; omega), List.take_of_length_le (by rw [HNL.out]; omega)]
      obtain ⟨X, hX⟩ : ∃ X, L.take 60 = X := ⟨_, rfl⟩
      have hXl : X.length = k := by rw [← hX, ← htk, List.length_take, HNL.out]; omega
      have hrX : wr.ownsRow w2.heap.size 37 2 u5 X.length (flatZ X) := by rw [hXl, ← hX, ← htk]; exact HROW.out
      obtain ⟨ox, cx, hv5, hex, _⟩ := own_edits hrX
      have hxs : ∀ q ∈ X, q.2.size ≤ maxLen := fun q hq => HLS.out q (List.mem_of_mem_take (by rw [hX]; exact hq))
      subst hv5
      rw [hXl]
      have HXL := Lib.hid hXl; have HEX := Lib.hid hex; have HXS := Lib.hid hxs
      have HB3 := Lib.hid (HB2.out.trans (HBB.out.mono HB2.out.size)); have TA3 := Lib.hid (TA.out.below HBB.out)
      have hstop : k < nL → ¬ k < 60 := fun h1 h2 => hgo ⟨h1, h2⟩
      clear htk hX hXl hrX hex hxs HROW HBB hgo
      obtain ⟨W3, hW3⟩ : ∃ W, W = wr := ⟨_, rfl⟩
      subst hW3
      have hdead : (k : Int) < nL → ¬ (k : Int) < 60 := fun h1 => by have := hstop (by omega); omega
      by_cases hkl : k < nL
      all_goals
        have HW4 : Hid (WaS a X W3.heap.size W3 (.slice (some ⟨W3.heap.size, 0, none⟩) 0 0) (.int .i64 0) (.int .i64 0) (.int .i64 0) (W3.alloc (.cells #[] 9))) := Lib.hid ⟨0, 0, 0, [], Nat.zero_le _, Nat.zero_le _, Nat.le_refl _, rfl, rfl, rfl, World.ownsRow_made W3 #[] 0 (Nat.le_refl _) (by decide) rfl, .inl ⟨rfl, rfl⟩, (fun s hs => by cases hs), (Below.refl _ _).alloc (Nat.le_refl _) _⟩
        go_wp2_with fail
        obtain ⟨n, hn⟩ : ∃ n, a.length = n := ⟨_, rfl⟩
        have HN := Lib.hid hn
        obtain ⟨m, hm⟩ : ∃ m, k = m := ⟨_, rfl⟩
        rw [hn] at hla ⊢
        rw [hm] at HXL hk60 ⊢
        clear hn hm hkl hdead hstop hk
        go_loopw [7, 8, 9, 10] (fun v u e i wr => WaS a X W3.heap.size W3 v u e i wr) (fun _ _ _ i _ => m - (intOf i).toNat)
        case atStart => exact HW4.out
        case round =>
          obtain ⟨k, q, er, made, hk, hq, hmk, rfl, rfl, rfl, hrow, hap, hms, hb⟩ := hrel
          rw [HXL.out] at hk
          rw [HN.out] at hq
          have HROW := Lib.hid hrow; have HMS := Lib.hid hms; have HBB := Lib.hid hb
          clear hrow hms hb HW4
          rcases hap with ⟨rfl, hap⟩ | ⟨her, hap⟩
          · have HAP := Lib.hid hap
            clear hap
            by_cases hlt : k < m
            · obtain ⟨p, hp⟩ : ∃ p, X[k]? = some p := ⟨_, List.getElem?_eq_getElem (by rw [HXL.out]; exact hlt)⟩
              obtain ⟨bl, il, hol, c0, c1⟩ := (HEX.out.below HBB.out) k p hp
              have hps := HXS.out p (List.mem_of_getElem? hp)
              have hdr := drop_cons hp
              obtain ⟨op, s⟩ := p
              dsimp only at c0 c1 hps
              subst hol
              have HP := Lib.hid hps; have HDR := Lib.hid hdr
              have hki : (k : Int) < m := by omega
              clear hp hps hdr
              by_cases hop2 : op = 2
              · subst hop2
                have HST : Hid (apD a q made (X.drop k) = apD a q (made ++ [s]) (X.drop (k + 1))) := Lib.hid (by rw [HDR.out]; show (if (2 : Int) < 0 ∨ (2 : Int) < 2 then _ else if (2 : Int) = 2 then _ else _) = _; rw [if_neg (by decide), if_pos rfl])
                have HR2 := HROW
                go_wp2_with (at_builtin; (refine wpList_append_own _ rfl _ _ 22 rfl W3.heap.size 9 i2 (.string ⟨#[]⟩) 1 16 Try.underlying22 HI2.out HY0.out HY1.out HY2.out rfl (by decide) _ _ _ rfl (HR2.out.alloc _) ⟨wr.heap.size, 0, none⟩ 1 1 [.string s] rfl rfl (by simpa using cell_one_new wr 9 (.string s)) one_memS (by unfold maxLen; omega) (by omega) (by have h1 := HBB.out.size; simp; omega) ?_); intro v' w4 hown hgrow _; have HO4 := Lib.hid hown; have HG4 := Lib.hid hgrow; clear hown hgrow)
                go_roundw
                case rel => exact WaS.more (by rw [HXL.out]; exact hlt) (by rw [HN.out]; exact hq) hmk HP.out HMS.out HAP.out HST.out HBB.out HROW.out HO4.out HG4.out
                case measure => simp [intOf]; omega
              · by_cases hop01 : op = 0 ∨ op = 1
                · by_cases hqn : q = n
                  · have HE : Hid (apD a 0 [] X = ([], 13)) := Lib.hid (by rw [HAP.out, HDR.out]; show (if op < 0 ∨ 2 < op then _ else if op = 2 then _ else if q = a.length ∨ itB a q ≠ s then _ else _) = _; rw [if_neg (by omega), if_neg hop2, if_pos (.inl (by rw [HN.out]; exact hqn))])
                    subst hqn
                    clear hop2
                    rcases hop01 with rfl | rfl
                    all_goals
                      go_wp2_with fail
                      go_quiet (fail)
                      (first | (have _h : Nat := nq; clear _h) | rename_i nq)
                      have HB2' := Lib.hid (below_drewN HBB.out nq)
                      go_wp2_with fail
                      go_roundw
                      case rel => exact ⟨k + 1, q, 13, made, by rw [HXL.out]; exact hlt, by rw [HN.out]; exact Nat.le_refl _, by omega, by go_num, (by first | rfl | trivial), (by first | rfl | trivial), HROW.out, .inr ⟨by decide, HE.out⟩, HMS.out, HB2'.out⟩
                      case measure => simp [intOf]; omega
                  · have hq2 : q < n := by omega
                    have hq2i : (q : Int) < n := by omega
                    have hqb : (q == n) = false := beq_eq_false_iff_ne.2 hqn
                    have hqbi : ((q : Int) == (n : Int)) = false := beq_eq_false_iff_ne.2 (by omega)
                    obtain ⟨hxs, ba, ia, hoa, hca⟩ := (TA3.out.below HBB.out) q (by rw [HN.out]; exact hq2)
                    subst hoa
                    obtain ⟨x, hx⟩ : ∃ x, itB a q = x := ⟨_, rfl⟩
                    rw [hx] at hca hxs
                    by_cases hxe : x = s
                    · subst hxe
                      have HS0 : Hid (op = 0 → apD a q made (X.drop k) = apD a (q + 1) (made ++ [x]) (X.drop (k + 1))) := Lib.hid (fun h0 => by subst h0; rw [HDR.out]; show (if (0 : Int) < 0 ∨ (2 : Int) < 0 then _ else if (0 : Int) = 2 then _ else if q = a.length ∨ itB a q ≠ x then _ else if (0 : Int) = 1 then _ else _) = _; rw [if_neg (by decide), if_neg (by decide), if_neg (by rw [HN.out, hx]; simp; omega), if_neg (by decide)])
                      have HS1 : Hid (op = 1 → apD a q made (X.drop k) = apD a (q + 1) made (X.drop (k + 1))) := Lib.hid (fun h0 => by subst h0; rw [HDR.out]; show (if (1 : Int) < 0 ∨ (2 : Int) < 1 then _ else if (1 : Int) = 2 then _ else if q = a.length ∨ itB a q ≠ x then _ else if (1 : Int) = 1 then _ else _) = _; rw [if_neg (by decide), if_neg (by decide), if_neg (by rw [HN.out, hx]; simp; omega), if_pos rfl])
                      clear hx hqn hxs hop2
                      rcases hop01 with rfl | rfl
                      · go_wp2_with fail
                        go_quiet (fail)
                        (first | (have _h : Nat := nq; clear _h) | rename_i nq)
                        have HB2' := Lib.hid (below_drewN HBB.out nq)
                        have HR2 := Lib.hid (own_below HROW.out (below_drewN (Below.refl _ _) nq))
                        go_wp2_with (at_builtin; (refine wpList_append_own _ rfl _ _ 22 rfl W3.heap.size 9 i2 (.string ⟨#[]⟩) 1 16 Try.underlying22 HI2.out HY0.out HY1.out HY2.out rfl (by decide) _ _ _ rfl (HR2.out.alloc _) ⟨wr.heap.size, 0, none⟩ 1 1 [.string x] rfl rfl (by simpa using cell_one_new (wr.drewN nq) 9 (.string x)) one_memS (by unfold maxLen; omega) (by omega) (by have h1 := HBB.out.size; simp; omega) ?_); intro v' w4 hown hgrow _; have HO4 := Lib.hid hown; have HG4 := Lib.hid hgrow; clear hown hgrow)
                        go_roundw
                        case rel => exact WaS.more (q' := q + 1) (by rw [HXL.out]; exact hlt) (by rw [HN.out]; exact hq2) hmk HP.out HMS.out HAP.out (HS0.out (by first | rfl | trivial)) HB2'.out HR2.out HO4.out HG4.out
                        case measure => simp [intOf]; omega
                      · go_wp2_with fail
                        go_quiet (fail)
                        (first | (have _h : Nat := nq; clear _h) | rename_i nq)
                        have HB2' := Lib.hid (below_drewN HBB.out nq)
                        have HR2 := Lib.hid (own_below HROW.out (below_drewN (Below.refl _ _) nq))
                        go_wp2_with fail
                        go_roundw
                        case rel => exact ⟨k + 1, q + 1, 0, made, by rw [HXL.out]; exact hlt, by rw [HN.out]; exact hq2, by omega, by go_num, by go_num, (by first | rfl | trivial), HR2.out, .inl ⟨rfl, HAP.out.trans (HS1.out (by first | rfl | trivial))⟩, HMS.out, HB2'.out⟩
                        case measure => simp [intOf]; omega
                    · have HE : Hid (apD a 0 [] X = ([], 13)) := Lib.hid (by rw [HAP.out, HDR.out]; show (if op < 0 ∨ 2 < op then _ else if op = 2 then _ else if q = a.length ∨ itB a q ≠ s then _ else _) = _; rw [if_neg (by omega), if_neg hop2, if_pos (.inr (by rw [hx]; exact hxe))])
                      have hn1 := ba_ne hxe
                      have hn2 : (x.toList == s.toList) = false := beq_eq_false_iff_ne.2 hn1
                      clear hop2 hx hxe hxs
                      rcases hop01 with rfl | rfl
                      all_goals
                        go_wp2_with fail
                        go_quiet (fail)
                        (first | (have _h : Nat := nq; clear _h) | rename_i nq)
                        have HB2' := Lib.hid (below_drewN HBB.out nq)
                        go_wp2_with fail
                        go_roundw
                        case rel => exact ⟨k + 1, q, 13, made, by rw [HXL.out]; exact hlt, by rw [HN.out]; exact hq, by omega, by go_num, (by first | rfl | trivial), (by first | rfl | trivial), HROW.out, .inr ⟨by decide, HE.out⟩, HMS.out, HB2'.out⟩
                        case measure => simp [intOf]; omega
                · have HE : Hid (apD a 0 [] X = ([], 15)) := Lib.hid (by rw [HAP.out, HDR.out]; show (if op < 0 ∨ 2 < op then _ else _) = _; rw [if_pos (by omega)])
                  have e0 : (op == 0) = false := beq_eq_false_iff_ne.2 (by omega)
                  have e1 : (op == 1) = false := beq_eq_false_iff_ne.2 (by omega)
                  have e2 : (op == 2) = false := beq_eq_false_iff_ne.2 hop2
                  have n0 : (op != 0) = true := by rw [bne, e0]; rfl
                  have n1 : (op != 1) = true := by rw [bne, e1]; rfl
                  clear hop2 hop01
                  go_wp2_with fail
                  go_roundw
                  case rel => exact ⟨k + 1, q, 15, made, by rw [HXL.out]; exact hlt, by rw [HN.out]; exact hq, by omega, by go_num, (by first | rfl | trivial), (by first | rfl | trivial), HROW.out, .inr ⟨by decide, HE.out⟩, HMS.out, HBB.out⟩
                  case measure => simp [intOf]; omega
            · obtain rfl : k = m := by omega
              have hdr : X.drop k = [] := List.drop_of_length_le (by rw [HXL.out]; exact Nat.le_refl _)
              have HE0 : Hid (apD a 0 [] X = if q < n then ([], 4) else (made, 0)) := Lib.hid (by rw [HAP.out, hdr, ← HN.out]; rfl)
              clear hdr
              by_cases hqn : q < n
              · have hqi : (q : Int) < n := by omega
                have HE := Lib.hid (HE0.out.trans (if_pos hqn))
                clear HE0
                have HAPP := Lib.hid (Apply_any o2 ox a X c2 cx wr (by rw [HN.out]; omega) (by rw [HXL.out]; omega) (TA3.out.below HBB.out) (HEX.out.below HBB.out) HXS.out)
                rw [HN.out, HXL.out] at HAPP
                go_wp2_with (go_at_call 16; refine HAPP.out.mono ?_)
                rintro e w9 ⟨v9, rfl, hrow9, hs9, hb9⟩
                rw [HE.out] at hrow9 hs9 ⊢
                obtain ⟨o9, c9, rfl, t9, _⟩ := own_texts hrow9 hs9
                have HB9 := Lib.hid (HB3.out.trans ((HBB.out.trans (hb9.mono HBB.out.size)).mono HB3.out.size))
                have HTT := Lib.hid (texts_any o9 none c9 0 [] w9 (by decide) t9 (fun k hk => absurd hk (Nat.not_lt_zero k)))
                clear hrow9 hs9 t9 hb9 HAPP
                go_wp2_with (go_at_call 17; refine HTT.out.mono ?_)
                rintro e w10 ⟨rfl, hb10⟩
                have HB10 := Lib.hid (HB9.out.trans (hb10.mono HB9.out.size))
                clear hb10 HTT
                go_wp2_with fail
                go_ret
                exact ⟨rfl, HB10.out⟩
              · have hqb : decide (q < n) = false := decide_eq_false hqn
                have hqbi : decide ((q : Int) < (n : Int)) = false := decide_eq_false (by omega)
                have HE := Lib.hid (HE0.out.trans (if_neg hqn))
                clear HE0
                obtain ⟨o7, c7, hv7, t7, _⟩ := own_texts HROW.out HMS.out
                subst hv7
                have T7 := Lib.hid t7
                clear t7
                have HAPP := Lib.hid (Apply_any o2 ox a X c2 cx wr (by rw [HN.out]; omega) (by rw [HXL.out]; omega) (TA3.out.below HBB.out) (HEX.out.below HBB.out) HXS.out)
                rw [HN.out, HXL.out] at HAPP
                go_wp2_with (go_at_call 16; refine HAPP.out.mono ?_)
                rintro e w9 ⟨v9, rfl, hrow9, hs9, hb9⟩
                rw [HE.out] at hrow9 hs9 ⊢
                obtain ⟨o9, c9, rfl, t9, _⟩ := own_texts hrow9 hs9
                have HB9 := Lib.hid (HB3.out.trans ((HBB.out.trans (hb9.mono HBB.out.size)).mono HB3.out.size))
                have HTT := Lib.hid (texts_any o9 o7 c9 c7 made w9 (by omega) t9 (T7.out.below hb9))
                clear hrow9 hs9 t9 hb9 HAPP
                go_wp2_with (go_at_call 17; refine HTT.out.mono ?_)
                rintro e w10 ⟨rfl, hb10⟩
                have HB10 := Lib.hid (HB9.out.trans (hb10.mono HB9.out.size))
                clear hb10 HTT
                go_wp2_with fail
                go_ret
                exact ⟨rfl, HB10.out⟩
          · have HE := Lib.hid hap
            have b0 : (er == 0) = false := beq_eq_false_iff_ne.2 her
            have HERB := Lib.hid her
            clear hap her
            by_cases hlt : k < m
            · have hki : (k : Int) < m := by omega
              have HAPP := Lib.hid (Apply_any o2 ox a X c2 cx wr (by rw [HN.out]; omega) (by rw [HXL.out]; omega) (TA3.out.below HBB.out) (HEX.out.below HBB.out) HXS.out)
              rw [HN.out, HXL.out] at HAPP
              go_wp2_with (go_at_call 16; refine HAPP.out.mono ?_)
              rintro e w9 ⟨v9, rfl, hrow9, hs9, hb9⟩
              rw [HE.out] at hrow9 hs9 ⊢
              obtain ⟨o9, c9, rfl, t9, _⟩ := own_texts hrow9 hs9
              
              have HB9 := Lib.hid (HB3.out.trans ((HBB.out.trans (hb9.mono HBB.out.size)).mono HB3.out.size))
              have HTT := Lib.hid (texts_any o9 none c9 0 [] w9 (by decide) t9 (fun k hk => absurd hk (Nat.not_lt_zero k)))
              clear hrow9 hs9 t9 hb9 HAPP
              go_wp2_with (go_at_call 17; refine HTT.out.mono ?_)
              rintro e w10 ⟨rfl, hb10⟩
              have HB10 := Lib.hid (HB9.out.trans (hb10.mono HB9.out.size))
              clear hb10 HTT
              go_wp2_with fail
              go_ret
              exact ⟨rfl, HB10.out⟩
            · have hkb : decide (k < m) = false := decide_eq_false hlt
              have hkbi : decide ((k : Int) < (m : Int)) = false := decide_eq_false (by omega)
              have HAPP := Lib.hid (Apply_any o2 ox a X c2 cx wr (by rw [HN.out]; omega) (by rw [HXL.out]; omega) (TA3.out.below HBB.out) (HEX.out.below HBB.out) HXS.out)
              rw [HN.out, HXL.out] at HAPP
              go_wp2_with (go_at_call 16; refine HAPP.out.mono ?_)
              rintro e w9 ⟨v9, rfl, hrow9, hs9, hb9⟩
              rw [HE.out] at hrow9 hs9 ⊢
              obtain ⟨o9, c9, rfl, t9, _⟩ := own_texts hrow9 hs9
              
              have HB9 := Lib.hid (HB3.out.trans ((HBB.out.trans (hb9.mono HBB.out.size)).mono HB3.out.size))
              have HTT := Lib.hid (texts_any o9 none c9 0 [] w9 (by decide) t9 (fun k hk => absurd hk (Nat.not_lt_zero k)))
              clear hrow9 hs9 t9 hb9 HAPP
              go_wp2_with (go_at_call 17; refine HTT.out.mono ?_)
              rintro e w10 ⟨rfl, hb10⟩
              have HB10 := Lib.hid (HB9.out.trans (hb10.mono HB9.out.size))
              clear hb10 HTT
              go_wp2_with fail
              go_ret
              exact ⟨rfl, HB10.out⟩
end Go.Proofs.Ytmapddghlabaeaa
