/- Lists' edits: Apply. -/
import Derived.Test.YtmapddghlabaeaaLj
set_option linter.unusedVariables false
set_option linter.unusedSimpArgs false
namespace Go.Proofs.Ytmapddghlabaeaa
open Go.RowKit
variable {w w' : World}

theorem ba_ne {x y : ByteArray} (h : ¬ x = y) : ¬ x.toList = y.toList := by
  rw [ByteArray.toList_eq, ByteArray.toList_eq]
  exact fun e => h (ByteArray.ext (Array.ext' e))
def ApS (a : List ByteArray) (l : List EdZ) (w : World) (v u i : Value) (wr : World) : Prop :=
  ∃ (k q : Nat) (made : List ByteArray), k ≤ l.length ∧ q ≤ a.length ∧ made.length ≤ k ∧ i = .int .i64 k ∧ u = .int .i64 q ∧ wr.ownsRow w.heap.size 9 1 v made.length (strV made) ∧ apD a 0 [] l = apD a q made (l.drop k) ∧ (∀ s ∈ made, s.size ≤ maxLen) ∧ Below w.heap.size w wr
theorem drop_cons {α : Type} {l : List α} {k : Nat} {p : α} (h : l[k]? = some p) : l.drop k = p :: l.drop (k + 1) := by
  obtain ⟨hl, e⟩ := List.getElem?_eq_some_iff.1 h
  rw [List.drop_eq_getElem_cons hl, e]
theorem ApS.more {a made : List ByteArray} {l : List EdZ} {k : Nat} {W w4 : World} {v' v : Value} {s : ByteArray} {q q' : Nat} {o : Obj} (hk : k < l.length) (hq : q' ≤ a.length) (hm : made.length ≤ k) (hs : s.size ≤ maxLen) (hms : ∀ s ∈ made, s.size ≤ maxLen) (hap : apD a 0 [] l = apD a q made (l.drop k)) (hst : apD a q made (l.drop k) = apD a q' (made ++ [s]) (l.drop (k + 1)))
    (hb : Below w.heap.size w W) (hown0 : W.ownsRow w.heap.size 9 1 v made.length (strV made)) (hown : w4.ownsRow w.heap.size 9 1 v' (made.length + 1) (strV made ++ [.string s])) (hg : (W.alloc o).grownBy w4 v.ownBlock) : ApS a l w v' (.int .i64 q') (.int .i64 (k + 1 : Nat)) w4 := by
  refine ⟨k + 1, q', made ++ [s], hk, hq, by simp; omega, rfl, rfl, by rw [List.length_append]; show World.ownsRow _ _ _ _ _ _ (strV (made ++ [s])); unfold strV; rw [List.map_append]; exact hown, hap.trans hst, fun x hx => ?_, (hb.alloc hb.size _).grown hg (by have := hb.size; simp; omega) (fun k hk => (hown0.lt k hk).1)⟩
  rcases List.mem_append.1 hx with h | h
  · exact hms x h
  · simp at h; subst h; exact hs
def apOk (a : List ByteArray) (l : List EdZ) (w : World) (e : Ending) (w' : World) : Prop :=
  ∃ v, e = .returned (.tuple #[v, .int .i64 (apD a 0 [] l).2]) ∧ w'.ownsRow w.heap.size 9 1 v (apD a 0 [] l).1.length (strV (apD a 0 [] l).1) ∧ (∀ s ∈ (apD a 0 [] l).1, s.size ≤ maxLen) ∧ Below w.heap.size w w'
theorem apOk.err {a : List ByteArray} {l : List EdZ} {x : Int} (h : apD a 0 [] l = ([], x)) (hb : Below w.heap.size w w') : apOk a l w (.returned (.tuple #[.slice none 0 0, .int .i64 x])) w' := by
  unfold apOk; rw [h]
  exact ⟨_, rfl, World.ownsRow_nil _ _ _ _, (fun s hs => by cases hs), hb⟩
set_option maxHeartbeats 8000000 in
set_option maxRecDepth 100000 in
theorem Apply_any (oa ol : Option Addr) (a : List ByteArray) (l : List EdZ) (ca cl : Nat) (w : World) (hla : a.length ≤ 1000000) (hll : l.length ≤ 1000000) (ha : TxAt w oa a) (hl : EdAt w ol l) (hls : ∀ p ∈ l, p.2.size ≤ maxLen) :
    Calls Try.prog 16 #[.slice oa a.length ca, .slice ol l.length cl] w fun e w' => apOk a l w e w' := by
  obtain ⟨n, hn⟩ : ∃ n, a.length = n := ⟨_, rfl⟩
  obtain ⟨m, hm⟩ : ∃ n, l.length = n := ⟨_, rfl⟩
  obtain ⟨i1, hi1, hz0, hz1, hz2⟩ := info_parts info_s
  have HI1 := Lib.hid hi1; have HZ0 := Lib.hid hz0; have HZ1 := Lib.hid hz1; have HZ2 := Lib.hid hz2
  have HN := Lib.hid hn; have HM := Lib.hid hm; have HA := Lib.hid ha; have HL := Lib.hid hl; have HLS := Lib.hid hls
  rw [hn] at hla ⊢
  rw [hm] at hll ⊢
  have H0 : Hid (ApS a l w (.slice none 0 0) (.int .i64 0) (.int .i64 0) w) := Lib.hid ⟨0, 0, [], Nat.zero_le _, Nat.zero_le _, Nat.le_refl _, rfl, rfl, World.ownsRow_nil _ _ _ _, rfl, (fun s hs => by cases hs), Below.refl _ _⟩
  clear hi1 hz0 hz1 hz2 hn hm ha hl hls
  go_enter Try.func16, Try.ntmps16
  go_wp2_with fail
  go_loopw [6, 7, 12] (fun v u i wr => ApS a l w v u i wr) (fun _ _ i _ => m - (intOf i).toNat)
  case atStart => exact H0.out
  case round =>
    obtain ⟨k, q, made, hk, hq, hmk, rfl, rfl, hrow, hap, hms, hb⟩ := hrel
    rw [HM.out] at hk
    rw [HN.out] at hq
    have HROW := Lib.hid hrow; have HAP := Lib.hid hap; have HMS := Lib.hid hms; have HB := Lib.hid hb
    clear hrow hap hms hb H0
    by_cases hlt : k < m
    · obtain ⟨p, hp⟩ : ∃ p, l[k]? = some p := ⟨_, List.getElem?_eq_getElem (by rw [HM.out]; exact hlt)⟩
      obtain ⟨bl, il, hol, c0, c1⟩ := (HL.out.below HB.out) k p hp
      have hps := HLS.out p (List.mem_of_getElem? hp)
      have hdr := drop_cons hp
      obtain ⟨op, s⟩ := p
      dsimp only at c0 c1 hps
      subst hol
      have HP := Lib.hid hps; have HDR := Lib.hid hdr
      clear hp hps hdr
      by_cases hbad : op < 0 ∨ 2 < op
      · have HE : Hid (apD a 0 [] l = ([], 15)) := Lib.hid (by rw [HAP.out, HDR.out]; show (if op < 0 ∨ 2 < op then _ else _) = _; rw [if_pos hbad])
        have HBB := Lib.hid (HB.out.alloc HB.out.size (.cells #[.int .i64 op, .string s] 37))
        rcases hbad with hbad | hbad
        · go_wp2_with fail
          exact bodyPost_ret (v := .tuple #[.slice none 0 0, .int .i64 15]) (by simp [results, Try.results16, go_sem]) rfl (apOk.err HE.out HBB.out)
        · have hb0 : decide (op < 0) = false := decide_eq_false (by omega)
          go_wp2_with fail
          exact bodyPost_ret (v := .tuple #[.slice none 0 0, .int .i64 15]) (by simp [results, Try.results16, go_sem]) rfl (apOk.err HE.out HBB.out)
      · have hop : op = 2 ∨ op = 0 ∨ op = 1 := by omega
        clear hbad
        rcases hop with rfl | hop
        · have HST : Hid (apD a q made (l.drop k) = apD a q (made ++ [s]) (l.drop (k + 1))) := Lib.hid (by rw [HDR.out]; show (if (2 : Int) < 0 ∨ (2 : Int) < 2 then _ else if (2 : Int) = 2 then _ else _) = _; rw [if_neg (by decide), if_pos rfl])
          have HR2 : Hid ((wr.alloc (.cells #[.int .i64 2, .string s] 37)).ownsRow w.heap.size 9 1 u6 made.length (strV made)) := Lib.hid (own_below HROW.out ((Below.refl _ _).alloc (Nat.le_refl _) _))
          have HB2 : Hid (Below w.heap.size w (wr.alloc (.cells #[.int .i64 2, .string s] 37))) := Lib.hid (HB.out.alloc HB.out.size _)
          go_wp2_with (at_builtin; (refine wpList_append_own _ rfl _ _ 22 rfl w.heap.size 9 i1 (.string ⟨#[]⟩) 1 16 Try.underlying22 HI1.out HZ0.out HZ1.out HZ2.out rfl (by decide) _ _ _ rfl (HR2.out.alloc _) ⟨wr.heap.size + 1, 0, none⟩ 1 1 [.string s] rfl rfl (by simpa using cell_one_new (wr.alloc (.cells #[.int .i64 2, .string s] 37)) 9 (.string s)) one_memS (by unfold maxLen; omega) (by omega) (by have h1 := HB.out.size; simp; omega) ?_); intro v' w4 hown hgrow _; have HO4 := Lib.hid hown; have HG4 := Lib.hid hgrow; clear hown hgrow)
          go_roundw
          case rel => exact ApS.more (by rw [HM.out]; exact hlt) (by rw [HN.out]; exact hq) hmk HP.out HMS.out HAP.out HST.out HB2.out HR2.out HO4.out HG4.out
          case measure => simp [intOf]; omega
        · rcases hop with rfl | rfl
          · by_cases hqn : q = n
            · have HE : Hid (apD a 0 [] l = ([], 13)) := Lib.hid (by rw [HAP.out, HDR.out]; show (if (0 : Int) < 0 ∨ (2 : Int) < 0 then _ else if (0 : Int) = 2 then _ else if q = a.length ∨ itB a q ≠ s then _ else _) = _; rw [if_neg (by decide), if_neg (by decide), if_pos (.inl (by rw [HN.out]; exact hqn))])
              subst hqn
              go_wp2_with fail
              go_quiet (fail)
              (first | (have _h : Nat := nq; clear _h) | rename_i nq)
              have HBB := Lib.hid (below_drewN (HB.out.alloc HB.out.size (.cells #[.int .i64 0, .string s] 37)) nq)
              go_wp2_with fail
              exact bodyPost_ret (v := .tuple #[.slice none 0 0, .int .i64 13]) (by simp [results, Try.results16, go_sem]) rfl (apOk.err HE.out HBB.out)
            · have hq2 : q < n := by omega
              have hq2i : (q : Int) < n := by omega
              have hqb : (q == n) = false := beq_eq_false_iff_ne.2 hqn
              have hqbi : ((q : Int) == (n : Int)) = false := beq_eq_false_iff_ne.2 (by omega)
              obtain ⟨hxs, ba, ia, hoa, hca⟩ := (HA.out.below HB.out) q (by rw [HN.out]; exact hq2)
              subst hoa
              obtain ⟨x, hx⟩ : ∃ x, itB a q = x := ⟨_, rfl⟩
              rw [hx] at hca hxs
              have hca2 := ((Below.refl wr.heap.size wr).alloc (Nat.le_refl _) (.cells #[.int .i64 0, .string s] 37)).cell (p := ⟨ba, ia + q, none⟩) (World.block_lt_of_cell? wr _ hca)
              rw [hca] at hca2
              have hbx1 : (wr.alloc (.cells #[.int .i64 0, .string s] 37)).cell? ⟨wr.heap.size, 1, none⟩ = some (.string s) := cell_of_row (World.alloc_heap_new wr _)
              by_cases hxe : x = s
              · subst hxe
                have HST : Hid (apD a q made (l.drop k) = apD a (q + 1) (made ++ [x]) (l.drop (k + 1))) := Lib.hid (by rw [HDR.out]; show (if (0 : Int) < 0 ∨ (2 : Int) < 0 then _ else if (0 : Int) = 2 then _ else if q = a.length ∨ itB a q ≠ x then _ else if (0 : Int) = 1 then _ else _) = _; rw [if_neg (by decide), if_neg (by decide), if_neg (by rw [HN.out, hx]; simp; omega), if_neg (by decide)])
                clear hx hqn hxs
                go_wp2_with fail
                go_quiet (fail)
                (first | (have _h : Nat := nq; clear _h) | rename_i nq)
                have HR2 : Hid (((wr.alloc (.cells #[.int .i64 0, .string x] 37)).drewN nq).ownsRow w.heap.size 9 1 u6 made.length (strV made)) := Lib.hid (own_below HROW.out (below_drewN ((Below.refl _ _).alloc (Nat.le_refl _) _) nq))
                have HB2 : Hid (Below w.heap.size w ((wr.alloc (.cells #[.int .i64 0, .string x] 37)).drewN nq)) := Lib.hid (below_drewN (HB.out.alloc HB.out.size _) nq)
                go_wp2_with (at_builtin; (refine wpList_append_own _ rfl _ _ 22 rfl w.heap.size 9 i1 (.string ⟨#[]⟩) 1 16 Try.underlying22 HI1.out HZ0.out HZ1.out HZ2.out rfl (by decide) _ _ _ rfl (HR2.out.alloc _) ⟨wr.heap.size + 1, 0, none⟩ 1 1 [.string x] rfl rfl (by simpa using cell_one_new ((wr.alloc (.cells #[.int .i64 0, .string x] 37)).drewN nq) 9 (.string x)) one_memS (by unfold maxLen; omega) (by omega) (by have h1 := HB.out.size; simp; omega) ?_); intro v' w4 hown hgrow _; have HO4 := Lib.hid hown; have HG4 := Lib.hid hgrow; clear hown hgrow)
                go_roundw
                case rel => exact ApS.more (by rw [HM.out]; exact hlt) (by rw [HN.out]; exact hq2) hmk HP.out HMS.out HAP.out HST.out HB2.out HR2.out HO4.out HG4.out
                case measure => simp [intOf]; omega
              · have hn1 := ba_ne hxe
                have hn2 : (x.toList == s.toList) = false := beq_eq_false_iff_ne.2 hn1
                have HE : Hid (apD a 0 [] l = ([], 13)) := Lib.hid (by rw [HAP.out, HDR.out]; show (if (0 : Int) < 0 ∨ (2 : Int) < 0 then _ else if (0 : Int) = 2 then _ else if q = a.length ∨ itB a q ≠ s then _ else _) = _; rw [if_neg (by decide), if_neg (by decide), if_pos (.inr (by rw [hx]; exact hxe))])
                clear hx hqn hxs hxe
                go_wp2_with fail
                go_quiet (fail)
                (first | (have _h : Nat := nq; clear _h) | rename_i nq)
                have HBB := Lib.hid (below_drewN (HB.out.alloc HB.out.size (.cells #[.int .i64 0, .string s] 37)) nq)
                go_wp2_with fail
                exact bodyPost_ret (v := .tuple #[.slice none 0 0, .int .i64 13]) (by simp [results, Try.results16, go_sem]) rfl (apOk.err HE.out HBB.out)
          · by_cases hqn : q = n
            · have HE : Hid (apD a 0 [] l = ([], 13)) := Lib.hid (by rw [HAP.out, HDR.out]; show (if (1 : Int) < 0 ∨ (2 : Int) < 1 then _ else if (1 : Int) = 2 then _ else if q = a.length ∨ itB a q ≠ s then _ else _) = _; rw [if_neg (by decide), if_neg (by decide), if_pos (.inl (by rw [HN.out]; exact hqn))])
              subst hqn
              go_wp2_with fail
              go_quiet (fail)
              (first | (have _h : Nat := nq; clear _h) | rename_i nq)
              have HBB := Lib.hid (below_drewN (HB.out.alloc HB.out.size (.cells #[.int .i64 1, .string s] 37)) nq)
              go_wp2_with fail
              exact bodyPost_ret (v := .tuple #[.slice none 0 0, .int .i64 13]) (by simp [results, Try.results16, go_sem]) rfl (apOk.err HE.out HBB.out)
            · have hq2 : q < n := by omega
              have hq2i : (q : Int) < n := by omega
              have hqb : (q == n) = false := beq_eq_false_iff_ne.2 hqn
              have hqbi : ((q : Int) == (n : Int)) = false := beq_eq_false_iff_ne.2 (by omega)
              obtain ⟨hxs, ba, ia, hoa, hca⟩ := (HA.out.below HB.out) q (by rw [HN.out]; exact hq2)
              subst hoa
              obtain ⟨x, hx⟩ : ∃ x, itB a q = x := ⟨_, rfl⟩
              rw [hx] at hca hxs
              have hca2 := ((Below.refl wr.heap.size wr).alloc (Nat.le_refl _) (.cells #[.int .i64 1, .string s] 37)).cell (p := ⟨ba, ia + q, none⟩) (World.block_lt_of_cell? wr _ hca)
              rw [hca] at hca2
              have hbx1 : (wr.alloc (.cells #[.int .i64 1, .string s] 37)).cell? ⟨wr.heap.size, 1, none⟩ = some (.string s) := cell_of_row (World.alloc_heap_new wr _)
              by_cases hxe : x = s
              · subst hxe
                have HST : Hid (apD a q made (l.drop k) = apD a (q + 1) made (l.drop (k + 1))) := Lib.hid (by rw [HDR.out]; show (if (1 : Int) < 0 ∨ (2 : Int) < 1 then _ else if (1 : Int) = 2 then _ else if q = a.length ∨ itB a q ≠ x then _ else if (1 : Int) = 1 then _ else _) = _; rw [if_neg (by decide), if_neg (by decide), if_neg (by rw [HN.out, hx]; simp; omega), if_pos rfl])
                clear hx hqn hxs
                go_wp2_with fail
                go_quiet (fail)
                (first | (have _h : Nat := nq; clear _h) | rename_i nq)
                have HR2 := Lib.hid (own_below HROW.out (below_drewN ((Below.refl _ _).alloc (Nat.le_refl _) (.cells #[.int .i64 1, .string x] 37)) nq))
                have HB2 := Lib.hid (below_drewN (HB.out.alloc HB.out.size (.cells #[.int .i64 1, .string x] 37)) nq)
                go_wp2_with fail
                go_roundw
                case rel => exact ⟨k + 1, q + 1, made, by rw [HM.out]; exact hlt, by rw [HN.out]; exact hq2, by omega, by go_num, by go_num, HR2.out, HAP.out.trans HST.out, HMS.out, HB2.out⟩
                case measure => simp [intOf]; omega
              · have hn1 := ba_ne hxe
                have hn2 : (x.toList == s.toList) = false := beq_eq_false_iff_ne.2 hn1
                have HE : Hid (apD a 0 [] l = ([], 13)) := Lib.hid (by rw [HAP.out, HDR.out]; show (if (1 : Int) < 0 ∨ (2 : Int) < 1 then _ else if (1 : Int) = 2 then _ else if q = a.length ∨ itB a q ≠ s then _ else _) = _; rw [if_neg (by decide), if_neg (by decide), if_pos (.inr (by rw [hx]; exact hxe))])
                clear hx hqn hxs hxe
                go_wp2_with fail
                go_quiet (fail)
                (first | (have _h : Nat := nq; clear _h) | rename_i nq)
                have HBB := Lib.hid (below_drewN (HB.out.alloc HB.out.size (.cells #[.int .i64 1, .string s] 37)) nq)
                go_wp2_with fail
                exact bodyPost_ret (v := .tuple #[.slice none 0 0, .int .i64 13]) (by simp [results, Try.results16, go_sem]) rfl (apOk.err HE.out HBB.out)
    · obtain rfl : k = m := by omega
      have hdr : l.drop k = [] := List.drop_of_length_le (by rw [HM.out]; exact Nat.le_refl _)
      have HE : Hid (apD a 0 [] l = if q < n then ([], 4) else (made, 0)) := Lib.hid (by rw [HAP.out, hdr, ← HN.out]; rfl)
      clear hdr
      by_cases hqn : q < n
      · have hqi : (q : Int) < n := by omega
        have HE2 := Lib.hid (HE.out.trans (if_pos hqn))
        clear HE
        go_wp2_with fail
        exact bodyPost_ret (v := .tuple #[.slice none 0 0, .int .i64 4]) (by simp [results, Try.results16, go_sem]) rfl (apOk.err HE2.out HB.out)
      · have hqb : decide (q < n) = false := decide_eq_false hqn
        have hqbi : decide ((q : Int) < (n : Int)) = false := decide_eq_false (by omega)
        have HE2 := Lib.hid (HE.out.trans (if_neg hqn))
        clear HE
        go_wp2_with fail
        exact bodyPost_ret (v := .tuple #[u6, .int .i64 0]) (by simp [results, Try.results16, go_sem]) rfl (by unfold apOk; rw [HE2.out]; exact ⟨_, rfl, HROW.out, HMS.out, HB.out⟩)
end Go.Proofs.Ytmapddghlabaeaa
