/- Space: the first two free units, the second one being taken. -/
import Derived.Test.YtbegjgceemffcaaZc
import Derived.RangeFuncBox
namespace Go.Proofs.Ytbegjgceemffcaa
open Go.RowKit Go.Shelf
attribute [local go_sem] Oper.semAt_some
variable {w w' : World}

def flX (l : List (Int × Int)) : List Value := l.flatMap fun p => [Value.int .i64 p.1, Value.int .i64 p.2]
/-- How many are still wanted ahead of unit k, and what there is. -/
def stK : Nat → Int
  | 0 => 2
  | 1 => 1
  | 2 => 1
  | _ => 0
def stL : Nat → List (Int × Int)
  | 0 => []
  | 1 => [(0, 1)]
  | 2 => [(0, 1)]
  | _ => [(0, 1), (2, 1)]
theorem info_ex : (Try.prog.info? 26).map (fun i => (i.zero, i.size, i.bytes)) = some (some (.agg #[.int .i64 0, .int .i64 0]), 2, 16) := by kernel_rfl
theorem two_memX {a b : Int} : ∀ u ∈ [Value.int .i64 a, Value.int .i64 b], u.oneCell' = true := by
  intro u hu; simp at hu; rcases hu with rfl | rfl <;> rfl
theorem b2 : bitS 2 0 = false ∧ bitS 2 1 = true ∧ bitS 2 2 = false ∧ bitS 2 3 = false ∧ bitS 2 4 = false := by decide +kernel
theorem b2_yes {k : Nat} (hk : k < 5) (h : bitS 2 k = true) : k = 1 := by
  obtain ⟨h0, _, h2, h3, h4⟩ := b2
  rcases (show k = 0 ∨ k = 1 ∨ k = 2 ∨ k = 3 ∨ k = 4 by omega) with rfl | rfl | rfl | rfl | rfl
  · rw [h0] at h; cases h
  · rfl
  · rw [h2] at h; cases h
  · rw [h3] at h; cases h
  · rw [h4] at h; cases h
theorem b2_no {k : Nat} (hk : k < 5) (h : bitS 2 k = false) : k = 0 ∨ k = 2 ∨ k = 3 ∨ k = 4 := by
  obtain ⟨_, h1, _⟩ := b2
  have : k ≠ 1 := fun e => by rw [e, h1] at h; cases h
  omega
structure FtI (w : World) (k : Nat) (W : World) : Prop where
  kb : W.heap[w.heap.size + 1]? = some (.cells #[.int .i64 (stK k)] 3 (0, 0))
  lb : ∃ v, W.heap[w.heap.size + 2]? = some (.cells #[v] 24 (0, 0)) ∧ W.ownsRow (w.heap.size + 6) 26 2 v (stL k).length (flX (stL k))
  bel : Below w.heap.size w W
theorem FtI.stab {Bn D k : Nat} (hBn : Bn = w.heap.size + 3) (hD : D = w.heap.size + 4) : Stab Bn D (FtI w k) := by
  intro W W' h hl hs hk
  obtain ⟨v, h1, h2⟩ := h.lb
  have hz := lt_of_some h1
  have hz0 := h.bel.size
  refine ⟨(hk _ (by omega) (by omega) (by omega) (by omega)).trans h.kb, ⟨v, (hk _ hz (by omega) (by omega) (by omega)).trans h1, h2.1, ?_⟩, ⟨hl.os.trans h.bel.os, hl.tape.trans h.bel.tape, hl.output.trans h.bel.output, Nat.le_trans hz0 hs, fun j hj => (hk j (by omega) (by omega) (by omega) (by omega)).trans (h.bel.block j hj)⟩⟩
  rcases h2.2 with h3 | ⟨g, cap, cur, e1, e2, e3, e4⟩
  · exact .inl h3
  · exact .inr ⟨g, cap, cur, e1, e2, (hk g (lt_of_some e3) (by omega) (by omega) (by omega)).trans e3, e4⟩
theorem ft_more {W W4 : World} {c c0 : Value} {nq n : Nat} {v v' : Value} {xs ys : List Value} {tmp : Obj} (hbel : Below w.heap.size w W) (hDW : w.heap.size + 5 < W.heap.size)
    (hkb : W.heap[w.heap.size + 1]? = some (.cells #[c0] 3 (0, 0))) (hlb : W.heap[w.heap.size + 2]? = some (.cells #[v] 24 (0, 0))) (hrow : W.ownsRow (w.heap.size + 6) 26 2 v n xs)
    (hown : W4.ownsRow (w.heap.size + 6) 26 2 v' (n + 1) ys) (hg : (((W.setCell ⟨w.heap.size + 1, 0, none⟩ c).drewN nq).alloc tmp).grownBy W4 v.ownBlock) :
    W4.heap[w.heap.size + 2]? = some (.cells #[v] 24 (0, 0)) ∧ ∀ Wf, Wf = W4.setCell ⟨w.heap.size + 2, 0, none⟩ v' →
      (∀ j, j = w.heap.size + 3 ∨ j = w.heap.size + 4 ∨ j = w.heap.size + 5 → Wf.heap[j]? = W.heap[j]?) ∧ W.heap.size ≤ Wf.heap.size ∧ Wf.heap[w.heap.size + 1]? = some (.cells #[c] 3 (0, 0)) ∧
      (∃ v, Wf.heap[w.heap.size + 2]? = some (.cells #[v] 24 (0, 0)) ∧ Wf.ownsRow (w.heap.size + 6) 26 2 v (n + 1) ys) ∧ Below w.heap.size w Wf := by
  have nb : ∀ j, j < w.heap.size + 6 → some j ≠ v.ownBlock := fun j hj e => by have := own_base hrow j e.symm; omega
  have e1 : ∀ j, j ≠ w.heap.size + 1 → (W.setCell ⟨w.heap.size + 1, 0, none⟩ c).heap[j]? = W.heap[j]? := fun j hj => Below.heap_setCell _ _ _ j hj
  have hsz : (W.setCell ⟨w.heap.size + 1, 0, none⟩ c).heap.size = W.heap.size := by simp
  have e2 : ∀ j, j < w.heap.size + 6 → j < W.heap.size → W4.heap[j]? = (W.setCell ⟨w.heap.size + 1, 0, none⟩ c).heap[j]? := fun j h1 h2 =>
    (hg.block j (by rw [World.size_alloc, World.heap_drewN, hsz]; omega) (nb j h1)).trans (Lib.alloc_old ((W.setCell ⟨w.heap.size + 1, 0, none⟩ c).drewN nq) _ j (by rw [World.heap_drewN, hsz]; exact h2))
  have s4 : W.heap.size ≤ W4.heap.size := by have := hg.size; rw [World.size_alloc, World.heap_drewN, hsz] at this; omega
  have l4 : W4.heap[w.heap.size + 2]? = some (.cells #[v] 24 (0, 0)) := (e2 _ (by omega) (by omega)).trans ((e1 _ (by omega)).trans hlb)
  refine ⟨l4, ?_⟩
  rintro Wf rfl
  have eF : ∀ j, j ≠ w.heap.size + 2 → (W4.setCell ⟨w.heap.size + 2, 0, none⟩ v').heap[j]? = W4.heap[j]? := fun j h => Below.heap_setCell W4 _ v' j h
  refine ⟨fun j hj => (eF j (by omega)).trans ((e2 j (by omega) (by omega)).trans (e1 j (by omega))), by simp; omega, (eF _ (by omega)).trans ((e2 _ (by omega) (by omega)).trans (heap_set c hkb)), ⟨v', heap_set v' l4, hown.kept (grownBy_setCell' W4 _ v') (.inr (fun e => by have := own_base hown _ e; omega))⟩, ?_⟩
  have lo : Below w.heap.size W W4 := ((below_drewN ((Below.refl w.heap.size W).setCell (p := ⟨w.heap.size + 1, 0, none⟩) (Nat.le_succ _) c) nq).alloc (by rw [World.heap_drewN, hsz]; omega) tmp).grown hg (by simp; omega) (fun g hgo => by have := own_base hrow g hgo; omega)
  exact (hbel.trans lo).setCell (p := ⟨w.heap.size + 2, 0, none⟩) (by show w.heap.size ≤ w.heap.size + 2; omega) v'
theorem own_lowerX {w : World} {B B' n s : Nat} {t : TypeId} {v : Value} {xs : List Value} (h : w.ownsRow B t s v n xs) (hb : B' ≤ B) : w.ownsRow B' t s v n xs := by
  refine ⟨h.1, ?_⟩
  rcases h.2 with h1 | ⟨g, cap, cur, h1, h2, h3⟩
  · exact .inl h1
  · exact .inr ⟨g, cap, cur, h1, by omega, h3⟩
theorem ft_end {W : World} {v : Value} {D : Nat} (hD0 : D = w.heap.size + 4) (hsz : D < W.heap.size) (hown : W.ownsRow (w.heap.size + 6) 26 2 v 2 (flX [(0, 1), (2, 1)])) (hbl : Below w.heap.size w W) :
    (W.putObj D (.deferred none)).ownsRow w.heap.size 26 2 v 2 (flX [(0, 1), (2, 1)]) ∧ Below w.heap.size w (W.putObj D (.deferred none)) := by
  refine ⟨own_lowerX (hown.kept (grownBy_putObj' W _ _) (.inr (fun e => by have := own_base hown _ e; omega))) (by omega), ?_⟩
  exact hbl.trans ((Below.refl w.heap.size W).grown (grownBy_putObj' W D _) (by omega) (fun g hg => by cases hg; omega))
theorem ft_row {W : World} {v : Value} {n : Nat} {xs : List Value} (h : W.ownsRow (w.heap.size + 6) 26 2 v n xs) (c : Value) (nq : Nat) (tmp : Obj) :
    (((W.setCell ⟨w.heap.size + 1, 0, none⟩ c).drewN nq).alloc tmp).ownsRow (w.heap.size + 6) 26 2 v n xs := by
  have h1 := h.kept (grownBy_setCell' W (w.heap.size + 1) c) (.inr (fun e => by have := own_base h _ e; omega))
  have h2 : ((W.setCell ⟨w.heap.size + 1, 0, none⟩ c).drewN nq).ownsRow (w.heap.size + 6) 26 2 v n xs := h1
  exact h2.alloc _
theorem ft_new {W : World} (c : Value) (nq : Nat) (a b : Value) : ∀ (j : Nat) (u : Value), [a, b][j]? = some u → (((W.setCell ⟨w.heap.size + 1, 0, none⟩ c).drewN nq).alloc (.cells #[a, b] 26)).cell? ((⟨W.heap.size, 0, none⟩ : Addr).add j) = some u := by
  have := cell_two_new ((W.setCell ⟨w.heap.size + 1, 0, none⟩ c).drewN nq) 26 a b
  rwa [show ((W.setCell ⟨w.heap.size + 1, 0, none⟩ c).drewN nq).heap.size = W.heap.size by simp] at this
set_option maxHeartbeats 2000000 in
set_option maxRecDepth 100000 in
theorem first_n (w : World) :
    Calls Try.prog 12 #[spV 2, .int .i64 2] w fun e w' => ∃ v, e = .returned v ∧ w'.ownsRow w.heap.size 26 2 v 2 (flX [(0, 1), (2, 1)]) ∧ Below w.heap.size w w' := by
  refine callsIn_wide.1 (?_ : CallsIn Fence.wide 5 _ _ _ _ _)
  refine callsIn_of_wp_marks Try.func12 rfl trivial ?_ rfl
  simp only [Try.ntmps12, List.size_toArray, List.length_cons, List.length_nil, Nat.reduceAdd, Nat.reduceSub, Array.replicate_succ, Array.replicate_zero, List.push_toArray, List.append_toArray, List.nil_append, List.cons_append]
  have HFA := Lib.hid (fun W => free_any 2 W)
  unfold spV at HFA ⊢
  obtain ⟨W1, hW1⟩ : ∃ W1, ((w.alloc (.cells #[.int .i64 5, .string ⟨#[2]⟩] 30)).alloc (.cells #[.int .i64 2] 3)).alloc (.cells #[.slice none 0 0] 24) = W1 := ⟨_, rfl⟩
  have hs1 : W1.heap.size = w.heap.size + 3 := by rw [← hW1]; simp
  have hb1 : Below w.heap.size w W1 := by rw [← hW1]; exact (((Below.refl _ w).alloc (Nat.le_refl _) _).alloc (by simp) _).alloc (by simp; omega) _
  have hl1 : W1.heap[w.heap.size + 2]? = some (.cells #[.slice none 0 0] 24 (0, 0)) := by
    rw [← hW1]
    have := World.alloc_heap_new ((w.alloc (.cells #[.int .i64 5, .string ⟨#[2]⟩] 30)).alloc (.cells #[.int .i64 2] 3)) (.cells #[.slice none 0 0] 24)
    rw [World.size_alloc, World.size_alloc] at this; exact this
  have hk1 : W1.heap[w.heap.size + 1]? = some (.cells #[.int .i64 2] 3 (0, 0)) := by
    rw [← hW1]
    have := World.alloc_heap_new (w.alloc (.cells #[.int .i64 5, .string ⟨#[2]⟩] 30)) (.cells #[.int .i64 2] 3)
    rw [World.size_alloc] at this
    exact (Lib.alloc_old _ _ _ (by simp)).trans this
  have hq1 : W1.heap[w.heap.size]? = some (.cells #[.int .i64 5, .string ⟨#[2]⟩] 30 (0, 0)) := by
    rw [← hW1]; exact (Lib.alloc_old _ _ _ (by simp; omega)).trans ((Lib.alloc_old _ _ _ (by simp)).trans (World.alloc_heap_new w _))
  have c0 : W1.cell? ⟨w.heap.size, 0, none⟩ = some (.int .i64 5) := cell_of_row hq1
  have c1 : W1.cell? ⟨w.heap.size, 1, none⟩ = some (.string ⟨#[2]⟩) := cell_of_row hq1
  have HB1 := Lib.hid hb1; have HL1 := Lib.hid hl1; have HK1 := Lib.hid hk1
  gi_wp2_with (refine ⟨trivial, ?_⟩; gi_at_call 13; refine (callsIn_wide.2 (HFA.out _)).mono ?_; rintro e w3 ⟨rfl, rfl⟩)
  have hb3 := (Below.refl W1.heap.size W1).alloc (Nat.le_refl _) (.cells #[.int .i64 5, .string ⟨#[2]⟩] 30)
  have hr3 := World.alloc_heap_new W1 (.cells #[.int .i64 5, .string ⟨#[2]⟩] 30)
  have hs3 : (W1.alloc (.cells #[.int .i64 5, .string ⟨#[2]⟩] 30)).heap.size = w.heap.size + 4 := by simp [hs1]
  generalize W1.alloc (.cells #[.int .i64 5, .string ⟨#[2]⟩] 30) = W3 at hb3 hr3 hs3 ⊢
  rw [hs1] at hr3 hb3
  have HI0 : Hid (FtI w 0 W3) := Lib.hid ⟨(hb3.block _ (by omega)).trans HK1.out, ⟨_, (hb3.block _ (by omega)).trans HL1.out, World.ownsRow_nil _ _ _ _⟩, HB1.out.trans (hb3.mono (by omega))⟩
  have HR3 := Lib.hid hr3; have HS3 := Lib.hid hs3
  clear hb3 hr3 c0 c1 hW1 hs1 hb1 hl1 hk1 hq1 HB1 HL1 HK1
  refine range_free (w := W3) (n := 5) (by omega) (w.heap.size + 3) 2 (.inl rfl) rfl rfl HR3.out (FtI w) (fun c W => c = .exit 0 ∧ FtI w 3 W)
    (fun k => FtI.stab rfl HS3.out) (fun c W W' h hl hs hk => ⟨h.1, FtI.stab rfl HS3.out W W' h.2 hl hs hk⟩) (fun k W hk hb h => (by have hk1 := b2_yes hk hb; subst hk1; exact ⟨h.kb, h.lb, h.bel⟩)) HI0.out
    (fun k => { tmps := #[.agg #[.int .i64 5, .string ⟨#[2]⟩], .int .i64 2, .pointer (some ⟨w.heap.size, 0, none⟩), .pointer (some ⟨w.heap.size + 1, 0, none⟩), .slice none 0 0, .pointer (some ⟨w.heap.size + 2, 0, none⟩), .int .i64 (k : Nat), undef, .agg #[.int .i64 5, .string ⟨#[2]⟩], .func (.func 21) #[] #[.pointer (some ⟨w.heap.size + 3, 0, none⟩)], .int .i64 (k : Nat), undef, undef, undef, undef, undef, undef, undef, undef, undef, undef, undef, undef, undef, undef, undef, undef, undef, undef, undef, undef, undef, undef, undef, undef, undef, undef, undef, undef, undef, undef, undef, undef, undef, undef, undef, undef, undef, undef], defers := [] }) ?assign ?body ?done ?stop
  case assign =>
    intro l k W K hK
    gi_wp2
    first | exact hK | simpa using hK
  case body =>
    rintro l k W hk hb ⟨hkb, ⟨v, hlb, hown⟩, hbel⟩ hDW
    have hs4 := HS3.out
    have HKB := Lib.hid hkb; have HLB := Lib.hid hlb; have HOWN := Lib.hid hown; have HBEL := Lib.hid hbel
    obtain ⟨i1, hi1, hz0, hz1, hz2⟩ := info_parts info_ex
    have HI1 := Lib.hid hi1; have HZ0 := Lib.hid hz0; have HZ1 := Lib.hid hz1; have HZ2 := Lib.hid hz2
    have c3 : W.cell? ⟨w.heap.size + 1, 0, none⟩ = some (.int .i64 (stK k)) := cell_of_row hkb
    have f3 : W.frozen? ⟨w.heap.size + 1, 0, none⟩ = false := by simp [World.frozen?, hkb]
    have c5 : W.cell? ⟨w.heap.size + 2, 0, none⟩ = some v := cell_of_row hlb
    have f5 : W.frozen? ⟨w.heap.size + 2, 0, none⟩ = false := by simp [World.frozen?, hlb]
    obtain ⟨o, cap, hv⟩ : ∃ o cap, v = .slice o (stL k).length cap := by
      rcases hown.2 with ⟨h1, h2⟩ | ⟨g, cap, cur, h1, _⟩
      · exact ⟨none, 0, by rw [h1, h2]⟩
      · exact ⟨_, _, h1⟩
    subst hv
    clear hkb hlb hown hbel hi1 hz0 hz1 hz2
    have hk4 := b2_no hk hb
    clear hk hb
    rcases hk4 with rfl | rfl | rfl | rfl
    · simp only [stK, stL, List.length_nil, List.length_cons, Nat.zero_add] at c3 c5 HOWN HKB HLB
      have HROW : Hid (∀ nq tmp, (((W.setCell ⟨w.heap.size + 1, 0, none⟩ (.int .i64 1)).drewN nq).alloc tmp).ownsRow (w.heap.size + 6) 26 2 (.slice o 0 cap) 0 (flX [])) := Lib.hid (fun nq tmp => ft_row HOWN.out _ nq tmp)
      have HNEW : Hid (∀ nq, ∀ (j : Nat) (u : Value), [Value.int .i64 0, .int .i64 1][j]? = some u → (((W.setCell ⟨w.heap.size + 1, 0, none⟩ (.int .i64 1)).drewN nq).alloc (.cells #[.int .i64 0, .int .i64 1] 26)).cell? ((⟨W.heap.size, 0, none⟩ : Addr).add j) = some u) := Lib.hid (fun nq => ft_new _ nq _ _)
      have HBS : Hid (∀ nq tmp, w.heap.size + 6 ≤ (((W.setCell ⟨w.heap.size + 1, 0, none⟩ (.int .i64 1)).drewN nq).alloc tmp).heap.size) := Lib.hid (fun nq tmp => by simp; omega)
      gi_wp2
      refine round_quiet (by kernel_rfl) (by kernel_rfl) (by kernel_rfl) (fun ⟨_, _, h⟩ => h) ?_
      repeat (go_big_quiet_step (fail))
      refine wpQuiet_nil ?_
      intro _ hw'
      obtain ⟨nq, hw''⟩ := hw'
      subst hw''
      gi_wp2_with (gi_at_builtin; (refine wpListIn_append_own _ rfl _ _ 24 rfl (w.heap.size + 6) 26 i1 (.agg #[.int .i64 0, .int .i64 0]) 2 16 Try.underlying24 HI1.out HZ0.out HZ1.out HZ2.out rfl (by decide) (.slice o 0 cap) 0 ((flX [])) rfl (HROW.out nq _) ⟨W.heap.size, 0, none⟩ 1 1 [.int .i64 0, .int .i64 1] rfl rfl (HNEW.out nq) two_memX (by decide) (by decide) (HBS.out nq _) ?_; intro v' W4 hown hgrow _); (obtain ⟨b4, hfin⟩ := ft_more HBEL.out (by have := hs4; omega) HKB.out HLB.out HOWN.out hown hgrow; have z7 : W4.cell? ⟨w.heap.size + 2, 0, none⟩ = some _ := cell_of_row b4; have y7 : W4.frozen? ⟨w.heap.size + 2, 0, none⟩ = false := (by simp [World.frozen?, b4]); have HFIN := Lib.hid (hfin _ rfl); obtain ⟨g', cap', rfl⟩ := ownsRow_succ hown; clear hown hgrow b4 hfin))
      obtain ⟨h1, h2, h3, h4, h5⟩ := HFIN.out
      exact ⟨fun j hj => h1 j (by omega), h2, h3, h4, h5⟩
    · simp only [stK, stL, List.length_nil, List.length_cons, Nat.zero_add] at c3 c5 HOWN HKB HLB
      obtain ⟨g, cur, hgo, hge, hgr, hcur⟩ : ∃ (g : Nat) (cur : Array Value), o = some ⟨g, 0, none⟩ ∧ w.heap.size + 6 ≤ g ∧ W.heap[g]? = some (.cells cur 26 (0, 0)) ∧ cur.toList.take 2 = [.int .i64 0, .int .i64 1] := by
        rcases HOWN.out.2 with ⟨h1, h2⟩ | ⟨g, cap', cur, h1, h2, h3, h4, h5, h6, h7⟩
        · cases h1
        · injection h1 with e1
          exact ⟨g, cur, e1, h2, h3, h7⟩
      subst hgo
      have d0 : W.cell? ⟨g, 0, none⟩ = some (.int .i64 0) := by
        rw [cell_of_row hgr, ← Array.getElem?_toList]
        have : (cur.toList.take 2)[0]? = some (.int .i64 0) := by rw [hcur]; rfl
        rwa [List.getElem?_take, if_pos (by decide)] at this
      have d1 : W.cell? ⟨g, 1, none⟩ = some (.int .i64 1) := by
        rw [cell_of_row hgr, ← Array.getElem?_toList]
        have : (cur.toList.take 2)[1]? = some (.int .i64 1) := by rw [hcur]; rfl
        rwa [List.getElem?_take, if_pos (by decide)] at this
      have HROW : Hid (∀ nq tmp, (((W.setCell ⟨w.heap.size + 1, 0, none⟩ (.int .i64 0)).drewN nq).alloc tmp).ownsRow (w.heap.size + 6) 26 2 (.slice (some ⟨g, 0, none⟩) 1 cap) 1 (flX [(0, 1)])) := Lib.hid (fun nq tmp => ft_row HOWN.out _ nq tmp)
      have HNEW : Hid (∀ nq, ∀ (j : Nat) (u : Value), [Value.int .i64 2, .int .i64 1][j]? = some u → (((W.setCell ⟨w.heap.size + 1, 0, none⟩ (.int .i64 0)).drewN nq).alloc (.cells #[.int .i64 2, .int .i64 1] 26)).cell? ((⟨W.heap.size, 0, none⟩ : Addr).add j) = some u) := Lib.hid (fun nq => ft_new _ nq _ _)
      have HBS : Hid (∀ nq tmp, w.heap.size + 6 ≤ (((W.setCell ⟨w.heap.size + 1, 0, none⟩ (.int .i64 0)).drewN nq).alloc tmp).heap.size) := Lib.hid (fun nq tmp => by simp; omega)
      gi_wp2
      refine round_quiet (by kernel_rfl) (by kernel_rfl) (by kernel_rfl) (fun ⟨_, _, h⟩ => h) ?_
      repeat (go_big_quiet_step (fail))
      refine wpQuiet_nil ?_
      intro _ hw'
      obtain ⟨nq, hw''⟩ := hw'
      subst hw''
      gi_wp2_with (gi_at_builtin; (refine wpListIn_append_own _ rfl _ _ 24 rfl (w.heap.size + 6) 26 i1 (.agg #[.int .i64 0, .int .i64 0]) 2 16 Try.underlying24 HI1.out HZ0.out HZ1.out HZ2.out rfl (by decide) (.slice (some ⟨g, 0, none⟩) 1 cap) 1 ((flX [(0, 1)])) rfl (HROW.out nq _) ⟨W.heap.size, 0, none⟩ 1 1 [.int .i64 2, .int .i64 1] rfl rfl (HNEW.out nq) two_memX (by decide) (by decide) (HBS.out nq _) ?_; intro v' W4 hown hgrow _); (obtain ⟨b4, hfin⟩ := ft_more HBEL.out (by have := hs4; omega) HKB.out HLB.out HOWN.out hown hgrow; have z7 : W4.cell? ⟨w.heap.size + 2, 0, none⟩ = some _ := cell_of_row b4; have y7 : W4.frozen? ⟨w.heap.size + 2, 0, none⟩ = false := (by simp [World.frozen?, b4]); have HFIN := Lib.hid (hfin _ rfl); obtain ⟨g', cap', rfl⟩ := ownsRow_succ hown; clear hown hgrow b4 hfin))
      obtain ⟨h1, h2, h3, h4, h5⟩ := HFIN.out
      exact ⟨fun j hj => h1 j (by omega), h2, h3, h4, h5⟩
    · simp only [stK] at c3
      gi_wp2
      exact ⟨fun _ _ => rfl, Nat.le_refl _, rfl, HKB.out, ⟨_, HLB.out, HOWN.out⟩, HBEL.out⟩
    · simp only [stK] at c3
      gi_wp2
      exact ⟨fun _ _ => rfl, Nat.le_refl _, rfl, HKB.out, ⟨_, HLB.out, HOWN.out⟩, HBEL.out⟩
  case done =>
    rintro W ⟨hkb, ⟨v, hlb, hown⟩, hbl⟩ hD
    have c5 : W.cell? ⟨w.heap.size + 2, 0, none⟩ = some v := cell_of_row hlb
    have HD := Lib.hid hD; have HO := Lib.hid hown; have HBL := Lib.hid hbl
    clear hkb hlb hown hbl hD
    gi_wp2
    refine ⟨by simp, .inl ⟨_, _, rfl, run_takeDeferred HD.out, ?_⟩⟩
    have hz := ft_end HS3.out (lt_of_some HD.out) HO.out HBL.out
    exact ⟨v, by simp [results, Try.results12, go_sem], v, rfl, hz.1, hz.2⟩
  case stop =>
    rintro c W ⟨rfl, hkb, ⟨v, hlb, hown⟩, hbl⟩ hD
    have c5 : W.cell? ⟨w.heap.size + 2, 0, none⟩ = some v := cell_of_row hlb
    have HD := Lib.hid hD; have HO := Lib.hid hown; have HBL := Lib.hid hbl
    clear hkb hlb hown hbl hD
    gi_wp2
    refine ⟨by simp, .inl ⟨_, _, rfl, run_takeDeferred HD.out, ?_⟩⟩
    have hz := ft_end HS3.out (lt_of_some HD.out) HO.out HBL.out
    exact ⟨v, by simp [results, Try.results12, go_sem], v, rfl, hz.1, hz.2⟩
end Go.Proofs.Ytbegjgceemffcaa
