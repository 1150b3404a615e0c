/- Three lists: the step of weaving. -/
import Derived.Test.YtjdlpcokjcmapaaBe
import Derived.Deep.Cut
import Derived.Deep.CutRange
set_option linter.unusedVariables false
set_option linter.unusedSimpArgs false
namespace Go.Proofs.Ytjdlpcokjcmapaa
open Go.RowKit Go.Maps Go.WideShapes
variable {w w' : World}

/-- What weaving knows: the box of what is made, two boxes of sets, the sets. -/
structure WvI (B0 B1 bm bo bt mo mt : Nat) (L : List ByteArray) (P Q : ByteArray → Bool) (w : World) : Prop where
  le1 : B0 ≤ bm ∧ B0 ≤ bo ∧ B0 ≤ bt ∧ B0 ≤ mo ∧ B0 ≤ mt
  lt1 : bm < B1 ∧ bo < B1 ∧ bt < B1 ∧ mo < B1 ∧ mt < B1
  size : B1 ≤ w.heap.size
  ne1 : bm ≠ bo ∧ bm ≠ bt ∧ bm ≠ mo ∧ bm ≠ mt ∧ bo ≠ mo ∧ bo ≠ mt ∧ bt ≠ mo ∧ bt ≠ mt ∧ mo ≠ mt ∧ bo ≠ bt
  box : ∃ v, w.heap[bm]? = some (.cells #[v] 22 (0, 0)) ∧ w.ownsRow B1 9 1 v L.length (strV L)
  co : w.heap[bo]? = some (.cells #[.map (some mo)] 59 (0, 0))
  ct : w.heap[bt]? = some (.cells #[.map (some mt)] 59 (0, 0))
  so : IsRs mo P w
  st : IsRs mt Q w
theorem own_grown {B n s : Nat} {v : Value} {xs : List Value} {e : TypeId} {r : Option Nat} (h : w.ownsRow B e s v n xs) (hg : w.grownBy w' r) (hr : ∀ g, r = some g → g < B) : w'.ownsRow B e s v n xs :=
  own_keep h fun k hk => by
    have hl := h.lt k hk
    exact hg.block k hl.2 (fun e => by have := hr k e.symm; omega)
theorem WvI.grown {B0 B1 bm bo bt mo mt : Nat} {L : List ByteArray} {P Q : ByteArray → Bool} (h : WvI B0 B1 bm bo bt mo mt L P Q w) (hb : Below B1 w w') (hk : ∀ v, w.heap[bm]? = some (.cells #[v] 22 (0, 0)) → ∀ k, v.ownBlock = some k → w'.heap[k]? = w.heap[k]?) : WvI B0 B1 bm bo bt mo mt L P Q w' := by
  obtain ⟨h1, h2, h3, h4, ⟨v, h5, h6⟩, h7, h8, h9, h10⟩ := h
  refine ⟨h1, h2, Nat.le_trans h3 hb.size, h4, ⟨v, (hb.block bm h2.1).trans h5, own_keep h6 (hk v h5)⟩, (hb.block bo h2.2.1).trans h7, (hb.block bt h2.2.2.1).trans h8, h9.keep (hb.block mo h2.2.2.2.1), h10.keep (hb.block mt h2.2.2.2.2)⟩
theorem WvI.below {B0 B1 bm bo bt mo mt : Nat} {L : List ByteArray} {P Q : ByteArray → Bool} (h : WvI B0 B1 bm bo bt mo mt L P Q w) (hb : Below w.heap.size w w') : WvI B0 B1 bm bo bt mo mt L P Q w' := by
  refine h.grown (hb.mono h.size) fun v hv k hk => ?_
  obtain ⟨v', hv', hr⟩ := h.box
  rw [hv] at hv'
  injection hv' with hv'
  injection hv' with e _ _
  have e2 : v = v' := by injection e with e; injection e with e
  subst e2
  exact hb.block k (hr.lt k hk).2
theorem set_row {w : World} {g j : Nat} {cur : Array Value} {t : TypeId} (v : Value) (h : w.heap[g]? = some (.cells cur t (0, 0))) : (w.setCell ⟨g, j, none⟩ v).heap[g]? = some (.cells (cur.setIfInBounds j v) t (0, 0)) := by
  obtain ⟨hlt, hk⟩ := Array.getElem?_eq_some_iff.1 h
  show (w.heap.modify g _)[g]? = _
  rw [Array.getElem?_eq_getElem (by rw [Array.size_modify]; exact hlt), Array.getElem_modify_self, hk]
  rfl
theorem WvI.own_ge {B0 B1 bm bo bt mo mt : Nat} {L : List ByteArray} {P Q : ByteArray → Bool} (h : WvI B0 B1 bm bo bt mo mt L P Q w) : ∃ v, w.heap[bm]? = some (.cells #[v] 22 (0, 0)) ∧ w.ownsRow B1 9 1 v L.length (strV L) ∧ ∀ k, v.ownBlock = some k → B1 ≤ k ∧ k < w.heap.size := by
  obtain ⟨v, h1, h2⟩ := h.box
  exact ⟨v, h1, h2, fun k hk => h2.lt k hk⟩
theorem WvI.turnO {B0 B1 bm bo bt mo mt : Nat} {L : List ByteArray} {P P' Q : ByteArray → Bool} (h : WvI B0 B1 bm bo bt mo mt L P Q w) (hg : w.grownBy w' (some mo)) (hs : IsRs mo P' w') : WvI B0 B1 bm bo bt mo mt L P' Q w' := by
  have hk : ∀ k, k < w.heap.size → k ≠ mo → w'.heap[k]? = w.heap[k]? := fun k h1 h2 => hg.block k h1 (fun e => h2 (by injection e))
  have hb := h.size
  obtain ⟨l1, l2, l3, l4, l5⟩ := h.lt1
  obtain ⟨n1, n2, n3, n4, n5, n6, n7, n8, n9, n10⟩ := h.ne1
  obtain ⟨v, h5, h6, h7⟩ := h.own_ge
  exact ⟨h.le1, h.lt1, Nat.le_trans hb hg.size, h.ne1, ⟨v, (hk bm (by omega) n3).trans h5, own_keep h6 fun k e => hk k (h7 k e).2 (by have := (h7 k e).1; omega)⟩, (hk bo (by omega) n5).trans h.co, (hk bt (by omega) n7).trans h.ct, hs, h.st.keep (hk mt (by omega) (fun e => n9 e.symm))⟩
theorem WvI.turnT {B0 B1 bm bo bt mo mt : Nat} {L : List ByteArray} {P Q Q' : ByteArray → Bool} (h : WvI B0 B1 bm bo bt mo mt L P Q w) (hg : w.grownBy w' (some mt)) (hs : IsRs mt Q' w') : WvI B0 B1 bm bo bt mo mt L P Q' w' := by
  have hk : ∀ k, k < w.heap.size → k ≠ mt → w'.heap[k]? = w.heap[k]? := fun k h1 h2 => hg.block k h1 (fun e => h2 (by injection e))
  have hb := h.size
  obtain ⟨l1, l2, l3, l4, l5⟩ := h.lt1
  obtain ⟨n1, n2, n3, n4, n5, n6, n7, n8, n9, n10⟩ := h.ne1
  obtain ⟨v, h5, h6, h7⟩ := h.own_ge
  exact ⟨h.le1, h.lt1, Nat.le_trans hb hg.size, h.ne1, ⟨v, (hk bm (by omega) n4).trans h5, own_keep h6 fun k e => hk k (h7 k e).2 (by have := (h7 k e).1; omega)⟩, (hk bo (by omega) n6).trans h.co, (hk bt (by omega) n8).trans h.ct, h.so.keep (hk mo (by omega) n9), hs⟩
theorem WvI.put {B0 B1 bm bo bt mo mt : Nat} {L : List ByteArray} {P Q : ByteArray → Bool} {x : ByteArray} {v v' : Value} {o : Obj} {w1 : World} (h : WvI B0 B1 bm bo bt mo mt L P Q w) (hbm : w.heap[bm]? = some (.cells #[v] 22 (0, 0))) (hown : w.ownsRow B1 9 1 v L.length (strV L)) (hg : (w.alloc o).grownBy w1 v.ownBlock)
    (hown1 : w1.ownsRow B1 9 1 v' (L.length + 1) (strV L ++ [.string x])) : WvI B0 B1 bm bo bt mo mt (L ++ [x]) P Q (w1.setCell ⟨bm, 0, none⟩ v') ∧ Below B0 w (w1.setCell ⟨bm, 0, none⟩ v') := by
  have hb := h.size
  obtain ⟨l1, l2, l3, l4, l5⟩ := h.lt1
  obtain ⟨n1, n2, n3, n4, n5, n6, n7, n8, n9, n10⟩ := h.ne1
  obtain ⟨m1, m2, m3, m4, m5⟩ := h.le1
  have hsz : (w.alloc o).heap.size = w.heap.size + 1 := by simp
  have h7 : ∀ k, v.ownBlock = some k → B1 ≤ k := fun k hk => (hown.lt k hk).1
  have hk1 : ∀ k, k < B1 → w1.heap[k]? = w.heap[k]? := fun k hk => (hg.block k (by omega) (fun e => by have := h7 k e.symm; omega)).trans (Lib.alloc_old w o _ (by omega))
  have hs := set_grow w1 bm 0 v'
  have hk : ∀ k, k < B1 → k ≠ bm → (w1.setCell ⟨bm, 0, none⟩ v').heap[k]? = w.heap[k]? := fun k h1 h2 => (hs.block k (by have := hg.size; omega) (fun e => h2 (by injection e))).trans (hk1 k h1)
  have hB0 : B0 ≤ w.heap.size := by omega
  have hbel : Below B0 w (w1.setCell ⟨bm, 0, none⟩ v') := (((Below.refl B0 w).alloc hB0 o).grown hg (by omega) (fun k e => by have := h7 k e; omega)).grown hs (by have := hg.size; omega) (fun k e => by injection e with e; omega)
  refine ⟨⟨h.le1, h.lt1, ?_, h.ne1, ⟨v', ?_, ?_⟩, (hk bo l2 (fun e => n1 e.symm)).trans h.co, (hk bt l3 (fun e => n2 e.symm)).trans h.ct, h.so.keep (hk mo l4 (fun e => n3 e.symm)), h.st.keep (hk mt l5 (fun e => n4 e.symm))⟩, hbel⟩
  · have := hbel.size; omega
  · exact set_row v' ((hk1 bm l1).trans hbm)
  · have e : strV (L ++ [x]) = strV L ++ [.string x] := by unfold strV; rw [List.map_append]; rfl
    rw [List.length_append, e]
    exact own_grown hown1 hs (fun g e => by injection e with e; omega)
def lessP (P : ByteArray → Bool) (x s : ByteArray) : Bool := P s && !decide (s = x)
theorem del_rs {b n : Nat} {P : ByteArray → Bool} {x : ByteArray} {D : DataW Unit} (h2 : ∀ s : ByteArray, s.size ≤ maxLen → has D (.string s.data.toList) = P s) (h' : w'.ownsMap Try.prog 9 unitElem b n (D.del (.string x.data.toList))) : IsRs b (lessP P x) w' := by
  refine ⟨n, _, h', fun s hs => ?_⟩
  unfold lessP
  by_cases e : s = x
  · subst e
    rw [has_del_same]; simp
  · rw [has_del_other (fun hk => e (by injection hk with hk; exact ByteArray.ext (Array.ext' hk))), h2 s hs, decide_eq_false e]; simp
set_option maxHeartbeats 2000000 in
set_option maxRecDepth 100000 in
theorem use_any (B0 B1 bm bo bt mo mt : Nat) (L : List ByteArray) (P Q : ByteArray → Bool) (x : ByteArray) (w : World) (hx : x.size ≤ maxLen) (hl : L.length ≤ 1000000) (h : WvI B0 B1 bm bo bt mo mt L P Q w) :
    Calls Try.prog 32 #[.string x, ptr bm, ptr bo, ptr bt] w fun e w' => e = .returned (.tuple #[]) ∧ WvI B0 B1 bm bo bt mo mt (L ++ [x]) (lessP P x) (lessP Q x) w' ∧ Below B0 w w' := by
  have HH := Lib.hid h
  obtain ⟨v, hbm, hown⟩ := h.box
  obtain ⟨i1, hi1, hz0, hz1, hz2⟩ := info_parts info_s
  have HI1 := Lib.hid hi1; have HZ0 := Lib.hid hz0; have HZ1 := Lib.hid hz1; have HZ2 := Lib.hid hz2
  have cm : w.cell? ⟨bm, 0, none⟩ = some v := by rw [cell_of_row hbm]; rfl
  have HBM := Lib.hid hbm; have HOW := Lib.hid hown
  have HK := Lib.hid (keyS hx)
  obtain ⟨n, hn⟩ : ∃ n, L.length = n := ⟨_, rfl⟩
  have HN := Lib.hid hn
  rw [hn] at HOW hl
  clear hi1 hz0 hz1 hz2 h hbm hown hn
  go_enter Try.func32, Try.ntmps32
  go_upto_region 1 with (at_builtin; (refine wpList_append_own _ rfl _ _ 22 rfl B1 9 i1 (.string ⟨#[]⟩) 1 16 Try.underlying22 HI1.out HZ0.out HZ1.out HZ2.out rfl (by decide) _ _ _ rfl (HOW.out.alloc _) ⟨w.heap.size, 0, none⟩ 1 1 [.string x] rfl rfl (by simpa using cell_one_new w 9 (.string x)) one_memS (by unfold maxLen; omega) (by omega) (by have := HH.out.size; simp; omega) ?_); intro v' w1 hown1 hgrow1 _; (obtain ⟨av, cv, hvv, _⟩ := own_at hown1); subst hvv; have hbm1 : w1.heap[bm]? = some (.cells #[v] 22 (0, 0)) := (hgrow1.block bm (by have := lt_of_some HBM.out; simp; omega) (fun e => by have := (HOW.out.lt bm e.symm).1; have := HH.out.lt1.1; omega)).trans ((Lib.alloc_old w _ _ (lt_of_some HBM.out)).trans HBM.out); have cm1 : w1.cell? ⟨bm, 0, none⟩ = some v := (by rw [cell_of_row hbm1]; rfl); have fm1 : w1.frozen? ⟨bm, 0, none⟩ = false := (by simp [World.frozen?, hbm1]); have HBM1 := Lib.hid hbm1; have HO1 := Lib.hid hown1; have HG1 := Lib.hid hgrow1; clear hbm1 hown1 hgrow1)
  obtain ⟨hW, hBl⟩ := HH.out.put (x := x) HBM.out (by have h := HOW.out; rw [← HN.out] at h; exact h) HG1.out (by rw [HN.out]; exact HO1.out)
  generalize w1.setCell ⟨bm, 0, none⟩ (.slice av (n + 1) cv) = W1 at hW hBl ⊢
  have co : W1.cell? ⟨bo, 0, none⟩ = some (.map (some mo)) := by rw [cell_of_row hW.co]; rfl
  obtain ⟨no, Do, hDo, hDo2⟩ := hW.so
  have HW := Lib.hid hW; have HBl := Lib.hid hBl; have HDo := Lib.hid hDo; have HDo2 := Lib.hid hDo2
  clear hW hBl hDo hDo2 cm fm1 cm1 HBM1 HO1 HG1
  go_upto_region 2 with (at_delete; refine wpList_delete_own _ rfl _ _ 59 9 rfl 74 keyedS Try.underlying59 unitElem mo no Do rfl HDo.out _ _ rfl HK.out ?_; intro w2 hown2 hturn2; have HW2 := Lib.hid (HW.out.turnO hturn2.grown (del_rs HDo2.out hown2)); have HBl2 := Lib.hid (HBl.out.grown hturn2.grown (Nat.le_trans (Nat.le_trans HH.out.le1.1 (Nat.le_of_lt HH.out.lt1.1)) HW.out.size) (fun k e => by injection e with e; have := HH.out.le1; omega)); clear hown2 hturn2)
  have ct : w2.cell? ⟨bt, 0, none⟩ = some (.map (some mt)) := by rw [cell_of_row HW2.out.ct]; rfl
  obtain ⟨nt, Dt, hDt, hDt2⟩ := HW2.out.st
  have HDt := Lib.hid hDt; have HDt2 := Lib.hid hDt2
  clear co hDt hDt2
  go_wp2_with (at_delete; refine wpList_delete_own _ rfl _ _ 59 9 rfl 74 keyedS Try.underlying59 unitElem mt nt Dt rfl HDt.out _ _ rfl HK.out ?_; intro w3 hown3 hturn3; have HW3 := Lib.hid (HW2.out.turnT hturn3.grown (del_rs HDt2.out hown3)); have HBl3 := Lib.hid (HBl2.out.grown hturn3.grown (Nat.le_trans (Nat.le_trans HH.out.le1.1 (Nat.le_of_lt HH.out.lt1.1)) HW2.out.size) (fun k e => by injection e with e; have := HH.out.le1; omega)); clear hown3 hturn3)
  go_end0
  exact ⟨rfl, HW3.out, HBl3.out⟩
end Go.Proofs.Ytjdlpcokjcmapaa
