/- Keyed lists: the keys of maps: the library's iterator, and what is appended of it. -/
import Derived.Test.YthkcmdlfdaggmaaHd
import Derived.RangeFuncNested
import Derived.RangeFuncBound
import Derived.RangeFuncCalls
import Derived.RangeFuncLeaves
import Derived.RangeFuncFrom
import Derived.Shelf.Abstract
import Derived.Sort.MapsRangeIn
import Derived.Sort.KeysCollected
import Derived.WalkKit
import Derived.OwnWalkIn
import Derived.TacticsInMore
import Derived.RegionIn
import Derived.LoopNIn
import Derived.LoopIn
set_option linter.unusedVariables false
set_option linter.unusedSimpArgs false
namespace Go.Proofs.Ythkcmdlfdaggmaa
open Go.RowKit Go.Maps Go.Sort Go.Shelf
attribute [local go_sem] Oper.semAt_some
variable {w w' : World}

theorem mKeys_any (m : Nat) (w : World) :
    Calls Try.prog 33 #[.map (some m)] w fun e w' => e = .returned (.func (.func 38) #[] #[.pointer (some ⟨w.heap.size, 0, none⟩)]) ∧ w' = w.alloc (.cells #[.map (some m)] 61) := by
  go_enter Try.func33, Try.ntmps33
  go_wp2_with fail
  go_ret
  exact ⟨rfl, rfl⟩
/-- All keys of the datum have come, each once. -/
def AllK (D : DataW Unit) (ss : List (List UInt8)) : Prop := ss.Nodup ∧ (∀ x, x ∈ ss ↔ has D (.string x) = true) ∧ ∀ x ∈ ss, x.length ≤ maxLen
set_option maxRecDepth 100000 in
set_option maxHeartbeats 2000000 in
theorem keys_stops (n Bm b nn : Nat) (hn : 1 ≤ n) (D0 : DataW Unit) (w : World) (hBm : Bm < w.heap.size) (hm0 : w.cell? ⟨Bm, 0, none⟩ = some (.map (some b))) (hown0 : w.ownsMap Try.prog 9 sdElem b nn D0) :
    SeqStopsK Fence.wide n Try.prog 38 #[.pointer (some ⟨Bm, 0, none⟩)] (fun x => #[encStr x]) KeepsWalks (AllK D0) (fun _ => True) (Maps.size D0) w := by
  intro l J Jx W hW hJ _ hY h0
  have hm : W.cell? ⟨Bm, 0, none⟩ = some (.map (some b)) := (hW.cell (p := ⟨Bm, 0, none⟩) hBm).trans hm0
  have hown : W.ownsMap Try.prog 9 sdElem b nn D0 := by
    have hbl := hown0.lt
    obtain ⟨es, clock, hb, Ft, hs, hD⟩ := hown0
    exact ⟨es, clock, (hW.block b hbl).trans hb, Ft, hs, hD⟩
  have hlong := strKeys_le hown Try.underlying9
  clear hm0 hown0 hW hBm
  show CallsIn Fence.wide n Try.prog 38 #[.func (.yield l) #[] #[], .pointer (some ⟨Bm, 0, none⟩)] W _
  refine callsIn_of_wp Try.func38 rfl trivial ?_ rfl
  try simp only [Try.ntmps38, List.size_toArray, List.length_cons, List.length_nil, Nat.reduceAdd, Nat.reduceSub, Array.replicate_succ, Array.replicate_zero, List.push_toArray, List.append_toArray, List.nil_append, List.cons_append]
  gi_wp2_with (first
    | (gi_at_range; refine wpListIn_range_own _ rfl _ 61 rfl 9 39 keyedS Try.underlying61 _ b nn _ rfl hown ?_; intro w0 hrg0 hg0 hs0)
    | gi_in)
  try go_frame
  gi_loopw [3] (fun _ wr => ∃ (left : Lit → Bool) (cnt : Nat) (ss : List (List UInt8)), wr.ranges Try.prog 9 sdElem b W.heap.size nn D0 left cnt ∧ ss.length + cnt ≤ Maps.size D0 ∧ Collected D0 left ss ∧ J ss wr)
    (fun _ wr => wr.rangeLeft b W.heap.size)
  case atStart =>
    exact ⟨_, _, [], hrg0, by simp, Collected.start D0, hJ [] W w0 none h0 hg0 (fun r e => by cases e)⟩
  case round =>
    obtain ⟨left, cnt, ss, hrg, hcs, hC, hJs⟩ := hrel
    gi_wp2_with (first
      | (gi_at_next; refine wpListIn_next_ranges _ rfl _ rfl 9 keyedS sdElem encStr id (fun key kl hk => by obtain ⟨x, hx, _⟩ := Maps.keyOf_str Try.underlying9 hk; exact ⟨x, hx⟩) (fun v _ _ => ⟨v, rfl⟩) b W.heap.size nn _ _ _ rfl hrg ?_ ?_)
      | gi_in)
    · intro hc0 hl0
      gi_wp2
      go_end0
      exact ⟨⟨_, rfl⟩, .inl ⟨ss, ⟨hC.1, fun x => by rw [hC.2 x, hl0]; simp, fun x hx => hlong x ((hC.perm hown keyedS Try.underlying9 hl0).mem_iff.1 hx)⟩, hJs⟩⟩
    · intro x c kl yd yp w2 cnt2 hkey hlk hv hat hrg2 hlt hg2 hs2 hen
      obtain ⟨x', ex, rfl, _⟩ := Maps.keyOf_str Try.underlying9 hkey
      obtain rfl : x = x' := encStr_inj ex
      have hJ2 : J ss w2 := hJ ss wr w2 (some W.heap.size) hJs hg2 (fun r e => by cases e; exact ⟨Nat.le_refl _, hrg.iter_walk⟩)
      obtain ⟨fn, tmps, assign, body, hy, hR⟩ := hY ss x w2 hJ2 (by omega)
      clear hs2
      gi_wp2
      refine hR.mono ?_
      rintro e W3 (⟨rfl, hJ3, hk3⟩ | ⟨rfl, hJx3⟩)
      · gi_wp2
        have hrg3 := hrg2.of_walks hk3
        go_roundw
        case rel => exact ⟨_, cnt2, ss ++ [x], hrg3, by simp; omega, hC.step hlk hat, hJ3⟩
        case measure => rw [hrg3.left_eq, hrg.left_eq]; exact hlt
      · gi_wp2
        refine bodyPost_ret (results_none rfl _ _ _) rfl ?_
        exact ⟨⟨_, rfl⟩, .inr ⟨_, trivial, hJx3⟩⟩
theorem ownFrom_own {β : Type} {I : β → World → Prop} (h : Own I) (B : Nat) : OwnFrom B I := h.from B
theorem encs_app (X Y : List (List UInt8)) : (X ++ Y).map encStr = X.map encStr ++ Y.map encStr := List.map_append
theorem one_enc {x : List UInt8} : ∀ u ∈ [encStr x], u.oneCell' = true := by
  intro u hu; simp at hu; subst hu; rfl
theorem own_slice {B s n : Nat} {T : TypeId} {v : Value} {xs : List Value} (h : w.ownsRow B T s v n xs) : ∃ o c, v = .slice o n c := by
  rcases h.2 with ⟨h1, h2⟩ | ⟨g, c, cur, h1, _⟩
  · exact ⟨none, 0, by rw [h1, h2]⟩
  · exact ⟨_, c, h1⟩
set_option maxHeartbeats 4000000 in
set_option maxRecDepth 100000 in
theorem appSeq_any (Bm b nn B : Nat) (D0 : DataW Unit) (v0 : Value) (X0 : List (List UInt8)) (w : World) (hB : B ≤ w.heap.size) (hsz : X0.length + Maps.size D0 ≤ 100000000) (hm : w.cell? ⟨Bm, 0, none⟩ = some (.map (some b))) (hown : w.ownsMap Try.prog 9 sdElem b nn D0)
    (hrow : w.ownsRow B 9 1 v0 X0.length (X0.map encStr)) :
    Calls Try.prog 32 #[v0, .func (.func 38) #[] #[.pointer (some ⟨Bm, 0, none⟩)]] w fun e w' =>
      ∃ v ss, e = .returned v ∧ AllK D0 ss ∧ w'.ownsRow B 9 1 v (X0 ++ ss).length ((X0 ++ ss).map encStr) ∧ Below B w w' := by
  refine callsIn_wide.1 (?_ : CallsIn Fence.wide 5 _ _ _ _ _)
  obtain ⟨o0, c0, rfl⟩ := own_slice hrow
  refine callsIn_of_wp_marks Try.func32 rfl trivial ?_ rfl
  simp only [Try.ntmps32, List.size_toArray, List.length_cons, List.length_nil, Nat.reduceAdd, Nat.reduceSub, Array.replicate_succ, Array.replicate_zero, List.push_toArray, List.append_toArray, List.nil_append, List.cons_append]
  have hBl : Bm < w.heap.size := World.block_lt_of_cell? w _ hm
  have hb0 := (Below.refl w.heap.size w).alloc (Nat.le_refl _) (.cells #[.slice o0 X0.length c0] 34)
  have HX0 := Lib.hid (Boxed.new w 34 (.slice o0 X0.length c0))
  have HB0 := Lib.hid (hb0.mono hB)
  have HROW := Lib.hid (own_below hrow hb0)
  have HST := Lib.hid (keys_stops 4 Bm b nn (by omega) D0 (w.alloc (.cells #[.slice o0 X0.length c0] 34)) (by simp; omega) ((hb0.cell (p := ⟨Bm, 0, none⟩) hBl).trans hm) (by obtain ⟨es, clock, hb, r⟩ := hown; exact ⟨es, clock, (hb0.block b (lt_of_some hb)).trans hb, r⟩))
  clear hm hown hrow hb0
  gi_wp2
  have HSZ : Hid ((w.alloc (.cells #[.slice o0 X0.length c0] 34)).heap.size = w.heap.size + 1) := Lib.hid (by simp)
  obtain ⟨BX, hBX⟩ : ∃ BX, w.heap.size = BX := ⟨_, rfl⟩
  rw [hBX] at HX0 HSZ hB hBl ⊢
  have H0 : Hid (∃ v, Boxed (w.alloc (.cells #[.slice o0 X0.length c0] 34)) BX 34 v ∧ (w.alloc (.cells #[.slice o0 X0.length c0] 34)).ownsRow B 9 1 v (X0 ++ []).length ((X0 ++ ([] : List (List UInt8))).map encStr) ∧ True) := Lib.hid ⟨_, HX0.out, by rw [List.append_nil]; exact HROW.out, trivial⟩
  have HBL : Hid (Below B w (w.alloc (.cells #[.slice o0 X0.length c0] 34))) := HB0
  generalize w.alloc (.cells #[.slice o0 X0.length c0] 34) = w5 at HSZ H0 HST HBL ⊢
  clear HX0 HROW HB0
  have hB5 : B ≤ w5.heap.size := by have := HSZ.out; omega
  refine wpIn_rangeFunc_ownF rfl (by omega) (gf := 38) (lb := #[.pointer (some ⟨Bm, 0, none⟩)]) rfl trivial (enters_of Try.func38 (by kernel_rfl) rfl)
    HST.out walksK_t (fun W l o o' hl ho _hc hw => walksK_b (w := w5) W l o o' hl ho (by assumption) hw) (Below.refl _ _) (fun _ => rfl)
    (fun xs W => (∃ v, Boxed W BX 34 v ∧ W.ownsRow B 9 1 v (X0 ++ xs).length ((X0 ++ xs).map encStr) ∧ True) ∧ Below B w W) (fun _ _ _ => False)
    (((holdsRow_own B BX 34 9 1 (fun xs => (X0 ++ xs).length) (fun xs => (X0 ++ xs).map encStr) (fun _ _ => True)).from w5.heap.size).and (ownFrom_below (by omega) hB5)) (fun c _ _ _ _ h _ _ => h) ⟨H0.out, HBL.out⟩
    (fun x => { tmps := #[.slice o0 X0.length c0, .func (.func 38) #[] #[.pointer (some ⟨Bm, 0, none⟩)], .pointer (some ⟨BX, 0, none⟩), undef, .slice none 0 0, encStr x, .func (.func 38) #[] #[.pointer (some ⟨Bm, 0, none⟩)], encStr x, undef, undef, undef, undef, undef], defers := [] }) ?assign ?body ?done ?stop
  case assign =>
    intro l x W K hK
    gi_wp2
    exact hK
  case body =>
    rintro l pre x W ⟨⟨v, hv, hr, _⟩, hb⟩ hlen
    obtain ⟨m, hm'⟩ : ∃ m, (X0 ++ pre).length = m := ⟨_, rfl⟩
    have hm2 : m < 100000000 := by rw [← hm', List.length_append]; omega
    have HB := Lib.hid hb; have HV := Lib.hid hv; have HR := Lib.hid hr; have HM := Lib.hid hm'
    rw [hm'] at HR
    obtain ⟨o, cap, rfl⟩ := own_slice HR.out
    have c2 := hv.cell
    obtain ⟨i1, hi1, hz0, hz1, hz2⟩ := info_parts info_s
    have HI1 := Lib.hid hi1; have HZ0 := Lib.hid hz0; have HZ1 := Lib.hid hz1; have HZ2 := Lib.hid hz2
    clear hb hv hr hm' hi1 hz0 hz1 hz2 hlen
    have hBW : B ≤ W.heap.size := by have := HB.out.size; omega
    gi_wp2_with (gi_at_builtin; refine wpListIn_append_own _ rfl _ _ 34 rfl B 9 i1 (.string ⟨#[]⟩) 1 16 Try.underlying34 HI1.out HZ0.out HZ1.out HZ2.out rfl (by decide) _ _ _ rfl (HR.out.alloc _) ⟨W.heap.size, 0, none⟩ 1 1 [encStr x] rfl rfl (cell_one_new _ _ _) one_enc (by unfold maxLen; omega) (by omega) (by simp; omega) ?_; intro v' W4 hown hgrow _; obtain ⟨b4, b5, r5, k5, l5⟩ := HV.out.appended (by decide) HR.out hBW (by omega) hown hgrow; have z7 := b4.cell; have y7 := b4.frozen; have H5 := Lib.hid b5; have R5 := Lib.hid r5; have K5 := Lib.hid k5; have L5 := Lib.hid l5; obtain ⟨g', cap', rfl⟩ := ownsRow_succ hown; clear hown hgrow b4 b5 r5 k5 l5)
    refine ⟨K5.out, K5.out.walks, ⟨_, H5.out, ?_, trivial⟩, HB.out.trans L5.out⟩
    rw [← List.append_assoc, List.length_append, HM.out, encs_app]
    exact R5.out
  case done =>
    rintro D xs W hD hS ⟨⟨v, hv, hr, _⟩, hb⟩ hdef
    have c2 := hv.cell
    have HR := Lib.hid hr; have HB := Lib.hid hb; have HD := Lib.hid hdef; have HS := Lib.hid hS
    clear hr hb hdef hv hS
    gi_wp2
    refine ⟨by simp, .inl ⟨_, _, rfl, run_takeDeferred HD.out, ?_⟩⟩
    exact ⟨v, by simp [results, Try.results32, go_sem], v, xs, rfl, HS.out, ownsRow_putObj HR.out _ HD.out rfl, HB.out.grown (grownBy_putObj' W _ _) (by have := HB.out.size; omega) (fun k e => by cases e; omega)⟩
  case stop =>
    rintro D c pre W _ _ h _
    exact h.elim
end Go.Proofs.Ythkcmdlfdaggmaa
