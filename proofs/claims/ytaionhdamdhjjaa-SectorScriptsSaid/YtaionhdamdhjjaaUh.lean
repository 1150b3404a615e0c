/- The document's disk: New. -/
import Derived.Test.YtaionhdamdhjjaaUg
namespace Go.Proofs.Ytaionhdamdhjjaa
open Go.RowKit
variable {B n g gl cl : Nat} {vw vk : Value} {S : DS} {w : World}

theorem RNew_bad (i : Int) (w : World) (h : ¬ (1 ≤ i ∧ i ≤ 4096)) :
    Calls Try.prog 7 #[.int .i64 i] w fun e w' => e = .returned (.pointer none) ∧ w' = w := by
  by_cases h1 : i < 1
  · go_enter Try.func7, Try.ntmps7
    go_wp2_with fail
    go_ret
    exact ⟨rfl, rfl⟩
  · have h2 : 4096 < i := by omega
    go_enter Try.func7, Try.ntmps7
    go_wp2_with fail
    go_ret
    exact ⟨rfl, rfl⟩
def RnS (g n : Nat) (w : World) (kv : Value) (wr : World) : Prop :=
  ∃ (k : Nat) (lo : Option Addr) (lc : Nat), k ≤ n ∧ kv = .int .i64 k ∧ RefAt g (.slice lo k lc) (.slice none 0 0) 0 (.slice none 0 0) false 0 wr ∧ wr.ownsRow w.heap.size 9 1 (.slice lo k lc) k ((List.replicate k zeroB).map Value.string) ∧ Below w.heap.size w wr
theorem Full_zero (w : World) : Calls Try.prog 25 #[.string ⟨#[]⟩] w fun e w' => e = .returned (.string zeroB) ∧ Below w.heap.size w w' := Full_any ⟨#[]⟩ w (by decide)
theorem RNew_step {w wr wp : World} {k : Nat} {lo : Option Addr} {lc : Nat} (hR : RefAt w.heap.size (.slice lo k lc) (.slice none 0 0) 0 (.slice none 0 0) false 0 wr) (hO : wr.ownsRow w.heap.size 9 1 (.slice lo k lc) k ((List.replicate k zeroB).map Value.string)) (hBl : Below w.heap.size w wr) (hb : Below wr.drew.heap.size wr.drew wp) (hlt : k < n) (gx cap : Nat) (w3 : World)
    (ho : w3.ownsRow w.heap.size 9 1 (.slice (some ⟨gx, 0, none⟩) (k + 1) cap) (k + 1) ((List.replicate k zeroB).map Value.string ++ [Value.string zeroB])) (hg : (wp.alloc (.cells #[.string zeroB] 9)).grownBy w3 (Value.slice lo k lc).ownBlock) :
    RefAt w.heap.size (.slice lo k lc) (.slice none 0 0) 0 (.slice none 0 0) false 0 w3 ∧ RnS w.heap.size n w (.int .i64 ((k : Int) + 1)) (w3.setCell ⟨w.heap.size, 0, none⟩ (.slice (some ⟨gx, 0, none⟩) (k + 1) cap)) := by
  have hz : wr.heap.size ≤ wp.heap.size := hb.size
  have hgl := hR.lt
  have hne : ∀ x, (Value.slice lo k lc).ownBlock = some x → x ≠ w.heap.size := fun x hx => own_ne hO hx (show wr.heap[w.heap.size]? = _ from hR) (by decide)
  have hR3 : RefAt w.heap.size (.slice lo k lc) (.slice none 0 0) 0 (.slice none 0 0) false 0 w3 :=
    (hg.block w.heap.size (by show _ < (wp.heap.push _).size; simp; omega) (fun e => hne _ e.symm rfl)).trans ((Lib.alloc_old wp _ _ (by omega)).trans ((hb.block _ hgl).trans hR))
  have hB3 : Below w.heap.size w w3 := by
    have h1 : Below w.heap.size w wp := hBl.trans ⟨hb.os, hb.tape, hb.output, hb.size, fun b hb' => hb.block b (by show b < wr.heap.size; omega)⟩
    have h2 : Below w.heap.size w (wp.alloc (.cells #[.string zeroB] 9)) := h1.alloc h1.size _
    exact h2.trans ⟨hg.os, hg.tape, hg.output, hg.size, fun b hb' => hg.block b (Nat.lt_of_lt_of_le hb' h2.size) (fun e => absurd (hO.lt b e.symm).1 (by omega))⟩
  have hv3 : ∀ x, (Value.slice (some ⟨gx, 0, none⟩) (k + 1) cap).ownBlock = some x → x ≠ w.heap.size := fun x hx => own_ne ho hx (show w3.heap[w.heap.size]? = _ from hR3) (by decide)
  refine ⟨hR3, k + 1, some ⟨gx, 0, none⟩, cap, by omega, by rw [Int.natCast_succ], hR3.set 0 _, ?_, hB3.setCell (p := ⟨w.heap.size, 0, none⟩) (Nat.le_refl _) _⟩
  have e : (List.replicate (k + 1) zeroB).map Value.string = (List.replicate k zeroB).map Value.string ++ [Value.string zeroB] := by
    rw [List.replicate_succ', List.map_append]; rfl
  rw [e]
  exact own_same ho fun b hb' => Below.heap_setCell _ _ _ _ (by show b ≠ w.heap.size; exact hv3 b hb')
set_option maxHeartbeats 2000000 in
set_option maxRecDepth 100000 in
theorem RNew (n : Nat) (w : World) (hn : 1 ≤ n) (hn2 : n ≤ 4096) :
    Calls Try.prog 7 #[.int .i64 n] w fun e w' => ∃ g gl cl, e = .returned (.pointer (some ⟨g, 0, none⟩)) ∧ IsR w.heap.size n g gl cl (.slice none 0 0) (.slice none 0 0) (newS n) w' ∧ Below w.heap.size w w' := by
  have h1 : (1 : Int) ≤ n := by omega
  have h2 : (n : Int) ≤ 4096 := by omega
  obtain ⟨i0, hi0, hz0, hs0, hy0⟩ := info_parts info_str
  obtain ⟨w1, hw1⟩ : ∃ w1, w.alloc (.cells (rcells (.slice none 0 0) (.slice none 0 0) 0 (.slice none 0 0) false 0) 39) = w1 := ⟨_, rfl⟩
  have hR0 : RefAt w.heap.size (.slice none 0 0) (.slice none 0 0) 0 (.slice none 0 0) false 0 w1 := by rw [← hw1]; exact heap_alloc_new w _
  have hB0 : Below w.heap.size w w1 := by rw [← hw1]; exact (Below.refl _ _).alloc (Nat.le_refl _) _
  have hS : Hid (RnS w.heap.size n w (.int .i64 0) w1) := Lib.hid ⟨0, none, 0, Nat.zero_le _, rfl, hR0, World.ownsRow_nil _ _ _ _, hB0⟩
  have hw2 : w.alloc (.cells #[.slice none 0 0, .slice none 0 0, .int .i64 0, .slice none 0 0, .bool false, .int .i64 0] 39) = w1 := hw1
  clear hw1 hR0 hB0
  go_enter Try.func7, Try.ntmps7
  go_wp2_with fail
  try rw [hw2]
  obtain ⟨g, hg⟩ : ∃ g, w.heap.size = g := ⟨_, rfl⟩
  have HG := Lib.hid hg
  go_loopw [4] (fun kv wr => RnS w.heap.size n w kv wr) (fun kv _ => n - (intOf kv).toNat)
  case atStart => first | exact hS.out | (rw [hw2]; exact hS.out)
  case round =>
    obtain ⟨k, lo, lc, hk, rfl, hR, hO, hBl⟩ := hrel
    by_cases hlt : k < n
    · have hki : (k : Int) < n := by omega
      have hk9 : (k : Int) ≤ 4096 := by omega
      have c0 := hR.c0
      have HR := Lib.hid hR; have HO := Lib.hid hO; have HBl := Lib.hid hBl
      have hs : (⟨#[]⟩ : ByteArray).size ≤ 512 := by decide
      have HMX : Hid (k + 1 ≤ maxLen) := Lib.hid (by unfold maxLen; omega)
      have HBY : Hid ((k + 1) * 16 ≤ 140737488355328) := Lib.hid (by omega)
      clear hR hO hBl hg
      go_wp2_with fail
      go_region_law (first
        | (refine step_append_lies (wp.alloc (.cells #[.string zeroB] 9)) rfl (.tmp 22) (.tmp 24) 36 rfl w.heap.size 9 i0 _ 1 16 Try.underlying36 hi0 hz0 hs0 hy0 rfl (by decide) (.slice lo k lc) k ((List.replicate k zeroB).map Value.string) (by simp [Act.eval, Act.put]) HOa.out ⟨wp.heap.size, 0, none⟩ 1 1 [Value.string zeroB] (by simp [Act.eval, Act.put]) rfl HN2.out (by intro u hu; simp at hu; rw [hu]; rfl) (by decide) HMX.out HBY.out HBS.out (wp.heap.size + 1) HW0.out ?_; intro gx cap w3 hown hgrow hat hlt; have hR3 := HST.out gx cap w3 hown hgrow; have c0' := hR3.1.c0; have f0' := hR3.1.free 0; have HE := Lib.hid hR3.2; clear hR3 hown hgrow hat hlt)
        | (go_simp; go_at_call 25; refine (Full_zero _).mono ?_; rintro e wp ⟨rfl, hb⟩; have hRp : RefAt w.heap.size (.slice lo k lc) (.slice none 0 0) 0 (.slice none 0 0) false 0 wp := (hb.block w.heap.size HR.out.lt).trans HR.out; have c0p := hRp.c0; have c0a : (wp.alloc (.cells #[.string zeroB] 9)).cell? ⟨w.heap.size, 0, none⟩ = some (.slice lo k lc) := (World.cell?_alloc_past _ _ _ hRp.lt).trans c0p; have HOa : Hid ((wp.alloc (.cells #[.string zeroB] 9)).ownsRow w.heap.size 9 1 (.slice lo k lc) k ((List.replicate k zeroB).map Value.string)) := Lib.hid ((own_same HO.out (fun b e => hb.block b (HO.out.lt b e).2)).alloc _); have HN2 := Lib.hid (World.news_of_block (heap_alloc_new wp (.cells #[.string zeroB] 9))); have HW0 : Hid ((wp.alloc (.cells #[.string zeroB] 9)).heap.size = wp.heap.size + 1) := Lib.hid (by show (wp.heap.push _).size = _; simp); have HBS : Hid (w.heap.size ≤ (wp.alloc (.cells #[.string zeroB] 9)).heap.size) := Lib.hid (by rw [HW0.out]; have := hRp.lt; omega); have HST : Hid (∀ gx cap w3, w3.ownsRow w.heap.size 9 1 (.slice (some ⟨gx, 0, none⟩) (k + 1) cap) (k + 1) ((List.replicate k zeroB).map Value.string ++ [Value.string zeroB]) → (wp.alloc (.cells #[.string zeroB] 9)).grownBy w3 (Value.slice lo k lc).ownBlock → RefAt w.heap.size (.slice lo k lc) (.slice none 0 0) 0 (.slice none 0 0) false 0 w3 ∧ RnS w.heap.size n w (.int .i64 ((k : Int) + 1)) (w3.setCell ⟨w.heap.size, 0, none⟩ (.slice (some ⟨gx, 0, none⟩) (k + 1) cap))) := Lib.hid (RNew_step HR.out HO.out HBl.out hb hlt); clear hb hRp))
      all_goals go_wp2_with fail
      all_goals exact ⟨HE.out, by simp [intOf]; omega⟩
    · obtain rfl : k = n := by omega
      obtain ⟨gl, cl, hv, hgl, hrow⟩ := RowS.own hO (by omega)
      injection hv with hv1 hv2 hv3
      subst hv1
      have hend : Hid (IsR w.heap.size k w.heap.size gl lc (.slice none 0 0) (.slice none 0 0) (newS k) wr ∧ Below w.heap.size w wr) := Lib.hid ⟨⟨hR, hrow, List.length_replicate .., World.ownsRow_nil _ _ _ _, (fun p hp => by cases hp), Nat.le_refl _, hgl⟩, hBl⟩
      have c0 := hR.c0
      clear hR hO hBl hrow hv2 hv3
      go_wp2_with fail
      go_ret
      exact ⟨_, _, _, rfl, hend.out.1, hend.out.2⟩
end Go.Proofs.Ytaionhdamdhjjaa
