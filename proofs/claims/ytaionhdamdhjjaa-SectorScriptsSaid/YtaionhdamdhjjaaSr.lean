/- Sector: New. -/
import Derived.Test.YtaionhdamdhjjaaSq
namespace Go.Proofs.Ytaionhdamdhjjaa
open Go.RowKit
variable {B n g gd gc cd cc : Nat} {vw vk : Value} {S : DS} {w : World}

theorem New_bad (n : Int) (w : World) (h : ¬ (1 ≤ n ∧ n ≤ 4096)) :
    Calls Try.prog 6 #[.int .i64 n] w fun e w' => e = .returned (.tuple #[.pointer none, .int .i64 1]) ∧ w' = w := by
  by_cases h1 : n < 1
  · go_enter Try.func6, Try.ntmps6
    go_wp2_with fail
    go_ret2
    exact ⟨rfl, rfl⟩
  · have h2 : 4096 < n := by omega
    go_enter Try.func6, Try.ntmps6
    go_wp2_with fail
    go_ret2
    exact ⟨rfl, rfl⟩
/-- A sector's zeros. -/
def zeroB : ByteArray := padB ⟨#[]⟩
def newS (n : Nat) : DS := ⟨List.replicate n zeroB, List.replicate n zeroB, [], 0, 0, [], false⟩
theorem newD_of {w' : World} {cur cur2 : Array Value} (hg : w'.heap[gd]? = some (.cells cur 9 (0, 0))) (hc : ∀ j, j < n → cur[j]? = some (.string zeroB)) (hg2 : w'.heap[gc]? = some (.cells cur2 9 (0, 0))) (hc2 : ∀ j, j < n → cur2[j]? = some (.string zeroB))
    (hd : w'.heap[g]? = some (.cells (dcells (.slice (some ⟨gd, 0, none⟩) n cd) (.slice (some ⟨gc, 0, none⟩) n cc) (.slice none 0 0) 0 0 (.slice none 0 0) false) 63 (0, 0))) (hne : gd ≠ gc) (b1 : B ≤ g) (b2 : B ≤ gd) (b3 : B ≤ gc) :
    IsD B n g gd gc cd cc (.slice none 0 0) (.slice none 0 0) (newS n) w' :=
  have rr : ∀ i s, (List.replicate n zeroB)[i]? = some s → i < n ∧ s = zeroB := fun i s hs => by
    rw [List.getElem?_replicate] at hs
    split at hs
    · injection hs with hs; exact ⟨by assumption, hs.symm⟩
    · cases hs
  ⟨hd, ⟨cur, hg, fun i s hs => by rw [(rr i s hs).2]; exact hc i (rr i s hs).1⟩, ⟨cur2, hg2, fun i s hs => by rw [(rr i s hs).2]; exact hc2 i (rr i s hs).1⟩, List.length_replicate .., List.length_replicate .., World.ownsRow_nil _ _ _ _, (fun p hp => by cases hp), World.ownsRow_nil _ _ _ _, hne, b1, b2, b3⟩
set_option maxRecDepth 100000 in
theorem NewD (n : Nat) (w : World) (hn : 1 ≤ n) (hn2 : n ≤ 4096) :
    Calls Try.prog 6 #[.int .i64 n] w fun e w' => ∃ g gd gc cd cc, e = .returned (.tuple #[.pointer (some ⟨g, 0, none⟩), .int .i64 0]) ∧ IsD w.heap.size n g gd gc cd cc (.slice none 0 0) (.slice none 0 0) (newS n) w' ∧ Below w.heap.size w w' := by
  have h1 : (1 : Int) ≤ n := by omega
  have h2 : (n : Int) ≤ 4096 := by omega
  have h3 : (⟨#[]⟩ : ByteArray).size ≤ 512 := by decide
  go_enter Try.func6, Try.ntmps6
  go_wp2_with (go_at_call 23; refine (pad_any ⟨#[]⟩ w h3).mono ?_)
  rintro e w1 ⟨rfl, hb1⟩
  obtain ⟨Z, hZ⟩ : ∃ Z, padB ⟨#[]⟩ = Z := ⟨_, rfl⟩
  rw [hZ]
  have hB1 : Below w.heap.size w (w1.alloc (.cells #[.string Z] 9)) := hb1.alloc hb1.size _
  have q1 : (w1.alloc (.cells #[.string Z] 9)).cell? ⟨w1.heap.size, 0, none⟩ = some (.string Z) := by unfold World.cell?; simp only [heap_alloc_new w1]; rfl
  have HB1 := Lib.hid hB1; have HQ := Lib.hid q1; have HZ := Lib.hid hZ
  clear hB1 q1 hb1 hZ
  go_wp2_with (go_at_call 22; refine (Repeat_one w1.heap.size _ Z hn hn2 HQ.out).mono ?_)
  rintro e w2 ⟨gd, cur, rfl, hgd, hg, hz, hc, hb2⟩
  have hcl := Try.slices_Clone_string gd 0 n n (List.replicate n Z) w2 (by rw [List.length_replicate]; exact Nat.le_refl _) (by omega) (fun j hj => by
    rw [List.length_replicate] at hj
    rw [List.getD_eq_getElem?_getD, List.getElem?_replicate, if_pos hj, Nat.zero_add]
    unfold World.cell?
    simp only [hg]
    exact hc j hj)
  have HCL := Lib.hid hcl; have HG := Lib.hid hg; have HC := Lib.hid hc; have HGD := Lib.hid hgd; have HB2 := Lib.hid (HB1.out.trans (hb2.mono HB1.out.size)); have HSZ := Lib.hid (show w.heap.size ≤ gd from Nat.le_trans HB1.out.size hgd)
  clear hcl hg hc hgd hb2 hz
  go_wp2_with (go_at_call 24; refine HCL.out.mono ?_)
  rintro e w3 ⟨v', rfl, hown, _, hb3⟩
  obtain ⟨gc, cc, cur2, rfl, hgc, hg2, hc2⟩ : ∃ gc cc cur2, v' = .slice (some ⟨gc, 0, none⟩) n cc ∧ w2.heap.size ≤ gc ∧ w3.heap[gc]? = some (.cells cur2 9 (0, 0)) ∧ ∀ j, j < n → cur2[j]? = some (.string Z) := by
    rcases hown.2 with ⟨_, h4⟩ | ⟨gc, cap, cur2, hv, hB, hg2, _⟩
    · omega
    · refine ⟨gc, cap, cur2, hv, hB, hg2, fun j hj => ?_⟩
      have := hown.cells (g := gc) (by rw [hv]; rfl) j (.string Z) (by rw [List.getElem?_map, List.getElem?_take, if_pos hj, List.getElem?_replicate, if_pos hj]; rfl)
      rw [addr_at] at this
      unfold World.cell? at this
      simpa [hg2] using this
  have hlt : gd < w2.heap.size := (Array.getElem?_eq_some_iff.1 HG.out).1
  have hlt3 : gc < w3.heap.size := (Array.getElem?_eq_some_iff.1 hg2).1
  have hz : zeroB = Z := HZ.out
  have hg3 : w3.heap[gd]? = some (.cells cur 9 (0, 0)) := (hb3.block gd hlt).trans HG.out
  have hend := Lib.hid (show IsD w.heap.size n w3.heap.size gd gc n cc (.slice none 0 0) (.slice none 0 0) (newS n) (w3.alloc (.cells (dcells (.slice (some ⟨gd, 0, none⟩) n n) (.slice (some ⟨gc, 0, none⟩) n cc) (.slice none 0 0) 0 0 (.slice none 0 0) false) 63)) ∧ Below w.heap.size w (w3.alloc (.cells (dcells (.slice (some ⟨gd, 0, none⟩) n n) (.slice (some ⟨gc, 0, none⟩) n cc) (.slice none 0 0) 0 0 (.slice none 0 0) false) 63)) from
    have hB3 : Below w.heap.size w w3 := HB2.out.trans (hb3.mono HB2.out.size)
    ⟨newD_of ((Lib.alloc_old w3 _ gd (by have := hb3.size; omega)).trans hg3) (by rw [hz]; exact HC.out) ((Lib.alloc_old w3 _ gc hlt3).trans hg2) (by rw [hz]; exact hc2) (heap_alloc_new w3 _) (by omega) hB3.size HSZ.out (Nat.le_trans HB2.out.size hgc), hB3.alloc hB3.size _⟩)
  clear hown hg2 hc2 hgc hg3 hb3 HCL
  go_wp2_with fail
  go_ret2
  exact ⟨_, gd, gc, n, cc, rfl, hend.out.1, hend.out.2⟩
end Go.Proofs.Ytaionhdamdhjjaa
