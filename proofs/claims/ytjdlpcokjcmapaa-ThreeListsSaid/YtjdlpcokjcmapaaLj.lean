/- Lists' edits: Diff and Match. -/
import Derived.Test.YtjdlpcokjcmapaaLi
set_option linter.unusedVariables false
set_option linter.unusedSimpArgs false
namespace Go.Proofs.Ytjdlpcokjcmapaa
open Go.RowKit
variable {w w' : World}

theorem compare_long (oa ob : Option Addr) (n m ca cb : Nat) (f : Value) (w : World) (hn : n ≤ maxLen) (hm : m ≤ maxLen) (h : 4096 < n ∨ 4096 < m) :
    Calls Try.prog 38 #[.slice oa n ca, .slice ob m cb, f] w fun e w' => e = .returned (.int .i64 6) ∧ w' = w := by
  unfold maxLen at hn hm
  by_cases h1 : 4096 < n
  · have d0 : decide (4096 < n) = true := decide_eq_true h1
    have d1 : decide ((4096 : Int) < n) = true := decide_eq_true (by omega)
    go_enter Try.func38, Try.ntmps38
    go_wp2_with fail
    go_ret
    exact ⟨rfl, rfl⟩
  · have h2 : 4096 < m := by omega
    have d0 : decide (4096 < n) = false := decide_eq_false h1
    have d1 : decide ((4096 : Int) < n) = false := decide_eq_false (by omega)
    have d2 : decide (4096 < m) = true := decide_eq_true h2
    have d3 : decide ((4096 : Int) < m) = true := decide_eq_true (by omega)
    go_enter Try.func38, Try.ntmps38
    go_wp2_with fail
    go_ret
    exact ⟨rfl, rfl⟩
theorem keeps_below {o : Obj} (h : Keeps (fun k => k < (w.alloc o).heap.size ∧ k ≠ w.heap.size) (w.alloc o) w') : Below w.heap.size w w' :=
  ⟨h.low.os, h.low.tape, h.low.output, by have := h.size; simp at this; omega, fun j hj => (h.block j ⟨by simp; omega, Nat.ne_of_lt hj⟩).trans (Lib.alloc_old _ _ _ hj)⟩
theorem own_raise {B B' n s : Nat} {v : Value} {xs : List Value} {e : TypeId} (h : w.ownsRow B e s v n xs) (hb : ∀ k, v.ownBlock = some k → B' ≤ k) : w.ownsRow B' e s v n xs := by
  refine ⟨h.1, ?_⟩
  rcases h.2 with hv | ⟨g, cap, cur, hv, hB, r⟩
  · exact .inl hv
  · exact .inr ⟨g, cap, cur, hv, hb g (by rw [hv]; rfl), r⟩
theorem off_keep {k : Nat} {o : Obj} (h : ¬ (k < (w.alloc o).heap.size ∧ k ≠ w.heap.size)) : w.heap.size ≤ k := by simp at h; omega
set_option maxHeartbeats 2000000 in
set_option maxRecDepth 100000 in
theorem Match_any (oa ob : Option Addr) (a b : List ByteArray) (ca cb : Nat) (w : World) (hla : a.length ≤ 4096) (hlb : b.length ≤ 4096) (ha : TxAt w oa a) (hb : TxAt w ob b) :
    Calls Try.prog 26 #[.slice oa a.length ca, .slice ob b.length cb] w fun e w' => ∃ v, e = .returned (.tuple #[v, .int .i64 0]) ∧ w'.ownsRow w.heap.size 3 1 v (matchL a b).length (intV (matchL a b)) ∧ Below w.heap.size w w' := by
  have hB0 : Below w.heap.size w (w.alloc (.cells #[.slice none 0 0] 52)) := (Below.refl _ _).alloc (Nat.le_refl _) _
  have H1 := Lib.hid (cmpM_any oa ob a b ca cb w.heap.size (w.alloc (.cells #[.slice none 0 0] 52)) hla hlb (ha.below hB0) (hb.below hB0) (fun b i h h0 => Nat.ne_of_lt (ha.low b i h h0)) (fun b i h h0 => Nat.ne_of_lt (hb.low b i h h0)) (Boxed.new _ _ _))
  obtain ⟨n, hn⟩ : ∃ n, a.length = n := ⟨_, rfl⟩
  obtain ⟨m, hm⟩ : ∃ n, b.length = n := ⟨_, rfl⟩
  rw [hn, hm] at H1
  rw [hn, hm]
  clear ha hb hla hlb hn hm hB0
  go_enter Try.func26, Try.ntmps26
  go_wp2_with (go_at_call 38; (with_reducible refine H1.out.mono ?_); rintro e w2 ⟨rfl, ⟨v, hbx, hrow, hne⟩, hK⟩; have cb : w2.cell? ⟨w.heap.size, 0, none⟩ = some v := hbx.cell; have HBX := Lib.hid hbx; have HROW := Lib.hid hrow; have HNE := Lib.hid hne; have HK := Lib.hid hK; clear hbx hrow hne hK)
  refine bodyPost_ret (v := .tuple #[v, .int .i64 0]) (by simp [results, Try.results26, go_sem]) rfl ⟨v, rfl, ?_, keeps_below HK.out⟩
  have h := own_raise (B' := w.heap.size) HROW.out (fun k hk => off_keep (HNE.out k hk))
  exact h
theorem Match_long (oa ob : Option Addr) (n m ca cb : Nat) (w : World) (hn : n ≤ maxLen) (hm : m ≤ maxLen) (h : 4096 < n ∨ 4096 < m) :
    Calls Try.prog 26 #[.slice oa n ca, .slice ob m cb] w fun e w' => e = .returned (.tuple #[.slice none 0 0, .int .i64 6]) ∧ Below w.heap.size w w' := by
  have H1 := fun f W => Lib.hid (compare_long oa ob n m ca cb f W hn hm h)
  have HH := Lib.hid H1
  have hc : (w.alloc (.cells #[.slice none 0 0] 52)).cell? ⟨w.heap.size, 0, none⟩ = some (.slice none 0 0) := (Boxed.new w 52 (.slice none 0 0)).cell
  clear H1 hn hm h
  go_enter Try.func26, Try.ntmps26
  go_wp2_with (go_at_call 38; (with_reducible refine (HH.out _ _).out.mono ?_); rintro e w2 ⟨rfl, hw⟩; have hw := hw.symm; subst hw)
  exact bodyPost_ret (v := .tuple #[.slice none 0 0, .int .i64 6]) (by simp [results, Try.results26, go_sem]) rfl ⟨rfl, (Below.refl _ _).alloc (Nat.le_refl _) _⟩
end Go.Proofs.Ytjdlpcokjcmapaa
