/- Keyed lists: conflicts; what settles them. -/
import Derived.Test.YthkcmdlfdaggmaaHj
set_option linter.unusedVariables false
set_option linter.unusedSimpArgs false
namespace Go.Proofs.Ythkcmdlfdaggmaa
open Go.RowKit Go.Maps Go.WideShapes
variable {w w' : World}

abbrev CfB := ByteArray × SdB × SdB × SdB
def cells7 (p : CfB) : List Value := [.string p.1, .string p.2.1.1, .bool p.2.1.2, .string p.2.2.1.1, .bool p.2.2.1.2, .string p.2.2.2.1, .bool p.2.2.2.2]
abbrev cfV (p : CfB) : Value := .agg #[.string p.1, .string p.2.1.1, .bool p.2.1.2, .string p.2.2.1.1, .bool p.2.2.1.2, .string p.2.2.2.1, .bool p.2.2.2.2]
def flatF (l : List CfB) : List Value := l.flatMap cells7
theorem flatF_snoc (l : List CfB) (p : CfB) : flatF (l ++ [p]) = flatF l ++ cells7 p := by unfold flatF; rw [List.flatMap_append]; simp
theorem flatF_get : ∀ (l : List CfB) (k : Nat) (p : CfB), l[k]? = some p → ∀ (j : Nat) (u : Value), (cells7 p)[j]? = some u → (flatF l)[k * 7 + j]? = some u
  | [], k, p, h => by simp at h
  | q :: l, 0, p, h => fun j u hu => by
    simp at h; subst h
    have hj : j < 7 := by have := (List.getElem?_eq_some_iff.1 hu).1; simpa [cells7] using this
    have e : flatF (q :: l) = cells7 q ++ flatF l := rfl
    rw [e, Nat.zero_mul, Nat.zero_add, List.getElem?_append_left (by simpa [cells7] using hj)]; exact hu
  | q :: l, k + 1, p, h => fun j u hu => by
    rw [List.getElem?_cons_succ] at h
    have := flatF_get l k p h j u hu
    have e : flatF (q :: l) = cells7 q ++ flatF l := rfl
    rw [e, List.getElem?_append_right (by simp [cells7]; omega)]
    rw [show (k + 1) * 7 + j - (cells7 q).length = k * 7 + j by simp [cells7]; omega]; exact this
/-- A list of conflicts lies in memory. -/
def CfAt (w : World) (o : Option Addr) (l : List CfB) : Prop :=
  ∀ k p, l[k]? = some p → ∃ b i, o = some ⟨b, i, none⟩ ∧ ∀ (j : Nat) (u : Value), (cells7 p)[j]? = some u → w.cell? ⟨b, i + k * 7 + j, none⟩ = some u
theorem CfAt.below {o : Option Addr} {l : List CfB} (h : CfAt w o l) (hb : Below w.heap.size w w') : CfAt w' o l := fun k p hk => by
  obtain ⟨b, i, h2, h3⟩ := h k p hk
  have e := hb.block b (World.block_lt_of_cell? w _ (h3 0 _ rfl))
  exact ⟨b, i, h2, fun j u hu => (cell_keep e).trans (h3 j u hu)⟩
theorem own_cfs {B : Nat} {v : Value} {l : List CfB} {e : TypeId} (h : w.ownsRow B e 7 v l.length (flatF l)) : ∃ a cap, v = .slice a l.length cap ∧ CfAt w a l := by
  obtain ⟨a, cap, rfl, h0 | ⟨g, rfl, hB, hg, hc⟩⟩ := own_at h
  · exact ⟨a, cap, rfl, fun k p hk => by have := (List.getElem?_eq_some_iff.1 hk).1; omega⟩
  · exact ⟨_, cap, rfl, fun k p hk => ⟨g, 0, rfl, fun j u hu => by rw [Nat.zero_add]; exact hc _ _ (flatF_get l k p hk j u hu)⟩⟩
theorem mem7 {p : CfB} : ∀ u ∈ cells7 p, u.oneCell' = true := by
  intro u hu; simp [cells7] at hu; rcases hu with rfl | rfl | rfl | rfl | rfl | rfl | rfl <;> rfl
theorem info_cf : (Try.prog.info? 57).map (fun i => (i.zero, i.size, i.bytes)) = some (some (.agg #[.string ⟨#[]⟩, .string ⟨#[]⟩, .bool false, .string ⟨#[]⟩, .bool false, .string ⟨#[]⟩, .bool false]), 7, 88) := by kernel_rfl
/-- What the two sides agree on. -/
def settleK (p o t : SdB) : SdB × Bool := if o = t ∨ t = p then (o, true) else if o = p then (t, true) else (sd0, false)
theorem settled_below (w : World) (A B : Obj) : Below w.heap.size w ((w.alloc A).alloc B) := ((Below.refl w.heap.size w).alloc (Nat.le_refl _) A).alloc (by simp) B
theorem settled_cell0 (w : World) (A : Obj) (a b : Value) (t : TypeId) : ((w.alloc A).alloc (.cells #[a, b] t)).cell? ⟨w.heap.size + 1, 0, none⟩ = some a := by
  have h := World.alloc_heap_new (w.alloc A) (.cells #[a, b] t)
  rw [World.size_alloc] at h
  rw [cell_of_row h]; rfl
theorem settled_cell1 (w : World) (A : Obj) (a b : Value) (t : TypeId) : ((w.alloc A).alloc (.cells #[a, b] t)).cell? ⟨w.heap.size + 1, 1, none⟩ = some b := by
  have h := World.alloc_heap_new (w.alloc A) (.cells #[a, b] t)
  rw [World.size_alloc] at h
  rw [cell_of_row h]; rfl
set_option maxHeartbeats 4000000 in
set_option maxRecDepth 100000 in
theorem settled_any (c : CfB) (w : World) :
    Calls Try.prog 29 #[cfV c] w fun e w' => e = .returned (.tuple #[sdV (settleK c.2.1 c.2.2.1 c.2.2.2).1, .bool (settleK c.2.1 c.2.2.1 c.2.2.2).2]) ∧ Below w.heap.size w w' := by
  obtain ⟨k, ⟨p1, p2⟩, ⟨o1, o2⟩, t1, t2⟩ := c
  have h1 := run_eq_sd (o1, o2) (t1, t2)
  have h2 := run_eq_sd (t1, t2) (p1, p2)
  have h3 := run_eq_sd (o1, o2) (p1, p2)
  have hz : (Try.prog.info? 39).map (fun i => (i.zero, i.size, i.bytes)) = some (some (.agg #[.string ⟨#[]⟩, .bool false]), 2, 24) := info_sd
  obtain ⟨r, hr⟩ : ∃ r, settleK (p1, p2) (o1, o2) (t1, t2) = r := ⟨_, rfl⟩
  have HRR := Lib.hid hr
  dsimp only
  rw [hr]
  clear hr
  (try dsimp only at h1); (try dsimp only at h2); (try dsimp only at h3)
  by_cases c1 : ((o1, o2) : SdB) = (t1, t2)
  · have HE : Hid (r = ((o1, o2), true)) := Lib.hid (by rw [← HRR.out]; unfold settleK; rw [if_pos (.inl c1)])
    rw [decide_eq_true c1] at h1
    clear c1 h2 h3
    go_enter Try.func29, Try.ntmps29
    go_wp2_with fail
    refine bodyPost_ret (v := .tuple #[sdV (o1, o2), .bool true]) ?_ rfl ⟨by first | (rw [HE.out]; done) | (rw [HE.out]; rfl), settled_below w _ _⟩
    simp [results, Try.results29, go_sem, settled_cell0, settled_cell1]
  rw [decide_eq_false c1] at h1
  by_cases c2 : ((t1, t2) : SdB) = (p1, p2)
  · have HE : Hid (r = ((o1, o2), true)) := Lib.hid (by rw [← HRR.out]; unfold settleK; rw [if_pos (.inr c2)])
    rw [decide_eq_true c2] at h2
    clear c1 c2 h3
    go_enter Try.func29, Try.ntmps29
    go_wp2_with fail
    refine bodyPost_ret (v := .tuple #[sdV (o1, o2), .bool true]) ?_ rfl ⟨by first | (rw [HE.out]; done) | (rw [HE.out]; rfl), settled_below w _ _⟩
    simp [results, Try.results29, go_sem, settled_cell0, settled_cell1]
  rw [decide_eq_false c2] at h2
  by_cases c3 : ((o1, o2) : SdB) = (p1, p2)
  · have HE : Hid (r = ((t1, t2), true)) := Lib.hid (by rw [← HRR.out]; unfold settleK; rw [if_neg (fun h => h.elim c1 c2), if_pos c3])
    rw [decide_eq_true c3] at h3
    clear c1 c2 c3
    go_enter Try.func29, Try.ntmps29
    go_wp2_with fail
    refine bodyPost_ret (v := .tuple #[sdV (t1, t2), .bool true]) ?_ rfl ⟨by first | (rw [HE.out]; done) | (rw [HE.out]; rfl), settled_below w _ _⟩
    simp [results, Try.results29, go_sem, settled_cell0, settled_cell1]
  · have HE : Hid (r = (sd0, false)) := Lib.hid (by rw [← HRR.out]; unfold settleK; rw [if_neg (fun h => h.elim c1 c2), if_neg c3])
    rw [decide_eq_false c3] at h3
    clear c1 c2 c3
    go_enter Try.func29, Try.ntmps29
    go_wp2_with fail
    refine bodyPost_ret (v := .tuple #[sdV (⟨#[]⟩, false), .bool false]) ?_ rfl ⟨by first | (rw [HE.out]; done) | (rw [HE.out]; rfl), settled_below w _ _⟩
    simp [results, Try.results29, go_sem, settled_cell0, settled_cell1]
end Go.Proofs.Ythkcmdlfdaggmaa
