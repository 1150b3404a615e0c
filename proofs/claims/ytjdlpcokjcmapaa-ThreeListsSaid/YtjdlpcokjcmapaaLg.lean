/- Lists' edits: the closures that take an edit each. -/
import Derived.Test.YtjdlpcokjcmapaaLf
import Derived.Maps.AppendAt
set_option linter.unusedVariables false
set_option linter.unusedSimpArgs false
namespace Go.Proofs.Ytjdlpcokjcmapaa
open Go.RowKit
variable {w w' : World}

def zJ (t : EdJ) : EdZ := ((t.1 : Int), t.2.1)
def MtAt (p : Nat) (keep : Nat → Prop) (l : List EdJ) (w : World) : Prop :=
  ∃ v, Boxed w p 52 v ∧ w.ownsRow 0 3 1 v (l.flatMap mtJ).length (intV (l.flatMap mtJ)) ∧ ∀ k, v.ownBlock = some k → ¬ keep k
theorem MtAt.below {p : Nat} {keep : Nat → Prop} {l : List EdJ} (h : MtAt p keep l w) (hb : Below w.heap.size w w') : MtAt p keep l w' := by
  obtain ⟨v, h1, h2, h3⟩ := h
  exact ⟨v, (hb.block p h1.lt).trans h1, own_below h2 hb, h3⟩
theorem MtAt.weak {p : Nat} {k1 k2 : Nat → Prop} {l : List EdJ} (h : MtAt p k1 l w) (hk : ∀ k, k2 k → k1 k) : MtAt p k2 l w := by
  obtain ⟨v, h1, h2, h3⟩ := h
  exact ⟨v, h1, h2, fun k hv hk2 => h3 k hv (hk k hk2)⟩
theorem MtAt.lt {p : Nat} {keep : Nat → Prop} {l : List EdJ} (h : MtAt p keep l w) : p < w.heap.size := by
  obtain ⟨v, h1, _⟩ := h; exact h1.lt
/-- What an append and the store into the box leave. -/
theorem put_box {p : Nat} {keep : Nat → Prop} {T E : TypeId} {s n k : Nat} {v v' : Value} {xs ys : List Value} {W w4 : World} {o : Obj} (hTE : T ≠ E) (hk : ∀ k, keep k → k < w.heap.size) (hp : ¬ keep p)
    (hW : Below w.heap.size w W) (hbx : Boxed w p T v) (hrow : W.ownsRow 0 E s v n xs) (hne : ∀ k, v.ownBlock = some k → ¬ keep k) (hown : w4.ownsRow 0 E s v' k ys) (hg : (W.alloc o).grownBy w4 v.ownBlock) (ho : v'.ownBlock = v.ownBlock ∨ v'.ownBlock = some (W.alloc o).heap.size) :
    Boxed w4 p T v ∧ Boxed (w4.setCell ⟨p, 0, none⟩ v') p T v' ∧ (w4.setCell ⟨p, 0, none⟩ v').ownsRow 0 E s v' k ys ∧ (∀ k, v'.ownBlock = some k → ¬ keep k) ∧ Keeps keep w (w4.setCell ⟨p, 0, none⟩ v') := by
  have hbW : Boxed W p T v := (hW.block p hbx.lt).trans hbx
  have hnr := hbW.not_row hTE hrow
  have hb4 : Boxed w4 p T v := (hg.block p (by have := hbW.lt; simp; omega) hnr).trans (Lib.alloc_old _ _ _ hbW.lt |>.trans hbW)
  have hnr4 := hb4.not_row hTE hown
  refine ⟨hb4, Boxed.set _ hb4, own_keep hown (fun j hj => Below.heap_setCell w4 ⟨p, 0, none⟩ v' j (fun e => hnr4 (by rw [hj, e]))), fun j hj hkj => ?_, ⟨⟨hg.os.trans hW.os, hg.tape.trans hW.tape, hg.output.trans hW.output, ?_, fun j hj => absurd hj (Nat.not_lt_zero j)⟩, ?_, fun j hj => ?_⟩⟩
  · rcases ho with ho | ho
    · exact hne j (ho ▸ hj) hkj
    · rw [ho] at hj; injection hj with hj
      have h1 := hk j hkj; have h2 := hW.size; simp at hj; omega
  · have h1 := hg.size; have h2 := hW.size; simp at h1 ⊢; omega
  · have h1 := hg.size; have h2 := hW.size; simp at h1 ⊢; omega
  · have h1 := hk j hj
    have h2 := hW.size
    refine (Below.heap_setCell w4 ⟨p, 0, none⟩ v' j (fun e => hp ((show j = p from e) ▸ hj))).trans ((hg.block j (by simp; omega) (fun e => hne j e.symm hj)).trans ((Lib.alloc_old _ _ _ (by omega)).trans (hW.block j h1)))
theorem mt_le (l : List EdJ) : (l.flatMap mtJ).length ≤ l.length := by
  induction l with
  | nil => exact Nat.le_refl _
  | cons t l ih =>
    have : (mtJ t).length ≤ 1 := by unfold mtJ; split <;> (try split) <;> simp
    rw [List.flatMap_cons, List.length_append, List.length_cons]; omega
set_option maxHeartbeats 2000000 in
set_option maxRecDepth 100000 in
theorem match1_any (p : Nat) (keep : Nat → Prop) (l : List EdJ) (op : Nat) (s : ByteArray) (j : Nat) (w : World) (hl : l.length ≤ 10000) (hop : op = 0 ∨ op = 1 ∨ op = 2) (hk : ∀ k, keep k → k < w.heap.size) (hp : ¬ keep p) (h : MtAt p keep l w) :
    Calls Try.prog 39 #[.agg #[.int .i64 (op : Nat), .string s], .int .i64 (j : Nat), .pointer (some ⟨p, 0, none⟩)] w fun e w' => e = .returned (.tuple #[]) ∧ MtAt p keep (l ++ [(op, s, j)]) w' ∧ Keeps keep w w' := by
  have HM := Lib.hid h
  obtain ⟨v, hbx, hrow, hne⟩ := h
  obtain ⟨o, cap, rfl, _⟩ := own_at hrow
  obtain ⟨i1, hi1, hz0, hz1, hz2⟩ := info_parts info_i
  have HI1 := Lib.hid hi1; have HZ0 := Lib.hid hz0; have HZ1 := Lib.hid hz1; have HZ2 := Lib.hid hz2
  have hll := mt_le l
  have hnl : (l.flatMap mtJ).length ≤ 10000 := Nat.le_trans hll hl
  rcases hop with rfl | rfl | rfl
  · have hB0 : Below w.heap.size w (w.alloc (.cells #[.int .i64 0, .string s] 68)) := (Below.refl _ _).alloc (Nat.le_refl _) _
    have HB0 := Lib.hid hB0
    have HBX := Lib.hid hbx; have HROW := Lib.hid (own_below hrow hB0); have HNE := Lib.hid hne; have HK := Lib.hid hk; have HP := Lib.hid hp
    have hpl := hbx.lt
    have cp : (w.alloc (.cells #[.int .i64 0, .string s] 68)).cell? ⟨p, 0, none⟩ = some (.slice o (l.flatMap mtJ).length cap) := (hB0.cell (p := ⟨p, 0, none⟩) hpl).trans hbx.cell
    have HF : Hid (∀ k, (l ++ [((k : Nat), s, j)]).flatMap mtJ = l.flatMap mtJ ++ mtJ (k, s, j)) := Lib.hid (fun k => by rw [List.flatMap_append]; simp)
    obtain ⟨zs, hzs⟩ : ∃ zs, l.flatMap mtJ = zs := ⟨_, rfl⟩
    rw [hzs] at HF HBX HROW HNE cp hnl
    obtain ⟨n, hnn⟩ : ∃ n, zs.length = n := ⟨_, rfl⟩
    have HNN := Lib.hid hnn
    rw [hnn] at hnl cp HROW HBX HNE
    clear hi1 hz0 hz1 hz2 hbx hrow hne hk hp hB0 hnn hzs hll
    show Calls _ _ #[.agg #[.int .i64 0, .string s], _, _] _ _
    go_enter Try.func39, Try.ntmps39
    go_wp2_with (at_builtin; (refine wpList_append_own_at _ rfl _ _ 52 rfl 0 3 i1 (.int .i64 0) 1 8 Try.underlying52 HI1.out HZ0.out HZ1.out HZ2.out rfl (by decide) _ _ _ rfl (HROW.out.alloc _) ⟨w.heap.size + 1, 0, none⟩ 1 1 [.int .i64 (j : Nat)] rfl rfl (by simpa using cell_one_new (w.alloc (.cells #[.int .i64 0, .string s] 68)) 3 (.int .i64 (j : Nat))) one_memI (by unfold maxLen; omega) (by omega) (Nat.zero_le _) ?_); intro v' w4 hown hgrow _ hob; obtain ⟨o2, cap2, hv2, _⟩ := own_at hown; subst hv2; have HX := Lib.hid (put_box (by decide) HK.out HP.out HB0.out HBX.out HROW.out HNE.out hown hgrow hob); have cp4 := HX.out.1.cell; have cf4 := HX.out.1.frozen; clear hown hgrow hob)
    go_end0
    refine ⟨rfl, ⟨_, HX.out.2.1, ?_, HX.out.2.2.2.1⟩, HX.out.2.2.2.2⟩
    rw [HF.out]
    show World.ownsRow _ _ _ _ _ (zs ++ [((j : Nat) : Int)]).length (intV (zs ++ [((j : Nat) : Int)]))
    rw [List.length_append, HNN.out]
    unfold intV
    rw [List.map_append]
    exact HX.out.2.2.1
  · have hB0 : Below w.heap.size w (w.alloc (.cells #[.int .i64 1, .string s] 68)) := (Below.refl _ _).alloc (Nat.le_refl _) _
    have HB0 := Lib.hid hB0
    have HBX := Lib.hid hbx; have HROW := Lib.hid (own_below hrow hB0); have HNE := Lib.hid hne; have HK := Lib.hid hk; have HP := Lib.hid hp
    have hpl := hbx.lt
    have cp : (w.alloc (.cells #[.int .i64 1, .string s] 68)).cell? ⟨p, 0, none⟩ = some (.slice o (l.flatMap mtJ).length cap) := (hB0.cell (p := ⟨p, 0, none⟩) hpl).trans hbx.cell
    have HF : Hid (∀ k, (l ++ [((k : Nat), s, j)]).flatMap mtJ = l.flatMap mtJ ++ mtJ (k, s, j)) := Lib.hid (fun k => by rw [List.flatMap_append]; simp)
    obtain ⟨zs, hzs⟩ : ∃ zs, l.flatMap mtJ = zs := ⟨_, rfl⟩
    rw [hzs] at HF HBX HROW HNE cp hnl
    obtain ⟨n, hnn⟩ : ∃ n, zs.length = n := ⟨_, rfl⟩
    have HNN := Lib.hid hnn
    rw [hnn] at hnl cp HROW HBX HNE
    clear hi1 hz0 hz1 hz2 hbx hrow hne hk hp hB0 hnn hzs hll
    show Calls _ _ #[.agg #[.int .i64 1, .string s], _, _] _ _
    go_enter Try.func39, Try.ntmps39
    go_wp2_with (at_builtin; (refine wpList_append_own_at _ rfl _ _ 52 rfl 0 3 i1 (.int .i64 0) 1 8 Try.underlying52 HI1.out HZ0.out HZ1.out HZ2.out rfl (by decide) _ _ _ rfl (HROW.out.alloc _) ⟨w.heap.size + 1, 0, none⟩ 1 1 [.int .i64 (-1)] rfl rfl (by simpa using cell_one_new (w.alloc (.cells #[.int .i64 1, .string s] 68)) 3 (.int .i64 (-1))) one_memI (by unfold maxLen; omega) (by omega) (Nat.zero_le _) ?_); intro v' w4 hown hgrow _ hob; obtain ⟨o2, cap2, hv2, _⟩ := own_at hown; subst hv2; have HX := Lib.hid (put_box (by decide) HK.out HP.out HB0.out HBX.out HROW.out HNE.out hown hgrow hob); have cp4 := HX.out.1.cell; have cf4 := HX.out.1.frozen; clear hown hgrow hob)
    go_end0
    refine ⟨rfl, ⟨_, HX.out.2.1, ?_, HX.out.2.2.2.1⟩, HX.out.2.2.2.2⟩
    rw [HF.out]
    show World.ownsRow _ _ _ _ _ (zs ++ [(-1 : Int)]).length (intV (zs ++ [(-1 : Int)]))
    rw [List.length_append, HNN.out]
    unfold intV
    rw [List.map_append]
    exact HX.out.2.2.1
  · have hB0 : Below w.heap.size w (w.alloc (.cells #[.int .i64 2, .string s] 68)) := (Below.refl _ _).alloc (Nat.le_refl _) _
    have HB0 := Lib.hid hB0
    have HBX := Lib.hid hbx; have HROW := Lib.hid (own_below hrow hB0); have HNE := Lib.hid hne; have HK := Lib.hid hk; have HP := Lib.hid hp
    have hpl := hbx.lt
    have cp : (w.alloc (.cells #[.int .i64 2, .string s] 68)).cell? ⟨p, 0, none⟩ = some (.slice o (l.flatMap mtJ).length cap) := (hB0.cell (p := ⟨p, 0, none⟩) hpl).trans hbx.cell
    have HF : Hid (∀ k, (l ++ [((k : Nat), s, j)]).flatMap mtJ = l.flatMap mtJ ++ mtJ (k, s, j)) := Lib.hid (fun k => by rw [List.flatMap_append]; simp)
    obtain ⟨zs, hzs⟩ : ∃ zs, l.flatMap mtJ = zs := ⟨_, rfl⟩
    rw [hzs] at HF HBX HROW HNE cp hnl
    obtain ⟨n, hnn⟩ : ∃ n, zs.length = n := ⟨_, rfl⟩
    have HNN := Lib.hid hnn
    rw [hnn] at hnl cp HROW HBX HNE
    clear hi1 hz0 hz1 hz2 hbx hrow hne hk hp hB0 hnn hzs hll
    show Calls _ _ #[.agg #[.int .i64 2, .string s], _, _] _ _
    go_enter Try.func39, Try.ntmps39
    go_wp2_with fail
    go_end0
    have hm : MtAt p keep (l ++ [(2, s, j)]) w := by
      obtain ⟨v, h1, h2, h3⟩ := HM.out
      exact ⟨v, h1, by rw [show (l ++ [((2 : Nat), s, j)]).flatMap mtJ = l.flatMap mtJ by rw [List.flatMap_append]; simp [mtJ]]; exact h2, h3⟩
    exact ⟨rfl, hm.below HB0.out, Keeps.of_below HB0.out HK.out⟩
end Go.Proofs.Ytjdlpcokjcmapaa
