/- Vocabularies: Parse. -/
import Derived.Test.YtmdhendfmhhniaaDoorVe
namespace Go.Proofs.YtmdhendfmhhniaaDoor
open Go.RowKit
variable {w w' : World}

theorem FrV.below {pb mb B : Nat} (h : FrV pb mb w w') (h1 : B ≤ pb) (h2 : B ≤ mb) (h3 : B ≤ w.heap.size) : Below B w w' :=
  ⟨h.low.os, h.low.tape, h.low.output, h.size, fun k hk => h.block k (by omega) (by omega) (by omega)⟩
theorem run_makeMapV (w : World) : (Sem.run Tryd.prog (Instr.makeMap 88 none) w) = .ok (.map (some w.heap.size)) (w.alloc (.map #[] 0)) := by
  have := Tryd.underlying88
  first | rfl | kernel_rfl | simp [Sem.run, this]
set_option maxHeartbeats 1000000 in
set_option maxRecDepth 100000 in
theorem ParseV_any (S : ByteArray) (w : World) (hS : S.size ≤ maxLen) (hw : StrAt w) :
    Calls Tryd.prog 42 #[.string S] w fun e w' => ∃ v, e = .returned (.tuple #[v, .int .i64 (parseV S).2.1, .int .i64 (parseV S).2.2]) ∧ w'.ownsRow w.heap.size 56 2 v (parseV S).1.length (flatE (parseV S).1) ∧ Below w.heap.size w w' := by
  have hmm := run_makeMapV
  obtain ⟨W, hW⟩ : ∃ W, ((w.alloc (.cells #[.int .i64 (-1)] 3)).alloc (.map #[] 0)).alloc (.cells #[.map (some (w.heap.size + 1))] 88) = W := ⟨_, rfl⟩
  have hb : Below w.heap.size w W := by rw [← hW]; exact (((Below.refl _ _).alloc (Nat.le_refl _) _).alloc (by simp) _).alloc (by simp; omega) _
  have hs : IsVo w.heap.size (w.heap.size + 2) (w.heap.size + 1) [] W := by
    have g1 := World.alloc_heap_new w (.cells #[.int .i64 (-1)] 3)
    obtain ⟨w1, h1⟩ : ∃ w1, w.alloc (.cells #[.int .i64 (-1)] 3) = w1 := ⟨_, rfl⟩
    have s1 : w1.heap.size = w.heap.size + 1 := by rw [← h1]; simp
    rw [h1] at g1 hW
    have g2 := IsTx.new w1
    have g2' : (w1.alloc (.map #[] 0)).heap[w.heap.size]? = w1.heap[w.heap.size]? := Lib.alloc_old _ _ _ (by omega)
    obtain ⟨w2, h2⟩ : ∃ w2, w1.alloc (.map #[] 0) = w2 := ⟨_, rfl⟩
    have s2 : w2.heap.size = w.heap.size + 2 := by rw [← h2]; simp [s1]
    rw [h2] at g2 g2' hW
    rw [s1] at g2
    have g3 := World.alloc_heap_new w2 (.cells #[.map (some (w.heap.size + 1))] 88)
    have g4 : ∀ j, j < w2.heap.size → (w2.alloc (.cells #[.map (some (w.heap.size + 1))] 88)).heap[j]? = w2.heap[j]? := fun j hj => Lib.alloc_old _ _ _ hj
    rw [hW] at g3 g4
    rw [s2] at g3
    refine ⟨((g4 _ (by omega)).trans g2').trans g1, cell_of_row g3, g2.keep (g4 _ (by omega)), hw.below hb, hw.off (Nat.le_refl _), hw.off (Nat.le_succ _), by omega⟩
  have HP := Lib.hid (lparse_anyV w.heap.size (w.heap.size + 2) (w.heap.size + 1) S W hS hs)
  have HB := Lib.hid hb
  clear hb hs
  go_enter Tryd.func42, Tryd.ntmps42
  go_wp2_with (go_at_call 67; go_loud (refine HP.out.mono ?_))
  first | rintro e w2 v rfl ho hf | rintro e w2 ⟨v, rfl, ho, hf⟩
  have HE := Lib.hid (show w2.ownsRow w.heap.size 56 2 v (parseV S).1.length (flatE (parseV S).1) ∧ Below w.heap.size w w2 from ⟨own_lower ho HB.out.size, HB.out.trans (hf.below (Nat.le_refl _) (by omega) HB.out.size)⟩)
  clear ho hf
  go_wp2_with fail
  exact bodyPost_ret (v := .tuple #[v, .int .i64 (parseV S).2.1, .int .i64 (parseV S).2.2]) (by simp [results, Tryd.results42, go_sem]) rfl ⟨v, rfl, HE.out⟩
end Go.Proofs.YtmdhendfmhhniaaDoor
