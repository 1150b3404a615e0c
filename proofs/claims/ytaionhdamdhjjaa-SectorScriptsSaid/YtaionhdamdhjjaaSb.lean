/- Sector: the count of commands; Read, Counts, Cut. -/
import Derived.Test.YtaionhdamdhjjaaSa
import Derived.Conc.AtomicLaws2
namespace Go.Proofs.Ytaionhdamdhjjaa
open Go.RowKit

theorem Add_any (g : Nat) (v : Int) (w : World) (hc : w.cell? ⟨g, 3, none⟩ = some (.int .i64 v)) (hz : w.frozen? ⟨g, 3, none⟩ = false) (h0 : 0 ≤ v) (h1 : v < 9223372036854775807) :
    Calls Try.prog 46 #[.pointer (some ⟨g, 3, none⟩), .int .i64 1] w fun e w' => e = .returned (.int .i64 (v + 1)) ∧ w' = w.setCell ⟨g, 3, none⟩ (.int .i64 (v + 1)) := by
  have hw : IntKind.i64.wrap (v + 1) = v + 1 := IntWalk.i64_in _ (by omega)
  have hrun := Conc.run_add_entry (P := Try.prog) (k := .i64) (d := 1) hc hz
  rw [hw] at hrun
  go_enter Try.func46, Try.ntmps46
  go_wp2
  rw [run_callFunc_extern Try.func59 (by kernel_rfl) (by kernel_rfl) (by kernel_rfl) (e := Extern.Atomic.update (Op.intArith .add) .i64 true) (by kernel_rfl)]
  rw [hrun]
  simp only [Result.andThen]
  rw [Oper.upon_value]
  go_wp2
  go_ret
  exact ⟨rfl, rfl⟩
theorem Load_any (g : Nat) (v : Int) (w : World) (hc : w.cell? ⟨g, 3, none⟩ = some (.int .i64 v)) (hz : w.frozen? ⟨g, 3, none⟩ = false) :
    Calls Try.prog 48 #[.pointer (some ⟨g, 3, none⟩)] w fun e w' => e = .returned (.int .i64 v) ∧ w' = w := by
  have hrun : (Extern.Atomic.loadT (.int .i64) #[.pointer (some ⟨g, 3, none⟩)]).run Try.prog w = .ok (.int .i64 v) w := by
    change Sem.run Try.prog (do Extern.Atomic.read (.int .i64) (← asAddr (.pointer (some ⟨g, 3, none⟩)))) w = _
    simp [Extern.Atomic.read, asAddr, hc, hz, Result.andThen]
  go_enter Try.func48, Try.ntmps48
  go_wp2
  rw [run_callFunc_extern Try.func60 (by kernel_rfl) (by kernel_rfl) (by kernel_rfl) (e := Extern.Atomic.loadT (.int .i64)) (by kernel_rfl)]
  rw [hrun]
  simp only [Result.andThen]
  rw [Oper.upon_value]
  go_wp2
  go_ret
  exact ⟨rfl, rfl⟩

theorem heap_drewN (w : World) : ∀ n, (w.drewN n).heap = w.heap
  | 0 => rfl
  | n + 1 => (heap_drewN w n :)
theorem Load_q (g : Nat) (v : Int) (w : World) (y : Nat) (hc : w.cell? ⟨g, 3, none⟩ = some (.int .i64 v)) (hz : w.frozen? ⟨g, 3, none⟩ = false) :
    Calls Try.prog 48 #[.pointer (some ⟨g, 3, none⟩)] (w.drewN y) fun e w'' => e = .returned (.int .i64 v) ∧ ∃ m, w'' = w.drewN m :=
  (Load_any g v (w.drewN y) (by unfold World.cell? at hc ⊢; rw [heap_drewN]; exact hc) (by unfold World.frozen? at hz ⊢; rw [heap_drewN]; exact hz)).mono fun _ _ ⟨a, b⟩ => ⟨a, y, b⟩

theorem Counts_any (g m cap : Nat) (o : Option Addr) (du cu : Value) (done left : Int) (kp : Value) (off : Bool) (w : World) (h : DiskAt g du cu (.slice o m cap) done left kp off w) :
    Calls Try.prog 35 #[.pointer (some ⟨g, 0, none⟩)] w fun e w' => e = .returned (.tuple #[.int .i64 done, .int .i64 m]) ∧ Below w.heap.size w w' := by
  have c3 := h.c3
  have c2 := h.c2
  go_enter Try.func35, Try.ntmps35
  go_wp2_with fail
  have f3 := h.free 3
  go_quiet ((go_at_call 48; exact Load_q g done w _ c3 f3))
  go_wp2_with fail
  go_ret2
  exact ⟨rfl, below_drewN (Below.refl _ _) _⟩
theorem Read_any (g n cap gc cc : Nat) (o : Option Addr) (wr : Value) (done left : Int) (kp : Value) (i : Int) (k : Nat) (s : ByteArray) (w : World) (h : DiskAt g (.slice o n cap) (.slice (some ⟨gc, 0, none⟩) n cc) wr done left kp false w) (hi : i = k) (hk : k < n) (hs : w.cell? ⟨gc, k, none⟩ = some (.string s)) :
    Calls Try.prog 21 #[.pointer (some ⟨g, 0, none⟩), .int .i64 i] w fun e w' => e = .returned (.tuple #[.string s, .int .i64 0]) ∧ w' = w := by
  subst hi
  have c1 := h.c1
  have c6 := h.c6
  have hkn : (k : Int) < n := by omega
  have hd : (decide (0 ≤ (k : Int)) && decide ((k : Int) < n)) = true := by simp [hkn]
  go_enter Try.func21, Try.ntmps21
  go_wp2_with (go_at_call 43; refine (has_any g n cap o _ wr done left kp false k w h).mono ?_)
  rintro e w' ⟨rfl, rfl⟩
  rw [hd]
  go_wp2_with fail
  go_ret2
  exact ⟨rfl, rfl⟩
theorem Read_bad (g n cap : Nat) (o : Option Addr) (cu wr : Value) (done left : Int) (kp : Value) (off : Bool) (i : Int) (w : World) (h : DiskAt g (.slice o n cap) cu wr done left kp off w) (hi : ¬ (0 ≤ i ∧ i < n)) :
    Calls Try.prog 21 #[.pointer (some ⟨g, 0, none⟩), .int .i64 i] w fun e w' => e = .returned (.tuple #[.string ⟨#[]⟩, .int .i64 1]) ∧ w' = w := by
  have hd : (decide (0 ≤ i) && decide (i < n)) = false := by
    rw [Bool.and_eq_false_iff, decide_eq_false_iff_not, decide_eq_false_iff_not]; omega
  go_enter Try.func21, Try.ntmps21
  go_wp2_with (go_at_call 43; refine (has_any g n cap o cu wr done left kp off i w h).mono ?_)
  rintro e w' ⟨rfl, rfl⟩
  rw [hd]
  go_wp2_with fail
  go_ret2
  exact ⟨rfl, rfl⟩
theorem Read_off (g n cap : Nat) (o : Option Addr) (cu wr : Value) (done left : Int) (kp : Value) (i : Int) (w : World) (h : DiskAt g (.slice o n cap) cu wr done left kp true w) (hi : 0 ≤ i ∧ i < n) :
    Calls Try.prog 21 #[.pointer (some ⟨g, 0, none⟩), .int .i64 i] w fun e w' => e = .returned (.tuple #[.string ⟨#[]⟩, .int .i64 7]) ∧ w' = w := by
  have c6 := h.c6
  have hd : (decide (0 ≤ i) && decide (i < n)) = true := by simp [hi]
  go_enter Try.func21, Try.ntmps21
  go_wp2_with (go_at_call 43; refine (has_any g n cap o cu wr done left kp true i w h).mono ?_)
  rintro e w' ⟨rfl, rfl⟩
  rw [hd]
  go_wp2_with fail
  go_ret2
  exact ⟨rfl, rfl⟩
theorem Cut_nil (n : Int) (kp : Value) (w : World) :
    Calls Try.prog 10 #[.pointer none, .int .i64 n, kp] w fun e w' => e = .returned (.tuple #[]) ∧ w' = w := by
  go_enter Try.func10, Try.ntmps10
  go_wp2_with fail
  (try simp only [Exit.inBlock, Exit.then]); refine bodyPost_ret (results_none rfl _ _ _) rfl ?_
  exact ⟨rfl, rfl⟩
theorem Cut_none (g cc : Nat) (du cu wr : Value) (done left : Int) (kp : Value) (off : Bool) (n : Int) (w : World) (h : DiskAt g du cu wr done left kp off w) :
    Calls Try.prog 10 #[.pointer (some ⟨g, 0, none⟩), .int .i64 n, .slice none 0 cc] w fun e w' => e = .returned (.tuple #[]) ∧ DiskAt g du cu wr done (max n 1) (.slice none 0 0) off w' ∧ Below g w w' := by
  have f4 := h.free 4
  have f5 := h.free 5
  have c4 := h.c4
  have c5 := h.c5
  go_enter Try.func10, Try.ntmps10
  go_wp2_with (go_at_call 29; refine (Try.slices_Clone_int_nil 0 cc w).mono ?_)
  rintro e w' ⟨rfl, rfl⟩
  go_wp2_with fail
  go_end0
  refine ⟨rfl, ?_, ((Below.refl g w').setCell (p := ⟨g, 4, none⟩) (Nat.le_refl g) _).setCell (p := ⟨g, 5, none⟩) (Nat.le_refl g) _⟩
  have h2 : DiskAt g du cu wr done (max n 1) kp off (w'.setCell ⟨g, 4, none⟩ (.int .i64 (max n 1))) := h.set 4 _
  exact h2.set 5 (.slice none 0 0)
end Go.Proofs.Ytaionhdamdhjjaa
