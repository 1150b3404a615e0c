/- sync.Once of one run: the lock, the two calls that are put off. sync.Once's slow road, with what the function does given. vocab: a call counted, the maps built or already there. -/
import Derived.Test.YtdpfpdpaamjefaaDoorVr
import Derived.Tactics
import Derived.Tactics2
import Derived.Defers
import Derived.Laws.Pointers
import Derived.Laws.LoneSync
import Derived.RegionTactic
import Derived.RegionCalls
import Derived.ChangeAlike
import Derived.Conc.AtomicLaws2
namespace Go.Proofs.YtdpfpdpaamjefaaDoor

theorem disable (w : World) : (callFunc 65 #[]).run Tryd.prog w = .ok (.value (.tuple #[])) w := run_call_mark0 Tryd.func65 (by kernel_rfl) (by kernel_rfl) (by kernel_rfl) .disable (by kernel_rfl) w
theorem enable (w : World) : (callFunc 67 #[]).run Tryd.prog w = .ok (.value (.tuple #[])) w := run_call_mark0 Tryd.func67 (by kernel_rfl) (by kernel_rfl) (by kernel_rfl) .enable (by kernel_rfl) w
theorem acquire (a : Addr) (w : World) : (callFunc 68 #[.pointer (some a)]).run Tryd.prog w = .ok (.value (.tuple #[])) w := run_call_marked Tryd.func68 (by kernel_rfl) (by kernel_rfl) (by kernel_rfl) .acquire (by kernel_rfl) a w
theorem releaseMerge (a : Addr) (w : World) : (callFunc 70 #[.pointer (some a)]).run Tryd.prog w = .ok (.value (.tuple #[])) w := run_call_marked Tryd.func70 (by kernel_rfl) (by kernel_rfl) (by kernel_rfl) .releaseMerge (by kernel_rfl) a w
set_option maxRecDepth 100000 in
theorem store_put_off (a : Addr) (x : Value) (u : FrameMode) (w : World) (hc : w.cell? a = some x) (hz : w.frozen? a = false) :
    CallsD Tryd.prog 50 #[.pointer (some a), .bool true] u w fun e u' w' => u' = u ∧ (e = .returned (.tuple #[]) ∧ w' = w.drew.setCell a (.int .u32 1)) := by
  have hc' : w.drew.cell? a = some x := by go_simp
  have hz' : w.drew.frozen? a = false := by go_simp
  have hst := run_call_store (P := Tryd.prog) Tryd.func58 (by kernel_rfl) (by kernel_rfl) (by kernel_rfl) (by kernel_rfl) (k := .u32) (y := 1) hc' hz'
  go_enter_d Tryd.func50, Tryd.ntmps50
  go_wp2
  go_region_calls
  all_goals (go_end0; exact ⟨rfl, rfl⟩)
set_option maxRecDepth 100000 in
theorem unlock_put_off (a : Addr) (u : FrameMode) (w : World) (hc : w.cell? a = some (.int .i32 1)) (hz : w.frozen? a = false) :
    CallsD Tryd.prog 49 #[.pointer (some a)] u w fun e u' w' => u' = u ∧ (e = .returned (.tuple #[]) ∧ w' = w.setCell a (.int .i32 0)) := by
  have hd := disable
  have he := enable
  have hr := releaseMerge
  have hadd := run_call_add (P := Tryd.prog) Tryd.func71 (by kernel_rfl) (by kernel_rfl) (by kernel_rfl) .i32 (by kernel_rfl) (y := -1) (s := 0) hc hz (by simp [go_sem]; rfl)
  have hcv := run_convert_to_unsafe (P := Tryd.prog) (src := 134) (dst := 110) Tryd.underlying134 Tryd.underlying110 (by kernel_rfl) hc
  go_enter_d Tryd.func49, Tryd.ntmps49
  go_wp2
  go_end0
  go_wp2
  go_end0
  exact ⟨rfl, rfl⟩
set_option maxRecDepth 100000 in
theorem lock_free (a : Addr) (w : World) (hc : w.cell? a = some (.int .i32 0)) (hz : w.frozen? a = false) :
    Calls Tryd.prog 48 #[.pointer (some a)] w fun e w' => e = .returned (.tuple #[]) ∧ w' = w.setCell a (.int .i32 1) := by
  have hd := disable
  have he := enable
  have ha := acquire
  have hcas := run_call_cas_hit (P := Tryd.prog) Tryd.func66 (by kernel_rfl) (by kernel_rfl) (by kernel_rfl) .i32 (by kernel_rfl) (y := 1) hc hz
  have hc' : (w.setCell a (.int .i32 1)).cell? a = some (.int .i32 1) := World.cell?_setCell_same w a _ hc
  have hcv := run_convert_to_unsafe (P := Tryd.prog) (src := 134) (dst := 110) Tryd.underlying134 Tryd.underlying110 (by kernel_rfl) hc'
  go_enter Tryd.func48, Tryd.ntmps48
  go_wp2
  first | go_end0 | (simp only [Exit.inBlock, Exit.then]; refine bodyPost_ret (results_none rfl _ _ _) rfl ?_) | refine bodyPost_ret (results_none rfl _ _ _) rfl ?_
  go_wp2
  go_end0
  exact ⟨rfl, rfl⟩
set_option maxRecDepth 100000 in
/-- '(*sync.Once).Do', done already: the function is not called. -/
theorem do_done (a : Addr) (d : Int) (hd : ¬ d = 0) (fv : Value) (w : World) (h0 : w.cell? a = some (.int .u32 d)) :
    Calls Tryd.prog 28 #[.pointer (some a), fv] w fun e w' => e = .returned (.tuple #[]) ∧ w' = w := by
  have hl := run_call_load (P := Tryd.prog) Tryd.func47 (by kernel_rfl) (by kernel_rfl) (by kernel_rfl) .u32 (by kernel_rfl) h0
  have hnot : ∀ (x : Bool) (w : World), (Op.unary .not (.bool x)).run Tryd.prog w = .ok (.bool (!x)) w := fun _ _ => rfl
  have hd' : (d != 0) = true := by simp [hd]
  go_enter Tryd.func28, Tryd.ntmps28
  go_wp2
  go_end0
  exact ⟨rfl, rfl⟩
set_option maxRecDepth 100000 in
/-- '(*atomic.Int64).Add' of 1. -/
theorem add_any (a : Addr) (x : Int) (w : World) (hc : w.cell? a = some (.int .i64 x)) (hz : w.frozen? a = false) (hs : IntKind.i64.wrap (x + 1) = x + 1) :
    Calls Tryd.prog 27 #[.pointer (some a), .int .i64 1] w fun e w' => e = .returned (.int .i64 (x + 1)) ∧ w' = w.setCell a (.int .i64 (x + 1)) := by
  have hadd := run_call_add (P := Tryd.prog) Tryd.func38 (by kernel_rfl) (by kernel_rfl) (by kernel_rfl) .i64 (by kernel_rfl) (y := 1) (s := x + 1) hc hz (by simp [go_sem, hs])
  go_enter Tryd.func27, Tryd.ntmps27
  go_wp2
  go_ret
  exact ⟨rfl, rfl⟩
set_option maxRecDepth 100000 in
/-- '(*atomic.Int64).Load'. -/
theorem load_any (a : Addr) (x : Int) (w : World) (hc : w.cell? a = some (.int .i64 x)) :
    Calls Tryd.prog 24 #[.pointer (some a)] w fun e w' => e = .returned (.int .i64 x) ∧ w' = w := by
  have hl := run_call_load (P := Tryd.prog) Tryd.func36 (by kernel_rfl) (by kernel_rfl) (by kernel_rfl) .i64 (by kernel_rfl) hc
  go_enter Tryd.func24, Tryd.ntmps24
  go_wp2
  go_ret
  exact ⟨rfl, rfl⟩
end Go.Proofs.YtdpfpdpaamjefaaDoor
namespace Go.Proofs.YtdpfpdpaamjefaaDoor
set_option maxRecDepth 100000 in
theorem off_any (a : Addr) (w : World) (h0 : w.cell? a = some (.int .u32 0)) :
    Calls Tryd.prog 39 #[.pointer (some a)] w fun e w' => e = .returned (.bool false) ∧ w' = w := by
  have hl := run_call_load (P := Tryd.prog) Tryd.func47 (by kernel_rfl) (by kernel_rfl) (by kernel_rfl) .u32 (by kernel_rfl) h0
  go_enter Tryd.func39, Tryd.ntmps39
  go_wp2
  go_ret
  exact ⟨rfl, rfl⟩
set_option maxRecDepth 100000 in
set_option maxHeartbeats 1600000 in
theorem slow_any (b off : Nat) (x : Addr) (R : World → Prop) (w : World)
    (h0 : w.cell? ⟨b, off, none⟩ = some (.int .u32 0)) (h1 : w.cell? ⟨b, off + 1, none⟩ = some (.int .i32 0)) (f1 : w.frozen? ⟨b, off + 1, none⟩ = false)
    (hf : Calls Tryd.prog 29 #[.pointer (some x)] (w.setCell ⟨b, off + 1, none⟩ (.int .i32 1)) fun e w' => e = .returned (.tuple #[]) ∧ R w')
    (hk : ∀ v, R v → v.cell? ⟨b, off, none⟩ = some (.int .u32 0) ∧ v.cell? ⟨b, off + 1, none⟩ = some (.int .i32 1) ∧ v.frozen? ⟨b, off, none⟩ = false ∧ v.frozen? ⟨b, off + 1, none⟩ = false) :
    Calls Tryd.prog 40 #[.pointer (some ⟨b, off, none⟩), .func (.func 29) #[.pointer (some x)] #[]] w fun e w' => e = .returned (.tuple #[]) ∧
      ∃ v, R v ∧ w' = (v.drew.setCell ⟨b, off, none⟩ (.int .u32 1)).setCell ⟨b, off + 1, none⟩ (.int .i32 0) := by
  have h0' : (w.setCell ⟨b, off + 1, none⟩ (.int .i32 1)).cell? ⟨b, off, none⟩ = some (.int .u32 0) := (World.cell?_setCell_other _ ⟨b, off + 1, none⟩ ⟨b, off, none⟩ _ (by simp)).trans h0
  have hnot : ∀ (x : Bool) (w : World), (Op.unary .not (.bool x)).run Tryd.prog w = .ok (.bool (!x)) w := fun _ _ => rfl
  go_enter_defers Tryd.func40, Tryd.ntmps40
  go_wp2_with (first | (go_at_call 48; refine (lock_free ⟨b, off + 1, none⟩ _ (by go_simp) (by go_simp)).mono ?_; rintro e w' ⟨rfl, rfl⟩) | (go_at_call 39; refine (off_any ⟨b, off, none⟩ _ h0').mono ?_; rintro e w' ⟨rfl, rfl⟩) | (go_at_call 29; refine hf.mono ?_; first | rintro e v rfl hv | rintro e v ⟨rfl, hv⟩))
  obtain ⟨k0, k1, z0, z1⟩ := hk v hv
  refine leaves_cons (f := 50) (args := #[.pointer (some ⟨b, off, none⟩), .bool true]) (by simp) (by simp [go_sem]) ?_
  refine (store_put_off ⟨b, off, none⟩ (.int .u32 0) .returning _ k0 z0).mono ?_
  rintro e u' w'' ⟨rfl, rfl, rfl⟩
  refine leaves_cons (f := 49) (args := #[.pointer (some ⟨b, off + 1, none⟩)]) (by simp [settle]) (by simp [go_sem]) ?_
  refine (unlock_put_off ⟨b, off + 1, none⟩ _ _ ?_ (by simp [z1])).mono ?_
  · refine (World.cell?_setCell_other _ ⟨b, off, none⟩ ⟨b, off + 1, none⟩ _ (by simp)).trans ?_
    rw [World.cell?_drew]
    exact k1
  rintro e u' w'' ⟨rfl, rfl, rfl⟩
  simp [Leaves, settle, results, Tryd.results40]
  exact ⟨v, hv, rfl⟩
set_option maxRecDepth 100000 in
set_option maxHeartbeats 1600000 in
/-- '(*sync.Once).Do' the first time. -/
theorem do_first (b off : Nat) (x : Addr) (R : World → Prop) (w : World)
    (h0 : w.cell? ⟨b, off, none⟩ = some (.int .u32 0)) (h1 : w.cell? ⟨b, off + 1, none⟩ = some (.int .i32 0)) (f1 : w.frozen? ⟨b, off + 1, none⟩ = false)
    (hf : Calls Tryd.prog 29 #[.pointer (some x)] (w.setCell ⟨b, off + 1, none⟩ (.int .i32 1)) fun e w' => e = .returned (.tuple #[]) ∧ R w')
    (hk : ∀ v, R v → v.cell? ⟨b, off, none⟩ = some (.int .u32 0) ∧ v.cell? ⟨b, off + 1, none⟩ = some (.int .i32 1) ∧ v.frozen? ⟨b, off, none⟩ = false ∧ v.frozen? ⟨b, off + 1, none⟩ = false) :
    Calls Tryd.prog 28 #[.pointer (some ⟨b, off, none⟩), .func (.func 29) #[.pointer (some x)] #[]] w fun e w' => e = .returned (.tuple #[]) ∧
      ∃ v, R v ∧ w' = (v.drew.setCell ⟨b, off, none⟩ (.int .u32 1)).setCell ⟨b, off + 1, none⟩ (.int .i32 0) := by
  have hnot : ∀ (x : Bool) (w : World), (Op.unary .not (.bool x)).run Tryd.prog w = .ok (.bool (!x)) w := fun _ _ => rfl
  go_enter Tryd.func28, Tryd.ntmps28
  go_wp2_with (first | (go_at_call 40; refine (slow_any b off x R _ h0 h1 f1 hf hk).mono ?_; first | rintro e w' rfl hv | rintro e w' ⟨rfl, hv⟩) | (go_at_call 39; refine (off_any ⟨b, off, none⟩ _ h0).mono ?_; rintro e w' ⟨rfl, rfl⟩))
  go_end0
  exact ⟨rfl, hv⟩
end Go.Proofs.YtdpfpdpaamjefaaDoor
namespace Go.Proofs.YtdpfpdpaamjefaaDoor
set_option maxRecDepth 100000 in
set_option maxHeartbeats 1600000 in
theorem ask_again (b off : Nat) (x d : Int) (hd : ¬ d = 0) (w : World) (hc : w.cell? ⟨b, off + 6, none⟩ = some (.int .i64 x)) (hz : w.frozen? ⟨b, off + 6, none⟩ = false) (hs : IntKind.i64.wrap (x + 1) = x + 1)
    (h1 : w.cell? ⟨b, off + 1, none⟩ = some (.int .u32 d)) :
    Calls Tryd.prog 19 #[.pointer (some ⟨b, off, none⟩)] w fun e w' => e = .returned (.tuple #[]) ∧ w' = w.setCell ⟨b, off + 6, none⟩ (.int .i64 (x + 1)) := by
  have h1' : (w.setCell ⟨b, off + 6, none⟩ (.int .i64 (x + 1))).cell? ⟨b, off + 1, none⟩ = some (.int .u32 d) := (World.cell?_setCell_other _ ⟨b, off + 6, none⟩ ⟨b, off + 1, none⟩ _ (by simp)).trans h1
  have hmf : ∀ (fn : Fn) (first cap : Array Value) (w : World), (Instr.makeFunc fn first cap).run Tryd.prog w = .ok (.func fn first cap) w := fun _ _ _ _ => rfl
  go_enter Tryd.func19, Tryd.ntmps19
  go_wp2_with (first | (go_at_call 27; refine (add_any ⟨b, off + 6, none⟩ x _ hc hz hs).mono ?_; rintro e w' ⟨rfl, rfl⟩) | (go_at_call 28; refine (do_done ⟨b, off + 1, none⟩ d hd _ _ h1').mono ?_; rintro e w' ⟨rfl, rfl⟩))
  go_end0
  exact ⟨rfl, rfl⟩
set_option maxRecDepth 100000 in
set_option maxHeartbeats 1600000 in
theorem ask_first (b off : Nat) (x : Int) (R : World → Prop) (w : World) (hc : w.cell? ⟨b, off + 6, none⟩ = some (.int .i64 x)) (hz : w.frozen? ⟨b, off + 6, none⟩ = false) (hs : IntKind.i64.wrap (x + 1) = x + 1)
    (h1 : w.cell? ⟨b, off + 1, none⟩ = some (.int .u32 0)) (h2 : w.cell? ⟨b, off + 2, none⟩ = some (.int .i32 0)) (f2 : w.frozen? ⟨b, off + 2, none⟩ = false)
    (hf : Calls Tryd.prog 29 #[.pointer (some ⟨b, off, none⟩)] ((w.setCell ⟨b, off + 6, none⟩ (.int .i64 (x + 1))).setCell ⟨b, off + 2, none⟩ (.int .i32 1)) fun e w' => e = .returned (.tuple #[]) ∧ R w')
    (hk : ∀ v, R v → v.cell? ⟨b, off + 1, none⟩ = some (.int .u32 0) ∧ v.cell? ⟨b, off + 2, none⟩ = some (.int .i32 1) ∧ v.frozen? ⟨b, off + 1, none⟩ = false ∧ v.frozen? ⟨b, off + 2, none⟩ = false) :
    Calls Tryd.prog 19 #[.pointer (some ⟨b, off, none⟩)] w fun e w' => e = .returned (.tuple #[]) ∧
      ∃ v, R v ∧ w' = (v.drew.setCell ⟨b, off + 1, none⟩ (.int .u32 1)).setCell ⟨b, off + 2, none⟩ (.int .i32 0) := by
  have h1' : (w.setCell ⟨b, off + 6, none⟩ (.int .i64 (x + 1))).cell? ⟨b, off + 1, none⟩ = some (.int .u32 0) := (World.cell?_setCell_other _ ⟨b, off + 6, none⟩ ⟨b, off + 1, none⟩ _ (by simp)).trans h1
  have h2' : (w.setCell ⟨b, off + 6, none⟩ (.int .i64 (x + 1))).cell? ⟨b, off + 2, none⟩ = some (.int .i32 0) := (World.cell?_setCell_other _ ⟨b, off + 6, none⟩ ⟨b, off + 2, none⟩ _ (by simp)).trans h2
  have hmf : ∀ (fn : Fn) (first cap : Array Value) (w : World), (Instr.makeFunc fn first cap).run Tryd.prog w = .ok (.func fn first cap) w := fun _ _ _ _ => rfl
  go_enter Tryd.func19, Tryd.ntmps19
  go_wp2_with (first | (go_at_call 27; refine (add_any ⟨b, off + 6, none⟩ x _ hc hz hs).mono ?_; rintro e w' ⟨rfl, rfl⟩) | (go_at_call 28; refine (do_first b (off + 1) ⟨b, off, none⟩ R _ h1' h2' (by simp [f2]) hf hk).mono ?_; first | rintro e w' rfl hv | rintro e w' ⟨rfl, hv⟩))
  go_end0
  exact ⟨rfl, hv⟩
end Go.Proofs.YtdpfpdpaamjefaaDoor
