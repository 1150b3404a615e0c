/- Sector: begin where no cut strikes; the commands that are refused. -/
import Derived.Test.YtaionhdamdhjjaaSb
namespace Go.Proofs.Ytaionhdamdhjjaa
open Go.RowKit

theorem begin_off (g : Nat) (du cu wr : Value) (done left : Int) (kp : Value) (w : World) (h : DiskAt g du cu wr done left kp true w) :
    Calls Try.prog 26 #[.pointer (some ⟨g, 0, none⟩)] w fun e w' => e = .returned (.bool false) ∧ w' = w := by
  have c6 := h.c6
  go_enter Try.func26, Try.ntmps26
  go_wp2_with fail
  go_ret
  exact ⟨rfl, rfl⟩
theorem begin_go (g : Nat) (du cu wr : Value) (done left : Int) (kp : Value) (w : World) (h : DiskAt g du cu wr done left kp false w) (hl : left ≠ 1) (hl0 : 0 ≤ left) (hl1 : left ≤ 9223372036854775807) (hd0 : 0 ≤ done) (hd1 : done < 9223372036854775807) :
    Calls Try.prog 26 #[.pointer (some ⟨g, 0, none⟩)] w fun e w' => e = .returned (.bool true) ∧ DiskAt g du cu wr (done + 1) (max (left - 1) 0) kp false w' ∧ Below g w w' := by
  have c6 := h.c6
  have c4 := h.c4
  have f4 := h.free 4
  have hne : (left == 1) = false := beq_eq_false_iff_ne.2 hl
  have hw : IntKind.i64.wrap (left - 1) = left - 1 := IntWalk.i64_in _ (by omega)
  have h1 : DiskAt g du cu wr done (max (left - 1) 0) kp false (w.setCell ⟨g, 4, none⟩ (.int .i64 (max (left - 1) 0))) := h.set 4 _
  have H1 := Lib.hid h1
  have HD := Lib.hid hd1
  have HH := Lib.hid h
  clear h1 hd1 h
  go_enter Try.func26, Try.ntmps26
  go_wp2_with (go_at_call 46; refine (Add_any g done _ H1.out.c3 (H1.out.free 3) hd0 HD.out).mono ?_)
  rintro e w' ⟨rfl, rfl⟩
  have h2 : DiskAt g du cu wr (done + 1) (max (left - 1) 0) kp false ((w.setCell ⟨g, 4, none⟩ (.int .i64 (max (left - 1) 0))).setCell ⟨g, 3, none⟩ (.int .i64 (done + 1))) := H1.out.set 3 _
  have H2 := Lib.hid h2
  clear h2
  go_wp2_with fail
  go_ret
  exact ⟨rfl, H2.out, ((Below.refl g w).setCell (p := ⟨g, 4, none⟩) (Nat.le_refl g) _).setCell (p := ⟨g, 3, none⟩) (Nat.le_refl g) _⟩
theorem Sync_nil (w : World) :
    Calls Try.prog 8 #[.pointer none] w fun e w' => e = .returned (.int .i64 1) ∧ w' = w := by
  go_enter Try.func8, Try.ntmps8
  go_wp2_with fail
  go_ret
  exact ⟨rfl, rfl⟩
theorem Sync_off (g : Nat) (du cu wr : Value) (done left : Int) (kp : Value) (w : World) (h : DiskAt g du cu wr done left kp true w) :
    Calls Try.prog 8 #[.pointer (some ⟨g, 0, none⟩)] w fun e w' => e = .returned (.int .i64 7) ∧ w' = w := by
  go_enter Try.func8, Try.ntmps8
  go_wp2_with (go_at_call 26; refine (begin_off g du cu wr done left kp w h).mono ?_)
  rintro e w' ⟨rfl, rfl⟩
  go_wp2_with fail
  go_ret
  exact ⟨rfl, rfl⟩
theorem Crash_nil (kp : Value) (w : World) :
    Calls Try.prog 11 #[.pointer none, kp] w fun e w' => e = .returned (.tuple #[]) ∧ w' = w := by
  go_enter Try.func11, Try.ntmps11
  go_wp2_with fail
  (try simp only [Exit.inBlock, Exit.then]); refine bodyPost_ret (results_none rfl _ _ _) rfl ?_
  exact ⟨rfl, rfl⟩
theorem Write_bad (g n cap : Nat) (o : Option Addr) (cu wr : Value) (done left : Int) (kp : Value) (off : Bool) (i : Int) (s : ByteArray) (w : World) (h : DiskAt g (.slice o n cap) cu wr done left kp off w) (hi : ¬ (0 ≤ i ∧ i < n ∧ s.size ≤ 512)) :
    Calls Try.prog 16 #[.pointer (some ⟨g, 0, none⟩), .int .i64 i, .string s] w fun e w' => e = .returned (.int .i64 1) ∧ w' = w := by
  have hd : ((decide (0 ≤ i) && decide (i < n)) && decide ((s.size : Int) ≤ 512)) = false := by
    rw [Bool.and_eq_false_iff, Bool.and_eq_false_iff, decide_eq_false_iff_not, decide_eq_false_iff_not, decide_eq_false_iff_not]; omega
  go_enter Try.func16, Try.ntmps16
  go_wp2_with (go_at_call 32; refine (fits_any g n cap o cu wr done left kp off i s w h).mono ?_)
  rintro e w' ⟨rfl, rfl⟩
  rw [hd]
  go_wp2_with fail
  go_ret
  exact ⟨rfl, rfl⟩
theorem Write_off (g n cap : Nat) (o : Option Addr) (cu wr : Value) (done left : Int) (kp : Value) (i : Int) (s : ByteArray) (w : World) (h : DiskAt g (.slice o n cap) cu wr done left kp true w) (hi : 0 ≤ i ∧ i < n ∧ s.size ≤ 512) :
    Calls Try.prog 16 #[.pointer (some ⟨g, 0, none⟩), .int .i64 i, .string s] w fun e w' => e = .returned (.int .i64 7) ∧ w' = w := by
  have hs : (s.size : Int) ≤ 512 := by omega
  have hd : ((decide (0 ≤ i) && decide (i < n)) && decide ((s.size : Int) ≤ 512)) = true := by simp [hi, hs]
  go_enter Try.func16, Try.ntmps16
  go_wp2_with (go_at_call 32; refine (fits_any g n cap o cu wr done left kp true i s w h).mono ?_)
  rintro e w' ⟨rfl, rfl⟩
  rw [hd]
  go_wp2_with (go_at_call 26; refine (begin_off g _ cu wr done left kp w' h).mono ?_)
  rintro e w' ⟨rfl, rfl⟩
  go_wp2_with fail
  go_ret
  exact ⟨rfl, rfl⟩
end Go.Proofs.Ytaionhdamdhjjaa
