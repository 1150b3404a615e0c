/- Sector: a Disk's block; the functions that look at it or change a field; pad. Sector: the count of commands; Read, Counts, Cut. Sector: begin where no cut strikes; the commands that are refused. Sector: a row of strings that is written in place; a row of writes. Sector: settle. Sector: settle without writes; Sync; Cut with choices. Sector: Cut with choices. Sector: the function values that say which writes are lost. Sector: rows of pairs; which writes are kept; laws on an append of a pair with room, and on clear. -/
import Derived.Test.YtbpaiiljhdohfaaDoorS
import Derived.Test.YtbpaiiljhdohfaaDoorRows
import Derived.WalkKit
import Derived.WalkSpells
import Derived.Lib.Hide
import Derived.WalkLawsBesides
import Derived.BigQuiet
import Derived.Conc.AtomicLaws2
import Derived.Deep.MidRow
import Derived.StillTailTactics
import Derived.Laws.CopyOwn
namespace Go.Proofs.YtbpaiiljhdohfaaDoor
open Go.RowKit

def dcells (du cu wr : Value) (done left : Int) (kp : Value) (off : Bool) : Array Value := #[du, cu, wr, .int .i64 done, .int .i64 left, kp, .bool off]
/-- The block at g is a Disk with these fields. -/
def DiskAt (g : Nat) (du cu wr : Value) (done left : Int) (kp : Value) (off : Bool) (w : World) : Prop := w.heap[g]? = some (.cells (dcells du cu wr done left kp off) 75 (0, 0))
theorem DiskAt.c0 {g : Nat} {du cu wr : Value} {done left : Int} {kp : Value} {off : Bool} {w : World} (h : DiskAt g du cu wr done left kp off w) : w.cell? ⟨g, 0, none⟩ = some du := by unfold World.cell?; simp only [show w.heap[g]? = _ from h]; rfl
theorem DiskAt.c1 {g : Nat} {du cu wr : Value} {done left : Int} {kp : Value} {off : Bool} {w : World} (h : DiskAt g du cu wr done left kp off w) : w.cell? ⟨g, 1, none⟩ = some cu := by unfold World.cell?; simp only [show w.heap[g]? = _ from h]; rfl
theorem DiskAt.c2 {g : Nat} {du cu wr : Value} {done left : Int} {kp : Value} {off : Bool} {w : World} (h : DiskAt g du cu wr done left kp off w) : w.cell? ⟨g, 2, none⟩ = some wr := by unfold World.cell?; simp only [show w.heap[g]? = _ from h]; rfl
theorem DiskAt.c3 {g : Nat} {du cu wr : Value} {done left : Int} {kp : Value} {off : Bool} {w : World} (h : DiskAt g du cu wr done left kp off w) : w.cell? ⟨g, 3, none⟩ = some (.int .i64 done) := by unfold World.cell?; simp only [show w.heap[g]? = _ from h]; rfl
theorem DiskAt.c4 {g : Nat} {du cu wr : Value} {done left : Int} {kp : Value} {off : Bool} {w : World} (h : DiskAt g du cu wr done left kp off w) : w.cell? ⟨g, 4, none⟩ = some (.int .i64 left) := by unfold World.cell?; simp only [show w.heap[g]? = _ from h]; rfl
theorem DiskAt.c5 {g : Nat} {du cu wr : Value} {done left : Int} {kp : Value} {off : Bool} {w : World} (h : DiskAt g du cu wr done left kp off w) : w.cell? ⟨g, 5, none⟩ = some kp := by unfold World.cell?; simp only [show w.heap[g]? = _ from h]; rfl
theorem DiskAt.c6 {g : Nat} {du cu wr : Value} {done left : Int} {kp : Value} {off : Bool} {w : World} (h : DiskAt g du cu wr done left kp off w) : w.cell? ⟨g, 6, none⟩ = some (.bool off) := by unfold World.cell?; simp only [show w.heap[g]? = _ from h]; rfl
theorem DiskAt.free {g : Nat} {du cu wr : Value} {done left : Int} {kp : Value} {off : Bool} {w : World} (h : DiskAt g du cu wr done left kp off w) (i : Nat) : w.frozen? ⟨g, i, none⟩ = false := by
  simp [World.frozen?, show w.heap[g]? = _ from h]
theorem DiskAt.lt {g : Nat} {du cu wr : Value} {done left : Int} {kp : Value} {off : Bool} {w : World} (h : DiskAt g du cu wr done left kp off w) : g < w.heap.size := (Array.getElem?_eq_some_iff.1 (show w.heap[g]? = _ from h)).1
theorem DiskAt.set {g : Nat} {du cu wr : Value} {done left : Int} {kp : Value} {off : Bool} {w : World} (h : DiskAt g du cu wr done left kp off w) (i : Nat) (v : Value) : (w.setCell ⟨g, i, none⟩ v).heap[g]? = some (.cells ((dcells du cu wr done left kp off).setIfInBounds i v) 75 (0, 0)) := by
  show (w.heap.modify g _)[g]? = _
  rw [Array.getElem?_modify, if_pos rfl, show w.heap[g]? = _ from h]
  rfl
theorem DiskAt.below {g : Nat} {du cu wr : Value} {done left : Int} {kp : Value} {off : Bool} {w w' : World} (h : DiskAt g du cu wr done left kp off w) (hb : Below w.heap.size w w') : DiskAt g du cu wr done left kp off w' := (hb.block g h.lt).trans h

theorem Size_any (g n cap : Nat) (o : Option Addr) (cu wr : Value) (done left : Int) (kp : Value) (off : Bool) (w : World) (h : DiskAt g (.slice o n cap) cu wr done left kp off w) :
    Calls Tryd.prog 24 #[.pointer (some ⟨g, 0, none⟩)] w fun e w' => e = .returned (.int .i64 n) ∧ w' = w := by
  have c0 := h.c0
  go_enter Tryd.func24, Tryd.ntmps24
  go_wp2_with fail
  go_ret
  exact ⟨rfl, rfl⟩
theorem Size_nil (w : World) :
    Calls Tryd.prog 24 #[.pointer none] w fun e w' => e = .returned (.int .i64 0) ∧ w' = w := by
  go_enter Tryd.func24, Tryd.ntmps24
  go_wp2_with fail
  go_ret
  exact ⟨rfl, rfl⟩
theorem has_any (g n cap : Nat) (o : Option Addr) (cu wr : Value) (done left : Int) (kp : Value) (off : Bool) (i : Int) (w : World) (h : DiskAt g (.slice o n cap) cu wr done left kp off w) :
    Calls Tryd.prog 43 #[.pointer (some ⟨g, 0, none⟩), .int .i64 i] w fun e w' => e = .returned (.bool (decide (0 ≤ i) && decide (i < n))) ∧ w' = w := by
  by_cases h0 : 0 ≤ i
  · have hd : decide (0 ≤ i) = true := decide_eq_true h0
    go_enter Tryd.func43, Tryd.ntmps43
    go_wp2_with (go_at_call 24; refine (Size_any g n cap o cu wr done left kp off w h).mono ?_)
    rintro e w' ⟨rfl, rfl⟩
    go_wp2_with fail
    go_ret
    simp [h0]
  · have hd : decide (0 ≤ i) = false := decide_eq_false h0
    go_enter Tryd.func43, Tryd.ntmps43
    go_wp2_with fail
    go_ret
    simp [h0]
theorem fits_any (g n cap : Nat) (o : Option Addr) (cu wr : Value) (done left : Int) (kp : Value) (off : Bool) (i : Int) (s : ByteArray) (w : World) (h : DiskAt g (.slice o n cap) cu wr done left kp off w) :
    Calls Tryd.prog 36 #[.pointer (some ⟨g, 0, none⟩), .int .i64 i, .string s] w fun e w' => e = .returned (.bool ((decide (0 ≤ i) && decide (i < n)) && decide ((s.size : Int) ≤ 512))) ∧ w' = w := by
  cases hb : (decide (0 ≤ i) && decide (i < n))
  · go_enter Tryd.func36, Tryd.ntmps36
    go_wp2_with (go_at_call 43; refine (has_any g n cap o cu wr done left kp off i w h).mono ?_)
    rintro e w' ⟨rfl, rfl⟩
    rw [hb]
    go_wp2_with fail
    go_ret
    simp
  · go_enter Tryd.func36, Tryd.ntmps36
    go_wp2_with (go_at_call 43; refine (has_any g n cap o cu wr done left kp off i w h).mono ?_)
    rintro e w' ⟨rfl, rfl⟩
    rw [hb]
    go_wp2_with fail
    go_ret
    simp
theorem uncut_any (g : Nat) (du cu wr : Value) (done left : Int) (kp : Value) (off : Bool) (w : World) (h : DiskAt g du cu wr done left kp off w) :
    Calls Tryd.prog 53 #[.pointer (some ⟨g, 0, none⟩)] w fun e w' => e = .returned (.tuple #[]) ∧ DiskAt g du cu wr done 0 (.slice none 0 0) off w' ∧ Below g w w' := by
  have f4 := h.free 4
  have f5 := h.free 5
  have c4 := h.c4
  have c5 := h.c5
  go_enter Tryd.func53, Tryd.ntmps53
  go_wp2_with fail
  go_end0
  refine ⟨rfl, ?_, ?_⟩
  · have h1 := h.set 4 (.int .i64 0)
    have h2 : DiskAt g du cu wr done 0 kp off (w.setCell ⟨g, 4, none⟩ (.int .i64 0)) := h1
    exact h2.set 5 (.slice none 0 0)
  · exact ((Below.refl g w).setCell (p := ⟨g, 4, none⟩) (Nat.le_refl g) _).setCell (p := ⟨g, 5, none⟩) (Nat.le_refl g) _
theorem On_any (g : Nat) (du cu wr : Value) (done left : Int) (kp : Value) (off : Bool) (w : World) (h : DiskAt g du cu wr done left kp off w) :
    Calls Tryd.prog 34 #[.pointer (some ⟨g, 0, none⟩)] w fun e w' => e = .returned (.tuple #[]) ∧ DiskAt g du cu wr done 0 (.slice none 0 0) false w' ∧ Below g w w' := by
  go_enter Tryd.func34, Tryd.ntmps34
  go_wp2_with (go_at_call 53; refine (uncut_any g du cu wr done left kp off w h).mono ?_)
  rintro e w1 ⟨rfl, h1, hb1⟩
  have f6 := h1.free 6
  have c6 := h1.c6
  go_wp2_with fail
  go_end0
  exact ⟨rfl, h1.set 6 (.bool false), hb1.setCell (p := ⟨g, 6, none⟩) (Nat.le_refl g) _⟩
theorem On_nil (w : World) :
    Calls Tryd.prog 34 #[.pointer none] w fun e w' => e = .returned (.tuple #[]) ∧ w' = w := by
  go_enter Tryd.func34, Tryd.ntmps34
  go_wp2_with fail
  (try simp only [Exit.inBlock, Exit.then]); refine bodyPost_ret (results_none rfl _ _ _) rfl ?_
  exact ⟨rfl, rfl⟩
theorem Off_any (g : Nat) (du cu wr : Value) (done left : Int) (kp : Value) (off : Bool) (w : World) (h : DiskAt g du cu wr done left kp off w) :
    Calls Tryd.prog 42 #[.pointer (some ⟨g, 0, none⟩)] w fun e w' => e = .returned (.bool off) ∧ w' = w := by
  have c6 := h.c6
  go_enter Tryd.func42, Tryd.ntmps42
  go_wp2_with fail
  go_ret
  exact ⟨rfl, rfl⟩
theorem Off_nil (w : World) :
    Calls Tryd.prog 42 #[.pointer none] w fun e w' => e = .returned (.bool false) ∧ w' = w := by
  go_enter Tryd.func42, Tryd.ntmps42
  go_wp2_with fail
  go_ret
  exact ⟨rfl, rfl⟩

/-- A text with bytes 00 up to 512. -/
def padB (s : ByteArray) : ByteArray := s ++ ⟨(Lib.repeatL [0] (512 - s.size)).toArray⟩
theorem pad_any (s : ByteArray) (w : World) (hs : s.size ≤ 512) :
    Calls Tryd.prog 21 #[.string s] w fun e w' => e = .returned (.string (padB s)) ∧ Below w.heap.size w w' := by
  have hi : IntKind.i64.wrap (512 - (s.size : Int)) = ((512 - s.size : Nat) : Int) := by rw [IntWalk.i64_in _ (by omega)]; omega
  obtain ⟨c, hc⟩ : ∃ c, 512 - s.size = c := ⟨_, rfl⟩
  have hz : (s ++ ⟨(Lib.repeatL [0] c).toArray⟩) = padB s := by unfold padB; rw [hc]
  have hl : ((Lib.repeatL [0] c).toArray).size = c := by rw [List.size_toArray, Lib.repeatL_length]; simp
  rw [hc] at hi
  have hno : ¬ 9223372036854775807 < s.size + ByteArray.size ⟨(Lib.repeatL [0] c).toArray⟩ := by
    have : ByteArray.size ⟨(Lib.repeatL [0] c).toArray⟩ = c := hl
    omega
  have HZ := Lib.hid hz
  clear hz hl
  go_enter Tryd.func21, Tryd.ntmps21
  go_wp2_with (go_at_call 45; refine (Tryd.strings_Repeat ⟨#[0]⟩ c w (by omega) (by show 1 * c ≤ _; omega)).mono ?_)
  rintro e w1 rfl hb
  have HB := Lib.hid hb
  clear hb
  go_wp2_with fail
  go_ret
  exact ⟨by rw [HZ.out]; rfl, HB.out⟩
end Go.Proofs.YtbpaiiljhdohfaaDoor
namespace Go.Proofs.YtbpaiiljhdohfaaDoor
open Go.RowKit

theorem Add_any (g : Nat) (v : Int) (w : World) (hc : w.cell? ⟨g, 3, none⟩ = some (.int .i64 v)) (hz : w.frozen? ⟨g, 3, none⟩ = false) (h0 : 0 ≤ v) (h1 : v < 9223372036854775807) :
    Calls Tryd.prog 54 #[.pointer (some ⟨g, 3, none⟩), .int .i64 1] w fun e w' => e = .returned (.int .i64 (v + 1)) ∧ w' = w.setCell ⟨g, 3, none⟩ (.int .i64 (v + 1)) := by
  have hw : IntKind.i64.wrap (v + 1) = v + 1 := IntWalk.i64_in _ (by omega)
  have hrun := Conc.run_add_entry (P := Tryd.prog) (k := .i64) (d := 1) hc hz
  rw [hw] at hrun
  go_enter Tryd.func54, Tryd.ntmps54
  go_wp2
  rw [run_callFunc_extern Tryd.func67 (by kernel_rfl) (by kernel_rfl) (by kernel_rfl) (e := Extern.Atomic.update (Op.intArith .add) .i64 true) (by kernel_rfl)]
  rw [hrun]
  simp only [Result.andThen]
  rw [Oper.upon_value]
  go_wp2
  go_ret
  exact ⟨rfl, rfl⟩
theorem heap_drewN (w : World) : ∀ n, (w.drewN n).heap = w.heap
  | 0 => rfl
  | n + 1 => (heap_drewN w n :)
theorem Read_any (g n cap gc cc : Nat) (o : Option Addr) (wr : Value) (done left : Int) (kp : Value) (i : Int) (k : Nat) (s : ByteArray) (w : World) (h : DiskAt g (.slice o n cap) (.slice (some ⟨gc, 0, none⟩) n cc) wr done left kp false w) (hi : i = k) (hk : k < n) (hs : w.cell? ⟨gc, k, none⟩ = some (.string s)) :
    Calls Tryd.prog 18 #[.pointer (some ⟨g, 0, none⟩), .int .i64 i] w fun e w' => e = .returned (.tuple #[.string s, .int .i64 0]) ∧ w' = w := by
  subst hi
  have c1 := h.c1
  have c6 := h.c6
  have hkn : (k : Int) < n := by omega
  have hd : (decide (0 ≤ (k : Int)) && decide ((k : Int) < n)) = true := by simp [hkn]
  go_enter Tryd.func18, Tryd.ntmps18
  go_wp2_with (go_at_call 43; refine (has_any g n cap o _ wr done left kp false k w h).mono ?_)
  rintro e w' ⟨rfl, rfl⟩
  rw [hd]
  go_wp2_with fail
  go_ret2
  exact ⟨rfl, rfl⟩
theorem Read_bad (g n cap : Nat) (o : Option Addr) (cu wr : Value) (done left : Int) (kp : Value) (off : Bool) (i : Int) (w : World) (h : DiskAt g (.slice o n cap) cu wr done left kp off w) (hi : ¬ (0 ≤ i ∧ i < n)) :
    Calls Tryd.prog 18 #[.pointer (some ⟨g, 0, none⟩), .int .i64 i] w fun e w' => e = .returned (.tuple #[.string ⟨#[]⟩, .int .i64 1]) ∧ w' = w := by
  have hd : (decide (0 ≤ i) && decide (i < n)) = false := by
    rw [Bool.and_eq_false_iff, decide_eq_false_iff_not, decide_eq_false_iff_not]; omega
  go_enter Tryd.func18, Tryd.ntmps18
  go_wp2_with (go_at_call 43; refine (has_any g n cap o cu wr done left kp off i w h).mono ?_)
  rintro e w' ⟨rfl, rfl⟩
  rw [hd]
  go_wp2_with fail
  go_ret2
  exact ⟨rfl, rfl⟩
theorem Read_off (g n cap : Nat) (o : Option Addr) (cu wr : Value) (done left : Int) (kp : Value) (i : Int) (w : World) (h : DiskAt g (.slice o n cap) cu wr done left kp true w) (hi : 0 ≤ i ∧ i < n) :
    Calls Tryd.prog 18 #[.pointer (some ⟨g, 0, none⟩), .int .i64 i] w fun e w' => e = .returned (.tuple #[.string ⟨#[]⟩, .int .i64 7]) ∧ w' = w := by
  have c6 := h.c6
  have hd : (decide (0 ≤ i) && decide (i < n)) = true := by simp [hi]
  go_enter Tryd.func18, Tryd.ntmps18
  go_wp2_with (go_at_call 43; refine (has_any g n cap o cu wr done left kp true i w h).mono ?_)
  rintro e w' ⟨rfl, rfl⟩
  rw [hd]
  go_wp2_with fail
  go_ret2
  exact ⟨rfl, rfl⟩
theorem Cut_nil (n : Int) (kp : Value) (w : World) :
    Calls Tryd.prog 12 #[.pointer none, .int .i64 n, kp] w fun e w' => e = .returned (.tuple #[]) ∧ w' = w := by
  go_enter Tryd.func12, Tryd.ntmps12
  go_wp2_with fail
  (try simp only [Exit.inBlock, Exit.then]); refine bodyPost_ret (results_none rfl _ _ _) rfl ?_
  exact ⟨rfl, rfl⟩
theorem Cut_none (g cc : Nat) (du cu wr : Value) (done left : Int) (kp : Value) (off : Bool) (n : Int) (w : World) (h : DiskAt g du cu wr done left kp off w) :
    Calls Tryd.prog 12 #[.pointer (some ⟨g, 0, none⟩), .int .i64 n, .slice none 0 cc] w fun e w' => e = .returned (.tuple #[]) ∧ DiskAt g du cu wr done (max n 1) (.slice none 0 0) off w' ∧ Below g w w' := by
  have f4 := h.free 4
  have f5 := h.free 5
  have c4 := h.c4
  have c5 := h.c5
  go_enter Tryd.func12, Tryd.ntmps12
  go_wp2_with (go_at_call 35; refine (Tryd.slices_Clone_int_nil 0 cc w).mono ?_)
  rintro e w' ⟨rfl, rfl⟩
  go_wp2_with fail
  go_end0
  refine ⟨rfl, ?_, ((Below.refl g w').setCell (p := ⟨g, 4, none⟩) (Nat.le_refl g) _).setCell (p := ⟨g, 5, none⟩) (Nat.le_refl g) _⟩
  have h2 : DiskAt g du cu wr done (max n 1) kp off (w'.setCell ⟨g, 4, none⟩ (.int .i64 (max n 1))) := h.set 4 _
  exact h2.set 5 (.slice none 0 0)
end Go.Proofs.YtbpaiiljhdohfaaDoor
namespace Go.Proofs.YtbpaiiljhdohfaaDoor
open Go.RowKit

theorem begin_off (g : Nat) (du cu wr : Value) (done left : Int) (kp : Value) (w : World) (h : DiskAt g du cu wr done left kp true w) :
    Calls Tryd.prog 37 #[.pointer (some ⟨g, 0, none⟩)] w fun e w' => e = .returned (.bool false) ∧ w' = w := by
  have c6 := h.c6
  go_enter Tryd.func37, Tryd.ntmps37
  go_wp2_with fail
  go_ret
  exact ⟨rfl, rfl⟩
theorem begin_go (g : Nat) (du cu wr : Value) (done left : Int) (kp : Value) (w : World) (h : DiskAt g du cu wr done left kp false w) (hl : left ≠ 1) (hl0 : 0 ≤ left) (hl1 : left ≤ 9223372036854775807) (hd0 : 0 ≤ done) (hd1 : done < 9223372036854775807) :
    Calls Tryd.prog 37 #[.pointer (some ⟨g, 0, none⟩)] w fun e w' => e = .returned (.bool true) ∧ DiskAt g du cu wr (done + 1) (max (left - 1) 0) kp false w' ∧ Below g w w' := by
  have c6 := h.c6
  have c4 := h.c4
  have f4 := h.free 4
  have hne : (left == 1) = false := beq_eq_false_iff_ne.2 hl
  have hw : IntKind.i64.wrap (left - 1) = left - 1 := IntWalk.i64_in _ (by omega)
  have h1 : DiskAt g du cu wr done (max (left - 1) 0) kp false (w.setCell ⟨g, 4, none⟩ (.int .i64 (max (left - 1) 0))) := h.set 4 _
  have H1 := Lib.hid h1
  have HD := Lib.hid hd1
  have HH := Lib.hid h
  clear h1 hd1 h
  go_enter Tryd.func37, Tryd.ntmps37
  go_wp2_with (go_at_call 54; refine (Add_any g done _ H1.out.c3 (H1.out.free 3) hd0 HD.out).mono ?_)
  rintro e w' ⟨rfl, rfl⟩
  have h2 : DiskAt g du cu wr (done + 1) (max (left - 1) 0) kp false ((w.setCell ⟨g, 4, none⟩ (.int .i64 (max (left - 1) 0))).setCell ⟨g, 3, none⟩ (.int .i64 (done + 1))) := H1.out.set 3 _
  have H2 := Lib.hid h2
  clear h2
  go_wp2_with fail
  go_ret
  exact ⟨rfl, H2.out, ((Below.refl g w).setCell (p := ⟨g, 4, none⟩) (Nat.le_refl g) _).setCell (p := ⟨g, 3, none⟩) (Nat.le_refl g) _⟩
theorem Sync_nil (w : World) :
    Calls Tryd.prog 66 #[.pointer none] w fun e w' => e = .returned (.int .i64 1) ∧ w' = w := by
  go_enter Tryd.func66, Tryd.ntmps66
  go_wp2_with fail
  go_ret
  exact ⟨rfl, rfl⟩
theorem Sync_off (g : Nat) (du cu wr : Value) (done left : Int) (kp : Value) (w : World) (h : DiskAt g du cu wr done left kp true w) :
    Calls Tryd.prog 66 #[.pointer (some ⟨g, 0, none⟩)] w fun e w' => e = .returned (.int .i64 7) ∧ w' = w := by
  go_enter Tryd.func66, Tryd.ntmps66
  go_wp2_with (go_at_call 37; refine (begin_off g du cu wr done left kp w h).mono ?_)
  rintro e w' ⟨rfl, rfl⟩
  go_wp2_with fail
  go_ret
  exact ⟨rfl, rfl⟩
theorem Crash_nil (kp : Value) (w : World) :
    Calls Tryd.prog 10 #[.pointer none, kp] w fun e w' => e = .returned (.tuple #[]) ∧ w' = w := by
  go_enter Tryd.func10, Tryd.ntmps10
  go_wp2_with fail
  (try simp only [Exit.inBlock, Exit.then]); refine bodyPost_ret (results_none rfl _ _ _) rfl ?_
  exact ⟨rfl, rfl⟩
theorem Write_bad (g n cap : Nat) (o : Option Addr) (cu wr : Value) (done left : Int) (kp : Value) (off : Bool) (i : Int) (s : ByteArray) (w : World) (h : DiskAt g (.slice o n cap) cu wr done left kp off w) (hi : ¬ (0 ≤ i ∧ i < n ∧ s.size ≤ 512)) :
    Calls Tryd.prog 13 #[.pointer (some ⟨g, 0, none⟩), .int .i64 i, .string s] w fun e w' => e = .returned (.int .i64 1) ∧ w' = w := by
  have hd : ((decide (0 ≤ i) && decide (i < n)) && decide ((s.size : Int) ≤ 512)) = false := by
    rw [Bool.and_eq_false_iff, Bool.and_eq_false_iff, decide_eq_false_iff_not, decide_eq_false_iff_not, decide_eq_false_iff_not]; omega
  go_enter Tryd.func13, Tryd.ntmps13
  go_wp2_with (go_at_call 36; refine (fits_any g n cap o cu wr done left kp off i s w h).mono ?_)
  rintro e w' ⟨rfl, rfl⟩
  rw [hd]
  go_wp2_with fail
  go_ret
  exact ⟨rfl, rfl⟩
theorem Write_off (g n cap : Nat) (o : Option Addr) (cu wr : Value) (done left : Int) (kp : Value) (i : Int) (s : ByteArray) (w : World) (h : DiskAt g (.slice o n cap) cu wr done left kp true w) (hi : 0 ≤ i ∧ i < n ∧ s.size ≤ 512) :
    Calls Tryd.prog 13 #[.pointer (some ⟨g, 0, none⟩), .int .i64 i, .string s] w fun e w' => e = .returned (.int .i64 7) ∧ w' = w := by
  have hs : (s.size : Int) ≤ 512 := by omega
  have hd : ((decide (0 ≤ i) && decide (i < n)) && decide ((s.size : Int) ≤ 512)) = true := by simp [hi, hs]
  go_enter Tryd.func13, Tryd.ntmps13
  go_wp2_with (go_at_call 36; refine (fits_any g n cap o cu wr done left kp true i s w h).mono ?_)
  rintro e w' ⟨rfl, rfl⟩
  rw [hd]
  go_wp2_with (go_at_call 37; refine (begin_off g _ cu wr done left kp w' h).mono ?_)
  rintro e w' ⟨rfl, rfl⟩
  go_wp2_with fail
  go_ret
  exact ⟨rfl, rfl⟩
end Go.Proofs.YtbpaiiljhdohfaaDoor
namespace Go.Proofs.YtbpaiiljhdohfaaDoor
open Go.RowKit

/-- The block at g begins with the strings of l. -/
def RowS (g : Nat) (l : List ByteArray) (w : World) : Prop := ∃ cur : Array Value, w.heap[g]? = some (.cells cur 9 (0, 0)) ∧ ∀ (i : Nat) (s : ByteArray), l[i]? = some s → cur[i]? = some (Value.string s)
theorem RowS.cell {g : Nat} {l : List ByteArray} {w : World} (h : RowS g l w) (i : Nat) (s : ByteArray) (hs : l[i]? = some s) : w.cell? ⟨g, i, none⟩ = some (.string s) := by
  obtain ⟨cur, h1, h2⟩ := h
  unfold World.cell?
  simp only [h1]
  exact h2 i s hs
theorem RowS.free {g : Nat} {l : List ByteArray} {w : World} (h : RowS g l w) (i : Nat) : w.frozen? ⟨g, i, none⟩ = false := by
  obtain ⟨cur, h1, _⟩ := h
  simp [World.frozen?, h1]
theorem RowS.lt {g : Nat} {l : List ByteArray} {w : World} (h : RowS g l w) : g < w.heap.size := by
  obtain ⟨cur, h1, _⟩ := h
  exact (Array.getElem?_eq_some_iff.1 h1).1
theorem RowS.below {g : Nat} {l : List ByteArray} {w w' : World} (h : RowS g l w) (hb : Below w.heap.size w w') : RowS g l w' := by
  have hl := h.lt
  obtain ⟨cur, h1, h2⟩ := h
  exact ⟨cur, (hb.block g hl).trans h1, h2⟩
theorem RowS.same {g : Nat} {l : List ByteArray} {w w' : World} (h : RowS g l w) (hb : w'.heap[g]? = w.heap[g]?) : RowS g l w' := by
  obtain ⟨cur, h1, h2⟩ := h
  exact ⟨cur, hb.trans h1, h2⟩
theorem RowS.set {g : Nat} {l : List ByteArray} {w : World} (h : RowS g l w) (k : Nat) (s : ByteArray) : RowS g (l.set k s) (w.setCell ⟨g, k, none⟩ (.string s)) := by
  obtain ⟨cur, h1, h2⟩ := h
  refine ⟨cur.setIfInBounds k (.string s), ?_, fun i x hx => ?_⟩
  · show (w.heap.modify g _)[g]? = _
    rw [Array.getElem?_modify, if_pos rfl, h1]
    rfl
  · rw [List.getElem?_set] at hx
    rw [Array.getElem?_setIfInBounds]
    by_cases e : k = i
    · subst e
      rw [if_pos rfl] at hx ⊢
      by_cases hk : k < l.length
      · rw [if_pos hk] at hx
        injection hx with hx
        have : k < cur.size := by
          obtain ⟨y, hy⟩ : ∃ y, l[k]? = some y := ⟨_, List.getElem?_eq_getElem hk⟩
          exact (Array.getElem?_eq_some_iff.1 (h2 k y hy)).1
        rw [if_pos this, hx]
      · rw [if_neg hk] at hx; cases hx
    · rw [if_neg e] at hx ⊢
      exact h2 i x hx
/-- The cells of the block at g are the writes ws, a pair each. -/
def WrAt (g : Nat) (ws : List (Nat × ByteArray)) (w : World) : Prop := ∀ (j : Nat) (p : Nat × ByteArray), ws[j]? = some p → w.cell? ⟨g, 2 * j, none⟩ = some (.int .i64 p.1) ∧ w.cell? ⟨g, 2 * j + 1, none⟩ = some (.string p.2)
/-- The writes, in their order, over a row. -/
def putW (l : List ByteArray) (ws : List (Nat × ByteArray)) : List ByteArray := ws.foldl (fun l p => l.set p.1 p.2) l
theorem putW_length (l : List ByteArray) (ws : List (Nat × ByteArray)) : (putW l ws).length = l.length := by
  unfold putW
  induction ws generalizing l with
  | nil => rfl
  | cons p ws ih => rw [List.foldl_cons, ih, List.length_set]
theorem putW_take (l : List ByteArray) (ws : List (Nat × ByteArray)) (k : Nat) (p : Nat × ByteArray) (h : ws[k]? = some p) : putW l (ws.take (k + 1)) = (putW l (ws.take k)).set p.1 p.2 := by
  unfold putW
  rw [List.take_add_one, h, List.foldl_append]
  rfl
theorem addr_at (g i : Nat) : (⟨g, 0, none⟩ : Addr).add i = ⟨g, i, none⟩ := by unfold Addr.add; split <;> simp_all
/-- The row of a slice that the call itself made is such a row. -/
theorem RowS.own {w : World} {B n : Nat} {v : Value} {l : List ByteArray} (h : w.ownsRow B 9 1 v n (l.map Value.string)) (hn : 0 < n) : ∃ g cap, v = .slice (some ⟨g, 0, none⟩) n cap ∧ B ≤ g ∧ RowS g l w := by
  rcases h.2 with ⟨hv, h0⟩ | ⟨g, cap, cur, hv, hB, hg, hr⟩
  · omega
  · refine ⟨g, cap, hv, hB, cur, hg, fun i s hs => ?_⟩
    have := h.cells (g := g) (by rw [hv]; rfl) i (.string s) (by rw [List.getElem?_map, hs]; rfl)
    rw [addr_at] at this
    unfold World.cell? at this
    simpa [hg] using this
end Go.Proofs.YtbpaiiljhdohfaaDoor
namespace Go.Proofs.YtbpaiiljhdohfaaDoor
open Go.RowKit

/-- All blocks but these two are as they were. -/
def Kept2 (B g gd : Nat) (w w' : World) : Prop := Below B w w' ∧ w.heap.size ≤ w'.heap.size ∧ ∀ b, b < w.heap.size → b ≠ g → b ≠ gd → w'.heap[b]? = w.heap[b]?
theorem Kept2.refl (B g gd : Nat) (w : World) : Kept2 B g gd w w := ⟨Below.refl _ _, Nat.le_refl _, fun _ _ _ _ => rfl⟩
theorem Kept2.setd {B g gd : Nat} {w wr : World} (h : Kept2 B g gd w wr) (hB : B ≤ gd) (i : Nat) (v : Value) : Kept2 B g gd w (wr.setCell ⟨gd, i, none⟩ v) :=
  ⟨h.1.setCell (p := ⟨gd, i, none⟩) hB _, by have := h.2.1; show _ ≤ (wr.heap.modify gd _).size; rw [Array.size_modify]; exact this, fun b hb h1 h2 => (Below.heap_setCell _ _ _ _ (by show b ≠ gd; exact h2)).trans (h.2.2 b hb h1 h2)⟩
theorem Kept2.setg {B g gd : Nat} {w wr : World} (h : Kept2 B g gd w wr) (hB : B ≤ g) (i : Nat) (v : Value) : Kept2 B g gd w (wr.setCell ⟨g, i, none⟩ v) :=
  ⟨h.1.setCell (p := ⟨g, i, none⟩) hB _, by have := h.2.1; show _ ≤ (wr.heap.modify g _).size; rw [Array.size_modify]; exact this, fun b hb h1 h2 => (Below.heap_setCell _ _ _ _ (by show b ≠ g; exact h1)).trans (h.2.2 b hb h1 h2)⟩
theorem Kept2.alloc {B g gd : Nat} {w wr : World} (h : Kept2 B g gd w wr) (o : Obj) (hB : B ≤ wr.heap.size) : Kept2 B g gd w (wr.alloc o) :=
  ⟨h.1.alloc hB o, by have := h.2.1; show _ ≤ (wr.heap.push _).size; simp; omega, fun b hb h1 h2 => (Lib.alloc_old wr o b (Nat.lt_of_lt_of_le hb h.2.1)).trans (h.2.2 b hb h1 h2)⟩
theorem Kept2.drew {B g gd : Nat} {w wr : World} (h : Kept2 B g gd w wr) : Kept2 B g gd w wr.drew := ⟨h.1.drew, h.2.1, h.2.2⟩
def SetS (B g gd gw n m cd cw : Nat) (l : List ByteArray) (ws : List (Nat × ByteArray)) (cu : Value) (done left : Int) (kp : Value) (off : Bool) (w : World) (i : Value) (wr : World) : Prop :=
  ∃ k : Nat, k ≤ m ∧ i = .int .i64 k ∧ DiskAt g (.slice (some ⟨gd, 0, none⟩) n cd) cu (.slice (some ⟨gw, 0, none⟩) m cw) done left kp off wr ∧ RowS gd (putW l (ws.take k)) wr ∧ Kept2 B g gd w wr
theorem write_size : (Tryd.prog.info? 92).map (·.size) = some 2 := by kernel_rfl

set_option maxHeartbeats 1000000 in
set_option maxRecDepth 100000 in
theorem settle_any (B g gd gw n m cd cw : Nat) (l : List ByteArray) (ws : List (Nat × ByteArray)) (cu : Value) (done left : Int) (kp : Value) (off : Bool) (w : World) (h : DiskAt g (.slice (some ⟨gd, 0, none⟩) n cd) cu (.slice (some ⟨gw, 0, none⟩) m cw) done left kp off w) (hd : RowS gd l w) (hl : l.length = n) (hw : WrAt gw ws w) (hm : ws.length = m) (hgw : gw < w.heap.size) (hb : ∀ p ∈ ws, p.1 < n) (h1 : g ≠ gd) (h2 : gw ≠ gd) (h3 : gw ≠ g) (hB1 : B ≤ g) (hB2 : B ≤ gd) (hn : n ≤ 4096) (hmm : m ≤ 100000000) :
    Calls Tryd.prog 52 #[.pointer (some ⟨g, 0, none⟩)] w fun e w' => e = .returned (.tuple #[]) ∧ DiskAt g (.slice (some ⟨gd, 0, none⟩) n cd) cu (.slice none 0 0) done left kp off w' ∧ RowS gd (putW l ws) w' ∧ Kept2 B g gd w w' := by
  have c2 := h.c2
  have hm' : (m : Int) ≤ 100000000 := by omega
  have hS : SetS B g gd gw n m cd cw l ws cu done left kp off w (.int .i64 0) w := ⟨0, Nat.zero_le _, rfl, h, hd, Kept2.refl _ _ _ _⟩
  have HS := Lib.hid hS; have HW := Lib.hid hw; have HM := Lib.hid hm; have HB := Lib.hid hb; have HL := Lib.hid hl; have HG := Lib.hid hgw
  have HN := Lib.hid (show h1 = h1 from rfl)
  clear hS hw hm hb hl hd h HN hgw
  go_enter Tryd.func52, Tryd.ntmps52
  go_wp2_with fail
  clear c2
  go_loopw [9] (fun i wr => SetS B g gd gw n m cd cw l ws cu done left kp off w i wr) (fun i _ => m - (intOf i).toNat)
  case atStart => exact HS.out
  case round =>
    obtain ⟨k, hk, rfl, hD, hR, hK⟩ := hrel
    have HD := Lib.hid hD; have HR := Lib.hid hR; have HK := Lib.hid hK
    clear hD hR hK
    by_cases hkm : k < m
    · have hki : (k : Int) < m := by omega
      obtain ⟨p, hp⟩ : ∃ p, ws[k]? = some p := ⟨_, List.getElem?_eq_getElem (by rw [HM.out]; exact hkm)⟩
      have hwp := HW.out k p hp
      have hbk : ∀ c, (wr.cell? ⟨gw, c, none⟩ = w.cell? ⟨gw, c, none⟩) := fun c => by unfold World.cell?; simp only [HK.out.2.2 gw HG.out h3 h2]
      have d0 : wr.cell? ⟨gw, k * 2, none⟩ = some (.int .i64 p.1) := by rw [show k * 2 = 2 * k by omega, hbk]; exact hwp.1
      have d1 : wr.cell? ⟨gw, k * 2 + 1, none⟩ = some (.string p.2) := by rw [show k * 2 + 1 = 2 * k + 1 by omega, hbk]; exact hwp.2
      clear hwp hbk
      go_wp2_with (refine wpList_store_row rfl 92 _ _ rfl wr.heap.size #[.int .i64 p.1, .string p.2] rfl rfl 92 _ (heap_alloc_new wr _) write_size rfl (by rfl) ?_)
      have hb1 : Below wr.heap.size wr (wr.alloc (.cells #[.int .i64 p.1, .string p.2] 92)) := (Below.refl _ _).alloc (Nat.le_refl _) _
      have hD1 := HD.out.below hb1
      have hR1 := HR.out.below hb1
      have hK1 := HK.out.alloc (.cells #[.int .i64 p.1, .string p.2] 92) (Nat.le_trans hB2 (Nat.le_of_lt HR.out.lt))
      have z0 : (wr.alloc (.cells #[.int .i64 p.1, .string p.2] 92)).cell? ⟨wr.heap.size, 0, none⟩ = some (.int .i64 p.1) := by unfold World.cell?; simp only [heap_alloc_new wr]; rfl
      have z1 : (wr.alloc (.cells #[.int .i64 p.1, .string p.2] 92)).cell? ⟨wr.heap.size, 1, none⟩ = some (.string p.2) := by unfold World.cell?; simp only [heap_alloc_new wr]; rfl
      obtain ⟨w1, hw1⟩ : ∃ w1, wr.alloc (.cells #[.int .i64 p.1, .string p.2] 92) = w1 := ⟨_, rfl⟩
      rw [hw1] at hD1 hR1 hK1 z0 z1 ⊢
      obtain ⟨gz, hgz⟩ : ∃ gz, wr.heap.size = gz := ⟨_, rfl⟩
      rw [hgz] at z0 z1 ⊢
      clear hb1 hw1 d0 d1 hgz HD HR HK
      have hpn : p.1 < n := HB.out p (List.mem_of_getElem? hp)
      obtain ⟨x, hx⟩ : ∃ x, (putW l (ws.take k))[p.1]? = some x := ⟨_, List.getElem?_eq_getElem (by rw [putW_length, HL.out]; exact hpn)⟩
      have e0 := hD1.c0
      have e1 := hR1.cell _ _ hx
      have fd := hR1.free p.1
      have hstep : Hid (SetS B g gd gw n m cd cw l ws cu done left kp off w (.int .i64 ((k : Int) + 1)) (w1.setCell ⟨gd, p.1, none⟩ (.string p.2)).drew) := Lib.hid
        ⟨k + 1, by omega, by rw [Int.natCast_succ], (Below.heap_setCell _ _ _ _ (by show g ≠ gd; exact h1)).trans hD1, by rw [putW_take l ws k p hp]; exact hR1.set p.1 p.2, (hK1.setd hB2 _ _).drew⟩
      obtain ⟨pi, ps⟩ := p
      have hpi : (pi : Int) < n := by omega
      have hki0 : (k : Int) ≤ 100000000 := by omega
      clear hp hx hD1 hR1 hK1 hpn
      refine wp_region_still_tail 9 (by kernel_rfl) (by kernel_rfl) ?_
      change wpStill _ _ (World.drew _) _ _ _
      simp only [List.take_succ_cons, List.take_zero, List.drop_succ_cons, List.drop_zero]
      repeat still_step
      try refine wpStill_nil ?_
      change wpList _ _ _ _ _ (World.drew _)
      go_wp2_with fail
      exact ⟨hstep.out, by simp [intOf]; omega⟩
    · have hkm' : k = m := by omega
      subst hkm'
      have hfin : RowS gd (putW l ws) wr := by have := HR.out; rwa [List.take_of_length_le (by rw [HM.out]; exact Nat.le_refl _)] at this
      have f2 := HD.out.free 2
      have c2 := HD.out.c2
      have hD2 : DiskAt g (.slice (some ⟨gd, 0, none⟩) n cd) cu (.slice none 0 0) done left kp off (wr.setCell ⟨g, 2, none⟩ (.slice none 0 0)) := HD.out.set 2 _
      have hR2 : RowS gd (putW l ws) (wr.setCell ⟨g, 2, none⟩ (.slice none 0 0)) := hfin.same (Below.heap_setCell _ _ _ _ (by show gd ≠ g; omega))
      have HD2 := Lib.hid hD2; have HR2 := Lib.hid hR2
      clear hfin hD2 hR2
      go_wp2_with fail
      go_end0
      exact ⟨rfl, HD2.out, HR2.out, HK.out.setg hB1 2 _⟩
end Go.Proofs.YtbpaiiljhdohfaaDoor
namespace Go.Proofs.YtbpaiiljhdohfaaDoor
open Go.RowKit

theorem settle_nil (B g gd : Nat) (cw : Nat) (o : Option Addr) (du cu : Value) (done left : Int) (kp : Value) (off : Bool) (w : World) (h : DiskAt g du cu (.slice o 0 cw) done left kp off w) (hB1 : B ≤ g) :
    Calls Tryd.prog 52 #[.pointer (some ⟨g, 0, none⟩)] w fun e w' => e = .returned (.tuple #[]) ∧ DiskAt g du cu (.slice none 0 0) done left kp off w' ∧ Kept2 B g gd w w' := by
  have c2 := h.c2
  have f2 := h.free 2
  have hD2 : DiskAt g du cu (.slice none 0 0) done left kp off (w.setCell ⟨g, 2, none⟩ (.slice none 0 0)) := h.set 2 _
  have HD2 := Lib.hid hD2
  clear hD2 h
  go_enter Tryd.func52, Tryd.ntmps52
  go_wp2_with fail
  go_loopw [9] (fun i wr => i = .int .i64 0 ∧ wr = w) (fun i _ => 0)
  case atStart => exact ⟨rfl, rfl⟩
  case round =>
    obtain ⟨rfl, rfl⟩ := hrel
    go_wp2_with fail
    go_end0
    exact ⟨rfl, HD2.out, (Kept2.refl B g gd wr).setg hB1 2 _⟩
theorem Kept2.trans {B g gd : Nat} {a b c : World} (h : Kept2 B g gd a b) (h' : Kept2 B g gd b c) : Kept2 B g gd a c :=
  ⟨h.1.trans h'.1, Nat.le_trans h.2.1 h'.2.1, fun x hx h1 h2 => (h'.2.2 x (Nat.lt_of_lt_of_le hx h.2.1) h1 h2).trans (h.2.2 x hx h1 h2)⟩
theorem begin_go2 (g : Nat) (du cu wr : Value) (done left : Int) (kp : Value) (w : World) (h : DiskAt g du cu wr done left kp false w) (hl : left ≠ 1) (hl0 : 0 ≤ left) (hl1 : left ≤ 9223372036854775807) (hd0 : 0 ≤ done) (hd1 : done < 9223372036854775807) :
    Calls Tryd.prog 37 #[.pointer (some ⟨g, 0, none⟩)] w fun e w' => e = .returned (.bool true) ∧ DiskAt g du cu wr (done + 1) (max (left - 1) 0) kp false w' ∧ Below g w w' ∧ (∀ b, b ≠ g → w'.heap[b]? = w.heap[b]?) ∧ w'.heap.size = w.heap.size := by
  have c6 := h.c6
  have c4 := h.c4
  have f4 := h.free 4
  have hne : (left == 1) = false := beq_eq_false_iff_ne.2 hl
  have hw : IntKind.i64.wrap (left - 1) = left - 1 := IntWalk.i64_in _ (by omega)
  have h1 : DiskAt g du cu wr done (max (left - 1) 0) kp false (w.setCell ⟨g, 4, none⟩ (.int .i64 (max (left - 1) 0))) := h.set 4 _
  have H1 := Lib.hid h1
  have HD := Lib.hid hd1
  have HH := Lib.hid h
  clear h1 hd1 h
  go_enter Tryd.func37, Tryd.ntmps37
  go_wp2_with (go_at_call 54; refine (Add_any g done _ H1.out.c3 (H1.out.free 3) hd0 HD.out).mono ?_)
  rintro e w' ⟨rfl, rfl⟩
  have h2 : DiskAt g du cu wr (done + 1) (max (left - 1) 0) kp false ((w.setCell ⟨g, 4, none⟩ (.int .i64 (max (left - 1) 0))).setCell ⟨g, 3, none⟩ (.int .i64 (done + 1))) := H1.out.set 3 _
  have H2 := Lib.hid h2
  clear h2
  go_wp2_with fail
  go_ret
  refine ⟨rfl, H2.out, ((Below.refl g w).setCell (p := ⟨g, 4, none⟩) (Nat.le_refl g) _).setCell (p := ⟨g, 3, none⟩) (Nat.le_refl g) _, fun b hb => ?_, ?_⟩
  · exact (Below.heap_setCell _ _ _ _ (by show b ≠ g; exact hb)).trans (Below.heap_setCell _ _ _ _ (by show b ≠ g; exact hb))
  · have e1 : ∀ (w : World) (i : Nat) (v : Value), (w.setCell ⟨g, i, none⟩ v).heap.size = w.heap.size := fun w i v => by
      show (w.heap.modify g _).size = _
      rw [Array.size_modify]
    rw [e1, e1]
theorem Sync_go (B g gd gw n m cd cw : Nat) (l : List ByteArray) (ws : List (Nat × ByteArray)) (cu : Value) (done left : Int) (kp : Value) (w : World) (h : DiskAt g (.slice (some ⟨gd, 0, none⟩) n cd) cu (.slice (some ⟨gw, 0, none⟩) m cw) done left kp false w) (hd : RowS gd l w) (hl : l.length = n) (hw : WrAt gw ws w) (hm : ws.length = m) (hgw : gw < w.heap.size) (hb : ∀ p ∈ ws, p.1 < n) (h1 : g ≠ gd) (h2 : gw ≠ gd) (h3 : gw ≠ g) (hB1 : B ≤ g) (hB2 : B ≤ gd) (hn : n ≤ 4096) (hmm : m ≤ 100000000)
    (hle : left ≠ 1) (hl0 : 0 ≤ left) (hl1 : left ≤ 9223372036854775807) (hd0 : 0 ≤ done) (hd1 : done < 9223372036854775807) :
    Calls Tryd.prog 66 #[.pointer (some ⟨g, 0, none⟩)] w fun e w' => e = .returned (.int .i64 0) ∧ DiskAt g (.slice (some ⟨gd, 0, none⟩) n cd) cu (.slice none 0 0) (done + 1) (max (left - 1) 0) kp false w' ∧ RowS gd (putW l ws) w' ∧ Kept2 B g gd w w' := by
  have HH := Lib.hid h; have HL := Lib.hid hl; have HM := Lib.hid hm; have HW := Lib.hid hw; have HB := Lib.hid hb; have HR := Lib.hid hd; have HG := Lib.hid hgw
  have H0 := Lib.hid hd0; have H1 := Lib.hid hd1; have H2 := Lib.hid hl0; have H3 := Lib.hid hl1; have H4 := Lib.hid hn; have H5 := Lib.hid hmm
  clear h hl hm hw hb hd hgw hd0 hd1 hl0 hl1 hn hmm
  go_enter Tryd.func66, Tryd.ntmps66
  go_wp2_with (go_at_call 37; refine (begin_go2 g _ cu _ done left kp w HH.out hle H2.out H3.out H0.out H1.out).mono ?_)
  rintro e w1 ⟨rfl, hD1, hb1, hs1, hz⟩
  have hR1 : RowS gd l w1 := HR.out.same (hs1 gd (Ne.symm h1))
  have hW1 : WrAt gw ws w1 := fun j p hp => by
    have hbk : ∀ c, (w1.cell? ⟨gw, c, none⟩ = w.cell? ⟨gw, c, none⟩) := fun c => by unfold World.cell?; simp only [hs1 gw h3]
    rw [hbk, hbk]; exact HW.out j p hp
  have hz1 : w.heap.size ≤ w1.heap.size := Nat.le_of_eq hz.symm
  have K1 : Kept2 B g gd w w1 := ⟨hb1.mono hB1, hz1, fun b _ hb2 _ => hs1 b hb2⟩
  have HK1 := Lib.hid K1; have HR1 := Lib.hid hR1; have HW1 := Lib.hid hW1; have HD1 := Lib.hid hD1; have HZ1 := Lib.hid (Nat.lt_of_lt_of_le HG.out hz1)
  clear K1 hR1 hW1 hD1 hz1 hb1 hs1 hz
  go_wp2_with (go_at_call 52; refine (settle_any B g gd gw n m cd cw l ws cu (done + 1) _ kp false w1 HD1.out HR1.out HL.out HW1.out HM.out HZ1.out HB.out h1 h2 h3 hB1 hB2 H4.out H5.out).mono ?_)
  rintro e w2 ⟨rfl, hD2, hR2, hK2⟩
  have HD2 := Lib.hid hD2; have HR2 := Lib.hid hR2; have HK2 := Lib.hid (HK1.out.trans hK2)
  clear hD2 hR2 hK2
  go_wp2_with fail
  go_ret
  exact ⟨rfl, HD2.out, HR2.out, HK2.out⟩
end Go.Proofs.YtbpaiiljhdohfaaDoor
namespace Go.Proofs.YtbpaiiljhdohfaaDoor
open Go.RowKit

theorem own_setCell {w : World} {B e size n g i : Nat} {v u : Value} {xs : List Value} (h : w.ownsRow B e size v n xs) (hg : g < B) : (w.setCell ⟨g, i, none⟩ u).ownsRow B e size v n xs := by
  refine ⟨h.1, ?_⟩
  rcases h.2 with hv | ⟨g', cap, cur, hv, hB, hg', r⟩
  · exact .inl hv
  · exact .inr ⟨g', cap, cur, hv, hB, (Below.heap_setCell _ _ _ _ (by show g' ≠ g; omega)).trans hg', r⟩
theorem Cut_some (g b o kn kc : Nat) (zs : List Int) (du cu wr : Value) (done left : Int) (kp : Value) (off : Bool) (n : Int) (w : World) (h : DiskAt g du cu wr done left kp off w) (hz : kn ≤ zs.length) (hbig : kn * 8 ≤ 140737488355328) (hc : ∀ j, j < zs.length → w.cell? ⟨b, o + j, none⟩ = some (.int .i64 (zs.getD j 0))) :
    Calls Tryd.prog 12 #[.pointer (some ⟨g, 0, none⟩), .int .i64 n, .slice (some ⟨b, o, none⟩) kn kc] w fun e w' => e = .returned (.tuple #[]) ∧ ∃ v', DiskAt g du cu wr done (max n 1) v' off w' ∧ w'.ownsRow w.heap.size 3 1 v' kn ((zs.take kn).map (Value.int .i64)) ∧ Below g w w' := by
  have HH := Lib.hid h
  clear h
  go_enter Tryd.func12, Tryd.ntmps12
  go_wp2_with (go_at_call 35; refine (Tryd.slices_Clone_int b o kn kc zs w hz hbig hc).mono ?_)
  rintro e w1 ⟨v', rfl, hown, hne, hb⟩
  obtain ⟨ao, n', cp, rfl⟩ : ∃ ao n' cp, v' = .slice ao n' cp := by
    rcases hown.2 with ⟨hv, _⟩ | ⟨g', cap, cur, hv, _⟩
    · exact ⟨_, _, _, hv⟩
    · exact ⟨_, _, _, hv⟩
  have hD := HH.out.below hb
  have hgl := HH.out.lt
  have f4 := hD.free 4
  have f5 := hD.free 5
  have c4 := hD.c4
  have c5 := hD.c5
  have h2 : DiskAt g du cu wr done (max n 1) kp off (w1.setCell ⟨g, 4, none⟩ (.int .i64 (max n 1))) := hD.set 4 _
  have h3 : DiskAt g du cu wr done (max n 1) (.slice ao n' cp) off ((w1.setCell ⟨g, 4, none⟩ (.int .i64 (max n 1))).setCell ⟨g, 5, none⟩ (.slice ao n' cp)) := h2.set 5 _
  have H3 := Lib.hid h3; have HO := Lib.hid (own_setCell (i := 5) (u := .slice ao n' cp) (own_setCell (i := 4) (u := .int .i64 (max n 1)) hown hgl) hgl); have HB := Lib.hid (hb.mono (Nat.le_of_lt hgl))
  clear h2 h3 hown hD hb
  go_wp2_with fail
  go_end0
  exact ⟨rfl, _, H3.out, HO.out, (HB.out.setCell (p := ⟨g, 4, none⟩) (Nat.le_refl g) _).setCell (p := ⟨g, 5, none⟩) (Nat.le_refl g) _⟩
end Go.Proofs.YtbpaiiljhdohfaaDoor
namespace Go.Proofs.YtbpaiiljhdohfaaDoor
open Go.RowKit

/-- Is the write at index k lost? -/
def lostB (kp : List Int) (k : Nat) : Bool := kp.isEmpty || ((kp.getD (k % kp.length) 0).tmod 2 == 0)
theorem fail1_nil (kb : Nat) (a : Option Addr) (kc : Nat) (k : Nat) (i : Int) (s : ByteArray) (w : World) (hk : w.cell? ⟨kb, 0, none⟩ = some (.slice a 0 kc)) :
    Calls Tryd.prog 51 #[.int .i64 k, .agg #[.int .i64 i, .string s], .pointer (some ⟨kb, 0, none⟩)] w fun e w' => e = .returned (.bool true) ∧ Below w.heap.size w w' := by
  have hlt := World.block_lt_of_cell? w _ hk
  have hk2 : (w.alloc (.cells #[.int .i64 i, .string s] 92)).cell? ⟨kb, 0, none⟩ = some (.slice a 0 kc) := by
    rw [World.cell?_alloc_past _ _ _ hlt]; exact hk
  go_enter Tryd.func51, Tryd.ntmps51
  go_wp2_with fail
  go_region
  all_goals (try go_wp2)
  all_goals go_ret
  all_goals exact ⟨rfl, ((Below.refl _ _).alloc (Nat.le_refl _) _).drew⟩
theorem fail1_some (kb b o kn kc : Nat) (zs : List Int) (k : Nat) (i : Int) (s : ByteArray) (w : World) (hk : w.cell? ⟨kb, 0, none⟩ = some (.slice (some ⟨b, o, none⟩) kn kc)) (hn : 0 < kn) (hz : zs.length = kn) (hc : ∀ j, j < zs.length → w.cell? ⟨b, o + j, none⟩ = some (.int .i64 (zs.getD j 0))) (hk9 : k ≤ 100000000) (hkn : kn ≤ 100000000000000) :
    Calls Tryd.prog 51 #[.int .i64 k, .agg #[.int .i64 i, .string s], .pointer (some ⟨kb, 0, none⟩)] w fun e w' => e = .returned (.bool (lostB zs k)) ∧ Below w.heap.size w w' := by
  have hlt := World.block_lt_of_cell? w _ hk
  have hk2 : (w.alloc (.cells #[.int .i64 i, .string s] 92)).cell? ⟨kb, 0, none⟩ = some (.slice (some ⟨b, o, none⟩) kn kc) := by
    rw [World.cell?_alloc_past _ _ _ hlt]; exact hk
  have hmod : k % kn < kn := Nat.mod_lt _ hn
  obtain ⟨q, hq⟩ : ∃ q, k % kn = q := ⟨_, rfl⟩
  have hrem : (k : Int).tmod (kn : Int) = (q : Int) := by rw [← hq]; rfl
  rw [hq] at hmod
  obtain ⟨v, hv⟩ : ∃ v, zs.getD q 0 = v := ⟨_, rfl⟩
  have hcq : (w.alloc (.cells #[.int .i64 i, .string s] 92)).cell? ⟨b, o + q, none⟩ = some (.int .i64 v) := by
    have := hc q (by omega)
    rw [World.cell?_alloc_past _ _ _ (World.block_lt_of_cell? w _ this), this, hv]
  have hl : lostB zs k = (v.tmod 2 == 0) := by
    unfold lostB
    rw [hz, hq, hv]
    cases zs with
    | nil => simp at hz; omega
    | cons _ _ => rfl
  have hn0 : ((kn : Int) == 0) = false := beq_eq_false_iff_ne.2 (by omega)
  have HL := Lib.hid hl
  have hq1 : (q : Int) < kn := by omega
  clear hl hv hq hz hk hc
  go_enter Tryd.func51, Tryd.ntmps51
  go_wp2_with fail
  go_region
  all_goals (try go_wp2)
  all_goals go_ret
  all_goals exact ⟨by rw [HL.out]; rfl, ((Below.refl _ _).alloc (Nat.le_refl _) _).drew⟩
end Go.Proofs.YtbpaiiljhdohfaaDoor
namespace Go.Proofs.YtbpaiiljhdohfaaDoor
open Go.RowKit

/-- The cells of a row of writes. -/
def flat (ws : List (Nat × ByteArray)) : List Value := ws.flatMap fun p => [Value.int .i64 (p.1 : Int), Value.string p.2]
theorem flat_length (ws : List (Nat × ByteArray)) : (flat ws).length = 2 * ws.length := by
  unfold flat
  induction ws with
  | nil => rfl
  | cons p ws ih => rw [List.flatMap_cons, List.length_append, ih, List.length_cons]; simp; omega
theorem flat_append (a b : List (Nat × ByteArray)) : flat (a ++ b) = flat a ++ flat b := by unfold flat; rw [List.flatMap_append]
theorem flat_one (p : Nat × ByteArray) : flat [p] = [Value.int .i64 (p.1 : Int), Value.string p.2] := rfl
theorem flat_get (ws : List (Nat × ByteArray)) (k : Nat) (p : Nat × ByteArray) (h : ws[k]? = some p) : (flat ws)[2 * k]? = some (.int .i64 (p.1 : Int)) ∧ (flat ws)[2 * k + 1]? = some (.string p.2) := by
  induction ws generalizing k with
  | nil => simp at h
  | cons q ws ih =>
    have e : flat (q :: ws) = Value.int .i64 (q.1 : Int) :: Value.string q.2 :: flat ws := rfl
    rw [e]
    cases k with
    | zero => simp at h; subst h; exact ⟨rfl, rfl⟩
    | succ k =>
      rw [List.getElem?_cons_succ] at h
      have := ih k h
      rw [show 2 * (k + 1) = 2 * k + 1 + 1 by omega]
      simpa only [List.getElem?_cons_succ] using this
/-- Of the first k writes those that aren't lost. -/
def keepTo (lost : Nat → Int → Bool) (ws : List (Nat × ByteArray)) (k : Nat) : List (Nat × ByteArray) := ((ws.take k).zipIdx.filter fun q => !lost q.2 (q.1.1 : Int)).map (·.1)
theorem keepTo_succ (lost : Nat → Int → Bool) (ws : List (Nat × ByteArray)) (k : Nat) (p : Nat × ByteArray) (h : ws[k]? = some p) : keepTo lost ws (k + 1) = keepTo lost ws k ++ (if lost k (p.1 : Int) then [] else [p]) := by
  have hk : k < ws.length := (List.getElem?_eq_some_iff.1 h).1
  have hl : (ws.take k).length = k := by rw [List.length_take]; omega
  unfold keepTo
  rw [List.take_add_one, h, Option.toList_some, List.zipIdx_append, List.filter_append, List.map_append, hl]
  congr 1
  by_cases c : lost k (p.1 : Int) = true
  · simp [c]
  · simp [c]
theorem keepTo_length (lost : Nat → Int → Bool) (ws : List (Nat × ByteArray)) (k : Nat) : (keepTo lost ws k).length ≤ k := by
  unfold keepTo
  rw [List.length_map]
  refine Nat.le_trans (List.length_filter_le _ _) ?_
  rw [List.length_zipIdx, List.length_take]
  omega
theorem keepTo_mem (lost : Nat → Int → Bool) (ws : List (Nat × ByteArray)) (k : Nat) (p : Nat × ByteArray) (h : p ∈ keepTo lost ws k) : p ∈ ws := by
  unfold keepTo at h
  obtain ⟨q, hq, rfl⟩ := List.mem_map.1 h
  have := (List.mem_filter.1 hq).1
  obtain ⟨a, b⟩ := q
  have h2 := List.mem_zipIdx this
  have : a ∈ ws.take k := by rw [h2.2.2]; exact List.getElem_mem _
  exact List.mem_of_mem_take this

theorem wpList_append_pair {P : Program} (w : World) {ops : Array Oper} {rest : List Oper} {o : Oper} {a : Act} {Q : Exit → Act → World → Prop} (hgd : o.guard = none) (s x : Operand) (t : TypeId)
    (ho : o.op = .call { callee := .builtin .append, args := #[s, x], argTypes := #[t, t] })
    (e : TypeId) (i : TypeInfo) (ht : P.underlying t = some (.slice e)) (hi : P.info? e = some i) (hsz : i.size = 2)
    (g sLen sCap : Nat) (cur : Array Value) (hg : w.heap[g]? = some (.cells cur e (0, 0))) (hs : a.eval s = .slice (some ⟨g, 0, none⟩) sLen sCap)
    (ad : Addr) (c : Nat) (u v : Value) (hx : a.eval x = .slice (some ad) 1 c) (h0 : w.cell? (ad.add 0) = some u) (h1 : w.cell? (ad.add 1) = some v) (hu : u.oneCell' = true) (hv : v.oneCell' = true)
    (hroom : sLen + 1 ≤ sCap) (hfit : sLen * 2 + 2 ≤ cur.size)
    (h : wpList P ops Q rest (a.put o.dst (.slice (some ⟨g, 0, none⟩) (sLen + 1) sCap)) (w.setRow g (cur.toList.take (sLen * 2) ++ [u, v] ++ cur.toList.drop (sLen * 2 + 2)).toArray)) : wpList P ops Q (o :: rest) a w := by
  refine wpList_plain hgd fun _ hK => ?_
  have hr := run_append_room (P := P) w t o.type e i ht hi g sLen sCap cur hg ad 1 c [u, v] (by simp [hsz]) (fun j y hy => by
    match j, hy with
    | 0, hy => simp at hy; subst hy; exact h0
    | 1, hy => simp at hy; subst hy; exact h1) (by intro y hy; simp at hy; rcases hy with rfl | rfl <;> assumption) hroom (by rw [hsz]; simpa using hfit)
  rw [hsz] at hr
  unfold Oper.wp execOp
  simp only [ho, resolve, invoke, builtin, Sem.run_bind, Sem.run_pure, Result.andThen_ok, List.map_toArray, List.map_cons, List.map_nil, hs, hx, hr]
  exact hK _ _ h
/-- 'clear' of a piece of a row. -/
theorem run_clear_row {P : Program} (w : World) (t e : TypeId) (z : Value) (ht : P.underlying t = some (.slice e)) (hv : ∀ w, (zeroValue e).run P w = .ok z w) (hz2 : z.cells.size = 2) (h1 : ∀ u ∈ z.cells, u.oneCell' = true)
    (g o n c : Nat) (hn : 0 < n) (cur : Array Value) (t' : TypeId) (hg : w.heap[g]? = some (.cells cur t' (0, 0))) (hfit : o + n * 2 ≤ cur.size) :
    ∃ vs : List Value, vs.length = n * 2 ∧ ∀ ty, (Builtin.clear_ #[t] ty #[.slice (some ⟨g, o, none⟩) n c]).run P w = .ok (.tuple #[]) (w.setRow g (cur.toList.take o ++ vs ++ cur.toList.drop (o + n * 2)).toArray) := by
  have hl : (Builtin.zeroCells z.cells n).toList.length = n * 2 := by simp [Builtin.zeroCells, hz2]
  have hst := run_storeCells_at P g o t' (Builtin.zeroCells z.cells n).toList 0 cur w hg (by rw [hl]; simpa using hfit) (by
    intro u hu
    simp only [Builtin.zeroCells, Array.toList_map, List.mem_map] at hu
    obtain ⟨i, _, rfl⟩ := hu
    have : i % z.cells.size < z.cells.size := Nat.mod_lt _ (by omega)
    rw [getElem!_pos z.cells (i % z.cells.size) this]
    exact h1 _ (Array.getElem_mem _))
  rw [hl] at hst
  simp only [Nat.add_zero] at hst
  refine ⟨_, hl, fun ty => ?_⟩
  obtain ⟨m, rfl⟩ : ∃ m, n = m + 1 := ⟨n - 1, by omega⟩
  simp [Builtin.clear_, run_underlying ht, hv, hst]
theorem run_clear_none {P : Program} (w : World) (t e : TypeId) (ht : P.underlying t = some (.slice e)) (a : Option Addr) (c : Nat) (ty : TypeId) :
    (Builtin.clear_ #[t] ty #[.slice a 0 c]).run P w = .ok (.tuple #[]) w := by
  cases a <;> simp [Builtin.clear_, run_underlying ht]
/-- One pair more at the end of what is kept. -/
theorem om_list (L : List Value) (j k : Nat) (u v : Value) (h : j ≤ k) (hl : j * 2 + 2 ≤ L.length) :
    (L.take (j * 2) ++ [u, v] ++ L.drop (j * 2 + 2)).take ((j + 1) * 2) = L.take (j * 2) ++ [u, v] ∧ (L.take (j * 2) ++ [u, v] ++ L.drop (j * 2 + 2)).drop (2 * (k + 1)) = L.drop (2 * (k + 1)) ∧ (L.take (j * 2) ++ [u, v] ++ L.drop (j * 2 + 2)).length = L.length := by
  have hlen : (L.take (j * 2) ++ [u, v]).length = (j + 1) * 2 := by simp; omega
  refine ⟨?_, ?_, ?_⟩
  · rw [List.take_append_of_le_length (by omega), List.take_of_length_le (by omega)]
  · rw [List.drop_append, List.drop_eq_nil_of_le (by omega), List.nil_append, hlen, List.drop_drop]
    congr 1; omega
  · simp; omega
theorem Kept2.below {B g gd : Nat} {w w1 w2 : World} (h : Kept2 B g gd w w1) (hB : B ≤ w1.heap.size) (hb : Below w1.heap.size w1 w2) : Kept2 B g gd w w2 :=
  ⟨h.1.trans (hb.mono hB), Nat.le_trans h.2.1 hb.size, fun b hb' h1 h2 => (hb.block b (Nat.lt_of_lt_of_le hb' h.2.1)).trans (h.2.2 b hb' h1 h2)⟩
theorem Kept2.row {B g gd : Nat} {w w1 : World} (h : Kept2 B g gd w w1) (hB : B ≤ gd) (cs : Array Value) : Kept2 B g gd w (w1.setRow gd cs) :=
  ⟨below_setRow h.1 hB cs, by rw [setRow_size]; exact h.2.1, fun b hb' h1 h2 => (setRow_other w1 gd b cs h2).trans (h.2.2 b hb' h1 h2)⟩
theorem Kept2.mix {B g gd : Nat} {w w1 : World} (h : Kept2 B gd gd w w1) : Kept2 B g gd w w1 := ⟨h.1, h.2.1, fun b hb _ h2 => h.2.2 b hb h2 h2⟩
theorem cell_below {w w' : World} {g i : Nat} {v : Value} (hb : Below w.heap.size w w') (h : w.cell? ⟨g, i, none⟩ = some v) : w'.cell? ⟨g, i, none⟩ = some v :=
  (World.cell?_of_block (a := ⟨g, i, none⟩) (hb.block g (World.block_lt_of_cell? w _ h))).trans h
end Go.Proofs.YtbpaiiljhdohfaaDoor
