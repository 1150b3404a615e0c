/- Sector: a Disk's block; the functions that look at it or change a field; pad. -/
import Derived.Test.YtaionhdamdhjjaaS
import Derived.Test.YtaionhdamdhjjaaRows
import Derived.WalkKit
import Derived.WalkSpells
import Derived.Lib.Hide
import Derived.WalkLawsBesides
import Derived.BigQuiet
namespace Go.Proofs.Ytaionhdamdhjjaa
open Go.RowKit

def dcells (du cu wr : Value) (done left : Int) (kp : Value) (off : Bool) : Array Value := #[du, cu, wr, .int .i64 done, .int .i64 left, kp, .bool off]
/-- The block at g is a Disk with these fields. -/
def DiskAt (g : Nat) (du cu wr : Value) (done left : Int) (kp : Value) (off : Bool) (w : World) : Prop := w.heap[g]? = some (.cells (dcells du cu wr done left kp off) 63 (0, 0))
theorem DiskAt.c0 {g : Nat} {du cu wr : Value} {done left : Int} {kp : Value} {off : Bool} {w : World} (h : DiskAt g du cu wr done left kp off w) : w.cell? ⟨g, 0, none⟩ = some du := by unfold World.cell?; simp only [show w.heap[g]? = _ from h]; rfl
theorem DiskAt.c1 {g : Nat} {du cu wr : Value} {done left : Int} {kp : Value} {off : Bool} {w : World} (h : DiskAt g du cu wr done left kp off w) : w.cell? ⟨g, 1, none⟩ = some cu := by unfold World.cell?; simp only [show w.heap[g]? = _ from h]; rfl
theorem DiskAt.c2 {g : Nat} {du cu wr : Value} {done left : Int} {kp : Value} {off : Bool} {w : World} (h : DiskAt g du cu wr done left kp off w) : w.cell? ⟨g, 2, none⟩ = some wr := by unfold World.cell?; simp only [show w.heap[g]? = _ from h]; rfl
theorem DiskAt.c3 {g : Nat} {du cu wr : Value} {done left : Int} {kp : Value} {off : Bool} {w : World} (h : DiskAt g du cu wr done left kp off w) : w.cell? ⟨g, 3, none⟩ = some (.int .i64 done) := by unfold World.cell?; simp only [show w.heap[g]? = _ from h]; rfl
theorem DiskAt.c4 {g : Nat} {du cu wr : Value} {done left : Int} {kp : Value} {off : Bool} {w : World} (h : DiskAt g du cu wr done left kp off w) : w.cell? ⟨g, 4, none⟩ = some (.int .i64 left) := by unfold World.cell?; simp only [show w.heap[g]? = _ from h]; rfl
theorem DiskAt.c5 {g : Nat} {du cu wr : Value} {done left : Int} {kp : Value} {off : Bool} {w : World} (h : DiskAt g du cu wr done left kp off w) : w.cell? ⟨g, 5, none⟩ = some kp := by unfold World.cell?; simp only [show w.heap[g]? = _ from h]; rfl
theorem DiskAt.c6 {g : Nat} {du cu wr : Value} {done left : Int} {kp : Value} {off : Bool} {w : World} (h : DiskAt g du cu wr done left kp off w) : w.cell? ⟨g, 6, none⟩ = some (.bool off) := by unfold World.cell?; simp only [show w.heap[g]? = _ from h]; rfl
theorem DiskAt.free {g : Nat} {du cu wr : Value} {done left : Int} {kp : Value} {off : Bool} {w : World} (h : DiskAt g du cu wr done left kp off w) (i : Nat) : w.frozen? ⟨g, i, none⟩ = false := by
  simp [World.frozen?, show w.heap[g]? = _ from h]
theorem DiskAt.lt {g : Nat} {du cu wr : Value} {done left : Int} {kp : Value} {off : Bool} {w : World} (h : DiskAt g du cu wr done left kp off w) : g < w.heap.size := (Array.getElem?_eq_some_iff.1 (show w.heap[g]? = _ from h)).1
theorem DiskAt.set {g : Nat} {du cu wr : Value} {done left : Int} {kp : Value} {off : Bool} {w : World} (h : DiskAt g du cu wr done left kp off w) (i : Nat) (v : Value) : (w.setCell ⟨g, i, none⟩ v).heap[g]? = some (.cells ((dcells du cu wr done left kp off).setIfInBounds i v) 63 (0, 0)) := by
  show (w.heap.modify g _)[g]? = _
  rw [Array.getElem?_modify, if_pos rfl, show w.heap[g]? = _ from h]
  rfl
theorem DiskAt.below {g : Nat} {du cu wr : Value} {done left : Int} {kp : Value} {off : Bool} {w w' : World} (h : DiskAt g du cu wr done left kp off w) (hb : Below w.heap.size w w') : DiskAt g du cu wr done left kp off w' := (hb.block g h.lt).trans h

theorem Size_any (g n cap : Nat) (o : Option Addr) (cu wr : Value) (done left : Int) (kp : Value) (off : Bool) (w : World) (h : DiskAt g (.slice o n cap) cu wr done left kp off w) :
    Calls Try.prog 37 #[.pointer (some ⟨g, 0, none⟩)] w fun e w' => e = .returned (.int .i64 n) ∧ w' = w := by
  have c0 := h.c0
  go_enter Try.func37, Try.ntmps37
  go_wp2_with fail
  go_ret
  exact ⟨rfl, rfl⟩
theorem Size_nil (w : World) :
    Calls Try.prog 37 #[.pointer none] w fun e w' => e = .returned (.int .i64 0) ∧ w' = w := by
  go_enter Try.func37, Try.ntmps37
  go_wp2_with fail
  go_ret
  exact ⟨rfl, rfl⟩
theorem has_any (g n cap : Nat) (o : Option Addr) (cu wr : Value) (done left : Int) (kp : Value) (off : Bool) (i : Int) (w : World) (h : DiskAt g (.slice o n cap) cu wr done left kp off w) :
    Calls Try.prog 43 #[.pointer (some ⟨g, 0, none⟩), .int .i64 i] w fun e w' => e = .returned (.bool (decide (0 ≤ i) && decide (i < n))) ∧ w' = w := by
  by_cases h0 : 0 ≤ i
  · have hd : decide (0 ≤ i) = true := decide_eq_true h0
    go_enter Try.func43, Try.ntmps43
    go_wp2_with (go_at_call 37; refine (Size_any g n cap o cu wr done left kp off w h).mono ?_)
    rintro e w' ⟨rfl, rfl⟩
    go_wp2_with fail
    go_ret
    simp [h0]
  · have hd : decide (0 ≤ i) = false := decide_eq_false h0
    go_enter Try.func43, Try.ntmps43
    go_wp2_with fail
    go_ret
    simp [h0]
theorem fits_any (g n cap : Nat) (o : Option Addr) (cu wr : Value) (done left : Int) (kp : Value) (off : Bool) (i : Int) (s : ByteArray) (w : World) (h : DiskAt g (.slice o n cap) cu wr done left kp off w) :
    Calls Try.prog 32 #[.pointer (some ⟨g, 0, none⟩), .int .i64 i, .string s] w fun e w' => e = .returned (.bool ((decide (0 ≤ i) && decide (i < n)) && decide ((s.size : Int) ≤ 512))) ∧ w' = w := by
  cases hb : (decide (0 ≤ i) && decide (i < n))
  · go_enter Try.func32, Try.ntmps32
    go_wp2_with (go_at_call 43; refine (has_any g n cap o cu wr done left kp off i w h).mono ?_)
    rintro e w' ⟨rfl, rfl⟩
    rw [hb]
    go_wp2_with fail
    go_ret
    simp
  · go_enter Try.func32, Try.ntmps32
    go_wp2_with (go_at_call 43; refine (has_any g n cap o cu wr done left kp off i w h).mono ?_)
    rintro e w' ⟨rfl, rfl⟩
    rw [hb]
    go_wp2_with fail
    go_ret
    simp
theorem uncut_any (g : Nat) (du cu wr : Value) (done left : Int) (kp : Value) (off : Bool) (w : World) (h : DiskAt g du cu wr done left kp off w) :
    Calls Try.prog 31 #[.pointer (some ⟨g, 0, none⟩)] w fun e w' => e = .returned (.tuple #[]) ∧ DiskAt g du cu wr done 0 (.slice none 0 0) off w' ∧ Below g w w' := by
  have f4 := h.free 4
  have f5 := h.free 5
  have c4 := h.c4
  have c5 := h.c5
  go_enter Try.func31, Try.ntmps31
  go_wp2_with fail
  go_end0
  refine ⟨rfl, ?_, ?_⟩
  · have h1 := h.set 4 (.int .i64 0)
    have h2 : DiskAt g du cu wr done 0 kp off (w.setCell ⟨g, 4, none⟩ (.int .i64 0)) := h1
    exact h2.set 5 (.slice none 0 0)
  · exact ((Below.refl g w).setCell (p := ⟨g, 4, none⟩) (Nat.le_refl g) _).setCell (p := ⟨g, 5, none⟩) (Nat.le_refl g) _
theorem On_any (g : Nat) (du cu wr : Value) (done left : Int) (kp : Value) (off : Bool) (w : World) (h : DiskAt g du cu wr done left kp off w) :
    Calls Try.prog 13 #[.pointer (some ⟨g, 0, none⟩)] w fun e w' => e = .returned (.tuple #[]) ∧ DiskAt g du cu wr done 0 (.slice none 0 0) false w' ∧ Below g w w' := by
  go_enter Try.func13, Try.ntmps13
  go_wp2_with (go_at_call 31; refine (uncut_any g du cu wr done left kp off w h).mono ?_)
  rintro e w1 ⟨rfl, h1, hb1⟩
  have f6 := h1.free 6
  have c6 := h1.c6
  go_wp2_with fail
  go_end0
  exact ⟨rfl, h1.set 6 (.bool false), hb1.setCell (p := ⟨g, 6, none⟩) (Nat.le_refl g) _⟩
theorem On_nil (w : World) :
    Calls Try.prog 13 #[.pointer none] w fun e w' => e = .returned (.tuple #[]) ∧ w' = w := by
  go_enter Try.func13, Try.ntmps13
  go_wp2_with fail
  (try simp only [Exit.inBlock, Exit.then]); refine bodyPost_ret (results_none rfl _ _ _) rfl ?_
  exact ⟨rfl, rfl⟩
theorem Off_any (g : Nat) (du cu wr : Value) (done left : Int) (kp : Value) (off : Bool) (w : World) (h : DiskAt g du cu wr done left kp off w) :
    Calls Try.prog 36 #[.pointer (some ⟨g, 0, none⟩)] w fun e w' => e = .returned (.bool off) ∧ w' = w := by
  have c6 := h.c6
  go_enter Try.func36, Try.ntmps36
  go_wp2_with fail
  go_ret
  exact ⟨rfl, rfl⟩
theorem Off_nil (w : World) :
    Calls Try.prog 36 #[.pointer none] w fun e w' => e = .returned (.bool false) ∧ w' = w := by
  go_enter Try.func36, Try.ntmps36
  go_wp2_with fail
  go_ret
  exact ⟨rfl, rfl⟩

/-- A text with bytes 00 up to 512. -/
def padB (s : ByteArray) : ByteArray := s ++ ⟨(Lib.repeatL [0] (512 - s.size)).toArray⟩
theorem pad_any (s : ByteArray) (w : World) (hs : s.size ≤ 512) :
    Calls Try.prog 23 #[.string s] w fun e w' => e = .returned (.string (padB s)) ∧ Below w.heap.size w w' := by
  have hi : IntKind.i64.wrap (512 - (s.size : Int)) = ((512 - s.size : Nat) : Int) := by rw [IntWalk.i64_in _ (by omega)]; omega
  obtain ⟨c, hc⟩ : ∃ c, 512 - s.size = c := ⟨_, rfl⟩
  have hz : (s ++ ⟨(Lib.repeatL [0] c).toArray⟩) = padB s := by unfold padB; rw [hc]
  have hl : ((Lib.repeatL [0] c).toArray).size = c := by rw [List.size_toArray, Lib.repeatL_length]; simp
  rw [hc] at hi
  have hno : ¬ 9223372036854775807 < s.size + ByteArray.size ⟨(Lib.repeatL [0] c).toArray⟩ := by
    have : ByteArray.size ⟨(Lib.repeatL [0] c).toArray⟩ = c := hl
    omega
  have HZ := Lib.hid hz
  clear hz hl
  go_enter Try.func23, Try.ntmps23
  go_wp2_with (go_at_call 45; refine (Try.strings_Repeat ⟨#[0]⟩ c w (by omega) (by show 1 * c ≤ _; omega)).mono ?_)
  rintro e w1 rfl hb
  have HB := Lib.hid hb
  clear hb
  go_wp2_with fail
  go_ret
  exact ⟨by rw [HZ.out]; rfl, HB.out⟩
end Go.Proofs.Ytaionhdamdhjjaa
