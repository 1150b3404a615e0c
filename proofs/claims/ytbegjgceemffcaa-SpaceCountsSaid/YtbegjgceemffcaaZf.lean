/- Space: turn at two constants. -/
import Derived.Test.YtbegjgceemffcaaZe
import Derived.Lib.ConvBytes
import Derived.Lib.AtoiErrMem
import Derived.Laws.BytesArg
namespace Go.Proofs.Ytbegjgceemffcaa
open Go.RowKit Go.Shelf
variable {w w' : World}

def tuL (c : Nat) : List (Int × Int) := if c = 0 then [(1, 1)] else [(0, 1), (2, 1)]
def tuX (c k : Nat) : Int := if c = 0 then (if k = 0 then 0 else 2) else (if k = 0 then 2 else if k = 1 then 3 else 7)
def tuE (c : Nat) : UInt8 := if c = 0 then 2 else 7
structure TuI (w : World) (x0 : UInt8) (x : Int) (wr : World) : Prop where
  sp : wr.heap[w.heap.size]? = some (.cells #[.int .i64 5, .string ⟨#[x0]⟩] 30 (0, 0))
  rs : wr.heap[w.heap.size + 1]? = some (.cells #[.int .i64 0, .string ⟨#[]⟩] 30 (0, 0))
  bt : wr.cell? ⟨w.heap.size + 2, 0, none⟩ = some (.int .u8 x)
  bf : wr.frozen? ⟨w.heap.size + 2, 0, none⟩ = false
  bel : Below w.heap.size w wr
  big : w.heap.size + 3 ≤ wr.heap.size
theorem TuI.below {x0 : UInt8} {x : Int} {wr W : World} (h : TuI w x0 x wr) (hb : Below wr.heap.size wr W) : TuI w x0 x W :=
  ⟨(hb.block _ (lt_of_some h.sp)).trans h.sp, (hb.block _ (lt_of_some h.rs)).trans h.rs, (hb.cell (p := ⟨w.heap.size + 2, 0, none⟩) (by have := h.big; show w.heap.size + 2 < wr.heap.size; omega)).trans h.bt,
    (hb.frozen (p := ⟨w.heap.size + 2, 0, none⟩) (by have := h.big; show w.heap.size + 2 < wr.heap.size; omega)).trans h.bf, h.bel.trans (hb.mono h.bel.size), Nat.le_trans h.big hb.size⟩
theorem TuI.set {x0 : UInt8} {x : Int} {wr : World} (h : TuI w x0 x wr) (y : Int) : TuI w x0 y (wr.setCell ⟨w.heap.size + 2, 0, none⟩ (.int .u8 y)) :=
  ⟨(Below.heap_setCell _ _ _ _ (by show w.heap.size ≠ w.heap.size + 2; omega)).trans h.sp, (Below.heap_setCell _ _ _ _ (by show w.heap.size + 1 ≠ w.heap.size + 2; omega)).trans h.rs, World.cell?_setCell_same wr ⟨w.heap.size + 2, 0, none⟩ _ h.bt,
    by simpa using h.bf, h.bel.setCell (p := ⟨w.heap.size + 2, 0, none⟩) (by show w.heap.size ≤ w.heap.size + 2; omega) _, by have := h.big; simpa using this⟩
theorem conv_out (x : Int) (hx : x = 2 ∨ x = 7) (cap : Nat) (W : World) (hb : W.cell? ⟨w.heap.size + 2, 0, none⟩ = some (.int .u8 x)) : (convert 49 9 (.slice (some ⟨w.heap.size + 2, 0, none⟩) 1 cap)).run Try.prog W = .ok (.string ⟨#[if x = 2 then 2 else 7]⟩) W := by
  have h := run_convert_bytes_arg (P := Try.prog) (w := W) 49 5 Try.underlying49 Try.underlying5 (w.heap.size + 2) 0 1 cap [x] rfl (fun i hi => by
    obtain rfl : i = 0 := by omega
    simpa using hb) 9 Try.underlying9
  rw [h]
  rcases hx with rfl | rfl <;> rfl
def TuS (w : World) (x0 : UInt8) (c n : Nat) (i : Value) (wr : World) : Prop := ∃ k : Nat, k ≤ n ∧ i = .int .i64 k ∧ TuI w x0 (tuX c k) wr
def TuJ (w : World) (x0 : UInt8) (a b : Int) (g : Nat) (X : Obj) (i : Value) (wr : World) : Prop := (i = .int .i64 0 ∧ TuI w x0 a wr ∨ i = .int .i64 1 ∧ TuI w x0 b wr) ∧ wr.heap[g]? = some X
theorem bytes1 (w : World) (x : UInt8) : ∃ w3 cap, (convert 9 49 (.string ⟨#[x]⟩)).run Try.prog w = .ok (.slice (some ⟨w.heap.size, 0, none⟩) 1 cap) w3 ∧ w3.cell? ⟨w.heap.size, 0, none⟩ = some (.int .u8 (x.toNat : Int)) ∧ w3.frozen? ⟨w.heap.size, 0, none⟩ = false ∧ Below w.heap.size w w3 ∧ w3.heap.size = w.heap.size + 1 := by
  refine ⟨_, _, Lib.run_convert_string_bytes w 9 49 5 ⟨#[x]⟩ Try.underlying9 Try.underlying49 Try.underlying5, ?_, ?_, Lib.bytesWorld_below _ _ _, Lib.bytesWorld_size _ _ _⟩
  · exact Lib.bytesWorld_cell w 5 ⟨#[x]⟩ 0 (Nat.zero_lt_one)
  · have hsz : 1 ≤ (Lib.bytesCells w 5 ⟨#[x]⟩).size := by
      unfold Lib.bytesCells
      rw [Array.size_append, Array.size_map]
      exact Nat.le_add_right 1 _
    simp only [World.frozen?, Lib.bytesWorld_at_new]
    simp
    first | omega | (intro h; simp [h] at hsz) | (intro h; omega)
theorem tu_at {c k : Nat} (hc : c = 0 ∨ c = 1) (hk : k < (tuL c).length) : ∃ f : Int, (tuL c)[k]? = some (f, 1) ∧ ((f = 1 ∧ tuX c k = 0 ∧ tuX c (k + 1) = 2) ∨ (f = 0 ∧ tuX c k = 2 ∧ tuX c (k + 1) = 3) ∨ (f = 2 ∧ tuX c k = 3 ∧ tuX c (k + 1) = 7)) := by
  rcases hc with rfl | rfl
  · obtain rfl : k = 0 := by simp [tuL] at hk; exact hk
    exact ⟨1, rfl, .inl ⟨rfl, rfl, rfl⟩⟩
  · rcases (show k = 0 ∨ k = 1 by simp [tuL] at hk; omega) with rfl | rfl
    · exact ⟨0, rfl, .inr (.inl ⟨rfl, rfl, rfl⟩)⟩
    · exact ⟨2, rfl, .inr (.inr ⟨rfl, rfl, rfl⟩)⟩
set_option maxHeartbeats 2000000 in
set_option maxRecDepth 100000 in
theorem turn_n (c : Nat) (hc : c = 0 ∨ c = 1) (x0 : UInt8) (hx0 : (x0.toNat : Int) = tuX c 0) (o : Option Addr) (cap : Nat) (w : World) (hp : ExAt w o (tuL c)) :
    Calls Try.prog 11 #[spV x0, .bool false, .slice o (tuL c).length cap] w fun e w' => e = .returned (.tuple #[spV (tuE c), .int .i64 0]) ∧ Below w.heap.size w w' := by
  have P0 := Lib.hid (fun W => (place_n 0 (by omega) W : Calls Try.prog 20 #[.int .i64 0] W fun e w' => e = .returned (.tuple #[.int .i64 0, .int .u8 1]) ∧ Below W.heap.size W w'))
  have P1 := Lib.hid (fun W => (place_n 1 (by omega) W : Calls Try.prog 20 #[.int .i64 1] W fun e w' => e = .returned (.tuple #[.int .i64 0, .int .u8 2]) ∧ Below W.heap.size W w'))
  have P2 := Lib.hid (fun W => (place_n 2 (by omega) W : Calls Try.prog 20 #[.int .i64 2] W fun e w' => e = .returned (.tuple #[.int .i64 0, .int .u8 4]) ∧ Below W.heap.size W w'))
  unfold spV
  obtain ⟨n, hn⟩ : ∃ n, (tuL c).length = n := ⟨_, rfl⟩
  rw [hn]
  have HN := Lib.hid hn; have HP := Lib.hid hp
  have hn2 : n ≤ 2 := by rw [← hn]; rcases hc with rfl | rfl <;> decide
  obtain ⟨w3, cap0, hcv, hr3, hf3, hb3, hs3⟩ := bytes1 ((w.alloc (.cells #[.int .i64 5, .string ⟨#[x0]⟩] 30)).alloc (.cells #[.int .i64 0, .string ⟨#[]⟩] 30)) x0
  have hsz : ((w.alloc (.cells #[.int .i64 5, .string ⟨#[x0]⟩] 30)).alloc (.cells #[.int .i64 0, .string ⟨#[]⟩] 30)).heap.size = w.heap.size + 2 := by simp
  rw [hsz] at hcv hr3 hf3 hb3 hs3
  rw [hx0] at hr3
  have H3 : Hid (TuI w x0 (tuX c 0) w3) := Lib.hid ⟨(hb3.block _ (by omega)).trans ((Lib.alloc_old _ _ _ (by simp)).trans (World.alloc_heap_new w _)), (hb3.block _ (by omega)).trans (by
      have := World.alloc_heap_new (w.alloc (.cells #[.int .i64 5, .string ⟨#[x0]⟩] 30)) (.cells #[.int .i64 0, .string ⟨#[]⟩] 30)
      rw [World.size_alloc] at this; exact this), hr3, hf3, (((Below.refl w.heap.size w).alloc (Nat.le_refl _) _).alloc (by simp) _).trans (hb3.mono (by omega)), by omega⟩
  clear hn hp hx0 hr3 hf3 hb3 hs3 hsz
  go_enter Try.func11, Try.ntmps11
  go_wp2_with fail
  go_loopw [19] (fun i wr => TuS w x0 c n i wr) (fun i _ => n - (intOf i).toNat)
  case atStart => exact ⟨0, Nat.zero_le _, rfl, H3.out⟩
  case round =>
    obtain ⟨k, hk, rfl, hi⟩ := hrel
    clear H3 hcv
    by_cases hlt : k < n
    · obtain ⟨f, hq, hfx⟩ := tu_at hc (show k < (tuL c).length by rw [HN.out]; exact hlt)
      obtain ⟨g, cur, ho, hg, d0, d1⟩ := (HP.out.same (w' := wr) (fun g cur h1 h2 => hi.bel.block g (lt_of_some h2))) k _ hq
      subst ho
      clear hq hg
      simp only at d0 d1
      have s0 : wr.cell? ⟨w.heap.size, 0, none⟩ = some (.int .i64 5) := cell_of_row hi.sp
      have z1 : w.heap.size < wr.heap.size := by have := hi.big; omega
      have HI := Lib.hid hi
      clear hi
      have HX := Lib.hid hfx
      obtain ⟨a, ha⟩ : ∃ a, tuX c k = a := ⟨_, rfl⟩
      obtain ⟨b, hb⟩ : ∃ b, tuX c (k + 1) = b := ⟨_, rfl⟩
      rw [ha, hb] at hfx
      rw [ha] at HI
      have HNX := Lib.hid hb
      clear ha hb HX
      obtain ⟨r, hpl⟩ : ∃ r, ∀ W : World, Calls Try.prog 20 #[.int .i64 f] W fun e w' => e = .returned (.tuple #[.int .i64 0, .int .u8 r]) ∧ Below W.heap.size W w' := by
        rcases hfx with ⟨rfl, _⟩ | ⟨rfl, _⟩ | ⟨rfl, _⟩
        · exact ⟨2, fun W => P1.out W⟩
        · exact ⟨1, fun W => P0.out W⟩
        · exact ⟨4, fun W => P2.out W⟩
      clear hpl r
      rcases hfx with ⟨rfl, rfl, rfl⟩ | ⟨rfl, rfl, rfl⟩ | ⟨rfl, rfl, rfl⟩
      · go_wp2_with fail
        have HC := Lib.hid (World.alloc_heap_new wr (.cells #[.int .i64 1, .int .i64 1] 26))
        have HJ := Lib.hid (HI.out.below ((Below.refl _ wr).alloc (Nat.le_refl _) (.cells #[.int .i64 1, .int .i64 1] 26)))
        have HZ := Lib.hid HI.out.big
        clear d0 d1 s0 HI z1
        generalize wr.heap.size = g2 at HC HZ ⊢
        go_loopw [44] (fun j w2 => TuJ w x0 0 2 g2 (.cells #[.int .i64 1, .int .i64 1] 26 (0, 0)) j w2) (fun j _ => 1 - (intOf j).toNat)
        case atStart => exact ⟨.inl ⟨rfl, HJ.out⟩, HC.out⟩
        case round =>
          obtain ⟨hj, hX⟩ := hrel
          clear HC HJ
          have e0 : wr.cell? ⟨g2, 0, none⟩ = some (.int .i64 1) := cell_of_row hX
          have e1 : wr.cell? ⟨g2, 1, none⟩ = some (.int .i64 1) := cell_of_row hX
          rcases hj with ⟨rfl, hI⟩ | ⟨rfl, hI⟩
          · have HI := Lib.hid hI; have HX := Lib.hid hX
            clear hI hX
            go_wp2_with (go_at_call 20; refine (P1.out _).mono ?_)
            rintro e w4 ⟨rfl, hb4⟩
            have hI4 := HI.out.below hb4
            have HX4 := Lib.hid ((hb4.block _ (lt_of_some HX.out)).trans HX.out)
            have HI4 := Lib.hid hI4
            have c4 := hI4.bt; have k4 := hI4.bf
            clear hb4 hI4 HI HX e0 e1
            go_wp2_with fail
            go_roundw
            case rel => exact ⟨.inr ⟨rfl, HI4.out.set _⟩, (Below.heap_setCell _ _ _ _ (by have := HZ.out; show g2 ≠ w.heap.size + 2; omega)).trans HX4.out⟩
            case measure => simp [intOf]
          · have HI := Lib.hid hI
            clear hI hX e0 e1
            go_wp2_with fail
            go_roundw
            case rel => exact ⟨k + 1, hlt, by rw [Int.natCast_succ], by rw [HNX.out]; exact HI.out⟩
            case measure => simp [intOf]; omega
      · go_wp2_with fail
        have HC := Lib.hid (World.alloc_heap_new wr (.cells #[.int .i64 0, .int .i64 1] 26))
        have HJ := Lib.hid (HI.out.below ((Below.refl _ wr).alloc (Nat.le_refl _) (.cells #[.int .i64 0, .int .i64 1] 26)))
        have HZ := Lib.hid HI.out.big
        clear d0 d1 s0 HI z1
        generalize wr.heap.size = g2 at HC HZ ⊢
        go_loopw [44] (fun j w2 => TuJ w x0 2 3 g2 (.cells #[.int .i64 0, .int .i64 1] 26 (0, 0)) j w2) (fun j _ => 1 - (intOf j).toNat)
        case atStart => exact ⟨.inl ⟨rfl, HJ.out⟩, HC.out⟩
        case round =>
          obtain ⟨hj, hX⟩ := hrel
          clear HC HJ
          have e0 : wr.cell? ⟨g2, 0, none⟩ = some (.int .i64 0) := cell_of_row hX
          have e1 : wr.cell? ⟨g2, 1, none⟩ = some (.int .i64 1) := cell_of_row hX
          rcases hj with ⟨rfl, hI⟩ | ⟨rfl, hI⟩
          · have HI := Lib.hid hI; have HX := Lib.hid hX
            clear hI hX
            go_wp2_with (go_at_call 20; refine (P0.out _).mono ?_)
            rintro e w4 ⟨rfl, hb4⟩
            have hI4 := HI.out.below hb4
            have HX4 := Lib.hid ((hb4.block _ (lt_of_some HX.out)).trans HX.out)
            have HI4 := Lib.hid hI4
            have c4 := hI4.bt; have k4 := hI4.bf
            clear hb4 hI4 HI HX e0 e1
            go_wp2_with fail
            go_roundw
            case rel => exact ⟨.inr ⟨rfl, HI4.out.set _⟩, (Below.heap_setCell _ _ _ _ (by have := HZ.out; show g2 ≠ w.heap.size + 2; omega)).trans HX4.out⟩
            case measure => simp [intOf]
          · have HI := Lib.hid hI
            clear hI hX e0 e1
            go_wp2_with fail
            go_roundw
            case rel => exact ⟨k + 1, hlt, by rw [Int.natCast_succ], by rw [HNX.out]; exact HI.out⟩
            case measure => simp [intOf]; omega
      · go_wp2_with fail
        have HC := Lib.hid (World.alloc_heap_new wr (.cells #[.int .i64 2, .int .i64 1] 26))
        have HJ := Lib.hid (HI.out.below ((Below.refl _ wr).alloc (Nat.le_refl _) (.cells #[.int .i64 2, .int .i64 1] 26)))
        have HZ := Lib.hid HI.out.big
        clear d0 d1 s0 HI z1
        generalize wr.heap.size = g2 at HC HZ ⊢
        go_loopw [44] (fun j w2 => TuJ w x0 3 7 g2 (.cells #[.int .i64 2, .int .i64 1] 26 (0, 0)) j w2) (fun j _ => 1 - (intOf j).toNat)
        case atStart => exact ⟨.inl ⟨rfl, HJ.out⟩, HC.out⟩
        case round =>
          obtain ⟨hj, hX⟩ := hrel
          clear HC HJ
          have e0 : wr.cell? ⟨g2, 0, none⟩ = some (.int .i64 2) := cell_of_row hX
          have e1 : wr.cell? ⟨g2, 1, none⟩ = some (.int .i64 1) := cell_of_row hX
          rcases hj with ⟨rfl, hI⟩ | ⟨rfl, hI⟩
          · have HI := Lib.hid hI; have HX := Lib.hid hX
            clear hI hX
            go_wp2_with (go_at_call 20; refine (P2.out _).mono ?_)
            rintro e w4 ⟨rfl, hb4⟩
            have hI4 := HI.out.below hb4
            have HX4 := Lib.hid ((hb4.block _ (lt_of_some HX.out)).trans HX.out)
            have HI4 := Lib.hid hI4
            have c4 := hI4.bt; have k4 := hI4.bf
            clear hb4 hI4 HI HX e0 e1
            go_wp2_with fail
            go_roundw
            case rel => exact ⟨.inr ⟨rfl, HI4.out.set _⟩, (Below.heap_setCell _ _ _ _ (by have := HZ.out; show g2 ≠ w.heap.size + 2; omega)).trans HX4.out⟩
            case measure => simp [intOf]
          · have HI := Lib.hid hI
            clear hI hX e0 e1
            go_wp2_with fail
            go_roundw
            case rel => exact ⟨k + 1, hlt, by rw [Int.natCast_succ], by rw [HNX.out]; exact HI.out⟩
            case measure => simp [intOf]; omega
    · have hkn : k = n := by omega
      have s0 : wr.cell? ⟨w.heap.size, 0, none⟩ = some (.int .i64 5) := cell_of_row hi.sp
      have s1 : wr.cell? ⟨w.heap.size + 1, 0, none⟩ = some (.int .i64 0) := cell_of_row hi.rs
      have s2 : wr.cell? ⟨w.heap.size + 1, 1, none⟩ = some (.string ⟨#[]⟩) := cell_of_row hi.rs
      have f1 : wr.frozen? ⟨w.heap.size + 1, 0, none⟩ = false := by simp [World.frozen?, hi.rs]
      have f2 : wr.frozen? ⟨w.heap.size + 1, 1, none⟩ = false := by simp [World.frozen?, hi.rs]
      have hco : (convert 49 9 (.slice (some ⟨w.heap.size + 2, 0, none⟩) 1 cap0)).run Try.prog wr = .ok (.string ⟨#[tuE c]⟩) wr := by
        have hbt := hi.bt
        have hnn := HN.out
        rw [hkn, ← hnn] at hbt
        rcases hc with rfl | rfl
        · exact conv_out 2 (.inl rfl) cap0 wr hbt
        · exact conv_out 7 (.inr rfl) cap0 wr hbt
      have r0 : (wr.setCell ⟨w.heap.size + 1, 0, none⟩ (.int .i64 5)).cell? ⟨w.heap.size + 1, 0, none⟩ = some (.int .i64 5) := World.cell?_setCell_same wr ⟨w.heap.size + 1, 0, none⟩ _ s1
      have r1 : ((wr.setCell ⟨w.heap.size + 1, 0, none⟩ (.int .i64 5)).setCell ⟨w.heap.size + 1, 1, none⟩ (.string ⟨#[tuE c]⟩)).cell? ⟨w.heap.size + 1, 1, none⟩ = some (.string ⟨#[tuE c]⟩) :=
        World.cell?_setCell_same _ ⟨w.heap.size + 1, 1, none⟩ _ ((World.cell?_setCell_other wr ⟨w.heap.size + 1, 0, none⟩ ⟨w.heap.size + 1, 1, none⟩ _ (fun x => by injection x with _ h2 _; omega)).trans s2)
      have HB := Lib.hid hi.bel
      clear hi
      go_wp2_with fail
      refine bodyPost_ret (v := .tuple #[.agg #[.int .i64 5, .string ⟨#[tuE c]⟩], .int .i64 0]) (by simp [results, Try.results11, go_sem, r0, r1]) rfl ?_
      exact ⟨rfl, (HB.out.setCell (p := ⟨w.heap.size + 1, 0, none⟩) (by show w.heap.size ≤ w.heap.size + 1; omega) _).setCell (p := ⟨w.heap.size + 1, 1, none⟩) (by show w.heap.size ≤ w.heap.size + 1; omega) _⟩
end Go.Proofs.Ytbegjgceemffcaa
