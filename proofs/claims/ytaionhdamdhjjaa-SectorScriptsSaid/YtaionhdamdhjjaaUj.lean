/- Sector: Cut with any choices; both sides read alike. -/
import Derived.Test.YtaionhdamdhjjaaUi
namespace Go.Proofs.Ytaionhdamdhjjaa
open Go.RowKit
variable {B n g gd gc cd cc : Nat} {vw vk : Value} {S : DS} {w : World}

theorem CutD_of (h : IsD B n g gd gc cd cc vw vk S w) (i : Int) (ka : Value) (zs : List Int) (hcl : Calls Try.prog 29 #[ka] w fun e w1 => ∃ v', e = .returned v' ∧ w1.ownsRow w.heap.size 3 1 v' zs.length (zs.map (Value.int .i64)) ∧ Below w.heap.size w w1) :
    Calls Try.prog 10 #[.pointer (some ⟨g, 0, none⟩), .int .i64 i, ka] w fun e w' => e = .returned (.tuple #[]) ∧ ∃ vk', IsD B n g gd gc cd cc vw vk' (cutS i zs S) w' ∧ FrD B g gd gc vw w w' := by
  have HH := Lib.hid h; have HCL := Lib.hid hcl
  clear h hcl
  go_enter Try.func10, Try.ntmps10
  go_wp2_with (go_at_call 29; refine HCL.out.mono ?_)
  rintro e w1 ⟨v', rfl, hown, hb⟩
  obtain ⟨ao, n', cp, rfl⟩ : ∃ ao n' cp, v' = .slice ao n' cp := by
    rcases hown.2 with ⟨hv, _⟩ | ⟨g', cap, cur, hv, _⟩
    · exact ⟨_, _, _, hv⟩
    · exact ⟨_, _, _, hv⟩
  have h1 := HH.out.below hb
  have f4 := h1.d.free 4
  have f5 := h1.d.free 5
  have c4 := h1.d.c4
  have c5 := h1.d.c5
  have H1 := Lib.hid h1; have HO := Lib.hid hown; have HB := Lib.hid hb
  clear h1 hown hb
  go_wp2_with fail
  go_end0
  have hBs : B ≤ w.heap.size := Nat.le_trans HH.out.b1 (Nat.le_of_lt HH.out.d.lt)
  have hK : Kept2 B g g w1 ((w1.setCell ⟨g, 4, none⟩ (.int .i64 (max i 1))).setCell ⟨g, 5, none⟩ (.slice ao n' cp)) := ((Kept2.refl B g g w1).setg HH.out.b1 4 _).setg HH.out.b1 5 _
  have h2 : DiskAt g (.slice (some ⟨gd, 0, none⟩) n cd) (.slice (some ⟨gc, 0, none⟩) n cc) vw S.done (max i 1) vk S.off (w1.setCell ⟨g, 4, none⟩ (.int .i64 (max i 1))) := H1.out.d.set 4 _
  obtain ⟨r1, r2, r3, r4, r5⟩ := H1.out.disk hK
  refine ⟨rfl, _, ⟨h2.set 5 (.slice ao n' cp), r2, r3, HH.out.ld, HH.out.lc, r4, HH.out.wb, ?_, HH.out.ne, HH.out.b1, HH.out.b2, HH.out.b3⟩, (FrD.of_below HH.out.b1 (Nat.le_of_lt HH.out.d.lt) HB.out).trans r1 (fun x hx => .inl hx)⟩
  have hlow : w1.ownsRow B 3 1 (.slice ao n' cp) zs.length (zs.map (Value.int .i64)) := ⟨HO.out.1, HO.out.2.imp id (fun ⟨g, cap, cur, h1, h2, h3⟩ => ⟨g, cap, cur, h1, Nat.le_trans hBs h2, h3⟩)⟩
  exact own_same hlow fun b e => hK.2.2 b (HO.out.lt b e).2 (fun e2 => by have := (HO.out.lt b e).1; have := HH.out.d.lt; omega) (fun e2 => by have := (HO.out.lt b e).1; have := HH.out.d.lt; omega)
theorem CutD_any (h : IsD B n g gd gc cd cc vw vk S w) (i : Int) (ka : Value) (zs : List Int) (hl : zs.length ≤ 17592186044415) (hk : KeepArg ka zs vw w) :
    Calls Try.prog 10 #[.pointer (some ⟨g, 0, none⟩), .int .i64 i, ka] w fun e w' => e = .returned (.tuple #[]) ∧ ∃ vk', IsD B n g gd gc cd cc vw vk' (cutS i zs S) w' ∧ FrD B g gd gc vw w w' := by
  refine CutD_of h i ka zs ?_
  rcases hk with ⟨rfl, a, c, rfl⟩ | ⟨b, o, c, rfl, h0, _, hc⟩
  · cases a with
    | none => exact (Try.slices_Clone_int_nil 0 c w).mono fun e w' ⟨he, hw⟩ => ⟨_, he, World.ownsRow_nil _ _ _ _, hw ▸ Below.refl _ _⟩
    | some a => exact (Try.slices_Clone_int_zero a c w).mono fun e w' ⟨v', he, ho, _, hb⟩ => ⟨v', he, ho, hb⟩
  · exact (Try.slices_Clone_int b o zs.length c zs w (Nat.le_refl _) (by omega) hc).mono fun e w' ⟨v', he, ho, _, hb⟩ => ⟨v', he, by rw [List.take_length] at ho; exact ho, hb⟩
theorem DiskAt.drewN {du cu wr : Value} {done left : Int} {kp : Value} {off : Bool} (h : DiskAt g du cu wr done left kp off w) (y : Nat) : DiskAt g du cu wr done left kp off (w.drewN y) := by
  show (w.drewN y).heap[g]? = _
  rw [heap_drewN]; exact h
theorem Off_q {du cu wr : Value} {done left : Int} {kp : Value} {off : Bool} (h : DiskAt g du cu wr done left kp off w) (y : Nat) :
    Calls Try.prog 36 #[.pointer (some ⟨g, 0, none⟩)] (w.drewN y) fun e w'' => e = .returned (.bool off) ∧ ∃ m, w'' = w.drewN m :=
  (Off_any g _ _ _ _ _ _ _ _ (h.drewN y)).mono fun _ _ ⟨a, b⟩ => ⟨a, y, b⟩
theorem Size_q {m cap : Nat} {o : Option Addr} {cu wr : Value} {done left : Int} {kp : Value} {off : Bool} (h : DiskAt g (.slice o m cap) cu wr done left kp off w) (y : Nat) :
    Calls Try.prog 37 #[.pointer (some ⟨g, 0, none⟩)] (w.drewN y) fun e w'' => e = .returned (.int .i64 m) ∧ ∃ m, w'' = w.drewN m :=
  (Size_any g _ _ _ _ _ _ _ _ _ _ (h.drewN y)).mono fun _ _ ⟨a, b⟩ => ⟨a, y, b⟩
theorem read_same (hcur : S.cur = putW S.dur S.ws) (i : Int) : readR n i S = readS n i S := by
  unfold readR readS
  rw [hcur]
set_option maxHeartbeats 2000000 in
set_option maxRecDepth 100000 in
theorem same_any {gr gl cl : Nat} {vr kr : Value} (ha : IsD B n g gd gc cd cc vw vk S w) (hr : IsR B n gr gl cl vr kr S w) (hcur : S.cur = putW S.dur S.ws) (hn : n ≤ 4096) (hm : S.ws.length ≤ 10000000) (hdn : S.done ≤ 1000000000) :
    Calls Try.prog 18 #[.pointer (some ⟨g, 0, none⟩), .pointer (some ⟨gr, 0, none⟩)] w fun e w' => e = .returned (.bool true) ∧ Below w.heap.size w w' := by
  have hni : (n : Int) ≤ 4096 := by omega
  have HA := Lib.hid ha; have HR := Lib.hid hr; have HC := Lib.hid hcur; have HM := Lib.hid hm
  have hct := CountsD ha
  have HCT := Lib.hid hct
  clear ha hr hcur hm hct
  go_enter Try.func18, Try.ntmps18
  go_wp2_with (go_at_call 35; refine HCT.out.mono ?_)
  first | rintro e w1 rfl hb1 | rintro e w1 ⟨rfl, hb1⟩
  have ha1 := HA.out.below hb1
  have hr1 := HR.out.below hb1
  obtain ⟨ao, ac, hvr, _⟩ := hr1.wr
  have c0 := hr1.d.c0
  have c1 := hr1.d.c1
  have c4 := hr1.d.c4
  have c5 := hr1.d.c5
  rw [hvr] at c1
  have hd1 := ha1.d
  have HA1 := Lib.hid ha1; have HR1 := Lib.hid hr1; have HB1 := Lib.hid hb1; have HD1 := Lib.hid hd1
  clear ha1 hr1 hb1 hd1 hvr
  go_wp2_with fail
  go_quiet ((first | (go_at_call 36; exact Off_q HD1.out _) | (go_at_call 37; exact Size_q HD1.out _)))
  obtain ⟨wX, hX⟩ : ∃ wX, w1.drewN nq = wX := ⟨_, rfl⟩
  have hh : wX.heap = w1.heap := by rw [← hX]; exact heap_drewN _ _
  have haX := HA1.out.keep (w' := wX) (fun b _ => by rw [hh])
  have hrX := HR1.out.keep (w' := wX) (fun b _ => by rw [hh])
  have HAX := Lib.hid haX; have HRX := Lib.hid hrX
  have HBX : Hid (Below w.heap.size w wX) := Lib.hid (by rw [← hX]; exact below_drewN HB1.out nq)
  rw [hX]
  clear haX hrX hh hX c0 c1 c4 c5
  go_wp2_with fail
  go_loopw [7] (fun kv wz => ∃ j : Nat, j ≤ n + 2 ∧ kv = .int .i64 ((j : Int) - 1) ∧ wz = wX) (fun kv _ => n + 2 - (intOf kv + 1).toNat)
  case atStart => exact ⟨0, by omega, rfl, rfl⟩
  case round =>
    obtain ⟨j, hj, rfl, rfl⟩ := hrel
    have c0 := HRX.out.d.c0
    by_cases hlt : j < n + 2
    · have hle : (j : Int) - 1 ≤ n := by omega
      have hra := ReadD HAX.out ((j : Int) - 1)
      have hrb := RRead HRX.out HM.out ((j : Int) - 1)
      rw [read_same HC.out] at hrb
      obtain ⟨x, y⟩ := readS n ((j : Int) - 1) S
      have HRA := Lib.hid hra; have HRB := Lib.hid hrb
      clear hra hrb
      have hj9 : (j : Int) ≤ 4098 := by omega
      have hj0 : -1 ≤ (j : Int) - 1 := by omega
      have hw1 : IntKind.i64.wrap ((j : Int) - 1 + 1) = (j : Int) - 1 + 1 := IntWalk.i64_in _ (by omega)
      go_wp2_with (first | (go_at_call 21; refine HRA.out.mono ?_; rintro e w' ⟨rfl, rfl⟩; clear HRA) | (go_at_call 38; refine HRB.out.mono ?_; rintro e w' ⟨rfl, rfl⟩))
      exact ⟨⟨j + 1, by omega, by rw [Int.natCast_succ, Int.add_sub_cancel], trivial⟩, by simp only [intOf]; omega⟩
    · obtain rfl : j = n + 2 := by omega
      have hgt : ¬ ((n + 2 : Nat) : Int) - 1 ≤ n := by omega
      go_wp2_with fail
      go_ret
      exact ⟨rfl, HBX.out⟩
end Go.Proofs.Ytaionhdamdhjjaa
