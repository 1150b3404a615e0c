/- Sector: a disk through any script: the walk. -/
import Derived.Test.YtaionhdamdhjjaaUk
import Derived.Deep.RegionHeld3
namespace Go.Proofs.Ytaionhdamdhjjaa
open Go.RowKit

theorem act_size : (Try.prog.info? 32).map (·.size) = some 4 := by kernel_rfl
theorem IsD.other_r {B n g gd gc cd cc gr gl cl : Nat} {va ka vr kr : Value} {Sa S : DS} {w w' : World} (ha : IsD B n g gd gc cd cc va ka Sa w) (hr : IsR B n gr gl cl vr kr S w) (n1 : gd ≠ gl) (n2 : gc ≠ gl) (f : FrD B g gd gc va w w') : IsR B n gr gl cl vr kr S w' := IsR.other ha hr n1 n2 f
def ScS (B n g gd gc cd cc gr gl cl m : Nat) (w : World) (i : Value) (wr : World) : Prop :=
  ∃ (j : Nat) (S : DS) (va ka vr kr : Value), i = .int .i64 j ∧ j ≤ m ∧ Bd j S ∧ Cu S ∧ Pend w kr S ∧ IsD B n g gd gc cd cc va ka S wr ∧ IsR B n gr gl cl vr kr S wr ∧ Below B w wr
theorem and_seven (x : Int) : bits .and .i64 x 7 = x % 8 := by
  have h1 : (BitVec.ofInt 64 7).toNat = 2 ^ 3 - 1 := by decide
  have key : (BitVec.ofInt 64 x &&& BitVec.ofInt 64 7).toNat = (x % ((2 ^ 64 : Nat) : Int)).toNat % 2 ^ 3 := by
    rw [BitVec.toNat_and, BitVec.toNat_ofInt, h1, Nat.and_two_pow_sub_one_eq_mod]
  show IntKind.i64.wrap ((BitVec.ofInt 64 x &&& BitVec.ofInt 64 7).toNat : Nat) = _
  rw [key, IntKind.wrap_i64]
  omega
set_option maxHeartbeats 4000000 in
set_option maxRecDepth 100000 in
theorem scripts_bad (n : Int) (a : Option Addr) (len cap : Nat) (w : World) (hn : n < 1 ∨ 4096 < n) :
    Calls Try.prog 3 #[.int .i64 n, .slice a len cap] w fun e w' => e = .returned (.bool true) ∧ Below w.heap.size w w' := by
  rcases hn with h1 | h1
  all_goals
    have hbad : ¬ (1 ≤ n ∧ n ≤ 4096) := by omega
    go_enter Try.func3, Try.ntmps3
    go_wp2_with (go_at_call 5; refine (speaks_any w).mono ?_)
    rintro e w1 ⟨rfl, hb1⟩
    have HB1 := Lib.hid hb1
    clear hb1
    go_wp2_with (first | (go_at_call 6; refine (New_bad n _ hbad).mono ?_; rintro e w' ⟨rfl, rfl⟩) | (go_at_call 7; refine (RNew_bad n _ hbad).mono ?_; rintro e w' ⟨rfl, rfl⟩))
    go_ret
    exact ⟨rfl, HB1.out⟩
set_option maxHeartbeats 8000000 in
set_option maxRecDepth 100000 in
theorem scripts_good (n0 : Int) (n : Nat) (a : Option Addr) (len cap : Nat) (zs : List ActD) (w : World) (hz : IsActs4 w a len zs) (hl : len ≤ 9223372036854775807) (hn1 : 1 ≤ n) (hn2 : n ≤ 12) (hc : (12 < n0 ∧ n0 ≤ 4096 ∧ (n : Int) = n0 % 8 + 1) ∨ n0 = n) :
    Calls Try.prog 3 #[.int .i64 n0, .slice a len cap] w fun e w' => e = .returned (.bool true) ∧ Below w.heap.size w w' := by
  have HZ := Lib.hid hz; have HL := Lib.hid hl
  have h1 : (1 : Int) ≤ n := by omega
  have h2 : (n : Int) ≤ 12 := by omega
  clear hz hl
  have HC := Lib.hid hc
  clear hc
  go_enter Try.func3, Try.ntmps3
  go_wp2_with (go_at_call 5; refine (speaks_any w).mono ?_)
  rintro e w1 ⟨rfl, hb1⟩
  have HB1 := Lib.hid hb1
  clear hb1
  have hfork : (12 < n0 ∧ n0 ≤ 4096 ∧ bits .and .i64 n0 7 = (n : Int) - 1 ∧ IntKind.i64.wrap ((n : Int) - 1 + 1) = n) ∨ n0 = n := by
    rcases HC.out with ⟨q1, q2, q3⟩ | q
    · exact .inl ⟨q1, q2, by rw [and_seven]; omega, by rw [IntWalk.i64_in _ (by omega)]; omega⟩
    · exact .inr q
  rcases hfork with ⟨q1, q2, q3, q4⟩ | q
  rotate_left
  all_goals (try subst q)
  all_goals
    go_wp2_with (first | (go_at_call 6; refine (NewD n _ hn1 (by omega)).mono ?_))
    first | rintro e w2 g rfl gd gc cd cc h2' hb2 | rintro e w2 ⟨g, gd, gc, cd, cc, rfl, h2', hb2⟩
    have H2 := Lib.hid (h2'.base HB1.out.size); have HB2 := Lib.hid (HB1.out.trans (hb2.mono HB1.out.size))
    clear h2' hb2
    go_wp2_with (first | (go_at_call 7; refine (RNew n _ hn1 (by omega)).mono ?_))
    first | rintro e w3 gr rfl gl cl h3 hb3 | rintro e w3 ⟨gr, gl, cl, rfl, h3, hb3⟩
    have hlow : IsR w.heap.size n gr gl cl (.slice none 0 0) (.slice none 0 0) (newS n) w3 := ⟨h3.d, h3.rd, h3.ld, World.ownsRow_nil _ _ _ _, h3.wb, Nat.le_trans HB2.out.size h3.b1, Nat.le_trans HB2.out.size h3.b2⟩
    have hngl : gd ≠ gl ∧ gc ≠ gl := by
      have e1 := H2.out.rd.lt; have e2 := H2.out.rc.lt; have e3 := h3.b2
      exact ⟨by omega, by omega⟩
    have hS0 : Hid (ScS w.heap.size n g gd gc cd cc gr gl cl (min len 60) w (.int .i64 0) w3) := Lib.hid
      ⟨0, newS n, _, _, _, _, rfl, Nat.zero_le _, Bd.new n, rfl, fun e => absurd rfl e, H2.out.below hb3, hlow, HB2.out.trans (hb3.mono HB2.out.size)⟩
    have HN := Lib.hid hngl
    clear h3 hb3 hlow hngl H2
    go_wp2_with fail
    go_loopw [8] (fun i wr => ScS w.heap.size n g gd gc cd cc gr gl cl (min len 60) w i wr) (fun i _ => 60 - (intOf i).toNat)
    case atStart => exact hS0.out
    case round =>
      obtain ⟨j, S, va, ka, vr, kr, rfl, hj, hbd, hcu, hpe, hA, hR, hbl⟩ := hrel
      by_cases hlt : j < min len 60
      · have hj1 : (j : Int) < len := by omega
        have hj2 : (j : Int) < 60 := by omega
        obtain ⟨b, o, rfl, hbw, hcell⟩ := HZ.out.2 (by omega)
        obtain ⟨z, hz⟩ : ∃ z, zs[j]? = some z := ⟨_, List.getElem?_eq_getElem (by rw [HZ.out.1]; omega)⟩
        obtain ⟨⟨hsc, hin⟩, p0, p1, p2, p3⟩ := hcell j z hz
        have d0 := cell_below hbl p0
        have d1 := cell_below hbl p1
        have d2 := cell_below hbl p2
        have d3 := cell_below hbl p3
        obtain ⟨wh, sc, dt, kv, ks⟩ := z
        simp only at hsc hin p0 p1 p2 p3 d0 d1 d2 d3
        obtain ⟨av, cv, hveq, hlks, _⟩ := id hin
        subst hveq
        obtain ⟨kn, hkn⟩ : ∃ kn, ks.length = kn := ⟨_, rfl⟩
        rw [hkn] at d3 hin
        obtain ⟨w4, hw4⟩ : ∃ w4, wr.alloc (.cells #[.int .i64 wh, .int .i64 sc, .string dt, .slice av kn cv] 32) = w4 := ⟨_, rfl⟩
        obtain ⟨gz, hgz⟩ : ∃ gz, wr.heap.size = gz := ⟨_, rfl⟩
        have hal : Below wr.heap.size wr w4 := by rw [← hw4]; exact (Below.refl _ _).alloc (Nat.le_refl _) _
        have hrow4 : w4.heap[gz]? = some (.cells #[.int .i64 wh, .int .i64 sc, .string dt, .slice av kn cv] 32 (0, 0)) := by rw [← hw4, ← hgz]; exact heap_alloc_new wr _
        have hA4 := hA.below hal
        have hR4 := hR.below hal
        have hbs : w.heap.size ≤ wr.heap.size := Nat.le_trans hA.b1 (Nat.le_of_lt hA.d.lt)
        have hbl4 := hbl.trans (hal.mono hbs)
        have hwin : ∀ b, b = g ∨ b = gd ∨ b = gc ∨ va.ownBlock = some b ∨ ka.ownBlock = some b → b ≠ gz := fun b e => by have := (hA.lts e).2; omega
        have hwir : ∀ b, b = gr ∨ b = gl ∨ vr.ownBlock = some b → b ≠ gz := fun b e => by have := (hR.lts e).2; omega
        have hgzw : w.heap.size ≤ gz := by omega
        have hBst := hgz
        have hcut2 : ∃ D W1, D.size ≤ 600 ∧ ((600 < dt.size ∧ D = dt.extract 0 513 ∧ w4.setCell ⟨gz, 2, none⟩ (.string (dt.extract 0 513)) = W1) ∨ (¬ 600 < dt.size ∧ D = dt ∧ w4 = W1)) ∧ W1.heap[gz]? = some (.cells #[.int .i64 wh, .int .i64 sc, .string D, .slice av kn cv] 32 (0, 0)) ∧ IsD w.heap.size n g gd gc cd cc va ka S W1 ∧ IsR w.heap.size n gr gl cl vr kr S W1 ∧ Below w.heap.size w W1 := by
          by_cases hbig : 600 < dt.size
          · refine ⟨_, _, ?_, .inl ⟨hbig, rfl, rfl⟩, ?_, hA4.keep (fun b e => Below.heap_setCell _ _ _ _ (by show b ≠ gz; exact hwin b e)), hR4.keep (fun b e => Below.heap_setCell _ _ _ _ (by show b ≠ gz; exact hwir b e)), hbl4.setCell (p := ⟨gz, 2, none⟩) hgzw _⟩
            · rw [ByteArray.size_extract]; omega
            · show (w4.heap.modify gz _)[gz]? = _
              rw [Array.getElem?_modify, if_pos rfl, hrow4]; rfl
          · exact ⟨dt, w4, by omega, .inr ⟨hbig, rfl, rfl⟩, hrow4, hA4, hR4, hbl4⟩
        obtain ⟨D, W1, hD6, hcase, hrow1, hA1, hR1, hbl1⟩ := hcut2
        have hin1 := hin.below hbl1
        obtain ⟨v', w6, hap6, hb6, hkc⟩ := app_ints hin1
        have hka6 : KeepArg v' ks va w6 := by
          rcases hkc with ⟨h8, h9⟩ | ⟨b, c, h8, h9, h10, h11⟩
          · exact .inl ⟨h8, h9⟩
          · exact .inr ⟨b, 0, c, h8, h9, fun e => absurd (hA1.vw.lt b e).2 (by omega), h11⟩
        have hrow6 : w6.heap[gz]? = some (.cells #[.int .i64 wh, .int .i64 sc, .string D, .slice av kn cv] 32 (0, 0)) := (hb6.block gz (Array.getElem?_eq_some_iff.1 hrow1).1).trans hrow1
        have hc61 : ∀ (W : World), W.heap[gz]? = some (.cells #[.int .i64 wh, .int .i64 sc, .string D, .slice av kn cv] 32 (0, 0)) → W.cell? ⟨gz, 0, none⟩ = some (.int .i64 wh) ∧ W.cell? ⟨gz, 1, none⟩ = some (.int .i64 sc) ∧ W.cell? ⟨gz, 2, none⟩ = some (.string D) ∧ W.cell? ⟨gz, 3, none⟩ = some (.slice av kn cv) := fun W hW => by
          unfold World.cell?
          simp only [hW]
          exact ⟨rfl, rfl, rfl, rfl⟩
        obtain ⟨y0, y1, y2, y3⟩ := hc61 _ hrow6
        obtain ⟨_, _, z2', z3'⟩ := hc61 _ hrow1
        have y3a : (W1.alloc (.cells #[] 3)).cell? ⟨gz, 3, none⟩ = some (.slice av kn cv) := (World.cell?_alloc_past _ _ _ (Array.getElem?_eq_some_iff.1 hrow1).1).trans z3'
        have x2 : w4.cell? ⟨gz, 2, none⟩ = some (.string dt) := by unfold World.cell?; simp only [hrow4]; rfl
        have xf : w4.frozen? ⟨gz, 2, none⟩ = false := by simp [World.frozen?, hrow4]
        obtain ⟨t, ht⟩ : ∃ t, wh.tmod 10 = t := ⟨_, rfl⟩
        have ht1 : -9 ≤ t ∧ t ≤ 9 := by
          rw [← ht]
          by_cases h : 0 ≤ wh
          · rw [Int.tmod_eq_emod_of_nonneg h]; omega
          · have e1 : wh.tmod 10 = -((-wh).tmod 10) := by rw [← Int.neg_tmod, Int.neg_neg]
            rw [e1, Int.tmod_eq_emod_of_nonneg (by omega)]; omega
        obtain ⟨ht0, ht9⟩ := ht1
        obtain ⟨r, hr⟩ : ∃ r, (t + 10).tmod 10 = r := ⟨_, rfl⟩
        have hr0 : 0 ≤ r ∧ r ≤ 9 := by
          rw [Int.tmod_eq_emod_of_nonneg (by omega)] at hr; omega
        have HA6 := Lib.hid (hA1.below hb6); have HR6 := Lib.hid (hR1.below hb6); have HBL6 := Lib.hid (hbl1.trans (hb6.mono (Nat.le_trans hA1.b1 (Nat.le_of_lt hA1.d.lt))))
        have HROW := Lib.hid hrow6; have HC61 := Lib.hid hc61; have HKA := Lib.hid hka6; have HBD := Lib.hid hbd; have HCU := Lib.hid hcu; have HPE := Lib.hid hpe; have HIN := Lib.hid hin; have HLK := Lib.hid hlks; have HSC := Lib.hid hsc; have HGZ := Lib.hid hgzw; have HKN := Lib.hid hkn; have HD6 := Lib.hid hD6
        have HNG : Hid (g ≠ gz ∧ gd ≠ gz ∧ gc ≠ gz ∧ va.ownBlock ≠ some gz) := Lib.hid ⟨hwin g (.inl rfl), hwin gd (.inr (.inl rfl)), hwin gc (.inr (.inr (.inl rfl))), fun e => hwin gz (.inr (.inr (.inr (.inl e)))) rfl⟩
        have HNR : Hid (gr ≠ gz ∧ gl ≠ gz ∧ vr.ownBlock ≠ some gz) := Lib.hid ⟨hwir gr (.inl rfl), hwir gl (.inr (.inl rfl)), fun e => hwir gz (.inr (.inr e)) rfl⟩
        have hj60 : (j : Int) ≤ 60 := by omega
        clear hA hR hbl hA4 hR4 hbl4 hwin hwir hrow4 hal hbs hA1 hR1 hbl1 hb6 hkc hka6 hrow1 hrow6 hc61 hcell hz p0 p1 p2 p3 hin hin1 hbd hcu hpe hlks hsc hgzw hkn hBst hD6
        obtain ⟨hr0a, hr0b⟩ := hr0
        rcases hcase with ⟨hbig, hDeq, hWeq⟩ | ⟨hbig, hDeq, hWeq⟩
        · clear hDeq
          rcases (show r ≤ 3 ∨ r = 4 ∨ r = 5 ∨ r = 6 ∨ r = 7 ∨ r = 8 ∨ r = 9 by omega) with hrc | hrc | hrc | hrc | hrc | hrc | hrc
          · skip
            as_aux_lemma =>
              by_cases hv : 0 ≤ sc ∧ sc < n ∧ D.size ≤ 512
              · have hD5 : D.size ≤ 512 := hv.2.2
                obtain ⟨k, hk⟩ : ∃ k : Nat, sc = k := ⟨sc.toNat, by omega⟩
                subst hk
                have hkn : k < n := by omega
                have HPP := Lib.hid (WriteD (HA6.out.keep (w' := w6.drew) (fun _ _ => rfl)) (HBD.out.ok hn1 (by omega) (by omega)) k D hkn hD5)
                go_wp2_with (first | (refine wpList_store_row rfl 32 _ _ rfl wr.heap.size #[.int .i64 wh, .int .i64 sc, .string dt, .slice av kn cv] rfl rfl 32 _ (heap_alloc_new wr _) act_size rfl (by rfl) ?_) | (at_builtin; refine wpList_append_eq rfl _ _ 30 rfl _ _ rfl rfl v' w6 hap6 ?_))
                go_region_held3 (fun w' => w'.cell? ⟨gz, 1, none⟩ = some (.int .i64 (k : Int)) ∧ w'.cell? ⟨gz, 2, none⟩ = some (.string D)) (go_keep) ((first | (go_at_call 16; refine HPP.out.mono ?_; first | rintro e w7 rfl va7 ka7 h7 hv7 f7 | rintro e w7 ⟨rfl, va7, ka7, h7, hv7, f7⟩; have hr7 := HA6.out.other_r HR6.out HN.out.1 HN.out.2 (FrD.undrew f7); have hrw7 := (f7.block gz (Array.getElem?_eq_some_iff.1 HROW.out).1 (Ne.symm HNG.out.1) (Ne.symm HNG.out.2.1) (Ne.symm HNG.out.2.2.1) HNG.out.2.2.2).trans HROW.out; obtain ⟨_, cA, cB, _⟩ := HC61.out _ hrw7; have H7 := Lib.hid h7; have HR7 := Lib.hid hr7; have HRW7 := Lib.hid hrw7; have HB7 := Lib.hid (HBL6.out.trans (FrD.undrew f7).below); clear h7 hr7 hrw7 f7 hv7) | (go_at_call 17; refine (RPut HR7.out (HBD.out.ok hn1 (by omega) (by omega)) (fun e w' hb' => (HPE.out (by omega)).below (HB7.out.trans hb')) k D hkn hD5).mono ?_; first | rintro e w8 rfl vr8 h8 hv8 f8 | rintro e w8 ⟨rfl, vr8, h8, hv8, f8⟩; have ha8 := H7.out.otherR HR7.out HN.out.1 HN.out.2 f8; have hrw8 := (f8.block gz (Array.getElem?_eq_some_iff.1 HRW7.out).1 (Ne.symm HNR.out.1) (Ne.symm HNR.out.2.1) HNR.out.2.2).trans HRW7.out; obtain ⟨_, cA, cB, _⟩ := HC61.out _ hrw8; have H8 := Lib.hid h8; have HA8 := Lib.hid ha8; have HB8 := Lib.hid (HB7.out.trans f8.below); clear h8 ha8 hrw8 f8 hv8)))
                all_goals
                  have HSM := Lib.hid (same_any HA8.out H8.out (HCU.out.write k D) (by omega) (Nat.le_trans (HBD.out.write k D).ws (by omega)) (Nat.le_trans (HBD.out.write k D).done (by omega)))
                  have hstep : Hid (∀ w9, Below w8.heap.size w8 w9 → ScS w.heap.size n g gd gc cd cc gr gl cl (min len 60) w (.int .i64 ((j : Int) + 1)) w9) := Lib.hid (fun w9 hb9 =>
                    ⟨j + 1, (writeS k D S).2, _, _, _, kr, by rw [Int.natCast_succ], by omega, (HBD.out.write k D), (HCU.out.write k D), (HPE.out.write HBD.out.l0 k D), IsD.below HA8.out hb9, IsR.below H8.out hb9, Below.trans HB8.out (hb9.mono (Nat.le_trans (IsD.b1 HA8.out) (Nat.le_of_lt (IsD.d HA8.out).lt)))⟩)
                  go_wp2_with (go_at_call 18; refine HSM.out.mono ?_)
                  first | rintro e w9 rfl hb9 | rintro e w9 ⟨rfl, hb9⟩
                  have HT9 := Lib.hid (hstep.out w9 hb9)
                  clear hb9 hstep HSM
                  go_wp2_with fail
                  exact ⟨HT9.out, by simp [intOf]; omega⟩
              · have HBAD := Lib.hid hv
                clear hv
                have HPP : Hid (Calls Try.prog 16 #[.pointer (some ⟨g, 0, none⟩), .int .i64 sc, .string D] w6.drew fun e w' => e = .returned (.int .i64 1) ∧ Below w6.drew.heap.size w6.drew w') := Lib.hid ((Write_bad g n cd _ _ _ _ _ _ _ sc D _ (HA6.out.keep (w' := w6.drew) (fun _ _ => rfl)).d HBAD.out).mono (fun e w' ⟨he, hw⟩ => ⟨he, hw ▸ Below.refl _ _⟩))
                go_wp2_with (first | (refine wpList_store_row rfl 32 _ _ rfl wr.heap.size #[.int .i64 wh, .int .i64 sc, .string dt, .slice av kn cv] rfl rfl 32 _ (heap_alloc_new wr _) act_size rfl (by rfl) ?_) | (at_builtin; refine wpList_append_eq rfl _ _ 30 rfl _ _ rfl rfl v' w6 hap6 ?_))
                go_region_held3 (fun w' => w'.cell? ⟨gz, 1, none⟩ = some (.int .i64 sc) ∧ w'.cell? ⟨gz, 2, none⟩ = some (.string D)) (go_keep) ((first | (go_at_call 16; refine HPP.out.mono ?_; first | rintro e w7 rfl hb7 | rintro e w7 ⟨rfl, hb7⟩; have ha7 := (HA6.out.keep (w' := w6.drew) (fun _ _ => rfl)).below hb7; have hr7 := (HR6.out.keep (w' := w6.drew) (fun _ _ => rfl)).below hb7; have hrw7 := (hb7.block gz (Array.getElem?_eq_some_iff.1 HROW.out).1).trans HROW.out; obtain ⟨_, cA, cB, _⟩ := HC61.out _ hrw7; have HA7 := Lib.hid ha7; have HR7 := Lib.hid hr7; have HB7 : Hid (Below w.heap.size w w7) := Lib.hid (HBL6.out.trans ⟨hb7.os, hb7.tape, hb7.output, hb7.size, fun b hb => hb7.block b (Nat.lt_of_lt_of_le hb HBL6.out.size)⟩); clear ha7 hr7 hrw7 hb7) | (go_at_call 17; refine (RPut_bad HR7.out sc D HBAD.out).mono ?_; rintro e w8 ⟨rfl, rfl⟩)))
                all_goals
                  have HSM := Lib.hid (same_any HA7.out HR7.out HCU.out (by omega) (Nat.le_trans (HBD.out.more (Nat.le_succ j)).ws (by omega)) (Nat.le_trans (HBD.out.more (Nat.le_succ j)).done (by omega)))
                  have hstep : Hid (∀ w9, Below w8.heap.size w8 w9 → ScS w.heap.size n g gd gc cd cc gr gl cl (min len 60) w (.int .i64 ((j : Int) + 1)) w9) := Lib.hid (fun w9 hb9 =>
                    ⟨j + 1, S, _, _, _, kr, by rw [Int.natCast_succ], by omega, (HBD.out.more (Nat.le_succ j)), HCU.out, HPE.out, IsD.below HA7.out hb9, IsR.below HR7.out hb9, Below.trans HB7.out (hb9.mono (Nat.le_trans (IsD.b1 HA7.out) (Nat.le_of_lt (IsD.d HA7.out).lt)))⟩)
                  go_wp2_with (go_at_call 18; refine HSM.out.mono ?_)
                  first | rintro e w9 rfl hb9 | rintro e w9 ⟨rfl, hb9⟩
                  have HT9 := Lib.hid (hstep.out w9 hb9)
                  clear hb9 hstep HSM
                  go_wp2_with fail
                  exact ⟨HT9.out, by simp [intOf]; omega⟩
          · subst hrc
            as_aux_lemma =>
              go_wp2_with (first | (refine wpList_store_row rfl 32 _ _ rfl wr.heap.size #[.int .i64 wh, .int .i64 sc, .string dt, .slice av kn cv] rfl rfl 32 _ (heap_alloc_new wr _) act_size rfl (by rfl) ?_) | (at_builtin; refine wpList_append_eq rfl _ _ 30 rfl _ _ rfl rfl v' w6 hap6 ?_) | (go_at_call 8; refine (SyncD HA6.out (HBD.out.ok hn1 (by omega) (by omega))).mono ?_))
              first | rintro e w7 rfl va7 ka7 h7 hv7 f7 | rintro e w7 ⟨rfl, va7, ka7, h7, hv7, f7⟩
              have hr7 := HA6.out.other_r HR6.out HN.out.1 HN.out.2 f7
              have H7 := Lib.hid h7; have HR7 := Lib.hid hr7; have HF7 := Lib.hid f7
              clear h7 hv7 f7 hr7
              go_wp2_with (go_at_call 9; refine (RSync HR7.out (HBD.out.ok hn1 (by omega) (by omega)) (fun e w' hb' => (HPE.out (by omega)).below ((HBL6.out.trans HF7.out.below).trans hb'))).mono ?_)
              first | rintro e w8 rfl vr8 h8 hv8 f8 | rintro e w8 ⟨rfl, vr8, h8, hv8, f8⟩
              have ha8 := H7.out.otherR HR7.out HN.out.1 HN.out.2 f8
              have bl8 := (HBL6.out.trans HF7.out.below).trans f8.below
              have HSM := Lib.hid (same_any ha8 h8 HCU.out.sync (by omega) (Nat.le_trans (HBD.out.sync).ws (by omega)) (Nat.le_trans (HBD.out.sync).done (by omega)))
              have hstep : Hid (∀ w9, Below w8.heap.size w8 w9 → ScS w.heap.size n g gd gc cd cc gr gl cl (min len 60) w (.int .i64 ((j : Int) + 1)) w9) := Lib.hid (fun w9 hb9 =>
                ⟨j + 1, (syncS S).2, _, _, _, kr, by rw [Int.natCast_succ], by omega, (HBD.out.sync), HCU.out.sync, (HPE.out.sync HBD.out.l0), IsD.below ha8 hb9, IsR.below h8 hb9, Below.trans bl8 (hb9.mono (Nat.le_trans (IsD.b1 ha8) (Nat.le_of_lt (IsD.d ha8).lt)))⟩)
              clear h8 hv8 f8 ha8 bl8
              go_wp2_with (go_at_call 18; refine HSM.out.mono ?_)
              first | rintro e w9 rfl hb9 | rintro e w9 ⟨rfl, hb9⟩
              have HT9 := Lib.hid (hstep.out w9 hb9)
              clear hb9 hstep HSM
              go_wp2_with fail
              exact ⟨HT9.out, by simp [intOf]; omega⟩
          · subst hrc
            as_aux_lemma =>
              have HSM := Lib.hid (same_any HA6.out HR6.out HCU.out (by omega) (Nat.le_trans (HBD.out.more (Nat.le_succ j)).ws (by omega)) (Nat.le_trans (HBD.out.more (Nat.le_succ j)).done (by omega)))
              have hstep : Hid (∀ w9, Below w6.heap.size w6 w9 → ScS w.heap.size n g gd gc cd cc gr gl cl (min len 60) w (.int .i64 ((j : Int) + 1)) w9) := Lib.hid (fun w9 hb9 =>
                ⟨j + 1, S, _, _, _, kr, by rw [Int.natCast_succ], by omega, (HBD.out.more (Nat.le_succ j)), HCU.out, HPE.out, IsD.below HA6.out hb9, IsR.below HR6.out hb9, Below.trans HBL6.out (hb9.mono (Nat.le_trans (IsD.b1 HA6.out) (Nat.le_of_lt (IsD.d HA6.out).lt)))⟩)
              go_wp2_with (first | (refine wpList_store_row rfl 32 _ _ rfl wr.heap.size #[.int .i64 wh, .int .i64 sc, .string dt, .slice av kn cv] rfl rfl 32 _ (heap_alloc_new wr _) act_size rfl (by rfl) ?_) | (at_builtin; refine wpList_append_eq rfl _ _ 30 rfl _ _ rfl rfl v' w6 hap6 ?_) | (go_at_call 18; refine HSM.out.mono ?_))
              first | rintro e w9 rfl hb9 | rintro e w9 ⟨rfl, hb9⟩
              have HT9 := Lib.hid (hstep.out w9 hb9)
              clear hb9 hstep HSM
              go_wp2_with fail
              exact ⟨HT9.out, by simp [intOf]; omega⟩
          · subst hrc
            as_aux_lemma =>
              go_wp2_with (first | (refine wpList_store_row rfl 32 _ _ rfl wr.heap.size #[.int .i64 wh, .int .i64 sc, .string dt, .slice av kn cv] rfl rfl 32 _ (heap_alloc_new wr _) act_size rfl (by rfl) ?_) | (at_builtin; refine wpList_append_eq rfl _ _ 30 rfl _ _ rfl rfl v' w6 hap6 ?_) | (go_at_call 10; refine (CutD_any HA6.out sc v' ks HLK.out HKA.out).mono ?_))
              first | rintro e w7 rfl ka7 h7 f7 | rintro e w7 ⟨rfl, ka7, h7, f7⟩
              have hr7 := HA6.out.other_r HR6.out HN.out.1 HN.out.2 f7
              have hrw7 := (f7.block gz (Array.getElem?_eq_some_iff.1 HROW.out).1 (Ne.symm HNG.out.1) (Ne.symm HNG.out.2.1) (Ne.symm HNG.out.2.2.1) HNG.out.2.2.2).trans HROW.out
              obtain ⟨_, y17, _, y37⟩ := HC61.out _ hrw7
              have c2 := hr7.d.c2
              have f2 := hr7.d.free 2
              have f3 := hr7.d.free 3
              have c3r := hr7.d.c3
              have hfin : Hid (∀ W, RefAt gr (.slice (some ⟨gl, 0, none⟩) n cl) vr (max sc 1) (.slice av kn cv) S.off S.done W → Kept2 w.heap.size gr gr w7 W → Calls Try.prog 18 #[.pointer (some ⟨g, 0, none⟩), .pointer (some ⟨gr, 0, none⟩)] W (fun e w' => e = .returned (.bool true) ∧ Below W.heap.size W w') ∧ ∀ w9, Below W.heap.size W w9 → ScS w.heap.size n g gd gc cd cc gr gl cl (min len 60) w (.int .i64 ((j : Int) + 1)) w9) := Lib.hid (fun W hd hk => by
                obtain ⟨r1, r2, r3⟩ := hr7.disk hk
                have hr8 : IsR w.heap.size n gr gl cl vr (.slice av kn cv) (cutS sc ks S) W := ⟨hd, r2, hr7.ld, r3, hr7.wb, hr7.b1, hr7.b2⟩
                have ha8 := h7.otherR hr7 HN.out.1 HN.out.2 r1
                have bl8 := (HBL6.out.trans f7.below).trans r1.below
                have bd8 := (HBD.out.cut sc ks (by have := HLK.out; omega) HSC.out).more (Nat.le_succ j)
                exact ⟨same_any ha8 hr8 (HCU.out.cut sc ks) (by omega) (Nat.le_trans bd8.ws (by omega)) (Nat.le_trans bd8.done (by omega)), fun w9 hb9 =>
                  ⟨j + 1, cutS sc ks S, _, _, _, _, by rw [Int.natCast_succ], by omega, bd8, HCU.out.cut sc ks, fun _ => HIN.out, ha8.below hb9, hr8.below hb9, bl8.trans (hb9.mono (Nat.le_trans ha8.b1 (Nat.le_of_lt ha8.d.lt)))⟩⟩)
              have HR7 := Lib.hid hr7
              clear h7 f7 hr7 hrw7
              go_wp2_with fail
              go_region
              all_goals
                have hRd : ∀ W, RefAt gr (.slice (some ⟨gl, 0, none⟩) n cl) vr (max sc 1) (.slice av kn cv) S.off S.done W → RefAt gr (.slice (some ⟨gl, 0, none⟩) n cl) vr (max sc 1) (.slice av kn cv) S.off S.done W := fun _ h => h
                have q23 : RefAt gr (.slice (some ⟨gl, 0, none⟩) n cl) vr (max sc 1) (.slice av kn cv) S.off S.done ((w7.setCell ⟨gr, 2, none⟩ (.int .i64 (max sc 1))).setCell ⟨gr, 3, none⟩ (.slice av kn cv)) := (show RefAt gr (.slice (some ⟨gl, 0, none⟩) n cl) vr (max sc 1) kr S.off S.done (w7.setCell ⟨gr, 2, none⟩ (.int .i64 (max sc 1))) from HR7.out.d.set 2 _).set 3 _
                have q32 : RefAt gr (.slice (some ⟨gl, 0, none⟩) n cl) vr (max sc 1) (.slice av kn cv) S.off S.done ((w7.setCell ⟨gr, 3, none⟩ (.slice av kn cv)).setCell ⟨gr, 2, none⟩ (.int .i64 (max sc 1))) := (show RefAt gr (.slice (some ⟨gl, 0, none⟩) n cl) vr S.left (.slice av kn cv) S.off S.done (w7.setCell ⟨gr, 3, none⟩ (.slice av kn cv)) from HR7.out.d.set 3 _).set 2 _
                have k23 : Kept2 w.heap.size gr gr w7 ((w7.setCell ⟨gr, 2, none⟩ (.int .i64 (max sc 1))).setCell ⟨gr, 3, none⟩ (.slice av kn cv)) := ((Kept2.refl _ gr gr w7).setg HR7.out.b1 2 _).setg HR7.out.b1 3 _
                have k32 : Kept2 w.heap.size gr gr w7 ((w7.setCell ⟨gr, 3, none⟩ (.slice av kn cv)).setCell ⟨gr, 2, none⟩ (.int .i64 (max sc 1))) := ((Kept2.refl _ gr gr w7).setg HR7.out.b1 3 _).setg HR7.out.b1 2 _
                have HS23 := Lib.hid (hfin.out (((w7.setCell ⟨gr, 2, none⟩ (.int .i64 (max sc 1))).setCell ⟨gr, 3, none⟩ (.slice av kn cv)).drew) q23 k23.drew)
                have HS32 := Lib.hid (hfin.out (((w7.setCell ⟨gr, 3, none⟩ (.slice av kn cv)).setCell ⟨gr, 2, none⟩ (.int .i64 (max sc 1))).drew) q32 k32.drew)
                clear q23 q32 k23 k32 hRd
                go_wp2_with (first | (go_at_call 18; refine HS23.out.1.mono ?_) | (go_at_call 18; refine HS32.out.1.mono ?_))
                first | rintro e w9 rfl hb9 | rintro e w9 ⟨rfl, hb9⟩
                have HT9 : Hid (ScS w.heap.size n g gd gc cd cc gr gl cl (min len 60) w (.int .i64 ((j : Int) + 1)) w9) := Lib.hid (by first | exact HS23.out.2 w9 hb9 | exact HS32.out.2 w9 hb9)
                clear hb9
                go_wp2_with fail
                exact ⟨HT9.out, by simp [intOf]; omega⟩
          · subst hrc
            as_aux_lemma =>
              go_wp2_with (first | (refine wpList_store_row rfl 32 _ _ rfl wr.heap.size #[.int .i64 wh, .int .i64 sc, .string dt, .slice av kn cv] rfl rfl 32 _ (heap_alloc_new wr _) act_size rfl (by rfl) ?_) | (at_builtin; refine wpList_append_eq rfl _ _ 30 rfl _ _ rfl rfl v' w6 hap6 ?_) | (go_at_call 11; refine (CrashD HA6.out (HBD.out.ok hn1 (by omega) (by omega)) v' ks (by have := HLK.out; omega) HKA.out).mono ?_))
              first | rintro e w7 rfl h7 f7 | rintro e w7 ⟨rfl, h7, f7⟩
              have hr7 := HA6.out.other_r HR6.out HN.out.1 HN.out.2 f7
              have hrw7 := (f7.block gz (Array.getElem?_eq_some_iff.1 HROW.out).1 (Ne.symm HNG.out.1) (Ne.symm HNG.out.2.1) (Ne.symm HNG.out.2.2.1) HNG.out.2.2.2).trans HROW.out
              obtain ⟨_, _, _, y37⟩ := HC61.out _ hrw7
              have H7 := Lib.hid h7; have HR7 := Lib.hid hr7; have HF7 := Lib.hid f7
              clear h7 hr7 f7 hrw7
              go_wp2_with (go_at_call 12; refine (RFail HR7.out (.slice av kn cv) ks (fun w' hb' => HIN.out.below ((HBL6.out.trans HF7.out.below).trans hb')) (by omega) (Nat.le_trans HBD.out.ws (by omega))).mono ?_)
              first | rintro e w8 rfl h8 f8 | rintro e w8 ⟨rfl, h8, f8⟩
              have ha8 := H7.out.otherR HR7.out HN.out.1 HN.out.2 f8
              have c4 := h8.d.c4
              have f4 := h8.d.free 4
              have hd1 : RefAt gr (.slice (some ⟨gl, 0, none⟩) n cl) (.slice none 0 0) 0 kr false S.done (w8.setCell ⟨gr, 4, none⟩ (.bool false)) := h8.d.set 4 _
              have hk2 : Kept2 w.heap.size gr gr w8 (w8.setCell ⟨gr, 4, none⟩ (.bool false)) := (Kept2.refl _ gr gr w8).setg h8.b1 4 _
              obtain ⟨r1, r2, r3⟩ := h8.disk hk2
              have hr9 : IsR w.heap.size n gr gl cl (.slice none 0 0) kr (crashS ks S) (w8.setCell ⟨gr, 4, none⟩ (.bool false)) := ⟨hd1, r2, h8.ld, r3, h8.wb, h8.b1, h8.b2⟩
              have ha9 := ha8.otherR h8 HN.out.1 HN.out.2 r1
              have bl9 := ((HBL6.out.trans HF7.out.below).trans f8.below).trans r1.below
              have HSM := Lib.hid (same_any ha9 hr9 (Cu.crash ks) (by omega) (Nat.le_trans ((HBD.out.crash ks).more (Nat.le_succ j)).ws (by omega)) (Nat.le_trans ((HBD.out.crash ks).more (Nat.le_succ j)).done (by omega)))
              have hstep : Hid (∀ w9, Below (w8.setCell ⟨gr, 4, none⟩ (.bool false)).heap.size (w8.setCell ⟨gr, 4, none⟩ (.bool false)) w9 → ScS w.heap.size n g gd gc cd cc gr gl cl (min len 60) w (.int .i64 ((j : Int) + 1)) w9) := Lib.hid (fun w9 hb9 =>
                ⟨j + 1, (crashS ks S), _, _, _, kr, by rw [Int.natCast_succ], by omega, ((HBD.out.crash ks).more (Nat.le_succ j)), (Cu.crash ks), (fun e => absurd rfl e), IsD.below ha9 hb9, IsR.below hr9 hb9, Below.trans bl9 (hb9.mono (Nat.le_trans (IsD.b1 ha9) (Nat.le_of_lt (IsD.d ha9).lt)))⟩)
              clear h8 f8 ha8 hd1 hk2 r1 r2 r3 hr9 ha9 bl9
              go_wp2_with (go_at_call 18; refine HSM.out.mono ?_)
              first | rintro e w9 rfl hb9 | rintro e w9 ⟨rfl, hb9⟩
              have HT9 := Lib.hid (hstep.out w9 hb9)
              clear hb9 hstep HSM
              go_wp2_with fail
              exact ⟨HT9.out, by simp [intOf]; omega⟩
          · subst hrc
            as_aux_lemma =>
              go_wp2_with (first | (refine wpList_store_row rfl 32 _ _ rfl wr.heap.size #[.int .i64 wh, .int .i64 sc, .string dt, .slice av kn cv] rfl rfl 32 _ (heap_alloc_new wr _) act_size rfl (by rfl) ?_) | (at_builtin; refine wpList_append_eq rfl _ _ 30 rfl _ _ rfl rfl v' w6 hap6 ?_) | (go_at_call 13; refine (OnD HA6.out).mono ?_))
              first | rintro e w7 rfl h7 f7 | rintro e w7 ⟨rfl, h7, f7⟩
              have hr7 := HA6.out.other_r HR6.out HN.out.1 HN.out.2 f7
              have c4 := hr7.d.c4
              have c2 := hr7.d.c2
              have f4 := hr7.d.free 4
              have f2 := hr7.d.free 2
              have hd1 : RefAt gr (.slice (some ⟨gl, 0, none⟩) n cl) vr S.left kr false S.done (w7.setCell ⟨gr, 4, none⟩ (.bool false)) := hr7.d.set 4 _
              have hd2 : RefAt gr (.slice (some ⟨gl, 0, none⟩) n cl) vr 0 kr false S.done ((w7.setCell ⟨gr, 4, none⟩ (.bool false)).setCell ⟨gr, 2, none⟩ (.int .i64 0)) := hd1.set 2 _
              have hk2 : Kept2 w.heap.size gr gr w7 ((w7.setCell ⟨gr, 4, none⟩ (.bool false)).setCell ⟨gr, 2, none⟩ (.int .i64 0)) := ((Kept2.refl _ gr gr w7).setg hr7.b1 4 _).setg hr7.b1 2 _
              obtain ⟨r1, r2, r3⟩ := hr7.disk hk2
              have hr8 : IsR w.heap.size n gr gl cl vr kr (onS S) ((w7.setCell ⟨gr, 4, none⟩ (.bool false)).setCell ⟨gr, 2, none⟩ (.int .i64 0)) := ⟨hd2, r2, hr7.ld, r3, hr7.wb, hr7.b1, hr7.b2⟩
              have ha8 : IsD w.heap.size n g gd gc cd cc va (.slice none 0 0) (onS S) ((w7.setCell ⟨gr, 4, none⟩ (.bool false)).setCell ⟨gr, 2, none⟩ (.int .i64 0)) := IsD.otherR (show IsD w.heap.size n g gd gc cd cc va (.slice none 0 0) (onS S) w7 from ⟨h7.d, h7.rd, h7.rc, h7.ld, h7.lc, h7.vw, h7.wb, h7.vk, h7.ne, h7.b1, h7.b2, h7.b3⟩) hr7 HN.out.1 HN.out.2 r1
              have bl8 := (HBL6.out.trans f7.below).trans r1.below
              have HSM := Lib.hid (same_any ha8 hr8 HCU.out.on (by omega) (Nat.le_trans (HBD.out.on.more (Nat.le_succ j)).ws (by omega)) (Nat.le_trans (HBD.out.on.more (Nat.le_succ j)).done (by omega)))
              have hstep : Hid (∀ w9, Below ((w7.setCell ⟨gr, 4, none⟩ (.bool false)).setCell ⟨gr, 2, none⟩ (.int .i64 0)).heap.size ((w7.setCell ⟨gr, 4, none⟩ (.bool false)).setCell ⟨gr, 2, none⟩ (.int .i64 0)) w9 → ScS w.heap.size n g gd gc cd cc gr gl cl (min len 60) w (.int .i64 ((j : Int) + 1)) w9) := Lib.hid (fun w9 hb9 =>
                ⟨j + 1, (onS S), _, _, _, kr, by rw [Int.natCast_succ], by omega, (HBD.out.on.more (Nat.le_succ j)), HCU.out.on, (fun e => absurd rfl e), IsD.below ha8 hb9, IsR.below hr8 hb9, Below.trans bl8 (hb9.mono (Nat.le_trans (IsD.b1 ha8) (Nat.le_of_lt (IsD.d ha8).lt)))⟩)
              clear h7 f7 hr7 hd1 hd2 hk2 r1 r2 r3 hr8 ha8 bl8
              go_wp2_with (go_at_call 18; refine HSM.out.mono ?_)
              first | rintro e w9 rfl hb9 | rintro e w9 ⟨rfl, hb9⟩
              have HT9 := Lib.hid (hstep.out w9 hb9)
              clear hb9 hstep HSM
              go_wp2_with fail
              exact ⟨HT9.out, by simp [intOf]; omega⟩
          · subst hrc
            as_aux_lemma =>
              by_cases hv : 0 ≤ sc ∧ sc < n ∧ D.size ≤ 512
              · have hD5 : D.size ≤ 512 := hv.2.2
                obtain ⟨k, hk⟩ : ∃ k : Nat, sc = k := ⟨sc.toNat, by omega⟩
                subst hk
                have hkn : k < n := by omega
                have HPP := Lib.hid (SpoilD (HA6.out.keep (w' := w6.drew) (fun _ _ => rfl)) (Nat.le_trans HBD.out.ws (by omega)) k D hkn hD5)
                go_wp2_with (first | (refine wpList_store_row rfl 32 _ _ rfl wr.heap.size #[.int .i64 wh, .int .i64 sc, .string dt, .slice av kn cv] rfl rfl 32 _ (heap_alloc_new wr _) act_size rfl (by rfl) ?_) | (at_builtin; refine wpList_append_eq rfl _ _ 30 rfl _ _ rfl rfl v' w6 hap6 ?_))
                go_region_held3 (fun w' => w'.cell? ⟨gz, 1, none⟩ = some (.int .i64 (k : Int)) ∧ w'.cell? ⟨gz, 2, none⟩ = some (.string D)) (go_keep) ((first | (go_at_call 14; refine HPP.out.mono ?_; first | rintro e w7 rfl va7 h7 hv7 f7 | rintro e w7 ⟨rfl, va7, h7, hv7, f7⟩; have hr7 := HA6.out.other_r HR6.out HN.out.1 HN.out.2 (FrD.undrew f7); have hrw7 := (f7.block gz (Array.getElem?_eq_some_iff.1 HROW.out).1 (Ne.symm HNG.out.1) (Ne.symm HNG.out.2.1) (Ne.symm HNG.out.2.2.1) HNG.out.2.2.2).trans HROW.out; obtain ⟨_, cA, cB, _⟩ := HC61.out _ hrw7; have H7 := Lib.hid h7; have HR7 := Lib.hid hr7; have HRW7 := Lib.hid hrw7; have HB7 := Lib.hid (HBL6.out.trans (FrD.undrew f7).below); clear h7 hr7 hrw7 f7 hv7) | (go_at_call 15; refine (RSpoil HR7.out (Nat.le_trans HBD.out.ws (by omega)) k D hkn hD5).mono ?_; first | rintro e w8 rfl vr8 h8 hv8 f8 | rintro e w8 ⟨rfl, vr8, h8, hv8, f8⟩; have ha8 := H7.out.otherR HR7.out HN.out.1 HN.out.2 f8; have hrw8 := (f8.block gz (Array.getElem?_eq_some_iff.1 HRW7.out).1 (Ne.symm HNR.out.1) (Ne.symm HNR.out.2.1) HNR.out.2.2).trans HRW7.out; obtain ⟨_, cA, cB, _⟩ := HC61.out _ hrw8; have H8 := Lib.hid h8; have HA8 := Lib.hid ha8; have HB8 := Lib.hid (HB7.out.trans f8.below); clear h8 ha8 hrw8 f8 hv8)))
                all_goals
                  have HSM := Lib.hid (same_any HA8.out H8.out (HCU.out.spoil k D) (by omega) (Nat.le_trans ((HBD.out.spoil k D).more (Nat.le_succ j)).ws (by omega)) (Nat.le_trans ((HBD.out.spoil k D).more (Nat.le_succ j)).done (by omega)))
                  have hstep : Hid (∀ w9, Below w8.heap.size w8 w9 → ScS w.heap.size n g gd gc cd cc gr gl cl (min len 60) w (.int .i64 ((j : Int) + 1)) w9) := Lib.hid (fun w9 hb9 =>
                    ⟨j + 1, (spoilS k D S), _, _, _, kr, by rw [Int.natCast_succ], by omega, ((HBD.out.spoil k D).more (Nat.le_succ j)), (HCU.out.spoil k D), HPE.out, IsD.below HA8.out hb9, IsR.below H8.out hb9, Below.trans HB8.out (hb9.mono (Nat.le_trans (IsD.b1 HA8.out) (Nat.le_of_lt (IsD.d HA8.out).lt)))⟩)
                  go_wp2_with (go_at_call 18; refine HSM.out.mono ?_)
                  first | rintro e w9 rfl hb9 | rintro e w9 ⟨rfl, hb9⟩
                  have HT9 := Lib.hid (hstep.out w9 hb9)
                  clear hb9 hstep HSM
                  go_wp2_with fail
                  exact ⟨HT9.out, by simp [intOf]; omega⟩
              · have HBAD := Lib.hid hv
                clear hv
                have HPP : Hid (Calls Try.prog 14 #[.pointer (some ⟨g, 0, none⟩), .int .i64 sc, .string D] w6.drew fun e w' => e = .returned (.int .i64 1) ∧ Below w6.drew.heap.size w6.drew w') := Lib.hid (Spoil_bad (HA6.out.keep (w' := w6.drew) (fun _ _ => rfl)) sc D HBAD.out)
                go_wp2_with (first | (refine wpList_store_row rfl 32 _ _ rfl wr.heap.size #[.int .i64 wh, .int .i64 sc, .string dt, .slice av kn cv] rfl rfl 32 _ (heap_alloc_new wr _) act_size rfl (by rfl) ?_) | (at_builtin; refine wpList_append_eq rfl _ _ 30 rfl _ _ rfl rfl v' w6 hap6 ?_))
                go_region_held3 (fun w' => w'.cell? ⟨gz, 1, none⟩ = some (.int .i64 sc) ∧ w'.cell? ⟨gz, 2, none⟩ = some (.string D)) (go_keep) ((first | (go_at_call 14; refine HPP.out.mono ?_; first | rintro e w7 rfl hb7 | rintro e w7 ⟨rfl, hb7⟩; have ha7 := (HA6.out.keep (w' := w6.drew) (fun _ _ => rfl)).below hb7; have hr7 := (HR6.out.keep (w' := w6.drew) (fun _ _ => rfl)).below hb7; have hrw7 := (hb7.block gz (Array.getElem?_eq_some_iff.1 HROW.out).1).trans HROW.out; obtain ⟨_, cA, cB, _⟩ := HC61.out _ hrw7; have HA7 := Lib.hid ha7; have HR7 := Lib.hid hr7; have HB7 : Hid (Below w.heap.size w w7) := Lib.hid (HBL6.out.trans ⟨hb7.os, hb7.tape, hb7.output, hb7.size, fun b hb => hb7.block b (Nat.lt_of_lt_of_le hb HBL6.out.size)⟩); clear ha7 hr7 hrw7 hb7) | (go_at_call 15; refine (RSpoil_bad HR7.out sc D HBAD.out).mono ?_; rintro e w8 ⟨rfl, rfl⟩)))
                all_goals
                  have HSM := Lib.hid (same_any HA7.out HR7.out HCU.out (by omega) (Nat.le_trans (HBD.out.more (Nat.le_succ j)).ws (by omega)) (Nat.le_trans (HBD.out.more (Nat.le_succ j)).done (by omega)))
                  have hstep : Hid (∀ w9, Below w8.heap.size w8 w9 → ScS w.heap.size n g gd gc cd cc gr gl cl (min len 60) w (.int .i64 ((j : Int) + 1)) w9) := Lib.hid (fun w9 hb9 =>
                    ⟨j + 1, S, _, _, _, kr, by rw [Int.natCast_succ], by omega, (HBD.out.more (Nat.le_succ j)), HCU.out, HPE.out, IsD.below HA7.out hb9, IsR.below HR7.out hb9, Below.trans HB7.out (hb9.mono (Nat.le_trans (IsD.b1 HA7.out) (Nat.le_of_lt (IsD.d HA7.out).lt)))⟩)
                  go_wp2_with (go_at_call 18; refine HSM.out.mono ?_)
                  first | rintro e w9 rfl hb9 | rintro e w9 ⟨rfl, hb9⟩
                  have HT9 := Lib.hid (hstep.out w9 hb9)
                  clear hb9 hstep HSM
                  go_wp2_with fail
                  exact ⟨HT9.out, by simp [intOf]; omega⟩
        · clear hDeq
          subst hWeq
          rcases (show r ≤ 3 ∨ r = 4 ∨ r = 5 ∨ r = 6 ∨ r = 7 ∨ r = 8 ∨ r = 9 by omega) with hrc | hrc | hrc | hrc | hrc | hrc | hrc
          · skip
            as_aux_lemma =>
              by_cases hv : 0 ≤ sc ∧ sc < n ∧ D.size ≤ 512
              · have hD5 : D.size ≤ 512 := hv.2.2
                obtain ⟨k, hk⟩ : ∃ k : Nat, sc = k := ⟨sc.toNat, by omega⟩
                subst hk
                have hkn : k < n := by omega
                have HPP := Lib.hid (WriteD (HA6.out.keep (w' := w6.drew) (fun _ _ => rfl)) (HBD.out.ok hn1 (by omega) (by omega)) k D hkn hD5)
                go_wp2_with (first | (refine wpList_store_row rfl 32 _ _ rfl wr.heap.size #[.int .i64 wh, .int .i64 sc, .string dt, .slice av kn cv] rfl rfl 32 _ (heap_alloc_new wr _) act_size rfl (by rfl) ?_) | (at_builtin; refine wpList_append_eq rfl _ _ 30 rfl _ _ rfl rfl v' w6 hap6 ?_))
                go_region_held3 (fun w' => w'.cell? ⟨gz, 1, none⟩ = some (.int .i64 (k : Int)) ∧ w'.cell? ⟨gz, 2, none⟩ = some (.string D)) (go_keep) ((first | (go_at_call 16; refine HPP.out.mono ?_; first | rintro e w7 rfl va7 ka7 h7 hv7 f7 | rintro e w7 ⟨rfl, va7, ka7, h7, hv7, f7⟩; have hr7 := HA6.out.other_r HR6.out HN.out.1 HN.out.2 (FrD.undrew f7); have hrw7 := (f7.block gz (Array.getElem?_eq_some_iff.1 HROW.out).1 (Ne.symm HNG.out.1) (Ne.symm HNG.out.2.1) (Ne.symm HNG.out.2.2.1) HNG.out.2.2.2).trans HROW.out; obtain ⟨_, cA, cB, _⟩ := HC61.out _ hrw7; have H7 := Lib.hid h7; have HR7 := Lib.hid hr7; have HRW7 := Lib.hid hrw7; have HB7 := Lib.hid (HBL6.out.trans (FrD.undrew f7).below); clear h7 hr7 hrw7 f7 hv7) | (go_at_call 17; refine (RPut HR7.out (HBD.out.ok hn1 (by omega) (by omega)) (fun e w' hb' => (HPE.out (by omega)).below (HB7.out.trans hb')) k D hkn hD5).mono ?_; first | rintro e w8 rfl vr8 h8 hv8 f8 | rintro e w8 ⟨rfl, vr8, h8, hv8, f8⟩; have ha8 := H7.out.otherR HR7.out HN.out.1 HN.out.2 f8; have hrw8 := (f8.block gz (Array.getElem?_eq_some_iff.1 HRW7.out).1 (Ne.symm HNR.out.1) (Ne.symm HNR.out.2.1) HNR.out.2.2).trans HRW7.out; obtain ⟨_, cA, cB, _⟩ := HC61.out _ hrw8; have H8 := Lib.hid h8; have HA8 := Lib.hid ha8; have HB8 := Lib.hid (HB7.out.trans f8.below); clear h8 ha8 hrw8 f8 hv8)))
                all_goals
                  have HSM := Lib.hid (same_any HA8.out H8.out (HCU.out.write k D) (by omega) (Nat.le_trans (HBD.out.write k D).ws (by omega)) (Nat.le_trans (HBD.out.write k D).done (by omega)))
                  have hstep : Hid (∀ w9, Below w8.heap.size w8 w9 → ScS w.heap.size n g gd gc cd cc gr gl cl (min len 60) w (.int .i64 ((j : Int) + 1)) w9) := Lib.hid (fun w9 hb9 =>
                    ⟨j + 1, (writeS k D S).2, _, _, _, kr, by rw [Int.natCast_succ], by omega, (HBD.out.write k D), (HCU.out.write k D), (HPE.out.write HBD.out.l0 k D), IsD.below HA8.out hb9, IsR.below H8.out hb9, Below.trans HB8.out (hb9.mono (Nat.le_trans (IsD.b1 HA8.out) (Nat.le_of_lt (IsD.d HA8.out).lt)))⟩)
                  go_wp2_with (go_at_call 18; refine HSM.out.mono ?_)
                  first | rintro e w9 rfl hb9 | rintro e w9 ⟨rfl, hb9⟩
                  have HT9 := Lib.hid (hstep.out w9 hb9)
                  clear hb9 hstep HSM
                  go_wp2_with fail
                  exact ⟨HT9.out, by simp [intOf]; omega⟩
              · have HBAD := Lib.hid hv
                clear hv
                have HPP : Hid (Calls Try.prog 16 #[.pointer (some ⟨g, 0, none⟩), .int .i64 sc, .string D] w6.drew fun e w' => e = .returned (.int .i64 1) ∧ Below w6.drew.heap.size w6.drew w') := Lib.hid ((Write_bad g n cd _ _ _ _ _ _ _ sc D _ (HA6.out.keep (w' := w6.drew) (fun _ _ => rfl)).d HBAD.out).mono (fun e w' ⟨he, hw⟩ => ⟨he, hw ▸ Below.refl _ _⟩))
                go_wp2_with (first | (refine wpList_store_row rfl 32 _ _ rfl wr.heap.size #[.int .i64 wh, .int .i64 sc, .string dt, .slice av kn cv] rfl rfl 32 _ (heap_alloc_new wr _) act_size rfl (by rfl) ?_) | (at_builtin; refine wpList_append_eq rfl _ _ 30 rfl _ _ rfl rfl v' w6 hap6 ?_))
                go_region_held3 (fun w' => w'.cell? ⟨gz, 1, none⟩ = some (.int .i64 sc) ∧ w'.cell? ⟨gz, 2, none⟩ = some (.string D)) (go_keep) ((first | (go_at_call 16; refine HPP.out.mono ?_; first | rintro e w7 rfl hb7 | rintro e w7 ⟨rfl, hb7⟩; have ha7 := (HA6.out.keep (w' := w6.drew) (fun _ _ => rfl)).below hb7; have hr7 := (HR6.out.keep (w' := w6.drew) (fun _ _ => rfl)).below hb7; have hrw7 := (hb7.block gz (Array.getElem?_eq_some_iff.1 HROW.out).1).trans HROW.out; obtain ⟨_, cA, cB, _⟩ := HC61.out _ hrw7; have HA7 := Lib.hid ha7; have HR7 := Lib.hid hr7; have HB7 : Hid (Below w.heap.size w w7) := Lib.hid (HBL6.out.trans ⟨hb7.os, hb7.tape, hb7.output, hb7.size, fun b hb => hb7.block b (Nat.lt_of_lt_of_le hb HBL6.out.size)⟩); clear ha7 hr7 hrw7 hb7) | (go_at_call 17; refine (RPut_bad HR7.out sc D HBAD.out).mono ?_; rintro e w8 ⟨rfl, rfl⟩)))
                all_goals
                  have HSM := Lib.hid (same_any HA7.out HR7.out HCU.out (by omega) (Nat.le_trans (HBD.out.more (Nat.le_succ j)).ws (by omega)) (Nat.le_trans (HBD.out.more (Nat.le_succ j)).done (by omega)))
                  have hstep : Hid (∀ w9, Below w8.heap.size w8 w9 → ScS w.heap.size n g gd gc cd cc gr gl cl (min len 60) w (.int .i64 ((j : Int) + 1)) w9) := Lib.hid (fun w9 hb9 =>
                    ⟨j + 1, S, _, _, _, kr, by rw [Int.natCast_succ], by omega, (HBD.out.more (Nat.le_succ j)), HCU.out, HPE.out, IsD.below HA7.out hb9, IsR.below HR7.out hb9, Below.trans HB7.out (hb9.mono (Nat.le_trans (IsD.b1 HA7.out) (Nat.le_of_lt (IsD.d HA7.out).lt)))⟩)
                  go_wp2_with (go_at_call 18; refine HSM.out.mono ?_)
                  first | rintro e w9 rfl hb9 | rintro e w9 ⟨rfl, hb9⟩
                  have HT9 := Lib.hid (hstep.out w9 hb9)
                  clear hb9 hstep HSM
                  go_wp2_with fail
                  exact ⟨HT9.out, by simp [intOf]; omega⟩
          · subst hrc
            as_aux_lemma =>
              go_wp2_with (first | (refine wpList_store_row rfl 32 _ _ rfl wr.heap.size #[.int .i64 wh, .int .i64 sc, .string dt, .slice av kn cv] rfl rfl 32 _ (heap_alloc_new wr _) act_size rfl (by rfl) ?_) | (at_builtin; refine wpList_append_eq rfl _ _ 30 rfl _ _ rfl rfl v' w6 hap6 ?_) | (go_at_call 8; refine (SyncD HA6.out (HBD.out.ok hn1 (by omega) (by omega))).mono ?_))
              first | rintro e w7 rfl va7 ka7 h7 hv7 f7 | rintro e w7 ⟨rfl, va7, ka7, h7, hv7, f7⟩
              have hr7 := HA6.out.other_r HR6.out HN.out.1 HN.out.2 f7
              have H7 := Lib.hid h7; have HR7 := Lib.hid hr7; have HF7 := Lib.hid f7
              clear h7 hv7 f7 hr7
              go_wp2_with (go_at_call 9; refine (RSync HR7.out (HBD.out.ok hn1 (by omega) (by omega)) (fun e w' hb' => (HPE.out (by omega)).below ((HBL6.out.trans HF7.out.below).trans hb'))).mono ?_)
              first | rintro e w8 rfl vr8 h8 hv8 f8 | rintro e w8 ⟨rfl, vr8, h8, hv8, f8⟩
              have ha8 := H7.out.otherR HR7.out HN.out.1 HN.out.2 f8
              have bl8 := (HBL6.out.trans HF7.out.below).trans f8.below
              have HSM := Lib.hid (same_any ha8 h8 HCU.out.sync (by omega) (Nat.le_trans (HBD.out.sync).ws (by omega)) (Nat.le_trans (HBD.out.sync).done (by omega)))
              have hstep : Hid (∀ w9, Below w8.heap.size w8 w9 → ScS w.heap.size n g gd gc cd cc gr gl cl (min len 60) w (.int .i64 ((j : Int) + 1)) w9) := Lib.hid (fun w9 hb9 =>
                ⟨j + 1, (syncS S).2, _, _, _, kr, by rw [Int.natCast_succ], by omega, (HBD.out.sync), HCU.out.sync, (HPE.out.sync HBD.out.l0), IsD.below ha8 hb9, IsR.below h8 hb9, Below.trans bl8 (hb9.mono (Nat.le_trans (IsD.b1 ha8) (Nat.le_of_lt (IsD.d ha8).lt)))⟩)
              clear h8 hv8 f8 ha8 bl8
              go_wp2_with (go_at_call 18; refine HSM.out.mono ?_)
              first | rintro e w9 rfl hb9 | rintro e w9 ⟨rfl, hb9⟩
              have HT9 := Lib.hid (hstep.out w9 hb9)
              clear hb9 hstep HSM
              go_wp2_with fail
              exact ⟨HT9.out, by simp [intOf]; omega⟩
          · subst hrc
            as_aux_lemma =>
              have HSM := Lib.hid (same_any HA6.out HR6.out HCU.out (by omega) (Nat.le_trans (HBD.out.more (Nat.le_succ j)).ws (by omega)) (Nat.le_trans (HBD.out.more (Nat.le_succ j)).done (by omega)))
              have hstep : Hid (∀ w9, Below w6.heap.size w6 w9 → ScS w.heap.size n g gd gc cd cc gr gl cl (min len 60) w (.int .i64 ((j : Int) + 1)) w9) := Lib.hid (fun w9 hb9 =>
                ⟨j + 1, S, _, _, _, kr, by rw [Int.natCast_succ], by omega, (HBD.out.more (Nat.le_succ j)), HCU.out, HPE.out, IsD.below HA6.out hb9, IsR.below HR6.out hb9, Below.trans HBL6.out (hb9.mono (Nat.le_trans (IsD.b1 HA6.out) (Nat.le_of_lt (IsD.d HA6.out).lt)))⟩)
              go_wp2_with (first | (refine wpList_store_row rfl 32 _ _ rfl wr.heap.size #[.int .i64 wh, .int .i64 sc, .string dt, .slice av kn cv] rfl rfl 32 _ (heap_alloc_new wr _) act_size rfl (by rfl) ?_) | (at_builtin; refine wpList_append_eq rfl _ _ 30 rfl _ _ rfl rfl v' w6 hap6 ?_) | (go_at_call 18; refine HSM.out.mono ?_))
              first | rintro e w9 rfl hb9 | rintro e w9 ⟨rfl, hb9⟩
              have HT9 := Lib.hid (hstep.out w9 hb9)
              clear hb9 hstep HSM
              go_wp2_with fail
              exact ⟨HT9.out, by simp [intOf]; omega⟩
          · subst hrc
            as_aux_lemma =>
              go_wp2_with (first | (refine wpList_store_row rfl 32 _ _ rfl wr.heap.size #[.int .i64 wh, .int .i64 sc, .string dt, .slice av kn cv] rfl rfl 32 _ (heap_alloc_new wr _) act_size rfl (by rfl) ?_) | (at_builtin; refine wpList_append_eq rfl _ _ 30 rfl _ _ rfl rfl v' w6 hap6 ?_) | (go_at_call 10; refine (CutD_any HA6.out sc v' ks HLK.out HKA.out).mono ?_))
              first | rintro e w7 rfl ka7 h7 f7 | rintro e w7 ⟨rfl, ka7, h7, f7⟩
              have hr7 := HA6.out.other_r HR6.out HN.out.1 HN.out.2 f7
              have hrw7 := (f7.block gz (Array.getElem?_eq_some_iff.1 HROW.out).1 (Ne.symm HNG.out.1) (Ne.symm HNG.out.2.1) (Ne.symm HNG.out.2.2.1) HNG.out.2.2.2).trans HROW.out
              obtain ⟨_, y17, _, y37⟩ := HC61.out _ hrw7
              have c2 := hr7.d.c2
              have f2 := hr7.d.free 2
              have f3 := hr7.d.free 3
              have c3r := hr7.d.c3
              have hfin : Hid (∀ W, RefAt gr (.slice (some ⟨gl, 0, none⟩) n cl) vr (max sc 1) (.slice av kn cv) S.off S.done W → Kept2 w.heap.size gr gr w7 W → Calls Try.prog 18 #[.pointer (some ⟨g, 0, none⟩), .pointer (some ⟨gr, 0, none⟩)] W (fun e w' => e = .returned (.bool true) ∧ Below W.heap.size W w') ∧ ∀ w9, Below W.heap.size W w9 → ScS w.heap.size n g gd gc cd cc gr gl cl (min len 60) w (.int .i64 ((j : Int) + 1)) w9) := Lib.hid (fun W hd hk => by
                obtain ⟨r1, r2, r3⟩ := hr7.disk hk
                have hr8 : IsR w.heap.size n gr gl cl vr (.slice av kn cv) (cutS sc ks S) W := ⟨hd, r2, hr7.ld, r3, hr7.wb, hr7.b1, hr7.b2⟩
                have ha8 := h7.otherR hr7 HN.out.1 HN.out.2 r1
                have bl8 := (HBL6.out.trans f7.below).trans r1.below
                have bd8 := (HBD.out.cut sc ks (by have := HLK.out; omega) HSC.out).more (Nat.le_succ j)
                exact ⟨same_any ha8 hr8 (HCU.out.cut sc ks) (by omega) (Nat.le_trans bd8.ws (by omega)) (Nat.le_trans bd8.done (by omega)), fun w9 hb9 =>
                  ⟨j + 1, cutS sc ks S, _, _, _, _, by rw [Int.natCast_succ], by omega, bd8, HCU.out.cut sc ks, fun _ => HIN.out, ha8.below hb9, hr8.below hb9, bl8.trans (hb9.mono (Nat.le_trans ha8.b1 (Nat.le_of_lt ha8.d.lt)))⟩⟩)
              have HR7 := Lib.hid hr7
              clear h7 f7 hr7 hrw7
              go_wp2_with fail
              go_region
              all_goals
                have hRd : ∀ W, RefAt gr (.slice (some ⟨gl, 0, none⟩) n cl) vr (max sc 1) (.slice av kn cv) S.off S.done W → RefAt gr (.slice (some ⟨gl, 0, none⟩) n cl) vr (max sc 1) (.slice av kn cv) S.off S.done W := fun _ h => h
                have q23 : RefAt gr (.slice (some ⟨gl, 0, none⟩) n cl) vr (max sc 1) (.slice av kn cv) S.off S.done ((w7.setCell ⟨gr, 2, none⟩ (.int .i64 (max sc 1))).setCell ⟨gr, 3, none⟩ (.slice av kn cv)) := (show RefAt gr (.slice (some ⟨gl, 0, none⟩) n cl) vr (max sc 1) kr S.off S.done (w7.setCell ⟨gr, 2, none⟩ (.int .i64 (max sc 1))) from HR7.out.d.set 2 _).set 3 _
                have q32 : RefAt gr (.slice (some ⟨gl, 0, none⟩) n cl) vr (max sc 1) (.slice av kn cv) S.off S.done ((w7.setCell ⟨gr, 3, none⟩ (.slice av kn cv)).setCell ⟨gr, 2, none⟩ (.int .i64 (max sc 1))) := (show RefAt gr (.slice (some ⟨gl, 0, none⟩) n cl) vr S.left (.slice av kn cv) S.off S.done (w7.setCell ⟨gr, 3, none⟩ (.slice av kn cv)) from HR7.out.d.set 3 _).set 2 _
                have k23 : Kept2 w.heap.size gr gr w7 ((w7.setCell ⟨gr, 2, none⟩ (.int .i64 (max sc 1))).setCell ⟨gr, 3, none⟩ (.slice av kn cv)) := ((Kept2.refl _ gr gr w7).setg HR7.out.b1 2 _).setg HR7.out.b1 3 _
                have k32 : Kept2 w.heap.size gr gr w7 ((w7.setCell ⟨gr, 3, none⟩ (.slice av kn cv)).setCell ⟨gr, 2, none⟩ (.int .i64 (max sc 1))) := ((Kept2.refl _ gr gr w7).setg HR7.out.b1 3 _).setg HR7.out.b1 2 _
                have HS23 := Lib.hid (hfin.out (((w7.setCell ⟨gr, 2, none⟩ (.int .i64 (max sc 1))).setCell ⟨gr, 3, none⟩ (.slice av kn cv)).drew) q23 k23.drew)
                have HS32 := Lib.hid (hfin.out (((w7.setCell ⟨gr, 3, none⟩ (.slice av kn cv)).setCell ⟨gr, 2, none⟩ (.int .i64 (max sc 1))).drew) q32 k32.drew)
                clear q23 q32 k23 k32 hRd
                go_wp2_with (first | (go_at_call 18; refine HS23.out.1.mono ?_) | (go_at_call 18; refine HS32.out.1.mono ?_))
                first | rintro e w9 rfl hb9 | rintro e w9 ⟨rfl, hb9⟩
                have HT9 : Hid (ScS w.heap.size n g gd gc cd cc gr gl cl (min len 60) w (.int .i64 ((j : Int) + 1)) w9) := Lib.hid (by first | exact HS23.out.2 w9 hb9 | exact HS32.out.2 w9 hb9)
                clear hb9
                go_wp2_with fail
                exact ⟨HT9.out, by simp [intOf]; omega⟩
          · subst hrc
            as_aux_lemma =>
              go_wp2_with (first | (refine wpList_store_row rfl 32 _ _ rfl wr.heap.size #[.int .i64 wh, .int .i64 sc, .string dt, .slice av kn cv] rfl rfl 32 _ (heap_alloc_new wr _) act_size rfl (by rfl) ?_) | (at_builtin; refine wpList_append_eq rfl _ _ 30 rfl _ _ rfl rfl v' w6 hap6 ?_) | (go_at_call 11; refine (CrashD HA6.out (HBD.out.ok hn1 (by omega) (by omega)) v' ks (by have := HLK.out; omega) HKA.out).mono ?_))
              first | rintro e w7 rfl h7 f7 | rintro e w7 ⟨rfl, h7, f7⟩
              have hr7 := HA6.out.other_r HR6.out HN.out.1 HN.out.2 f7
              have hrw7 := (f7.block gz (Array.getElem?_eq_some_iff.1 HROW.out).1 (Ne.symm HNG.out.1) (Ne.symm HNG.out.2.1) (Ne.symm HNG.out.2.2.1) HNG.out.2.2.2).trans HROW.out
              obtain ⟨_, _, _, y37⟩ := HC61.out _ hrw7
              have H7 := Lib.hid h7; have HR7 := Lib.hid hr7; have HF7 := Lib.hid f7
              clear h7 hr7 f7 hrw7
              go_wp2_with (go_at_call 12; refine (RFail HR7.out (.slice av kn cv) ks (fun w' hb' => HIN.out.below ((HBL6.out.trans HF7.out.below).trans hb')) (by omega) (Nat.le_trans HBD.out.ws (by omega))).mono ?_)
              first | rintro e w8 rfl h8 f8 | rintro e w8 ⟨rfl, h8, f8⟩
              have ha8 := H7.out.otherR HR7.out HN.out.1 HN.out.2 f8
              have c4 := h8.d.c4
              have f4 := h8.d.free 4
              have hd1 : RefAt gr (.slice (some ⟨gl, 0, none⟩) n cl) (.slice none 0 0) 0 kr false S.done (w8.setCell ⟨gr, 4, none⟩ (.bool false)) := h8.d.set 4 _
              have hk2 : Kept2 w.heap.size gr gr w8 (w8.setCell ⟨gr, 4, none⟩ (.bool false)) := (Kept2.refl _ gr gr w8).setg h8.b1 4 _
              obtain ⟨r1, r2, r3⟩ := h8.disk hk2
              have hr9 : IsR w.heap.size n gr gl cl (.slice none 0 0) kr (crashS ks S) (w8.setCell ⟨gr, 4, none⟩ (.bool false)) := ⟨hd1, r2, h8.ld, r3, h8.wb, h8.b1, h8.b2⟩
              have ha9 := ha8.otherR h8 HN.out.1 HN.out.2 r1
              have bl9 := ((HBL6.out.trans HF7.out.below).trans f8.below).trans r1.below
              have HSM := Lib.hid (same_any ha9 hr9 (Cu.crash ks) (by omega) (Nat.le_trans ((HBD.out.crash ks).more (Nat.le_succ j)).ws (by omega)) (Nat.le_trans ((HBD.out.crash ks).more (Nat.le_succ j)).done (by omega)))
              have hstep : Hid (∀ w9, Below (w8.setCell ⟨gr, 4, none⟩ (.bool false)).heap.size (w8.setCell ⟨gr, 4, none⟩ (.bool false)) w9 → ScS w.heap.size n g gd gc cd cc gr gl cl (min len 60) w (.int .i64 ((j : Int) + 1)) w9) := Lib.hid (fun w9 hb9 =>
                ⟨j + 1, (crashS ks S), _, _, _, kr, by rw [Int.natCast_succ], by omega, ((HBD.out.crash ks).more (Nat.le_succ j)), (Cu.crash ks), (fun e => absurd rfl e), IsD.below ha9 hb9, IsR.below hr9 hb9, Below.trans bl9 (hb9.mono (Nat.le_trans (IsD.b1 ha9) (Nat.le_of_lt (IsD.d ha9).lt)))⟩)
              clear h8 f8 ha8 hd1 hk2 r1 r2 r3 hr9 ha9 bl9
              go_wp2_with (go_at_call 18; refine HSM.out.mono ?_)
              first | rintro e w9 rfl hb9 | rintro e w9 ⟨rfl, hb9⟩
              have HT9 := Lib.hid (hstep.out w9 hb9)
              clear hb9 hstep HSM
              go_wp2_with fail
              exact ⟨HT9.out, by simp [intOf]; omega⟩
          · subst hrc
            as_aux_lemma =>
              go_wp2_with (first | (refine wpList_store_row rfl 32 _ _ rfl wr.heap.size #[.int .i64 wh, .int .i64 sc, .string dt, .slice av kn cv] rfl rfl 32 _ (heap_alloc_new wr _) act_size rfl (by rfl) ?_) | (at_builtin; refine wpList_append_eq rfl _ _ 30 rfl _ _ rfl rfl v' w6 hap6 ?_) | (go_at_call 13; refine (OnD HA6.out).mono ?_))
              first | rintro e w7 rfl h7 f7 | rintro e w7 ⟨rfl, h7, f7⟩
              have hr7 := HA6.out.other_r HR6.out HN.out.1 HN.out.2 f7
              have c4 := hr7.d.c4
              have c2 := hr7.d.c2
              have f4 := hr7.d.free 4
              have f2 := hr7.d.free 2
              have hd1 : RefAt gr (.slice (some ⟨gl, 0, none⟩) n cl) vr S.left kr false S.done (w7.setCell ⟨gr, 4, none⟩ (.bool false)) := hr7.d.set 4 _
              have hd2 : RefAt gr (.slice (some ⟨gl, 0, none⟩) n cl) vr 0 kr false S.done ((w7.setCell ⟨gr, 4, none⟩ (.bool false)).setCell ⟨gr, 2, none⟩ (.int .i64 0)) := hd1.set 2 _
              have hk2 : Kept2 w.heap.size gr gr w7 ((w7.setCell ⟨gr, 4, none⟩ (.bool false)).setCell ⟨gr, 2, none⟩ (.int .i64 0)) := ((Kept2.refl _ gr gr w7).setg hr7.b1 4 _).setg hr7.b1 2 _
              obtain ⟨r1, r2, r3⟩ := hr7.disk hk2
              have hr8 : IsR w.heap.size n gr gl cl vr kr (onS S) ((w7.setCell ⟨gr, 4, none⟩ (.bool false)).setCell ⟨gr, 2, none⟩ (.int .i64 0)) := ⟨hd2, r2, hr7.ld, r3, hr7.wb, hr7.b1, hr7.b2⟩
              have ha8 : IsD w.heap.size n g gd gc cd cc va (.slice none 0 0) (onS S) ((w7.setCell ⟨gr, 4, none⟩ (.bool false)).setCell ⟨gr, 2, none⟩ (.int .i64 0)) := IsD.otherR (show IsD w.heap.size n g gd gc cd cc va (.slice none 0 0) (onS S) w7 from ⟨h7.d, h7.rd, h7.rc, h7.ld, h7.lc, h7.vw, h7.wb, h7.vk, h7.ne, h7.b1, h7.b2, h7.b3⟩) hr7 HN.out.1 HN.out.2 r1
              have bl8 := (HBL6.out.trans f7.below).trans r1.below
              have HSM := Lib.hid (same_any ha8 hr8 HCU.out.on (by omega) (Nat.le_trans (HBD.out.on.more (Nat.le_succ j)).ws (by omega)) (Nat.le_trans (HBD.out.on.more (Nat.le_succ j)).done (by omega)))
              have hstep : Hid (∀ w9, Below ((w7.setCell ⟨gr, 4, none⟩ (.bool false)).setCell ⟨gr, 2, none⟩ (.int .i64 0)).heap.size ((w7.setCell ⟨gr, 4, none⟩ (.bool false)).setCell ⟨gr, 2, none⟩ (.int .i64 0)) w9 → ScS w.heap.size n g gd gc cd cc gr gl cl (min len 60) w (.int .i64 ((j : Int) + 1)) w9) := Lib.hid (fun w9 hb9 =>
                ⟨j + 1, (onS S), _, _, _, kr, by rw [Int.natCast_succ], by omega, (HBD.out.on.more (Nat.le_succ j)), HCU.out.on, (fun e => absurd rfl e), IsD.below ha8 hb9, IsR.below hr8 hb9, Below.trans bl8 (hb9.mono (Nat.le_trans (IsD.b1 ha8) (Nat.le_of_lt (IsD.d ha8).lt)))⟩)
              clear h7 f7 hr7 hd1 hd2 hk2 r1 r2 r3 hr8 ha8 bl8
              go_wp2_with (go_at_call 18; refine HSM.out.mono ?_)
              first | rintro e w9 rfl hb9 | rintro e w9 ⟨rfl, hb9⟩
              have HT9 := Lib.hid (hstep.out w9 hb9)
              clear hb9 hstep HSM
              go_wp2_with fail
              exact ⟨HT9.out, by simp [intOf]; omega⟩
          · subst hrc
            as_aux_lemma =>
              by_cases hv : 0 ≤ sc ∧ sc < n ∧ D.size ≤ 512
              · have hD5 : D.size ≤ 512 := hv.2.2
                obtain ⟨k, hk⟩ : ∃ k : Nat, sc = k := ⟨sc.toNat, by omega⟩
                subst hk
                have hkn : k < n := by omega
                have HPP := Lib.hid (SpoilD (HA6.out.keep (w' := w6.drew) (fun _ _ => rfl)) (Nat.le_trans HBD.out.ws (by omega)) k D hkn hD5)
                go_wp2_with (first | (refine wpList_store_row rfl 32 _ _ rfl wr.heap.size #[.int .i64 wh, .int .i64 sc, .string dt, .slice av kn cv] rfl rfl 32 _ (heap_alloc_new wr _) act_size rfl (by rfl) ?_) | (at_builtin; refine wpList_append_eq rfl _ _ 30 rfl _ _ rfl rfl v' w6 hap6 ?_))
                go_region_held3 (fun w' => w'.cell? ⟨gz, 1, none⟩ = some (.int .i64 (k : Int)) ∧ w'.cell? ⟨gz, 2, none⟩ = some (.string D)) (go_keep) ((first | (go_at_call 14; refine HPP.out.mono ?_; first | rintro e w7 rfl va7 h7 hv7 f7 | rintro e w7 ⟨rfl, va7, h7, hv7, f7⟩; have hr7 := HA6.out.other_r HR6.out HN.out.1 HN.out.2 (FrD.undrew f7); have hrw7 := (f7.block gz (Array.getElem?_eq_some_iff.1 HROW.out).1 (Ne.symm HNG.out.1) (Ne.symm HNG.out.2.1) (Ne.symm HNG.out.2.2.1) HNG.out.2.2.2).trans HROW.out; obtain ⟨_, cA, cB, _⟩ := HC61.out _ hrw7; have H7 := Lib.hid h7; have HR7 := Lib.hid hr7; have HRW7 := Lib.hid hrw7; have HB7 := Lib.hid (HBL6.out.trans (FrD.undrew f7).below); clear h7 hr7 hrw7 f7 hv7) | (go_at_call 15; refine (RSpoil HR7.out (Nat.le_trans HBD.out.ws (by omega)) k D hkn hD5).mono ?_; first | rintro e w8 rfl vr8 h8 hv8 f8 | rintro e w8 ⟨rfl, vr8, h8, hv8, f8⟩; have ha8 := H7.out.otherR HR7.out HN.out.1 HN.out.2 f8; have hrw8 := (f8.block gz (Array.getElem?_eq_some_iff.1 HRW7.out).1 (Ne.symm HNR.out.1) (Ne.symm HNR.out.2.1) HNR.out.2.2).trans HRW7.out; obtain ⟨_, cA, cB, _⟩ := HC61.out _ hrw8; have H8 := Lib.hid h8; have HA8 := Lib.hid ha8; have HB8 := Lib.hid (HB7.out.trans f8.below); clear h8 ha8 hrw8 f8 hv8)))
                all_goals
                  have HSM := Lib.hid (same_any HA8.out H8.out (HCU.out.spoil k D) (by omega) (Nat.le_trans ((HBD.out.spoil k D).more (Nat.le_succ j)).ws (by omega)) (Nat.le_trans ((HBD.out.spoil k D).more (Nat.le_succ j)).done (by omega)))
                  have hstep : Hid (∀ w9, Below w8.heap.size w8 w9 → ScS w.heap.size n g gd gc cd cc gr gl cl (min len 60) w (.int .i64 ((j : Int) + 1)) w9) := Lib.hid (fun w9 hb9 =>
                    ⟨j + 1, (spoilS k D S), _, _, _, kr, by rw [Int.natCast_succ], by omega, ((HBD.out.spoil k D).more (Nat.le_succ j)), (HCU.out.spoil k D), HPE.out, IsD.below HA8.out hb9, IsR.below H8.out hb9, Below.trans HB8.out (hb9.mono (Nat.le_trans (IsD.b1 HA8.out) (Nat.le_of_lt (IsD.d HA8.out).lt)))⟩)
                  go_wp2_with (go_at_call 18; refine HSM.out.mono ?_)
                  first | rintro e w9 rfl hb9 | rintro e w9 ⟨rfl, hb9⟩
                  have HT9 := Lib.hid (hstep.out w9 hb9)
                  clear hb9 hstep HSM
                  go_wp2_with fail
                  exact ⟨HT9.out, by simp [intOf]; omega⟩
              · have HBAD := Lib.hid hv
                clear hv
                have HPP : Hid (Calls Try.prog 14 #[.pointer (some ⟨g, 0, none⟩), .int .i64 sc, .string D] w6.drew fun e w' => e = .returned (.int .i64 1) ∧ Below w6.drew.heap.size w6.drew w') := Lib.hid (Spoil_bad (HA6.out.keep (w' := w6.drew) (fun _ _ => rfl)) sc D HBAD.out)
                go_wp2_with (first | (refine wpList_store_row rfl 32 _ _ rfl wr.heap.size #[.int .i64 wh, .int .i64 sc, .string dt, .slice av kn cv] rfl rfl 32 _ (heap_alloc_new wr _) act_size rfl (by rfl) ?_) | (at_builtin; refine wpList_append_eq rfl _ _ 30 rfl _ _ rfl rfl v' w6 hap6 ?_))
                go_region_held3 (fun w' => w'.cell? ⟨gz, 1, none⟩ = some (.int .i64 sc) ∧ w'.cell? ⟨gz, 2, none⟩ = some (.string D)) (go_keep) ((first | (go_at_call 14; refine HPP.out.mono ?_; first | rintro e w7 rfl hb7 | rintro e w7 ⟨rfl, hb7⟩; have ha7 := (HA6.out.keep (w' := w6.drew) (fun _ _ => rfl)).below hb7; have hr7 := (HR6.out.keep (w' := w6.drew) (fun _ _ => rfl)).below hb7; have hrw7 := (hb7.block gz (Array.getElem?_eq_some_iff.1 HROW.out).1).trans HROW.out; obtain ⟨_, cA, cB, _⟩ := HC61.out _ hrw7; have HA7 := Lib.hid ha7; have HR7 := Lib.hid hr7; have HB7 : Hid (Below w.heap.size w w7) := Lib.hid (HBL6.out.trans ⟨hb7.os, hb7.tape, hb7.output, hb7.size, fun b hb => hb7.block b (Nat.lt_of_lt_of_le hb HBL6.out.size)⟩); clear ha7 hr7 hrw7 hb7) | (go_at_call 15; refine (RSpoil_bad HR7.out sc D HBAD.out).mono ?_; rintro e w8 ⟨rfl, rfl⟩)))
                all_goals
                  have HSM := Lib.hid (same_any HA7.out HR7.out HCU.out (by omega) (Nat.le_trans (HBD.out.more (Nat.le_succ j)).ws (by omega)) (Nat.le_trans (HBD.out.more (Nat.le_succ j)).done (by omega)))
                  have hstep : Hid (∀ w9, Below w8.heap.size w8 w9 → ScS w.heap.size n g gd gc cd cc gr gl cl (min len 60) w (.int .i64 ((j : Int) + 1)) w9) := Lib.hid (fun w9 hb9 =>
                    ⟨j + 1, S, _, _, _, kr, by rw [Int.natCast_succ], by omega, (HBD.out.more (Nat.le_succ j)), HCU.out, HPE.out, IsD.below HA7.out hb9, IsR.below HR7.out hb9, Below.trans HB7.out (hb9.mono (Nat.le_trans (IsD.b1 HA7.out) (Nat.le_of_lt (IsD.d HA7.out).lt)))⟩)
                  go_wp2_with (go_at_call 18; refine HSM.out.mono ?_)
                  first | rintro e w9 rfl hb9 | rintro e w9 ⟨rfl, hb9⟩
                  have HT9 := Lib.hid (hstep.out w9 hb9)
                  clear hb9 hstep HSM
                  go_wp2_with fail
                  exact ⟨HT9.out, by simp [intOf]; omega⟩
      · have hex : (¬ (j : Int) < len) ∨ ((j : Int) < len ∧ ¬ (j : Int) < 60) := by omega
        have HBL := Lib.hid hbl
        clear hA hR hbl hbd hcu hpe
        rcases hex with hx1 | ⟨hx1, hx2⟩
        all_goals
          go_wp2_with fail
          go_ret
          exact ⟨rfl, HBL.out⟩
end Go.Proofs.Ytaionhdamdhjjaa
