/- Wal's law: a log through any script. -/
import Derived.Test.YtbpaiiljhdohfaaDoorXi
import Derived.Test.YtbpaiiljhdohfaaDoorWu
namespace Go.Proofs.YtbpaiiljhdohfaaDoor
open Go.RowKit
variable {B n g gd gc cd cc gr gl cl lg f m ga gx : Nat} {a0 : Int} {vw vk vr kr : Value} {S : DS} {w w' : World}

/-- What comes up is wanted. -/
theorem ready_yes {P : Program} {ops : Array Oper} {Q : Exit → Act → World → Prop} {md : Region.Mode} {S : World → Prop} {fuel : Nat} {listed : Array Bool} {a : Act} {w : World} {i : Nat} {o : Oper} {rs : List Nat} (ho : ops[i]? = some o)
    (hw : Region.wanted o (yielded ops a.tmps) = true)
    (h : ∀ K' : Act → World → Prop, Shut (∀ a w, S w → (S w → wpAnyH P md ops Q S fuel (listed.setIfInBounds i true) a w) → K' a w) → Oper.wp P o a w K' Q)
    (hs : AllReadyH P md ops Q S fuel listed a w rs) : AllReadyH P md ops Q S fuel listed a w (i :: rs) :=
  AllReadyH.cons ho (fun K hK => by rw [if_pos hw]; exact h K hK) hs
theorem act6_size : (Tryd.prog.info? 41).map (·.size) = some 4 := by kernel_rfl
theorem and_fifteen (x : Int) : bits .and .i64 x 15 = x % 16 := by
  have h1 : (BitVec.ofInt 64 15).toNat = 2 ^ 4 - 1 := by decide
  have key : (BitVec.ofInt 64 x &&& BitVec.ofInt 64 15).toNat = (x % ((2 ^ 64 : Nat) : Int)).toNat % 2 ^ 4 := by
    rw [BitVec.toNat_and, BitVec.toNat_ofInt, h1, Nat.and_two_pow_sub_one_eq_mod]
  show IntKind.i64.wrap ((BitVec.ofInt 64 x &&& BitVec.ofInt 64 15).toNat : Nat) = _
  rw [key, IntKind.wrap_i64]
  omega
/-- What lies beside the disks: the log, the law's own copies of where it stands. -/
structure Bx (g f m lg ga gx : Nat) (a0 : Int) (w : World) : Prop where
  hL : LogAt lg g f m w
  at_ : w.heap[ga]? = some (.cells #[.int .i64 a0, .int .i64 (f : Int), .int .i64 ((m : Int) + 1)] 22 (0, 0))
  lx : w.heap[gx]? = some (.cells #[.int .i64 (f : Int), .int .i64 ((m : Int) + 1)] 32 (0, 0))
theorem Bx.same (h : Bx g f m lg ga gx a0 w) (hh : w'.heap = w.heap) : Bx g f m lg ga gx a0 w' :=
  ⟨h.hL.same (by rw [hh]), by rw [hh]; exact h.at_, by rw [hh]; exact h.lx⟩
theorem Bx.below (h : Bx g f m lg ga gx a0 w) (hb : Below w.heap.size w w') : Bx g f m lg ga gx a0 w' :=
  ⟨h.hL.below hb, (hb.block _ (lt_of_some h.at_)).trans h.at_, (hb.block _ (lt_of_some h.lx)).trans h.lx⟩
theorem Bx.disk {va ka : Value} (h : Bx g f m lg ga gx a0 w) (hI : IsD B n g gd gc cd cc va ka S w) (fr : FrD B g gd gc va w w') : Bx g f m lg ga gx a0 w' :=
  ⟨h.hL.disk hI fr, (fr.kept hI h.at_ (by decide) (by decide) (by decide)).trans h.at_, (fr.kept hI h.lx (by decide) (by decide) (by decide)).trans h.lx⟩
theorem Bx.refd (h : Bx g f m lg ga gx a0 w) (hI : IsR B n gr gl cl vr kr S w) (fr : FrR B gr gl vr w w') : Bx g f m lg ga gx a0 w' :=
  ⟨h.hL.same (fr.kept hI (show w.heap[lg]? = _ from h.hL) (by decide) (by decide) (by decide)), (fr.kept hI h.at_ (by decide) (by decide) (by decide)).trans h.at_, (fr.kept hI h.lx (by decide) (by decide) (by decide)).trans h.lx⟩
theorem Bx.cells (h : Bx g f m lg ga gx a0 w) : w.cell? ⟨ga, 1, none⟩ = some (.int .i64 (f : Int)) ∧ w.cell? ⟨ga, 2, none⟩ = some (.int .i64 ((m : Int) + 1)) ∧ w.cell? ⟨gx, 0, none⟩ = some (.int .i64 (f : Int)) ∧ w.cell? ⟨gx, 1, none⟩ = some (.int .i64 ((m : Int) + 1)) :=
  ⟨Lib.cell_of_heap h.at_ _, Lib.cell_of_heap h.at_ _, Lib.cell_of_heap h.lx _, Lib.cell_of_heap h.lx _⟩
def ScW (B n g gd gc cd cc gr gl cl lg f m ga gx : Nat) (a0 : Int) (K : Nat) (w : World) (i : Value) (wr : World) : Prop :=
  ∃ (j : Nat) (S : DS) (va ka vr kr : Value), i = .int .i64 (j : Int) ∧ j ≤ K ∧ Bd (300 * j) S ∧ Cu S ∧ SzA S ∧ Pend w kr S ∧ IsD B n g gd gc cd cc va ka S wr ∧ IsR B n gr gl cl vr kr S wr ∧ Bx g f m lg ga gx a0 wr ∧ Below B w wr
theorem openS_err (n f m : Nat) (S : DS) : (openS n f m S).1.2 = 0 ∨ (openS n f m S).1.2 = 7 ∧ (openS n f m S).1.1 = 0 := by
  unfold openS
  split
  · exact .inr ⟨rfl, rfl⟩
  · split
    · exact .inl rfl
    · split
      · exact .inl rfl
      · exact .inr ⟨rfl, rfl⟩
theorem Cu.thenS {a : Int × DS} {k : DS → Int × DS} (h : Cu a.2) (hk : ∀ S, Cu S → Cu (k S).2) : Cu (thenS a k).2 := thenS_pred (P := Cu) (Q := Cu) h hk (fun _ h => h)
theorem Cu.puts : ∀ (x : List (Nat × ByteArray)) (S : DS), Cu S → Cu (putsS x S).2
  | [], _, h => h
  | c :: x, S, h => by
    unfold putsS
    split
    · exact Cu.puts x _ (h.write c.1 c.2)
    · exact h.write c.1 c.2
theorem Cu.make (h : Cu S) (x : List (Nat × ByteArray)) : Cu (makeS x S).2 := Cu.thenS (Cu.puts x S h) (fun _ h => h.sync)
theorem Cu.apply (h : Cu S) (f : Nat) (x : List (Nat × ByteArray)) : Cu (applyS f x S).2 := Cu.thenS (h.make x) (fun _ h => h.make _)
theorem Cu.commit (h : Cu S) (n f m : Nat) (x : List (Int × ByteArray)) : Cu (commitI n f m x S).2 := by
  by_cases hT : Takes n f m x
  · rw [show commitI n f m x S = commitS f (natC x) S from if_pos hT]
    exact Cu.thenS (Cu.thenS (h.make _) (fun _ h => h.make _)) (fun _ h => h.apply f _)
  · rw [show commitI n f m x S = (1, S) from if_neg hT]; exact h
theorem Cu.open (h : Cu S) (n f m : Nat) : Cu (openS n f m S).2 := by
  unfold openS
  split
  · exact h
  · split
    · exact h
    · split
      · exact h.apply f _
      · exact h.apply f _
theorem Pend.thenS {kr : Value} {t t' : Nat} {a : Int × DS} {k : DS → Int × DS} (hb : Bd t a.2) (h : Pend w kr a.2) (hk : ∀ S, Bd t S → Pend w kr S → Pend w kr (k S).2) : Pend w kr (thenS a k).2 := by
  unfold Go.Proofs.YtbpaiiljhdohfaaDoor.thenS
  split
  · exact hk _ hb h
  · exact h
theorem Pend.apply {kr : Value} {t : Nat} (h : Pend w kr S) (bd : Bd t S) (f : Nat) (x : List (Nat × ByteArray)) : Pend w kr (applyS f x S).2 :=
  Pend.thenS (t' := 0) (bd.make x) (h.make bd x) (fun _ b h => h.make b _)
theorem Pend.commit {kr : Value} {t : Nat} (h : Pend w kr S) (bd : Bd t S) (n f m : Nat) (x : List (Int × ByteArray)) : Pend w kr (commitI n f m x S).2 := by
  by_cases hT : Takes n f m x
  · rw [show commitI n f m x S = commitS f (natC x) S from if_pos hT]
    exact Pend.thenS (t' := 0) (bd.record f (natC x)) (Pend.thenS (t' := 0) (bd.make _) (h.make bd _) (fun _ b h => h.make b _)) (fun _ b h => h.apply b f _)
  · rw [show commitI n f m x S = (1, S) from if_neg hT]; exact h
theorem Pend.open {kr : Value} {t : Nat} (h : Pend w kr S) (bd : Bd t S) (n f m : Nat) : Pend w kr (openS n f m S).2 := by
  unfold openS
  split
  · exact h
  · split
    · exact h
    · split
      · exact h.apply bd f _
      · exact h.apply bd f _
theorem Pend.below {kr : Value} (h : Pend w kr S) (hb : Below w.heap.size w w') : Pend w' kr S := fun e => (h e).below hb
theorem own_drI {B : Nat} {v : Value} {x : List (Int × ByteArray)} (h : w.ownsRow B 57 2 v x.length (flatI x)) : ∃ o cap, v = .slice o x.length cap ∧ DrI w o x := by
  rcases h.2 with ⟨h1, h2⟩ | ⟨b, cap, cur, h1, _, hg, hn, _, hz, ht⟩
  · exact ⟨none, 0, by rw [h1, h2], fun k p hp => by have := (List.getElem?_eq_some_iff.1 hp).1; omega⟩
  · refine ⟨some ⟨b, 0, none⟩, cap, h1, fun k p hp => ⟨b, cur, rfl, hg, ?_, ?_⟩⟩
    · have hk := (List.getElem?_eq_some_iff.1 hp).1
      have := (flatI_get x k p hp).1
      rw [← ht, List.getElem?_take, if_pos (by omega), Array.getElem?_toList, Nat.mul_comm] at this
      exact (Lib.cell_of_heap hg _).trans this
    · have hk := (List.getElem?_eq_some_iff.1 hp).1
      have := (flatI_get x k p hp).2
      rw [← ht, List.getElem?_take, if_pos (by omega), Array.getElem?_toList, Nat.mul_comm] at this
      exact (Lib.cell_of_heap hg _).trans this
theorem chRow_of {B : Nat} {v : Value} {x : List (Int × ByteArray)} (h : w.ownsRow B 55 2 v x.length (flatI x)) : ChRow w v x :=
  ⟨h.1, h.2.imp id (fun ⟨g, cap, cur, h1, _, h3⟩ => ⟨g, cap, cur, h1, Nat.zero_le _, h3⟩)⟩
set_option linter.unusedSimpArgs false
set_option linter.unusedVariables false
set_option maxHeartbeats 64000000 in
set_option maxRecDepth 100000 in
theorem wscripts_any {w : World} (a0 a1 a2 : Int) (a : Option Addr) (len cap : Nat) (zs : List ActW) (hz : IsActs6 w a len zs) (hl : len ≤ 9223372036854775807) (hV : CrcVars w) :
    Calls Tryd.prog 3 #[.agg #[.int .i64 a0, .int .i64 a1, .int .i64 a2], .slice a len cap] w fun e w' => e = .returned (.bool true) ∧ Below w.heap.size w w' := by
  have HZ := Lib.hid hz; have HV := Lib.hid hV
  obtain ⟨W0, hW0⟩ : ∃ W0, w.alloc (.cells #[.int .i64 a0, .int .i64 a1, .int .i64 a2] 22) = W0 := ⟨_, rfl⟩
  have hb0 : Below w.heap.size w W0 := hW0 ▸ (Below.refl _ _).alloc (Nat.le_refl _) _
  have hrow0 : W0.heap[w.heap.size]? = some (.cells #[.int .i64 a0, .int .i64 a1, .int .i64 a2] 22 (0, 0)) := by rw [← hW0]; exact heap_alloc_new w _
  have HS := Lib.hid (wspeaks_any (hV.below hb0))
  have HB0 := Lib.hid hb0; have HROW0 := Lib.hid hrow0
  clear hz hV hb0 hrow0
  go_enter Tryd.func3, Tryd.ntmps3
  go_wp2_with (first | (rw [hW0]; go_at_call 4; refine HS.out.mono ?_) | (go_at_call 4; refine HS.out.mono ?_))
  first | rintro e w1 rfl hb1 | rintro e w1 ⟨rfl, hb1⟩
  have HB1 := Lib.hid (HB0.out.trans (hb1.mono HB0.out.size))
  have HROW1 := Lib.hid ((hb1.block _ (lt_of_some HROW0.out)).trans HROW0.out)
  have c0 : w1.cell? ⟨w.heap.size, 0, none⟩ = some (.int .i64 a0) := Lib.cell_of_heap HROW1.out _
  obtain ⟨n, hn⟩ : ∃ n : Nat, (n : Int) = 1 + a0 % 16 := ⟨(1 + a0 % 16).toNat, by omega⟩
  have hn1 : 1 ≤ n := by omega
  have hn16 : n ≤ 16 := by omega
  have hand : bits .and .i64 a0 15 = (n : Int) - 1 := by rw [and_fifteen]; omega
  have hwr1 : IntKind.i64.wrap (1 + ((n : Int) - 1)) = n := by rw [IntWalk.i64_in _ (by omega)]; omega
  clear hb1 hW0 hn
  go_wp2_with (first | (go_at_call 5; refine (NewD n _ hn1 (by omega)).mono ?_))
  first | rintro e w2 g rfl gd gc cd cc h2' hb2 | rintro e w2 ⟨g, gd, gc, cd, cc, rfl, h2', hb2⟩
  have H2 := Lib.hid (h2'.base HB1.out.size); have HB2 := Lib.hid (HB1.out.trans (hb2.mono HB1.out.size))
  have HROW2 := Lib.hid ((hb2.block _ (lt_of_some HROW1.out)).trans HROW1.out)
  clear h2' hb2
  go_wp2_with (first | (go_at_call 6; refine (RNew n _ hn1 (by omega)).mono ?_))
  first | rintro e w3 gr rfl gl cl h3 hb3 | rintro e w3 ⟨gr, gl, cl, rfl, h3, hb3⟩
  have hlow : IsR w.heap.size n gr gl cl (.slice none 0 0) (.slice none 0 0) (newS n) w3 := ⟨h3.d, h3.rd, h3.ld, World.ownsRow_nil _ _ _ _, h3.wb, Nat.le_trans HB2.out.size h3.b1, Nat.le_trans HB2.out.size h3.b2⟩
  have HNG : Hid (gd ≠ gl ∧ gc ≠ gl) := Lib.hid (by
    have e1 := H2.out.rd.lt; have e2 := H2.out.rc.lt; have e3 := h3.b2
    exact ⟨by omega, by omega⟩)
  have HB3 := Lib.hid (HB2.out.trans (hb3.mono HB2.out.size))
  have HROW3 := Lib.hid ((hb3.block _ (lt_of_some HROW2.out)).trans HROW2.out)
  have HA3 := Lib.hid (H2.out.below hb3); have HR3 := Lib.hid hlow
  obtain ⟨gx, hgx⟩ : ∃ gx, w3.heap.size = gx := ⟨_, rfl⟩
  obtain ⟨W4, hW4⟩ : ∃ W4, w3.alloc (.cells #[.int .i64 a1, .int .i64 a2] 32) = W4 := ⟨_, rfl⟩
  have hb4 : Below w3.heap.size w3 W4 := hW4 ▸ (Below.refl _ _).alloc (Nat.le_refl _) _
  have hrow4 : W4.heap[gx]? = some (.cells #[.int .i64 a1, .int .i64 a2] 32 (0, 0)) := by rw [← hW4, ← hgx]; exact heap_alloc_new w3 _
  have HB4 := Lib.hid (HB3.out.trans (hb4.mono HB3.out.size))
  have HX4 := Lib.hid hrow4
  have HROW4 := Lib.hid ((hb4.block _ (lt_of_some HROW3.out)).trans HROW3.out)
  have HA4 := Lib.hid (HA3.out.below hb4); have HR4 := Lib.hid (HR3.out.below hb4)
  have c1 : w3.cell? ⟨w.heap.size, 1, none⟩ = some (.int .i64 a1) := Lib.cell_of_heap HROW3.out _
  have c2 : w3.cell? ⟨w.heap.size, 2, none⟩ = some (.int .i64 a2) := Lib.cell_of_heap HROW3.out _
  have d1 : W4.cell? ⟨w.heap.size, 1, none⟩ = some (.int .i64 a1) := Lib.cell_of_heap HROW4.out _
  have d2 : W4.cell? ⟨w.heap.size, 2, none⟩ = some (.int .i64 a2) := Lib.cell_of_heap HROW4.out _
  have d3 : W4.cell? ⟨gx, 0, none⟩ = some (.int .i64 a1) := Lib.cell_of_heap hrow4 _
  have d4 : W4.cell? ⟨gx, 1, none⟩ = some (.int .i64 a2) := Lib.cell_of_heap hrow4 _
  clear h3 hb3 hlow hb4 hrow4 hand hwr1 c0
  by_cases hF : Fits n a1 a2
  · obtain ⟨q0, q1, q2, q3⟩ := hF
    obtain ⟨f, rfl⟩ : ∃ f : Nat, a1 = (f : Int) := ⟨a1.toNat, by omega⟩
    obtain ⟨m, rfl⟩ : ∃ m : Nat, a2 = (m : Int) + 1 := ⟨(a2 - 1).toNat, by omega⟩
    have hf : f + 1 + m ≤ n := by omega
    have hm1 : 1 ≤ m := by omega
    have hm64 : m ≤ 64 := by omega
    have hon : openS n f m (newS n) = ((0, 0), newS n) := open_new (by omega)
    have HOG := Lib.hid (open_good HA4.out hf (by omega) hm1 hm64 (SzA.new n).cur (Bd.new n) (HV.out.below HB4.out) (by omega) (f : Int) ((m : Int) + 1) rfl rfl)
    rw [hon] at HOG
    have HON := Lib.hid hon
    clear hon q0 q1 q2 q3
    go_wp2_with (first | (rw [hW4, hgx]; go_at_call 7; refine HOG.out.mono ?_) | (go_at_call 7; refine HOG.out.mono ?_))
    rintro e w5 ⟨⟨lg, rfl, hlg⟩, va5, ka5, h5, hv5, f5⟩
    obtain ⟨hL5, hlgs⟩ := hlg rfl
    have HBX5 : Hid (Bx g f m lg w.heap.size gx a0 w5) := Lib.hid ⟨hL5, (f5.kept HA4.out HROW4.out (by decide) (by decide) (by decide)).trans HROW4.out, (f5.kept HA4.out HX4.out (by decide) (by decide) (by decide)).trans HX4.out⟩
    have HR5 := Lib.hid (IsR.other HA4.out HR4.out HNG.out.1 HNG.out.2 f5)
    have HA5 := Lib.hid h5
    have HB5 := Lib.hid (HB4.out.trans f5.below)
    have HRO := Lib.hid (ROpen_good HR5.out hf (by omega) hm1 hm64 (SzA.new n).cur rfl HA5.out.lc (Bd.new n) (by omega) (fun _ _ e => absurd rfl e))
    rw [HON.out] at HRO
    obtain ⟨x1, x2, x3, x4⟩ := HBX5.out.cells
    clear h5 hv5 f5 hL5 hlgs hlg c1 c2 d1 d2 d3 d4 hW4 hgx HOG
    go_wp2_with (first | (go_at_call 8; refine HRO.out.mono ?_))
    rintro e w6 ⟨rfl, vr6, h6, hv6, f6⟩
    have HA6 := Lib.hid (IsD.otherR HA5.out HR5.out HNG.out.1 HNG.out.2 f6)
    have HBX6 := Lib.hid (HBX5.out.refd HR5.out f6)
    have HB6 := Lib.hid (HB5.out.trans f6.below)
    have HR6 := Lib.hid h6
    have hS0 : Hid (ScW w.heap.size n g gd gc cd cc gr gl cl lg f m w.heap.size gx a0 (min len 30) w (.int .i64 0) w6) := Lib.hid
      ⟨0, newS n, _, _, _, _, rfl, Nat.zero_le _, Bd.new n, rfl, SzA.new n, fun e => absurd rfl e, HA6.out, HR6.out, HBX6.out, HB6.out⟩
    clear h6 hv6 f6 x1 x2 x3 x4 HRO
    go_wp2_with fail
    go_loopw [15] (fun i wr => ScW w.heap.size n g gd gc cd cc gr gl cl lg f m w.heap.size gx a0 (min len 30) w i wr) (fun i _ => 30 - (intOf i).toNat)
    case atStart => exact hS0.out
    case round =>
      obtain ⟨j, S, va, ka, vr, kr, rfl, hj, hbd, hcu, hsz, hpe, hA, hR, hbx, hbl⟩ := hrel
      by_cases hlt : j < min len 30
      · have hj1 : (j : Int) < len := by omega
        have hj2 : (j : Int) < 30 := by omega
        obtain ⟨b, o, rfl, hbw, hcell⟩ := HZ.out.2 (by omega)
        obtain ⟨z, hz⟩ : ∃ z, zs[j]? = some z := ⟨_, List.getElem?_eq_getElem (by rw [HZ.out.1]; omega)⟩
        obtain ⟨⟨hsc, hin, hch⟩, p0, p1, p2, p3⟩ := hcell j z hz
        have d0 := cell_below hbl p0
        have d1 := cell_below hbl p1
        have d2 := cell_below hbl p2
        have d3 := cell_below hbl p3
        obtain ⟨wh, sc, cv, ch, kv, ks⟩ := z
        simp only at hsc hin hch p0 p1 p2 p3 d0 d1 d2 d3
        obtain ⟨av, ccv, hveq, hlks, _⟩ := id hin
        subst hveq
        obtain ⟨cha, chc, hceq, hlc, hcl⟩ := id hch
        subst hceq
        obtain ⟨kn, hkn⟩ : ∃ kn, ks.length = kn := ⟨_, rfl⟩
        rw [hkn] at d3 hin
        obtain ⟨cn, hcn⟩ : ∃ cn, ch.length = cn := ⟨_, rfl⟩
        rw [hcn] at d2
        obtain ⟨w4, hw4⟩ : ∃ w4, wr.alloc (.cells #[.int .i64 wh, .int .i64 sc, .slice cha cn chc, .slice av kn ccv] 41) = w4 := ⟨_, rfl⟩
        obtain ⟨gz, hgz⟩ : ∃ gz, wr.heap.size = gz := ⟨_, rfl⟩
        have hal : Below wr.heap.size wr w4 := by rw [← hw4]; exact (Below.refl _ _).alloc (Nat.le_refl _) _
        have hrow4 : w4.heap[gz]? = some (.cells #[.int .i64 wh, .int .i64 sc, .slice cha cn chc, .slice av kn ccv] 41 (0, 0)) := by rw [← hw4, ← hgz]; exact heap_alloc_new wr _
        have hbs : w.heap.size ≤ wr.heap.size := Nat.le_trans hA.b1 (Nat.le_of_lt hA.d.lt)
        have hbl4 := hbl.trans (hal.mono hbs)
        have HCH := Lib.hid (changes_any cha ch chc w4 (by unfold maxLen; omega) (hlc.below hbl4).inC)
        rw [hcn] at HCH
        have y2 : w4.cell? ⟨gz, 2, none⟩ = some (.slice cha cn chc) := Lib.cell_of_heap hrow4 _
        have HA4 := Lib.hid (hA.below hal); have HR4 := Lib.hid (hR.below hal); have HX4 := Lib.hid (hbx.below hal); have HBL4 := Lib.hid hbl4; have HROW4 := Lib.hid hrow4
        have HBD := Lib.hid hbd; have HCU := Lib.hid hcu; have HSZ := Lib.hid hsz; have HPE := Lib.hid hpe; have HIN := Lib.hid hin; have HLK := Lib.hid hlks; have HSC := Lib.hid hsc; have HKN := Lib.hid hkn
        have hgzw : w.heap.size ≤ gz := by omega
        clear hA hR hbx hbl hal hbl4 hrow4 hcell hz p0 p1 p2 p3 hin hch hlc hbd hcu hsz hpe hlks hsc hkn hcn
        go_wp2_with (first | (refine wpList_store_row rfl 41 _ _ rfl wr.heap.size #[.int .i64 wh, .int .i64 sc, .slice cha cn chc, .slice av kn ccv] rfl rfl 41 _ (heap_alloc_new wr _) act6_size rfl (by rfl) ?_) | (go_at_call 9; refine HCH.out.mono ?_))
        first | rintro e w5 xa xb rfl ra rb hb5 | rintro e w5 ⟨xa, xb, rfl, ra, rb, hb5⟩
        have hxs := chgL_size ch
        have hxl := chgL_len ch
        generalize chgL ch = x at ra rb hxs hxl ⊢
        obtain ⟨nx, hnx⟩ : ∃ nx, x.length = nx := ⟨_, rfl⟩
        have hra := chRow_of ra
        obtain ⟨oa, ca, hea, _, hca⟩ := hra.opened
        obtain ⟨ob, cb, heb, hcb⟩ := own_drI rb
        subst hea; subst heb
        rw [hnx] at hxl hra ⊢
        have HIN5 := HIN.out.below (HBL4.out.trans (hb5.mono (Nat.le_trans hgzw (by have := (lt_of_some HROW4.out); omega))))
        obtain ⟨v', w6, hap6, hb6, hkc⟩ := app_ints HIN5
        have hrow5 := (hb5.block _ (lt_of_some HROW4.out)).trans HROW4.out
        have hrow6 := (hb6.block _ (lt_of_some hrow5)).trans hrow5
        have hA5 := HA4.out.below hb5
        have hka6 : KeepArg v' ks va w6 := by
          rcases hkc with ⟨h8, h9⟩ | ⟨b, c, h8, h9, h10, h11⟩
          · exact .inl ⟨h8, h9⟩
          · exact .inr ⟨b, 0, c, h8, h9, fun e => absurd (hA5.vw.lt b e).2 (by omega), h11⟩
        have z3 : w5.cell? ⟨gz, 3, none⟩ = some (.slice av kn ccv) := Lib.cell_of_heap hrow5 _
        have y3a : (w5.alloc (.cells #[] 3)).cell? ⟨gz, 3, none⟩ = some (.slice av kn ccv) := (World.cell?_alloc_past _ _ _ (Array.getElem?_eq_some_iff.1 hrow5).1).trans z3
        have y0 : w6.cell? ⟨gz, 0, none⟩ = some (.int .i64 wh) := Lib.cell_of_heap hrow6 _
        have y1 : w6.cell? ⟨gz, 1, none⟩ = some (.int .i64 sc) := Lib.cell_of_heap hrow6 _
        have HA6 := Lib.hid (hA5.below hb6); have HR6 := Lib.hid ((HR4.out.below hb5).below hb6); have HX6 := Lib.hid ((HX4.out.below hb5).below hb6)
        have hb46 : Below w4.heap.size w4 w6 := hb5.trans (hb6.mono hb5.size)
        have HBL6 := Lib.hid (HBL4.out.trans (hb46.mono (Nat.le_trans hgzw (Nat.le_of_lt (lt_of_some HROW4.out)))))
        have HROW6 := Lib.hid hrow6; have HKA := Lib.hid hka6
        have HRA6 : Hid (ChRow w6 (.slice oa nx ca) x) := Lib.hid (own_below hra hb6)
        have HCA6 : Hid (ChAt w6 oa x) := Lib.hid (hca.same fun b cur _ h2 => hb6.block b (lt_of_some h2))
        have HRB6 : Hid (DrI w6 ob x) := Lib.hid (hcb.same fun b cur _ h2 => hb6.block b (lt_of_some h2))
        have HNX := Lib.hid hnx
        obtain ⟨t, ht⟩ : ∃ t, wh.tmod 7 = t := ⟨_, rfl⟩
        have ht1 : -6 ≤ t ∧ t ≤ 6 := by
          rw [← ht]
          by_cases h : 0 ≤ wh
          · rw [Int.tmod_eq_emod_of_nonneg h]; omega
          · have e1 : wh.tmod 7 = -((-wh).tmod 7) := by rw [← Int.neg_tmod, Int.neg_neg]
            rw [e1, Int.tmod_eq_emod_of_nonneg (by omega)]; omega
        obtain ⟨ht0, ht9⟩ := ht1
        obtain ⟨r, hr⟩ : ∃ r, (t + 7).tmod 7 = r := ⟨_, rfl⟩
        have hr0 : 0 ≤ r ∧ r ≤ 6 := by
          rw [Int.tmod_eq_emod_of_nonneg (by omega)] at hr; omega
        have hj30 : (j : Int) ≤ 30 := by omega
        clear hb5 ra rb hra hca hcb hb6 hkc hka6 hrow5 hrow6 hA5 hb46 HIN5 y2 HCH HA4 HR4 HX4 HBL4
        obtain ⟨hr0a, hr0b⟩ := hr0
        clear z3 d0 d1 d2 d3
        rcases (show r ≤ 2 ∨ r = 3 ∨ r = 4 ∨ r = 5 ∨ r = 6 by omega) with hrc | hrc | hrc | hrc | hrc
        · as_aux_lemma =>
            have HCM := Lib.hid (commit_any (HX6.out.same (w' := w6.drew) rfl).hL (HA6.out.keep (w' := w6.drew) (fun _ _ => rfl)) hf (by omega) hm64 HBD.out (.slice oa nx ca) x (own_below HRA6.out (Below.refl _ _).drew) (HV.out.below HBL6.out.drew) HV.out.2 (by omega))
            have HS1 : Hid ((fun w' : World => w'.cell? ⟨gx, 0, none⟩ = some (.int .i64 (f : Int)) ∧ w'.cell? ⟨gx, 1, none⟩ = some (.int .i64 ((m : Int) + 1))) w6.drew) := Lib.hid ⟨HX6.out.cells.2.2.1, HX6.out.cells.2.2.2⟩
            go_wp2_with (first | (at_builtin; refine wpList_append_eq rfl _ _ 39 rfl _ _ rfl rfl v' w6 hap6 ?_))
            refine wp_region_held_drew (S := (fun w' : World => w'.cell? ⟨gx, 0, none⟩ = some (.int .i64 (f : Int)) ∧ w'.cell? ⟨gx, 1, none⟩ = some (.int .i64 ((m : Int) + 1)))) (by kernel_rfl) HS1.out (fun hHeld => ?_)
            refine wpAnyH_take (i := 0) (v := ?_) rfl (by kernel_rfl) (by kernel_rfl) (by kernel_rfl) (fun _ _ _ h => h) (Or.inl ⟨by kernel_rfl, ?_⟩) (HS1.out) ?_
            rotate_left
            · intro wq hSw; (try dsimp only at hSw); go_simp; try with_reducible rfl
            try simp only [Act.put, List.getElem_toArray, List.getElem_cons_zero, List.getElem_cons_succ, List.setIfInBounds_toArray, List.set_cons_zero, List.set_cons_succ]
            refine wpAnyH_take (i := 1) (v := ?_) rfl (by kernel_rfl) (by kernel_rfl) (by kernel_rfl) (fun _ _ _ h => h) (Or.inl ⟨by kernel_rfl, ?_⟩) (HS1.out) ?_
            rotate_left
            · intro wq hSw; (try dsimp only at hSw); go_simp; try with_reducible rfl
            try simp only [Act.put, List.getElem_toArray, List.getElem_cons_zero, List.getElem_cons_succ, List.setIfInBounds_toArray, List.set_cons_zero, List.set_cons_succ]
            refine wpAnyH_take (i := 3) (v := ?_) rfl (by kernel_rfl) (by kernel_rfl) (by kernel_rfl) (fun _ _ _ h => h) (Or.inl ⟨by kernel_rfl, ?_⟩) (HS1.out) ?_
            rotate_left
            · intro wq hSw; (try dsimp only at hSw); go_simp; try with_reducible rfl
            try simp only [Act.put, List.getElem_toArray, List.getElem_cons_zero, List.getElem_cons_succ, List.setIfInBounds_toArray, List.set_cons_zero, List.set_cons_succ]
            refine wpAnyH_take (i := 4) (v := ?_) rfl (by kernel_rfl) (by kernel_rfl) (by kernel_rfl) (fun _ _ _ h => h) (Or.inl ⟨by kernel_rfl, ?_⟩) (HS1.out) ?_
            rotate_left
            · intro wq hSw; (try dsimp only at hSw); go_simp; try with_reducible rfl
            try simp only [Act.put, List.getElem_toArray, List.getElem_cons_zero, List.getElem_cons_succ, List.setIfInBounds_toArray, List.set_cons_zero, List.set_cons_succ]
            refine wpAnyH_take (i := 5) (v := ?_) rfl (by kernel_rfl) (by kernel_rfl) (by kernel_rfl) (fun _ _ _ h => h) (Or.inl ⟨by kernel_rfl, ?_⟩) (HS1.out) ?_
            rotate_left
            · intro wq hSw; (try dsimp only at hSw); go_simp; try with_reducible rfl
            try simp only [Act.put, List.getElem_toArray, List.getElem_cons_zero, List.getElem_cons_succ, List.setIfInBounds_toArray, List.set_cons_zero, List.set_cons_succ]
            refine wpAnyH_ready (rs := [2]) (by kernel_rfl) (by simp) ?_
            refine AllReadyH.cons (o := _) rfl (fun K hK => ?_) AllReadyH.nil
            go_simp
            go_at_call 15
            refine HCM.out.mono ?_
            rintro e w7 ⟨rfl, va7, ka7, h7, hv7, f7⟩
            have hf7 := FrD.undrew f7
            have HR7 := Lib.hid (IsR.other HA6.out HR6.out HNG.out.1 HNG.out.2 hf7)
            have HX7 := Lib.hid (HX6.out.disk HA6.out hf7)
            have HRB7 : Hid (DrI w7 ob x) := Lib.hid (HRB6.out.same fun _ _ _ h2 => hf7.kept HA6.out h2 (by decide) (by decide) (by decide))
            have HB7 := Lib.hid (HBL6.out.trans hf7.below)
            have HA7 := Lib.hid h7
            have HRC := Lib.hid (RCommit HR7.out hf (by omega) hm1 hm64 HBD.out (by omega) (fun w' hb => HPE.out.below (HB7.out.trans hb)) ob x cb HRB7.out (by omega) (fun c hc => by have := hxs c hc; omega))
            rw [hnx] at HRC
            refine hK.out _ _ ⟨HX7.out.cells.2.2.1, HX7.out.cells.2.2.2⟩ (fun _ => ?_)
            try simp only [Act.put, List.getElem_toArray, List.getElem_cons_zero, List.getElem_cons_succ, List.setIfInBounds_toArray, List.set_cons_zero, List.set_cons_succ]
            refine wpAnyH_ready (rs := [6]) (by kernel_rfl) (by simp) ?_
            refine AllReadyH.cons (o := _) rfl (fun K hK => ?_) AllReadyH.nil
            go_simp
            go_at_call 16
            refine HRC.out.mono ?_
            rintro e w8 ⟨rfl, vr8, h8, hv8, f8⟩
            have HA8 := Lib.hid (IsD.otherR HA7.out HR7.out HNG.out.1 HNG.out.2 f8)
            have HX8 := Lib.hid (HX7.out.refd HR7.out f8)
            have HB8 := Lib.hid (HB7.out.trans f8.below)
            have HR8 := Lib.hid h8
            refine hK.out _ _ ⟨HX8.out.cells.2.2.1, HX8.out.cells.2.2.2⟩ (fun _ => ?_)
            try simp only [Act.put, List.getElem_toArray, List.getElem_cons_zero, List.getElem_cons_succ, List.setIfInBounds_toArray, List.set_cons_zero, List.set_cons_succ]
            refine wpAnyH_ready (rs := [7]) (by kernel_rfl) (by simp) ?_
            refine AllReadyH.cons (o := _) rfl (fun K hK => ?_) AllReadyH.nil
            go_simp
            refine hK.out _ _ ⟨HX8.out.cells.2.2.1, HX8.out.cells.2.2.2⟩ (fun _ => ?_)
            try simp only [Act.put, List.getElem_toArray, List.getElem_cons_zero, List.getElem_cons_succ, List.setIfInBounds_toArray, List.set_cons_zero, List.set_cons_succ]
            refine wpAnyH_done (by kernel_rfl) ?_ _
            clear hHeld h7 hv7 f7 hf7 h8 hv8 f8 HCM HRC
            have HSM := Lib.hid (wsame_any HA8.out HR8.out (HCU.out.commit n f m x) (by omega) (Nat.le_trans (Bd.ws (HBD.out.commitI n f m x hm64)) (by omega)))
            have hstep : Hid (∀ w9, Below w8.heap.size w8 w9 → ScW w.heap.size n g gd gc cd cc gr gl cl lg f m w.heap.size gx a0 (min len 30) w (.int .i64 ((j : Int) + 1)) w9) := Lib.hid (fun w9 hb9 =>
              ⟨j + 1, (commitI n f m x S).2, _, _, _, _, by rw [Int.natCast_succ], by omega, Bd.more (HBD.out.commitI n f m x hm64) (by omega), (HCU.out.commit n f m x), (HSZ.out.commitI n f m x hm64), (HPE.out.commit HBD.out n f m x), IsD.below HA8.out hb9, IsR.below HR8.out hb9, Bx.below HX8.out hb9, Below.trans HB8.out (hb9.mono (Nat.le_trans (IsD.b1 HA8.out) (Nat.le_of_lt (IsD.d HA8.out).lt)))⟩)
            go_wp2_with (go_at_call 17; refine HSM.out.mono ?_)
            first | rintro e w9 rfl hb9 | rintro e w9 ⟨rfl, hb9⟩
            have HT9 := Lib.hid (hstep.out w9 hb9)
            clear hb9 hstep HSM
            go_wp2_with fail
            exact ⟨HT9.out, by simp [intOf]; omega⟩
        · subst hrc
          as_aux_lemma =>
            have HOG := Lib.hid (open_good HA6.out hf (by omega) hm1 hm64 (SzA.cur HSZ.out) HBD.out (HV.out.below HBL6.out) (by omega) (f : Int) ((m : Int) + 1) rfl rfl)
            have HRO := Lib.hid (fun (V : World) (vz : Value) (hV : IsR w.heap.size n gr gl cl vz kr S V) (hB : Below w.heap.size w V) => ROpen_good hV hf (by omega) hm1 hm64 (SzA.cur HSZ.out) HCU.out (IsD.lc HA6.out) HBD.out (by omega) (fun w' hb => Pend.below HPE.out (hB.trans hb)))
            have hoe := openS_err n f m S
            have hb' := Bd.open HBD.out n f m hm64
            have hc' := Cu.open HCU.out n f m
            have hs' := SzA.open HSZ.out n f m
            have hp' := Pend.open HPE.out HBD.out n f m
            obtain ⟨rr, hrr⟩ : ∃ rr, openS n f m S = rr := ⟨_, rfl⟩
            rw [hrr] at hoe HOG HRO hb' hc' hs' hp'
            obtain ⟨⟨r1, r2⟩, S'⟩ := rr
            simp only at hoe hb' hc' hs' hp'
            have HBD' := Lib.hid hb'; have HCU' := Lib.hid hc'; have HSZ' := Lib.hid hs'; have HPE' := Lib.hid hp'
            have hx1 := (Bx.cells HX6.out).1
            have hx2 := (Bx.cells HX6.out).2.1
            clear hrr hb' hc' hs' hp'
            rcases hoe with rfl | ⟨rfl, rfl⟩
            all_goals
              go_wp2_with (first | (at_builtin; refine wpList_append_eq rfl _ _ 39 rfl _ _ rfl rfl v' w6 hap6 ?_) | (go_at_call 7; refine HOG.out.mono ?_))
              rintro e w7 ⟨⟨l7, rfl, hl7⟩, va7, ka7, h7, hv7, f7⟩
              have HR7 := Lib.hid (IsR.other HA6.out HR6.out HNG.out.1 HNG.out.2 f7)
              have HX7 := Lib.hid (Bx.disk HX6.out HA6.out f7)
              have HB7 := Lib.hid (Below.trans HBL6.out f7.below)
              have HA7 := Lib.hid h7
              have HRO7 := Lib.hid (HRO.out w7 _ HR7.out HB7.out)
              have hx3 := HX7.out.cells.2.2.1
              have hx4 := HX7.out.cells.2.2.2
              clear h7 hv7 f7 hl7 HOG hx1 hx2
              go_wp2_with (go_at_call 8; refine HRO7.out.mono ?_)
              rintro e w8 ⟨rfl, vr8, h8, hv8, f8⟩
              have HA8 := Lib.hid (IsD.otherR HA7.out HR7.out HNG.out.1 HNG.out.2 f8)
              have HX8 := Lib.hid (HX7.out.refd HR7.out f8)
              have HB8 := Lib.hid (HB7.out.trans f8.below)
              have HR8 := Lib.hid h8
              clear h8 hv8 f8 HRO HRO7 hx3 hx4
              have HSM := Lib.hid (wsame_any HA8.out HR8.out HCU'.out (by omega) (Nat.le_trans (Bd.ws HBD'.out) (by omega)))
              have hstep : Hid (∀ w9, Below w8.heap.size w8 w9 → ScW w.heap.size n g gd gc cd cc gr gl cl lg f m w.heap.size gx a0 (min len 30) w (.int .i64 ((j : Int) + 1)) w9) := Lib.hid (fun w9 hb9 =>
                ⟨j + 1, S', _, _, _, _, by rw [Int.natCast_succ], by omega, Bd.more HBD'.out (by omega), HCU'.out, HSZ'.out, HPE'.out, IsD.below HA8.out hb9, IsR.below HR8.out hb9, Bx.below HX8.out hb9, Below.trans HB8.out (hb9.mono (Nat.le_trans (IsD.b1 HA8.out) (Nat.le_of_lt (IsD.d HA8.out).lt)))⟩)
              go_wp2_with (go_at_call 17; refine HSM.out.mono ?_)
              first | rintro e w9 rfl hb9 | rintro e w9 ⟨rfl, hb9⟩
              have HT9 := Lib.hid (hstep.out w9 hb9)
              clear hb9 hstep HSM
              go_wp2_with fail
              exact ⟨HT9.out, by simp [intOf]; omega⟩
        · subst hrc
          as_aux_lemma =>
            go_wp2_with (first | (at_builtin; refine wpList_append_eq rfl _ _ 39 rfl _ _ rfl rfl v' w6 hap6 ?_) | (go_at_call 12; refine (CutD_any HA6.out sc v' ks HLK.out HKA.out).mono ?_))
            rintro e w7 ⟨rfl, ka7, h7, f7⟩
            have hr7 := IsR.other HA6.out HR6.out HNG.out.1 HNG.out.2 f7
            have HX7 := Lib.hid (HX6.out.disk HA6.out f7)
            have hrw7 := (f7.kept HA6.out HROW6.out (by decide) (by decide) (by decide)).trans HROW6.out
            have y17 : w7.cell? ⟨gz, 1, none⟩ = some (.int .i64 sc) := Lib.cell_of_heap hrw7 _
            have y37 : w7.cell? ⟨gz, 3, none⟩ = some (.slice av kn ccv) := Lib.cell_of_heap hrw7 _
            have c2 := hr7.d.c2
            have f2 := hr7.d.free 2
            have f3 := hr7.d.free 3
            have c3r := hr7.d.c3
            have hfin : Hid (∀ W, RefAt gr (.slice (some ⟨gl, 0, none⟩) n cl) vr (max sc 1) (.slice av kn ccv) S.off S.done W → Kept2 w.heap.size gr gr w7 W → Calls Tryd.prog 17 #[.pointer (some ⟨g, 0, none⟩), .pointer (some ⟨gr, 0, none⟩)] W (fun e w' => e = .returned (.bool true) ∧ Below W.heap.size W w') ∧ ∀ w9, Below W.heap.size W w9 → ScW w.heap.size n g gd gc cd cc gr gl cl lg f m w.heap.size gx a0 (min len 30) w (.int .i64 ((j : Int) + 1)) w9) := Lib.hid (fun W hd hk => by
              obtain ⟨r1, r2, r3⟩ := hr7.disk hk
              have hr8 : IsR w.heap.size n gr gl cl vr (.slice av kn ccv) (cutS sc ks S) W := ⟨hd, r2, hr7.ld, r3, hr7.wb, hr7.b1, hr7.b2⟩
              have ha8 := h7.otherR hr7 HNG.out.1 HNG.out.2 r1
              have hx8 := HX7.out.refd hr7 r1
              have bl8 := (HBL6.out.trans f7.below).trans r1.below
              have bd8 := HBD.out.cut sc ks (by have := HLK.out; omega) HSC.out
              exact ⟨wsame_any ha8 hr8 (HCU.out.cut sc ks) (by omega) (Nat.le_trans bd8.ws (by omega)), fun w9 hb9 =>
                ⟨j + 1, cutS sc ks S, _, _, _, _, by rw [Int.natCast_succ], by omega, bd8.more (by omega), HCU.out.cut sc ks, HSZ.out.cut sc ks, fun _ => HIN.out, ha8.below hb9, hr8.below hb9, hx8.below hb9, bl8.trans (hb9.mono (Nat.le_trans ha8.b1 (Nat.le_of_lt ha8.d.lt)))⟩⟩)
            have HR7 := Lib.hid hr7
            clear h7 f7 hr7 hrw7
            go_wp2_with fail
            go_region
            all_goals
              have q23 : RefAt gr (.slice (some ⟨gl, 0, none⟩) n cl) vr (max sc 1) (.slice av kn ccv) S.off S.done ((w7.setCell ⟨gr, 2, none⟩ (.int .i64 (max sc 1))).setCell ⟨gr, 3, none⟩ (.slice av kn ccv)) := (show RefAt gr (.slice (some ⟨gl, 0, none⟩) n cl) vr (max sc 1) kr S.off S.done (w7.setCell ⟨gr, 2, none⟩ (.int .i64 (max sc 1))) from HR7.out.d.set 2 _).set 3 _
              have q32 : RefAt gr (.slice (some ⟨gl, 0, none⟩) n cl) vr (max sc 1) (.slice av kn ccv) S.off S.done ((w7.setCell ⟨gr, 3, none⟩ (.slice av kn ccv)).setCell ⟨gr, 2, none⟩ (.int .i64 (max sc 1))) := (show RefAt gr (.slice (some ⟨gl, 0, none⟩) n cl) vr S.left (.slice av kn ccv) S.off S.done (w7.setCell ⟨gr, 3, none⟩ (.slice av kn ccv)) from HR7.out.d.set 3 _).set 2 _
              have k23 : Kept2 w.heap.size gr gr w7 ((w7.setCell ⟨gr, 2, none⟩ (.int .i64 (max sc 1))).setCell ⟨gr, 3, none⟩ (.slice av kn ccv)) := ((Kept2.refl _ gr gr w7).setg HR7.out.b1 2 _).setg HR7.out.b1 3 _
              have k32 : Kept2 w.heap.size gr gr w7 ((w7.setCell ⟨gr, 3, none⟩ (.slice av kn ccv)).setCell ⟨gr, 2, none⟩ (.int .i64 (max sc 1))) := ((Kept2.refl _ gr gr w7).setg HR7.out.b1 3 _).setg HR7.out.b1 2 _
              have HS23 := Lib.hid (hfin.out (((w7.setCell ⟨gr, 2, none⟩ (.int .i64 (max sc 1))).setCell ⟨gr, 3, none⟩ (.slice av kn ccv)).drew) q23 k23.drew)
              have HS32 := Lib.hid (hfin.out (((w7.setCell ⟨gr, 3, none⟩ (.slice av kn ccv)).setCell ⟨gr, 2, none⟩ (.int .i64 (max sc 1))).drew) q32 k32.drew)
              clear q23 q32 k23 k32
              go_wp2_with (first | (go_at_call 17; refine HS23.out.1.mono ?_) | (go_at_call 17; refine HS32.out.1.mono ?_))
              first | rintro e w9 rfl hb9 | rintro e w9 ⟨rfl, hb9⟩
              have HT9 : Hid (ScW w.heap.size n g gd gc cd cc gr gl cl lg f m w.heap.size gx a0 (min len 30) w (.int .i64 ((j : Int) + 1)) w9) := Lib.hid (by first | exact HS23.out.2 w9 hb9 | exact HS32.out.2 w9 hb9)
              clear hb9
              go_wp2_with fail
              exact ⟨HT9.out, by simp [intOf]; omega⟩
        · subst hrc
          as_aux_lemma =>
            go_wp2_with (first | (at_builtin; refine wpList_append_eq rfl _ _ 39 rfl _ _ rfl rfl v' w6 hap6 ?_) | (go_at_call 10; refine (CrashD HA6.out (HBD.out.ok hn1 (by omega) (by omega)) v' ks (by have := HLK.out; omega) HKA.out).mono ?_))
            rintro e w7 ⟨rfl, h7, f7⟩
            have HR7 := Lib.hid (IsR.other HA6.out HR6.out HNG.out.1 HNG.out.2 f7)
            have HX7 := Lib.hid (HX6.out.disk HA6.out f7)
            have hrw7 := (f7.kept HA6.out HROW6.out (by decide) (by decide) (by decide)).trans HROW6.out
            have y37 : w7.cell? ⟨gz, 3, none⟩ = some (.slice av kn ccv) := Lib.cell_of_heap hrw7 _
            have H7 := Lib.hid h7; have HB7 := Lib.hid (HBL6.out.trans f7.below)
            clear h7 f7 hrw7
            go_wp2_with (go_at_call 11; refine (RFail HR7.out (.slice av kn ccv) ks (fun w' hb' => HIN.out.below (HB7.out.trans hb')) (by omega) (Nat.le_trans HBD.out.ws (by omega))).mono ?_)
            rintro e w8 ⟨rfl, h8, f8⟩
            have ha8 := IsD.otherR H7.out HR7.out HNG.out.1 HNG.out.2 f8
            have hx8 := HX7.out.refd HR7.out f8
            have c4 := h8.d.c4
            have f4 := h8.d.free 4
            obtain ⟨W9, hW9⟩ : ∃ W9, w8.setCell ⟨gr, 4, none⟩ (.bool false) = W9 := ⟨_, rfl⟩
            have hd1 : RefAt gr (.slice (some ⟨gl, 0, none⟩) n cl) (.slice none 0 0) 0 kr false S.done W9 := hW9 ▸ h8.d.set 4 _
            have hk2 : Kept2 w.heap.size gr gr w8 W9 := hW9 ▸ (Kept2.refl _ gr gr w8).setg h8.b1 4 _
            obtain ⟨r1, r2, r3⟩ := h8.disk hk2
            have HR9 : Hid (IsR w.heap.size n gr gl cl (.slice none 0 0) kr (crashS ks S) W9) := Lib.hid ⟨hd1, r2, h8.ld, r3, h8.wb, h8.b1, h8.b2⟩
            have HA9 := Lib.hid (ha8.otherR h8 HNG.out.1 HNG.out.2 r1)
            have HX9 := Lib.hid (hx8.refd h8 r1)
            have HB9 := Lib.hid ((HB7.out.trans f8.below).trans r1.below)
            have HPE9 : Hid (Pend w kr (crashS ks S)) := Lib.hid (fun e => absurd rfl e)
            have HBD9 := Lib.hid (HBD.out.crash ks); have HCU9 : Hid (Cu (crashS ks S)) := Lib.hid (Cu.crash ks); have HSZ9 := Lib.hid (HSZ.out.crash ks)
            clear h8 f8 ha8 hx8 hd1 hk2 r1 r2 r3
            have HOG := Lib.hid (open_good HA9.out hf (by omega) hm1 hm64 (SzA.cur HSZ9.out) HBD9.out (HV.out.below HB9.out) (by omega) (f : Int) ((m : Int) + 1) rfl rfl)
            have HRO := Lib.hid (fun (V : World) (vz : Value) (hV : IsR w.heap.size n gr gl cl vz kr (crashS ks S) V) (hB : Below w.heap.size w V) => ROpen_good hV hf (by omega) hm1 hm64 (SzA.cur HSZ9.out) HCU9.out (IsD.lc HA9.out) HBD9.out (by omega) (fun w' hb => Pend.below HPE9.out (hB.trans hb)))
            have hoe := openS_err n f m (crashS ks S)
            have hb' := Bd.open HBD9.out n f m hm64
            have hc' := Cu.open HCU9.out n f m
            have hs' := SzA.open HSZ9.out n f m
            have hp' := Pend.open HPE9.out HBD9.out n f m
            obtain ⟨rr, hrr⟩ : ∃ rr, openS n f m (crashS ks S) = rr := ⟨_, rfl⟩
            rw [hrr] at hoe HOG HRO hb' hc' hs' hp'
            obtain ⟨⟨r1, r2⟩, S'⟩ := rr
            simp only at hoe hb' hc' hs' hp'
            have HBD' := Lib.hid hb'; have HCU' := Lib.hid hc'; have HSZ' := Lib.hid hs'; have HPE' := Lib.hid hp'
            have hx1 := (Bx.cells HX9.out).1
            have hx2 := (Bx.cells HX9.out).2.1
            clear hrr hb' hc' hs' hp'
            rcases hoe with rfl | ⟨rfl, rfl⟩
            all_goals
              go_wp2_with (first | (go_at_call 7; refine HOG.out.mono ?_))
              rintro e w7 ⟨⟨l7, rfl, hl7⟩, va7, ka7, h7, hv7, f7⟩
              have HR7 := Lib.hid (IsR.other HA9.out HR9.out HNG.out.1 HNG.out.2 f7)
              have HX7 := Lib.hid (Bx.disk HX9.out HA9.out f7)
              have HB7 := Lib.hid (Below.trans HB9.out f7.below)
              have HA7 := Lib.hid h7
              have HRO7 := Lib.hid (HRO.out w7 _ HR7.out HB7.out)
              have hx3 := HX7.out.cells.2.2.1
              have hx4 := HX7.out.cells.2.2.2
              clear h7 hv7 f7 hl7 HOG hx1 hx2
              go_wp2_with (go_at_call 8; refine HRO7.out.mono ?_)
              rintro e w8 ⟨rfl, vr8, h8, hv8, f8⟩
              have HA8 := Lib.hid (IsD.otherR HA7.out HR7.out HNG.out.1 HNG.out.2 f8)
              have HX8 := Lib.hid (HX7.out.refd HR7.out f8)
              have HB8 := Lib.hid (HB7.out.trans f8.below)
              have HR8 := Lib.hid h8
              clear h8 hv8 f8 HRO HRO7 hx3 hx4
              have HSM := Lib.hid (wsame_any HA8.out HR8.out HCU'.out (by omega) (Nat.le_trans (Bd.ws HBD'.out) (by omega)))
              have hstep : Hid (∀ w9, Below w8.heap.size w8 w9 → ScW w.heap.size n g gd gc cd cc gr gl cl lg f m w.heap.size gx a0 (min len 30) w (.int .i64 ((j : Int) + 1)) w9) := Lib.hid (fun w9 hb9 =>
                ⟨j + 1, S', _, _, _, _, by rw [Int.natCast_succ], by omega, Bd.more HBD'.out (by omega), HCU'.out, HSZ'.out, HPE'.out, IsD.below HA8.out hb9, IsR.below HR8.out hb9, Bx.below HX8.out hb9, Below.trans HB8.out (hb9.mono (Nat.le_trans (IsD.b1 HA8.out) (Nat.le_of_lt (IsD.d HA8.out).lt)))⟩)
              go_wp2_with (go_at_call 17; refine HSM.out.mono ?_)
              first | rintro e w9 rfl hb9 | rintro e w9 ⟨rfl, hb9⟩
              have HT9 := Lib.hid (hstep.out w9 hb9)
              clear hb9 hstep HSM
              go_wp2_with fail
              exact ⟨HT9.out, by simp [intOf]; omega⟩
        · subst hrc
          as_aux_lemma =>
            rcases x with _ | ⟨⟨ci, cs⟩, rest⟩
            · obtain rfl : nx = 0 := by have := HNX.out; simpa using this.symm
              go_wp2_with (first | (at_builtin; refine wpList_append_eq rfl _ _ 39 rfl _ _ rfl rfl v' w6 hap6 ?_))
              go_quiet (fail)
              obtain ⟨wX, hX⟩ : ∃ wX, w6.drewN nq = wX := ⟨_, rfl⟩
              have hh : wX.heap = w6.heap := by rw [← hX]; exact heap_drewN _ _
              have HAX := Lib.hid (HA6.out.keep (w' := wX) (fun b _ => by rw [hh]))
              have HRX := Lib.hid (HR6.out.keep (w' := wX) (fun b _ => by rw [hh]))
              have HXX := Lib.hid (HX6.out.same (w' := wX) hh)
              have HBX : Hid (Below w.heap.size w wX) := Lib.hid (by rw [← hX]; exact below_drewN HBL6.out nq)
              rw [hX]
              clear hh hX
              have HSM := Lib.hid (wsame_any HAX.out HRX.out HCU.out (by omega) (Nat.le_trans (Bd.ws HBD.out) (by omega)))
              have hstep : Hid (∀ w9, Below wX.heap.size wX w9 → ScW w.heap.size n g gd gc cd cc gr gl cl lg f m w.heap.size gx a0 (min len 30) w (.int .i64 ((j : Int) + 1)) w9) := Lib.hid (fun w9 hb9 =>
                ⟨j + 1, S, _, _, _, _, by rw [Int.natCast_succ], by omega, Bd.more HBD.out (by omega), HCU.out, HSZ.out, HPE.out, IsD.below HAX.out hb9, IsR.below HRX.out hb9, Bx.below HXX.out hb9, Below.trans HBX.out (hb9.mono (Nat.le_trans (IsD.b1 HAX.out) (Nat.le_of_lt (IsD.d HAX.out).lt)))⟩)
              go_wp2_with (go_at_call 17; refine HSM.out.mono ?_)
              first | rintro e w9 rfl hb9 | rintro e w9 ⟨rfl, hb9⟩
              have HT9 := Lib.hid (hstep.out w9 hb9)
              clear hb9 hstep HSM
              go_wp2_with fail
              exact ⟨HT9.out, by simp [intOf]; omega⟩
            · have hnp : (0 : Int) < nx := by have := HNX.out; rw [List.length_cons] at this; omega
              have hnpn : 0 < nx := by omega
              have HD0 : Hid (decide ((0 : Int) < nx) = true) := Lib.hid (decide_eq_true hnp)
              have HD1 : Hid (decide (0 < nx) = true) := Lib.hid (decide_eq_true hnpn)
              obtain ⟨ba, cura, rfl, hwa, pa0, pa1⟩ := HCA6.out 0 _ rfl
              obtain ⟨bb, curb, rfl, hwb, pb0, pb1⟩ := HRB6.out 0 _ rfl
              simp only [Nat.zero_mul, Nat.zero_add] at pa0 pa1 pb0 pb1
              have HPA := Lib.hid (And.intro pa0 pa1); have HPB := Lib.hid (And.intro pb0 pb1)
              have HWA := Lib.hid hwa; have HWB := Lib.hid hwb
              have HCC : Hid (cura[0]? = some (.int .i64 ci) ∧ cura[1]? = some (.string cs) ∧ curb[0]? = some (.int .i64 ci) ∧ curb[1]? = some (.string cs)) := Lib.hid ⟨(Lib.cell_of_heap hwa 0).symm.trans pa0, (Lib.cell_of_heap hwa 1).symm.trans pa1, (Lib.cell_of_heap hwb 0).symm.trans pb0, (Lib.cell_of_heap hwb 1).symm.trans pb1⟩
              clear pa0 pa1 pb0 pb1 hwa hwb
              by_cases hv : 0 ≤ ci ∧ ci < n ∧ cs.size ≤ 512
              · have hD5 : cs.size ≤ 512 := hv.2.2
                obtain ⟨k, hk⟩ : ∃ k : Nat, ci = k := ⟨ci.toNat, by omega⟩
                subst hk
                have hkn : k < n := by omega
                have HPP := Lib.hid (WriteD (HA6.out.keep (w' := w6.drew) (fun _ _ => rfl)) (HBD.out.ok hn1 (by omega) (by omega)) k cs hkn hD5)
                have HS1 : Hid ((fun w' : World => (w'.cell? ⟨ba, 0, none⟩ = some (.int .i64 (k : Int)) ∧ w'.cell? ⟨ba, 1, none⟩ = some (.string cs)) ∧ w'.cell? ⟨bb, 0, none⟩ = some (.int .i64 (k : Int)) ∧ w'.cell? ⟨bb, 1, none⟩ = some (.string cs)) w6.drew) := Lib.hid ⟨⟨HPA.out.1, HPA.out.2⟩, HPB.out.1, HPB.out.2⟩
                go_wp2_with (first | (at_builtin; refine wpList_append_eq rfl _ _ 39 rfl _ _ rfl rfl v' w6 hap6 ?_))
                refine wp_region_held_drew (S := (fun w' : World => (w'.cell? ⟨ba, 0, none⟩ = some (.int .i64 (k : Int)) ∧ w'.cell? ⟨ba, 1, none⟩ = some (.string cs)) ∧ w'.cell? ⟨bb, 0, none⟩ = some (.int .i64 (k : Int)) ∧ w'.cell? ⟨bb, 1, none⟩ = some (.string cs))) (by kernel_rfl) HS1.out (fun hHeld => ?_)
                refine wpAnyH_take (i := 0) (v := ?_) rfl (by kernel_rfl) (by kernel_rfl) (by kernel_rfl) (fun _ _ _ h => h) (Or.inl ⟨by kernel_rfl, ?_⟩) (HS1.out) ?_
                rotate_left
                · intro wq hSw; (try dsimp only at hSw); go_simp; (try simp only [HD0.out]); (try simp only [HD1.out]); try with_reducible rfl
                try simp only [Act.put, List.getElem_toArray, List.getElem_cons_zero, List.getElem_cons_succ, List.setIfInBounds_toArray, List.set_cons_zero, List.set_cons_succ]
                refine wpAnyH_take (i := 1) (v := ?_) rfl (by kernel_rfl) (by kernel_rfl) (by kernel_rfl) (fun _ _ _ h => h) (Or.inl ⟨by kernel_rfl, ?_⟩) (HS1.out) ?_
                rotate_left
                · intro wq hSw; (try dsimp only at hSw); go_simp; (try simp only [HD0.out]); (try simp only [HD1.out]); try with_reducible rfl
                try simp only [Act.put, List.getElem_toArray, List.getElem_cons_zero, List.getElem_cons_succ, List.setIfInBounds_toArray, List.set_cons_zero, List.set_cons_succ]
                refine wpAnyH_take (i := 2) (v := ?_) rfl (by kernel_rfl) (by kernel_rfl) (by kernel_rfl) (fun _ _ _ h => h) (Or.inl ⟨by kernel_rfl, ?_⟩) (HS1.out) ?_
                rotate_left
                · intro wq hSw; (try dsimp only at hSw); go_simp; (try simp only [HD0.out]); (try simp only [HD1.out]); try with_reducible rfl
                try simp only [Act.put, List.getElem_toArray, List.getElem_cons_zero, List.getElem_cons_succ, List.setIfInBounds_toArray, List.set_cons_zero, List.set_cons_succ]
                refine wpAnyH_take (i := 3) (v := ?_) rfl (by kernel_rfl) (by kernel_rfl) (by kernel_rfl) (fun _ _ _ h => h) (Or.inl ⟨by kernel_rfl, ?_⟩) (HS1.out) ?_
                rotate_left
                · intro wq hSw; (try dsimp only at hSw); go_simp; (try simp only [HD0.out]); (try simp only [HD1.out]); try with_reducible rfl
                try simp only [Act.put, List.getElem_toArray, List.getElem_cons_zero, List.getElem_cons_succ, List.setIfInBounds_toArray, List.set_cons_zero, List.set_cons_succ]
                refine wpAnyH_take (i := 4) (v := ?_) rfl (by kernel_rfl) (by kernel_rfl) (by kernel_rfl) (fun _ _ _ h => h) (Or.inl ⟨by kernel_rfl, ?_⟩) (HS1.out) ?_
                rotate_left
                · intro wq hSw; (try dsimp only at hSw); go_simp; (try simp only [HD0.out]); (try simp only [HD1.out]); try with_reducible rfl
                try simp only [Act.put, List.getElem_toArray, List.getElem_cons_zero, List.getElem_cons_succ, List.setIfInBounds_toArray, List.set_cons_zero, List.set_cons_succ]
                refine wpAnyH_take (i := 5) (v := ?_) rfl (by kernel_rfl) (by kernel_rfl) (by kernel_rfl) (fun _ _ _ h => h) (Or.inl ⟨by kernel_rfl, ?_⟩) (HS1.out) ?_
                rotate_left
                · intro wq hSw; (try dsimp only at hSw); go_simp; (try simp only [HD0.out]); (try simp only [HD1.out]); try with_reducible rfl
                try simp only [Act.put, List.getElem_toArray, List.getElem_cons_zero, List.getElem_cons_succ, List.setIfInBounds_toArray, List.set_cons_zero, List.set_cons_succ]
                refine wpAnyH_take (i := 6) (v := ?_) rfl (by kernel_rfl) (by kernel_rfl) (by kernel_rfl) (fun _ _ _ h => h) (Or.inl ⟨by kernel_rfl, ?_⟩) (HS1.out) ?_
                rotate_left
                · intro wq hSw; (try dsimp only at hSw); go_simp; (try simp only [HD0.out]); (try simp only [HD1.out]); try with_reducible rfl
                try simp only [Act.put, List.getElem_toArray, List.getElem_cons_zero, List.getElem_cons_succ, List.setIfInBounds_toArray, List.set_cons_zero, List.set_cons_succ]
                refine wpAnyH_take (i := 7) (v := ?_) rfl (by kernel_rfl) (by kernel_rfl) (by kernel_rfl) (fun _ _ _ h => h) (Or.inl ⟨by kernel_rfl, ?_⟩) (HS1.out) ?_
                rotate_left
                · intro wq hSw; (try dsimp only at hSw); go_simp; (try simp only [HD0.out]); (try simp only [HD1.out]); try with_reducible rfl
                try simp only [Act.put, List.getElem_toArray, List.getElem_cons_zero, List.getElem_cons_succ, List.setIfInBounds_toArray, List.set_cons_zero, List.set_cons_succ]
                refine wpAnyH_take (i := 8) (v := ?_) rfl (by kernel_rfl) (by kernel_rfl) (by kernel_rfl) (fun _ _ _ h => h) (Or.inl ⟨by kernel_rfl, ?_⟩) (HS1.out) ?_
                rotate_left
                · intro wq hSw; (try dsimp only at hSw); go_simp; (try simp only [HD0.out]); (try simp only [HD1.out]); try with_reducible rfl
                try simp only [Act.put, List.getElem_toArray, List.getElem_cons_zero, List.getElem_cons_succ, List.setIfInBounds_toArray, List.set_cons_zero, List.set_cons_succ]
                refine wpAnyH_take (i := 9) (v := ?_) rfl (by kernel_rfl) (by kernel_rfl) (by kernel_rfl) (fun _ _ _ h => h) (Or.inl ⟨by kernel_rfl, ?_⟩) (HS1.out) ?_
                rotate_left
                · intro wq hSw; (try dsimp only at hSw); go_simp; (try simp only [HD0.out]); (try simp only [HD1.out]); try with_reducible rfl
                try simp only [Act.put, List.getElem_toArray, List.getElem_cons_zero, List.getElem_cons_succ, List.setIfInBounds_toArray, List.set_cons_zero, List.set_cons_succ]
                refine wpAnyH_take (i := 10) (v := ?_) rfl (by kernel_rfl) (by kernel_rfl) (by kernel_rfl) (fun _ _ _ h => h) (Or.inl ⟨by kernel_rfl, ?_⟩) (HS1.out) ?_
                rotate_left
                · intro wq hSw; (try dsimp only at hSw); go_simp; (try simp only [HD0.out]); (try simp only [HD1.out]); try with_reducible rfl
                try simp only [Act.put, List.getElem_toArray, List.getElem_cons_zero, List.getElem_cons_succ, List.setIfInBounds_toArray, List.set_cons_zero, List.set_cons_succ]
                refine wpAnyH_take (i := 11) (v := ?_) rfl (by kernel_rfl) (by kernel_rfl) (by kernel_rfl) (fun _ _ _ h => h) (Or.inl ⟨by kernel_rfl, ?_⟩) (HS1.out) ?_
                rotate_left
                · intro wq hSw; (try dsimp only at hSw); go_simp; (try simp only [HD0.out]); (try simp only [HD1.out]); try with_reducible rfl
                try simp only [Act.put, List.getElem_toArray, List.getElem_cons_zero, List.getElem_cons_succ, List.setIfInBounds_toArray, List.set_cons_zero, List.set_cons_succ]
                refine wpAnyH_take (i := 12) (v := ?_) rfl (by kernel_rfl) (by kernel_rfl) (by kernel_rfl) (fun _ _ _ h => h) (Or.inl ⟨by kernel_rfl, ?_⟩) (HS1.out) ?_
                rotate_left
                · intro wq hSw; (try dsimp only at hSw); go_simp; (try simp only [HD0.out]); (try simp only [HD1.out]); try with_reducible rfl
                try simp only [Act.put, List.getElem_toArray, List.getElem_cons_zero, List.getElem_cons_succ, List.setIfInBounds_toArray, List.set_cons_zero, List.set_cons_succ]
                refine wpAnyH_take (i := 14) (v := ?_) rfl (by kernel_rfl) (by kernel_rfl) (by kernel_rfl) (fun _ _ _ h => h) (Or.inl ⟨by kernel_rfl, ?_⟩) (HS1.out) ?_
                rotate_left
                · intro wq hSw; (try dsimp only at hSw); go_simp; (try simp only [HD0.out]); (try simp only [HD1.out]); try with_reducible rfl
                try simp only [Act.put, List.getElem_toArray, List.getElem_cons_zero, List.getElem_cons_succ, List.setIfInBounds_toArray, List.set_cons_zero, List.set_cons_succ]
                refine wpAnyH_take (i := 15) (v := ?_) rfl (by kernel_rfl) (by kernel_rfl) (by kernel_rfl) (fun _ _ _ h => h) (Or.inl ⟨by kernel_rfl, ?_⟩) (HS1.out) ?_
                rotate_left
                · intro wq hSw; (try dsimp only at hSw); go_simp; (try simp only [HD0.out]); (try simp only [HD1.out]); try with_reducible rfl
                try simp only [Act.put, List.getElem_toArray, List.getElem_cons_zero, List.getElem_cons_succ, List.setIfInBounds_toArray, List.set_cons_zero, List.set_cons_succ]
                refine wpAnyH_take (i := 16) (v := ?_) rfl (by kernel_rfl) (by kernel_rfl) (by kernel_rfl) (fun _ _ _ h => h) (Or.inl ⟨by kernel_rfl, ?_⟩) (HS1.out) ?_
                rotate_left
                · intro wq hSw; (try dsimp only at hSw); go_simp; (try simp only [HD0.out]); (try simp only [HD1.out]); try with_reducible rfl
                try simp only [Act.put, List.getElem_toArray, List.getElem_cons_zero, List.getElem_cons_succ, List.setIfInBounds_toArray, List.set_cons_zero, List.set_cons_succ]
                refine wpAnyH_take (i := 17) (v := ?_) rfl (by kernel_rfl) (by kernel_rfl) (by kernel_rfl) (fun _ _ _ h => h) (Or.inl ⟨by kernel_rfl, ?_⟩) (HS1.out) ?_
                rotate_left
                · intro wq hSw; (try dsimp only at hSw); go_simp; (try simp only [HD0.out]); (try simp only [HD1.out]); try with_reducible rfl
                try simp only [Act.put, List.getElem_toArray, List.getElem_cons_zero, List.getElem_cons_succ, List.setIfInBounds_toArray, List.set_cons_zero, List.set_cons_succ]
                refine wpAnyH_take (i := 18) (v := ?_) rfl (by kernel_rfl) (by kernel_rfl) (by kernel_rfl) (fun _ _ _ h => h) (Or.inl ⟨by kernel_rfl, ?_⟩) (HS1.out) ?_
                rotate_left
                · intro wq hSw; (try dsimp only at hSw); go_simp; (try simp only [HD0.out]); (try simp only [HD1.out]); try with_reducible rfl
                try simp only [Act.put, List.getElem_toArray, List.getElem_cons_zero, List.getElem_cons_succ, List.setIfInBounds_toArray, List.set_cons_zero, List.set_cons_succ]
                refine wpAnyH_take (i := 19) (v := ?_) rfl (by kernel_rfl) (by kernel_rfl) (by kernel_rfl) (fun _ _ _ h => h) (Or.inl ⟨by kernel_rfl, ?_⟩) (HS1.out) ?_
                rotate_left
                · intro wq hSw; (try dsimp only at hSw); go_simp; (try simp only [HD0.out]); (try simp only [HD1.out]); try with_reducible rfl
                try simp only [Act.put, List.getElem_toArray, List.getElem_cons_zero, List.getElem_cons_succ, List.setIfInBounds_toArray, List.set_cons_zero, List.set_cons_succ]
                refine wpAnyH_take (i := 20) (v := ?_) rfl (by kernel_rfl) (by kernel_rfl) (by kernel_rfl) (fun _ _ _ h => h) (Or.inl ⟨by kernel_rfl, ?_⟩) (HS1.out) ?_
                rotate_left
                · intro wq hSw; (try dsimp only at hSw); go_simp; (try simp only [HD0.out]); (try simp only [HD1.out]); try with_reducible rfl
                try simp only [Act.put, List.getElem_toArray, List.getElem_cons_zero, List.getElem_cons_succ, List.setIfInBounds_toArray, List.set_cons_zero, List.set_cons_succ]
                refine wpAnyH_take (i := 21) (v := ?_) rfl (by kernel_rfl) (by kernel_rfl) (by kernel_rfl) (fun _ _ _ h => h) (Or.inl ⟨by kernel_rfl, ?_⟩) (HS1.out) ?_
                rotate_left
                · intro wq hSw; (try dsimp only at hSw); go_simp; (try simp only [HD0.out]); (try simp only [HD1.out]); try with_reducible rfl
                try simp only [Act.put, List.getElem_toArray, List.getElem_cons_zero, List.getElem_cons_succ, List.setIfInBounds_toArray, List.set_cons_zero, List.set_cons_succ]
                refine wpAnyH_take (i := 22) (v := ?_) rfl (by kernel_rfl) (by kernel_rfl) (by kernel_rfl) (fun _ _ _ h => h) (Or.inl ⟨by kernel_rfl, ?_⟩) (HS1.out) ?_
                rotate_left
                · intro wq hSw; (try dsimp only at hSw); go_simp; (try simp only [HD0.out]); (try simp only [HD1.out]); try with_reducible rfl
                try simp only [Act.put, List.getElem_toArray, List.getElem_cons_zero, List.getElem_cons_succ, List.setIfInBounds_toArray, List.set_cons_zero, List.set_cons_succ]
                refine wpAnyH_ready (rs := [13]) (by kernel_rfl) (by simp) ?_
                refine ready_yes (o := _) rfl (by kernel_rfl) (fun K hK => ?_) AllReadyH.nil
                go_simp
                go_at_call 13
                refine HPP.out.mono ?_
                rintro e w7 ⟨rfl, va7, ka7, h7, hv7, f7⟩
                have hf7 := FrD.undrew f7
                have HR7 := Lib.hid (IsR.other HA6.out HR6.out HNG.out.1 HNG.out.2 hf7)
                have HX7 := Lib.hid (HX6.out.disk HA6.out hf7)
                have HWA7 := Lib.hid ((hf7.kept HA6.out HWA.out (by decide) (by decide) (by decide)).trans HWA.out)
                have HWB7 := Lib.hid ((hf7.kept HA6.out HWB.out (by decide) (by decide) (by decide)).trans HWB.out)
                have HB7 := Lib.hid (HBL6.out.trans hf7.below)
                have HA7 := Lib.hid h7
                clear h7 hv7 f7 hf7
                refine hK.out _ _ ⟨⟨(Lib.cell_of_heap HWA7.out _).trans HCC.out.1, (Lib.cell_of_heap HWA7.out _).trans HCC.out.2.1⟩, (Lib.cell_of_heap HWB7.out _).trans HCC.out.2.2.1, (Lib.cell_of_heap HWB7.out _).trans HCC.out.2.2.2⟩ (fun _ => ?_)
                try simp only [Act.put, List.getElem_toArray, List.getElem_cons_zero, List.getElem_cons_succ, List.setIfInBounds_toArray, List.set_cons_zero, List.set_cons_succ]
                refine wpAnyH_ready (rs := [23]) (by kernel_rfl) (by simp) ?_
                refine ready_yes (o := _) rfl (by kernel_rfl) (fun K hK => ?_) AllReadyH.nil
                go_simp
                go_at_call 14
                refine (RPut HR7.out (HBD.out.ok hn1 (by omega) (by omega)) (fun e w' hb' => (HPE.out (by omega)).below (HB7.out.trans hb')) k cs hkn hD5).mono ?_
                rintro e w8 ⟨rfl, vr8, h8, hv8, f8⟩
                have HA8 := Lib.hid (IsD.otherR HA7.out HR7.out HNG.out.1 HNG.out.2 f8)
                have HX8 := Lib.hid (HX7.out.refd HR7.out f8)
                have HWA8 := Lib.hid ((f8.kept HR7.out HWA7.out (by decide) (by decide) (by decide)).trans HWA7.out)
                have HWB8 := Lib.hid ((f8.kept HR7.out HWB7.out (by decide) (by decide) (by decide)).trans HWB7.out)
                have HB8 := Lib.hid (HB7.out.trans f8.below)
                have HR8 := Lib.hid h8
                clear h8 hv8 f8
                refine hK.out _ _ ⟨⟨(Lib.cell_of_heap HWA8.out _).trans HCC.out.1, (Lib.cell_of_heap HWA8.out _).trans HCC.out.2.1⟩, (Lib.cell_of_heap HWB8.out _).trans HCC.out.2.2.1, (Lib.cell_of_heap HWB8.out _).trans HCC.out.2.2.2⟩ (fun _ => ?_)
                try simp only [Act.put, List.getElem_toArray, List.getElem_cons_zero, List.getElem_cons_succ, List.setIfInBounds_toArray, List.set_cons_zero, List.set_cons_succ]
                refine wpAnyH_ready (rs := [24]) (by kernel_rfl) (by simp) ?_
                refine ready_yes (o := _) rfl (by kernel_rfl) (fun K hK => ?_) AllReadyH.nil
                go_simp
                refine hK.out _ _ ⟨⟨(Lib.cell_of_heap HWA8.out _).trans HCC.out.1, (Lib.cell_of_heap HWA8.out _).trans HCC.out.2.1⟩, (Lib.cell_of_heap HWB8.out _).trans HCC.out.2.2.1, (Lib.cell_of_heap HWB8.out _).trans HCC.out.2.2.2⟩ (fun _ => ?_)
                try simp only [Act.put, List.getElem_toArray, List.getElem_cons_zero, List.getElem_cons_succ, List.setIfInBounds_toArray, List.set_cons_zero, List.set_cons_succ]
                refine wpAnyH_ready (rs := [25]) (by kernel_rfl) (by simp) ?_
                refine AllReadyH.cons (o := _) rfl (fun K hK => ?_) AllReadyH.nil
                go_simp
                refine hK.out _ _ ⟨⟨(Lib.cell_of_heap HWA8.out _).trans HCC.out.1, (Lib.cell_of_heap HWA8.out _).trans HCC.out.2.1⟩, (Lib.cell_of_heap HWB8.out _).trans HCC.out.2.2.1, (Lib.cell_of_heap HWB8.out _).trans HCC.out.2.2.2⟩ (fun _ => ?_)
                try simp only [Act.put, List.getElem_toArray, List.getElem_cons_zero, List.getElem_cons_succ, List.setIfInBounds_toArray, List.set_cons_zero, List.set_cons_succ]
                refine wpAnyH_done (by kernel_rfl) ?_ _
                clear hHeld
                have HSM := Lib.hid (wsame_any HA8.out HR8.out (HCU.out.write k cs) (by omega) (Nat.le_trans (Bd.ws (HBD.out.write k cs)) (by omega)))
                have hstep : Hid (∀ w9, Below w8.heap.size w8 w9 → ScW w.heap.size n g gd gc cd cc gr gl cl lg f m w.heap.size gx a0 (min len 30) w (.int .i64 ((j : Int) + 1)) w9) := Lib.hid (fun w9 hb9 =>
                  ⟨j + 1, (writeS k cs S).2, _, _, _, _, by rw [Int.natCast_succ], by omega, Bd.more (HBD.out.write k cs) (by omega), (HCU.out.write k cs), (HSZ.out.write k cs hD5), (HPE.out.write HBD.out.l0 k cs), IsD.below HA8.out hb9, IsR.below HR8.out hb9, Bx.below HX8.out hb9, Below.trans HB8.out (hb9.mono (Nat.le_trans (IsD.b1 HA8.out) (Nat.le_of_lt (IsD.d HA8.out).lt)))⟩)
                go_wp2_with (go_at_call 17; refine HSM.out.mono ?_)
                first | rintro e w9 rfl hb9 | rintro e w9 ⟨rfl, hb9⟩
                have HT9 := Lib.hid (hstep.out w9 hb9)
                clear hb9 hstep HSM
                go_wp2_with fail
                exact ⟨HT9.out, by simp [intOf]; omega⟩
              · have HBAD := Lib.hid hv
                clear hv
                have HPP : Hid (Calls Tryd.prog 13 #[.pointer (some ⟨g, 0, none⟩), .int .i64 ci, .string cs] w6.drew fun e w' => e = .returned (.int .i64 1) ∧ Below w6.drew.heap.size w6.drew w') := Lib.hid ((Write_bad g n cd _ _ _ _ _ _ _ ci cs _ (HA6.out.keep (w' := w6.drew) (fun _ _ => rfl)).d HBAD.out).mono (fun e w' ⟨he, hw⟩ => ⟨he, hw ▸ Below.refl _ _⟩))
                have HS1 : Hid ((fun w' : World => (w'.cell? ⟨ba, 0, none⟩ = some (.int .i64 ci) ∧ w'.cell? ⟨ba, 1, none⟩ = some (.string cs)) ∧ w'.cell? ⟨bb, 0, none⟩ = some (.int .i64 ci) ∧ w'.cell? ⟨bb, 1, none⟩ = some (.string cs)) w6.drew) := Lib.hid ⟨⟨HPA.out.1, HPA.out.2⟩, HPB.out.1, HPB.out.2⟩
                go_wp2_with (first | (at_builtin; refine wpList_append_eq rfl _ _ 39 rfl _ _ rfl rfl v' w6 hap6 ?_))
                refine wp_region_held_drew (S := (fun w' : World => (w'.cell? ⟨ba, 0, none⟩ = some (.int .i64 ci) ∧ w'.cell? ⟨ba, 1, none⟩ = some (.string cs)) ∧ w'.cell? ⟨bb, 0, none⟩ = some (.int .i64 ci) ∧ w'.cell? ⟨bb, 1, none⟩ = some (.string cs))) (by kernel_rfl) HS1.out (fun hHeld => ?_)
                refine wpAnyH_take (i := 0) (v := ?_) rfl (by kernel_rfl) (by kernel_rfl) (by kernel_rfl) (fun _ _ _ h => h) (Or.inl ⟨by kernel_rfl, ?_⟩) (HS1.out) ?_
                rotate_left
                · intro wq hSw; (try dsimp only at hSw); go_simp; (try simp only [HD0.out]); (try simp only [HD1.out]); try with_reducible rfl
                try simp only [Act.put, List.getElem_toArray, List.getElem_cons_zero, List.getElem_cons_succ, List.setIfInBounds_toArray, List.set_cons_zero, List.set_cons_succ]
                refine wpAnyH_take (i := 1) (v := ?_) rfl (by kernel_rfl) (by kernel_rfl) (by kernel_rfl) (fun _ _ _ h => h) (Or.inl ⟨by kernel_rfl, ?_⟩) (HS1.out) ?_
                rotate_left
                · intro wq hSw; (try dsimp only at hSw); go_simp; (try simp only [HD0.out]); (try simp only [HD1.out]); try with_reducible rfl
                try simp only [Act.put, List.getElem_toArray, List.getElem_cons_zero, List.getElem_cons_succ, List.setIfInBounds_toArray, List.set_cons_zero, List.set_cons_succ]
                refine wpAnyH_take (i := 2) (v := ?_) rfl (by kernel_rfl) (by kernel_rfl) (by kernel_rfl) (fun _ _ _ h => h) (Or.inl ⟨by kernel_rfl, ?_⟩) (HS1.out) ?_
                rotate_left
                · intro wq hSw; (try dsimp only at hSw); go_simp; (try simp only [HD0.out]); (try simp only [HD1.out]); try with_reducible rfl
                try simp only [Act.put, List.getElem_toArray, List.getElem_cons_zero, List.getElem_cons_succ, List.setIfInBounds_toArray, List.set_cons_zero, List.set_cons_succ]
                refine wpAnyH_take (i := 3) (v := ?_) rfl (by kernel_rfl) (by kernel_rfl) (by kernel_rfl) (fun _ _ _ h => h) (Or.inl ⟨by kernel_rfl, ?_⟩) (HS1.out) ?_
                rotate_left
                · intro wq hSw; (try dsimp only at hSw); go_simp; (try simp only [HD0.out]); (try simp only [HD1.out]); try with_reducible rfl
                try simp only [Act.put, List.getElem_toArray, List.getElem_cons_zero, List.getElem_cons_succ, List.setIfInBounds_toArray, List.set_cons_zero, List.set_cons_succ]
                refine wpAnyH_take (i := 4) (v := ?_) rfl (by kernel_rfl) (by kernel_rfl) (by kernel_rfl) (fun _ _ _ h => h) (Or.inl ⟨by kernel_rfl, ?_⟩) (HS1.out) ?_
                rotate_left
                · intro wq hSw; (try dsimp only at hSw); go_simp; (try simp only [HD0.out]); (try simp only [HD1.out]); try with_reducible rfl
                try simp only [Act.put, List.getElem_toArray, List.getElem_cons_zero, List.getElem_cons_succ, List.setIfInBounds_toArray, List.set_cons_zero, List.set_cons_succ]
                refine wpAnyH_take (i := 5) (v := ?_) rfl (by kernel_rfl) (by kernel_rfl) (by kernel_rfl) (fun _ _ _ h => h) (Or.inl ⟨by kernel_rfl, ?_⟩) (HS1.out) ?_
                rotate_left
                · intro wq hSw; (try dsimp only at hSw); go_simp; (try simp only [HD0.out]); (try simp only [HD1.out]); try with_reducible rfl
                try simp only [Act.put, List.getElem_toArray, List.getElem_cons_zero, List.getElem_cons_succ, List.setIfInBounds_toArray, List.set_cons_zero, List.set_cons_succ]
                refine wpAnyH_take (i := 6) (v := ?_) rfl (by kernel_rfl) (by kernel_rfl) (by kernel_rfl) (fun _ _ _ h => h) (Or.inl ⟨by kernel_rfl, ?_⟩) (HS1.out) ?_
                rotate_left
                · intro wq hSw; (try dsimp only at hSw); go_simp; (try simp only [HD0.out]); (try simp only [HD1.out]); try with_reducible rfl
                try simp only [Act.put, List.getElem_toArray, List.getElem_cons_zero, List.getElem_cons_succ, List.setIfInBounds_toArray, List.set_cons_zero, List.set_cons_succ]
                refine wpAnyH_take (i := 7) (v := ?_) rfl (by kernel_rfl) (by kernel_rfl) (by kernel_rfl) (fun _ _ _ h => h) (Or.inl ⟨by kernel_rfl, ?_⟩) (HS1.out) ?_
                rotate_left
                · intro wq hSw; (try dsimp only at hSw); go_simp; (try simp only [HD0.out]); (try simp only [HD1.out]); try with_reducible rfl
                try simp only [Act.put, List.getElem_toArray, List.getElem_cons_zero, List.getElem_cons_succ, List.setIfInBounds_toArray, List.set_cons_zero, List.set_cons_succ]
                refine wpAnyH_take (i := 8) (v := ?_) rfl (by kernel_rfl) (by kernel_rfl) (by kernel_rfl) (fun _ _ _ h => h) (Or.inl ⟨by kernel_rfl, ?_⟩) (HS1.out) ?_
                rotate_left
                · intro wq hSw; (try dsimp only at hSw); go_simp; (try simp only [HD0.out]); (try simp only [HD1.out]); try with_reducible rfl
                try simp only [Act.put, List.getElem_toArray, List.getElem_cons_zero, List.getElem_cons_succ, List.setIfInBounds_toArray, List.set_cons_zero, List.set_cons_succ]
                refine wpAnyH_take (i := 9) (v := ?_) rfl (by kernel_rfl) (by kernel_rfl) (by kernel_rfl) (fun _ _ _ h => h) (Or.inl ⟨by kernel_rfl, ?_⟩) (HS1.out) ?_
                rotate_left
                · intro wq hSw; (try dsimp only at hSw); go_simp; (try simp only [HD0.out]); (try simp only [HD1.out]); try with_reducible rfl
                try simp only [Act.put, List.getElem_toArray, List.getElem_cons_zero, List.getElem_cons_succ, List.setIfInBounds_toArray, List.set_cons_zero, List.set_cons_succ]
                refine wpAnyH_take (i := 10) (v := ?_) rfl (by kernel_rfl) (by kernel_rfl) (by kernel_rfl) (fun _ _ _ h => h) (Or.inl ⟨by kernel_rfl, ?_⟩) (HS1.out) ?_
                rotate_left
                · intro wq hSw; (try dsimp only at hSw); go_simp; (try simp only [HD0.out]); (try simp only [HD1.out]); try with_reducible rfl
                try simp only [Act.put, List.getElem_toArray, List.getElem_cons_zero, List.getElem_cons_succ, List.setIfInBounds_toArray, List.set_cons_zero, List.set_cons_succ]
                refine wpAnyH_take (i := 11) (v := ?_) rfl (by kernel_rfl) (by kernel_rfl) (by kernel_rfl) (fun _ _ _ h => h) (Or.inl ⟨by kernel_rfl, ?_⟩) (HS1.out) ?_
                rotate_left
                · intro wq hSw; (try dsimp only at hSw); go_simp; (try simp only [HD0.out]); (try simp only [HD1.out]); try with_reducible rfl
                try simp only [Act.put, List.getElem_toArray, List.getElem_cons_zero, List.getElem_cons_succ, List.setIfInBounds_toArray, List.set_cons_zero, List.set_cons_succ]
                refine wpAnyH_take (i := 12) (v := ?_) rfl (by kernel_rfl) (by kernel_rfl) (by kernel_rfl) (fun _ _ _ h => h) (Or.inl ⟨by kernel_rfl, ?_⟩) (HS1.out) ?_
                rotate_left
                · intro wq hSw; (try dsimp only at hSw); go_simp; (try simp only [HD0.out]); (try simp only [HD1.out]); try with_reducible rfl
                try simp only [Act.put, List.getElem_toArray, List.getElem_cons_zero, List.getElem_cons_succ, List.setIfInBounds_toArray, List.set_cons_zero, List.set_cons_succ]
                refine wpAnyH_take (i := 14) (v := ?_) rfl (by kernel_rfl) (by kernel_rfl) (by kernel_rfl) (fun _ _ _ h => h) (Or.inl ⟨by kernel_rfl, ?_⟩) (HS1.out) ?_
                rotate_left
                · intro wq hSw; (try dsimp only at hSw); go_simp; (try simp only [HD0.out]); (try simp only [HD1.out]); try with_reducible rfl
                try simp only [Act.put, List.getElem_toArray, List.getElem_cons_zero, List.getElem_cons_succ, List.setIfInBounds_toArray, List.set_cons_zero, List.set_cons_succ]
                refine wpAnyH_take (i := 15) (v := ?_) rfl (by kernel_rfl) (by kernel_rfl) (by kernel_rfl) (fun _ _ _ h => h) (Or.inl ⟨by kernel_rfl, ?_⟩) (HS1.out) ?_
                rotate_left
                · intro wq hSw; (try dsimp only at hSw); go_simp; (try simp only [HD0.out]); (try simp only [HD1.out]); try with_reducible rfl
                try simp only [Act.put, List.getElem_toArray, List.getElem_cons_zero, List.getElem_cons_succ, List.setIfInBounds_toArray, List.set_cons_zero, List.set_cons_succ]
                refine wpAnyH_take (i := 16) (v := ?_) rfl (by kernel_rfl) (by kernel_rfl) (by kernel_rfl) (fun _ _ _ h => h) (Or.inl ⟨by kernel_rfl, ?_⟩) (HS1.out) ?_
                rotate_left
                · intro wq hSw; (try dsimp only at hSw); go_simp; (try simp only [HD0.out]); (try simp only [HD1.out]); try with_reducible rfl
                try simp only [Act.put, List.getElem_toArray, List.getElem_cons_zero, List.getElem_cons_succ, List.setIfInBounds_toArray, List.set_cons_zero, List.set_cons_succ]
                refine wpAnyH_take (i := 17) (v := ?_) rfl (by kernel_rfl) (by kernel_rfl) (by kernel_rfl) (fun _ _ _ h => h) (Or.inl ⟨by kernel_rfl, ?_⟩) (HS1.out) ?_
                rotate_left
                · intro wq hSw; (try dsimp only at hSw); go_simp; (try simp only [HD0.out]); (try simp only [HD1.out]); try with_reducible rfl
                try simp only [Act.put, List.getElem_toArray, List.getElem_cons_zero, List.getElem_cons_succ, List.setIfInBounds_toArray, List.set_cons_zero, List.set_cons_succ]
                refine wpAnyH_take (i := 18) (v := ?_) rfl (by kernel_rfl) (by kernel_rfl) (by kernel_rfl) (fun _ _ _ h => h) (Or.inl ⟨by kernel_rfl, ?_⟩) (HS1.out) ?_
                rotate_left
                · intro wq hSw; (try dsimp only at hSw); go_simp; (try simp only [HD0.out]); (try simp only [HD1.out]); try with_reducible rfl
                try simp only [Act.put, List.getElem_toArray, List.getElem_cons_zero, List.getElem_cons_succ, List.setIfInBounds_toArray, List.set_cons_zero, List.set_cons_succ]
                refine wpAnyH_take (i := 19) (v := ?_) rfl (by kernel_rfl) (by kernel_rfl) (by kernel_rfl) (fun _ _ _ h => h) (Or.inl ⟨by kernel_rfl, ?_⟩) (HS1.out) ?_
                rotate_left
                · intro wq hSw; (try dsimp only at hSw); go_simp; (try simp only [HD0.out]); (try simp only [HD1.out]); try with_reducible rfl
                try simp only [Act.put, List.getElem_toArray, List.getElem_cons_zero, List.getElem_cons_succ, List.setIfInBounds_toArray, List.set_cons_zero, List.set_cons_succ]
                refine wpAnyH_take (i := 20) (v := ?_) rfl (by kernel_rfl) (by kernel_rfl) (by kernel_rfl) (fun _ _ _ h => h) (Or.inl ⟨by kernel_rfl, ?_⟩) (HS1.out) ?_
                rotate_left
                · intro wq hSw; (try dsimp only at hSw); go_simp; (try simp only [HD0.out]); (try simp only [HD1.out]); try with_reducible rfl
                try simp only [Act.put, List.getElem_toArray, List.getElem_cons_zero, List.getElem_cons_succ, List.setIfInBounds_toArray, List.set_cons_zero, List.set_cons_succ]
                refine wpAnyH_take (i := 21) (v := ?_) rfl (by kernel_rfl) (by kernel_rfl) (by kernel_rfl) (fun _ _ _ h => h) (Or.inl ⟨by kernel_rfl, ?_⟩) (HS1.out) ?_
                rotate_left
                · intro wq hSw; (try dsimp only at hSw); go_simp; (try simp only [HD0.out]); (try simp only [HD1.out]); try with_reducible rfl
                try simp only [Act.put, List.getElem_toArray, List.getElem_cons_zero, List.getElem_cons_succ, List.setIfInBounds_toArray, List.set_cons_zero, List.set_cons_succ]
                refine wpAnyH_take (i := 22) (v := ?_) rfl (by kernel_rfl) (by kernel_rfl) (by kernel_rfl) (fun _ _ _ h => h) (Or.inl ⟨by kernel_rfl, ?_⟩) (HS1.out) ?_
                rotate_left
                · intro wq hSw; (try dsimp only at hSw); go_simp; (try simp only [HD0.out]); (try simp only [HD1.out]); try with_reducible rfl
                try simp only [Act.put, List.getElem_toArray, List.getElem_cons_zero, List.getElem_cons_succ, List.setIfInBounds_toArray, List.set_cons_zero, List.set_cons_succ]
                refine wpAnyH_ready (rs := [13]) (by kernel_rfl) (by simp) ?_
                refine ready_yes (o := _) rfl (by kernel_rfl) (fun K hK => ?_) AllReadyH.nil
                go_simp
                go_at_call 13
                refine HPP.out.mono ?_
                rintro e w7 ⟨rfl, hb7⟩
                have hb67 : Below w6.heap.size w6 w7 := (Below.refl w6.heap.size w6).drew.trans hb7
                have HR7 := Lib.hid (HR6.out.below hb67)
                have HX7 := Lib.hid (HX6.out.below hb67)
                have HWA7 := Lib.hid ((hb67.block _ (lt_of_some HWA.out)).trans HWA.out)
                have HWB7 := Lib.hid ((hb67.block _ (lt_of_some HWB.out)).trans HWB.out)
                have HB7 := Lib.hid (HBL6.out.trans (hb67.mono HBL6.out.size))
                have HA7 := Lib.hid (HA6.out.below hb67)
                clear hb7 hb67
                refine hK.out _ _ ⟨⟨(Lib.cell_of_heap HWA7.out _).trans HCC.out.1, (Lib.cell_of_heap HWA7.out _).trans HCC.out.2.1⟩, (Lib.cell_of_heap HWB7.out _).trans HCC.out.2.2.1, (Lib.cell_of_heap HWB7.out _).trans HCC.out.2.2.2⟩ (fun _ => ?_)
                try simp only [Act.put, List.getElem_toArray, List.getElem_cons_zero, List.getElem_cons_succ, List.setIfInBounds_toArray, List.set_cons_zero, List.set_cons_succ]
                refine wpAnyH_ready (rs := [23]) (by kernel_rfl) (by simp) ?_
                refine ready_yes (o := _) rfl (by kernel_rfl) (fun K hK => ?_) AllReadyH.nil
                go_simp
                go_at_call 14
                refine (RPut_bad HR7.out ci cs HBAD.out).mono ?_
                rintro e w8 ⟨rfl, hw8⟩
                have hw8 := hw8.symm
                subst hw8
                have HWA8 := HWA7; have HWB8 := HWB7
                refine hK.out _ _ ⟨⟨(Lib.cell_of_heap HWA8.out _).trans HCC.out.1, (Lib.cell_of_heap HWA8.out _).trans HCC.out.2.1⟩, (Lib.cell_of_heap HWB8.out _).trans HCC.out.2.2.1, (Lib.cell_of_heap HWB8.out _).trans HCC.out.2.2.2⟩ (fun _ => ?_)
                try simp only [Act.put, List.getElem_toArray, List.getElem_cons_zero, List.getElem_cons_succ, List.setIfInBounds_toArray, List.set_cons_zero, List.set_cons_succ]
                refine wpAnyH_ready (rs := [24]) (by kernel_rfl) (by simp) ?_
                refine ready_yes (o := _) rfl (by kernel_rfl) (fun K hK => ?_) AllReadyH.nil
                go_simp
                refine hK.out _ _ ⟨⟨(Lib.cell_of_heap HWA8.out _).trans HCC.out.1, (Lib.cell_of_heap HWA8.out _).trans HCC.out.2.1⟩, (Lib.cell_of_heap HWB8.out _).trans HCC.out.2.2.1, (Lib.cell_of_heap HWB8.out _).trans HCC.out.2.2.2⟩ (fun _ => ?_)
                try simp only [Act.put, List.getElem_toArray, List.getElem_cons_zero, List.getElem_cons_succ, List.setIfInBounds_toArray, List.set_cons_zero, List.set_cons_succ]
                refine wpAnyH_ready (rs := [25]) (by kernel_rfl) (by simp) ?_
                refine AllReadyH.cons (o := _) rfl (fun K hK => ?_) AllReadyH.nil
                go_simp
                refine hK.out _ _ ⟨⟨(Lib.cell_of_heap HWA8.out _).trans HCC.out.1, (Lib.cell_of_heap HWA8.out _).trans HCC.out.2.1⟩, (Lib.cell_of_heap HWB8.out _).trans HCC.out.2.2.1, (Lib.cell_of_heap HWB8.out _).trans HCC.out.2.2.2⟩ (fun _ => ?_)
                try simp only [Act.put, List.getElem_toArray, List.getElem_cons_zero, List.getElem_cons_succ, List.setIfInBounds_toArray, List.set_cons_zero, List.set_cons_succ]
                refine wpAnyH_done (by kernel_rfl) ?_ _
                clear hHeld
                have HSM := Lib.hid (wsame_any HA7.out HR7.out HCU.out (by omega) (Nat.le_trans (Bd.ws HBD.out) (by omega)))
                have hstep : Hid (∀ w9, Below w7.heap.size w7 w9 → ScW w.heap.size n g gd gc cd cc gr gl cl lg f m w.heap.size gx a0 (min len 30) w (.int .i64 ((j : Int) + 1)) w9) := Lib.hid (fun w9 hb9 =>
                  ⟨j + 1, S, _, _, _, _, by rw [Int.natCast_succ], by omega, Bd.more HBD.out (by omega), HCU.out, HSZ.out, HPE.out, IsD.below HA7.out hb9, IsR.below HR7.out hb9, Bx.below HX7.out hb9, Below.trans HB7.out (hb9.mono (Nat.le_trans (IsD.b1 HA7.out) (Nat.le_of_lt (IsD.d HA7.out).lt)))⟩)
                go_wp2_with (go_at_call 17; refine HSM.out.mono ?_)
                first | rintro e w9 rfl hb9 | rintro e w9 ⟨rfl, hb9⟩
                have HT9 := Lib.hid (hstep.out w9 hb9)
                clear hb9 hstep HSM
                go_wp2_with fail
                exact ⟨HT9.out, by simp [intOf]; omega⟩
      · have hex : (¬ (j : Int) < len) ∨ ((j : Int) < len ∧ ¬ (j : Int) < 30) := by omega
        have HBL := Lib.hid hbl
        clear hA hR hbl hbd hcu hpe hsz hbx
        rcases hex with hx1 | ⟨hx1, hx2⟩
        all_goals
          go_wp2_with fail
          go_ret
          exact ⟨rfl, HBL.out⟩
  · have HOB := Lib.hid (open_bad HA4.out (by omega) a1 a2 hF)
    have HOR := Lib.hid (ROpen_bad HR4.out (by omega) a1 a2 hF)
    clear hF
    go_wp2_with (first | (rw [hW4, hgx]; go_at_call 7; refine HOB.out.mono ?_; rintro e w5 ⟨rfl, hw5⟩; have hw5 := hw5.symm; subst hw5) | (go_at_call 7; refine HOB.out.mono ?_; rintro e w5 ⟨rfl, hw5⟩; have hw5 := hw5.symm; subst hw5) | (go_at_call 8; refine HOR.out.mono ?_; rintro e w6 ⟨rfl, vz, h6, hv6, f6⟩))
    have HBF := Lib.hid (HB4.out.trans f6.below)
    clear h6 hv6 f6
    go_wp2_with fail
    go_ret
    exact ⟨rfl, HBF.out⟩
end Go.Proofs.YtbpaiiljhdohfaaDoor
