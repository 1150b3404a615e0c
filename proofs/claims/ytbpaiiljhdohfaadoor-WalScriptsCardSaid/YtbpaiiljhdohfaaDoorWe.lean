/- Wal: changes written one behind the other: store. -/
import Derived.Test.YtbpaiiljhdohfaaDoorWd
import Derived.Test.YtbpaiiljhdohfaaDoorMf
import Derived.StillTailTactics
namespace Go.Proofs.YtbpaiiljhdohfaaDoor
open Go.RowKit
variable {B n g gd gc cd cc l f m t : Nat} {vw vk : Value} {S : DS} {w : World}

theorem putsS_append (a b : List (Nat × ByteArray)) (S : DS) : putsS (a ++ b) S = thenS (putsS a S) (putsS b) := by
  induction a generalizing S with
  | nil => exact (thenS_ok (a := ((0 : Int), S)) _ rfl).symm
  | cons c a ih =>
    show (if (writeS c.1 c.2 S).1 = 0 then putsS (a ++ b) (writeS c.1 c.2 S).2 else writeS c.1 c.2 S) = thenS (if (writeS c.1 c.2 S).1 = 0 then putsS a (writeS c.1 c.2 S).2 else writeS c.1 c.2 S) (putsS b)
    by_cases h : (writeS c.1 c.2 S).1 = 0
    · rw [if_pos h, if_pos h, ih]
    · rw [if_neg h, if_neg h, thenS_no _ h]
theorem putsS_one (c : Nat × ByteArray) (S : DS) : putsS [c] S = writeS c.1 c.2 S := by
  show (if (writeS c.1 c.2 S).1 = 0 then ((0 : Int), (writeS c.1 c.2 S).2) else writeS c.1 c.2 S) = _
  by_cases h : (writeS c.1 c.2 S).1 = 0
  · rw [if_pos h, ← h]
  · rw [if_neg h]
theorem putsS_step (x : List (Nat × ByteArray)) (k : Nat) (c : Nat × ByteArray) (S S' : DS) (hc : x[k]? = some c) (h : putsS (x.take k) S = (0, S')) :
    ((writeS c.1 c.2 S').1 = 0 → putsS (x.take (k + 1)) S = (0, (writeS c.1 c.2 S').2)) ∧ ((writeS c.1 c.2 S').1 ≠ 0 → putsS x S = writeS c.1 c.2 S') := by
  obtain ⟨h1, h2⟩ := List.getElem?_eq_some_iff.1 hc
  have e : putsS (x.take (k + 1)) S = writeS c.1 c.2 S' := by
    rw [List.take_succ_eq_append_getElem h1, putsS_append, h, thenS_ok _ rfl, h2, putsS_one]
  refine ⟨fun h3 => by rw [e, ← h3], fun h3 => ?_⟩
  have e2 : x = x.take (k + 1) ++ x.drop (k + 1) := (List.take_append_drop _ _).symm
  rw [e2, putsS_append, e, thenS_no _ h3]
theorem writeS_err (k : Nat) (s : ByteArray) (S : DS) : (writeS k s S).1 = 0 ∨ (writeS k s S).1 = 7 := by
  unfold writeS
  split
  · exact .inl rfl
  · exact .inr rfl
theorem syncS_err (S : DS) : (syncS S).1 = 0 ∨ (syncS S).1 = 7 := by
  unfold syncS
  split
  · exact .inl rfl
  · exact .inr rfl
theorem putsS_err (x : List (Nat × ByteArray)) (S : DS) : (putsS x S).1 = 0 ∨ (putsS x S).1 = 7 := by
  induction x generalizing S with
  | nil => exact .inl rfl
  | cons c x ih =>
    show (if (writeS c.1 c.2 S).1 = 0 then putsS x (writeS c.1 c.2 S).2 else writeS c.1 c.2 S).1 = 0 ∨ (if (writeS c.1 c.2 S).1 = 0 then putsS x (writeS c.1 c.2 S).2 else writeS c.1 c.2 S).1 = 7
    split
    · exact ih _
    · exact writeS_err _ _ _
theorem thenS_err {a : Int × DS} {k : DS → Int × DS} (h : a.1 = 0 ∨ a.1 = 7) (hk : ∀ S, (k S).1 = 0 ∨ (k S).1 = 7) : (thenS a k).1 = 0 ∨ (thenS a k).1 = 7 := by
  unfold thenS
  split
  · exact hk _
  · exact h
theorem makeS_err (x : List (Nat × ByteArray)) (S : DS) : (makeS x S).1 = 0 ∨ (makeS x S).1 = 7 := thenS_err (putsS_err x S) syncS_err
theorem Bd.puts (h : Bd t S) (x : List (Nat × ByteArray)) : Bd (t + x.length) (putsS x S).2 := by
  induction x generalizing S t with
  | nil => exact h
  | cons c x ih =>
    show Bd _ (if (writeS c.1 c.2 S).1 = 0 then putsS x (writeS c.1 c.2 S).2 else writeS c.1 c.2 S).2
    split
    · exact (ih (h.write c.1 c.2)).more (by rw [List.length_cons]; omega)
    · exact (h.write c.1 c.2).more (by rw [List.length_cons]; omega)
theorem thenS_pred {P Q : DS → Prop} {a : Int × DS} {k : DS → Int × DS} (h : P a.2) (hk : ∀ S, P S → Q (k S).2) (hpq : ∀ S, P S → Q S) : Q (thenS a k).2 := by
  unfold thenS
  split
  · exact hk _ h
  · exact hpq _ h
theorem Bd.make (h : Bd t S) (x : List (Nat × ByteArray)) : Bd (t + x.length + 1) (makeS x S).2 := thenS_pred (h.puts x) (fun _ h => h.sync) (fun _ h => h.more (Nat.le_succ _))
theorem typ_ne {x y : Nat} {c c' : Array Value} {e e' : TypeId} (hx : w.heap[x]? = some (.cells c e (0, 0))) (hy : w.heap[y]? = some (.cells c' e' (0, 0))) (h : e ≠ e') : x ≠ y := fun he => by
  subst he
  rw [hx] at hy
  injection hy with hy
  injection hy with _ hy
  exact h hy
/-- A block that is none of a disk's. -/
theorem FrD.kept {w' : World} (fr : FrD B g gd gc vw w w') (hI : IsD B n g gd gc cd cc vw vk S w) {b : Nat} {c : Array Value} {e : TypeId} (hb : w.heap[b]? = some (.cells c e (0, 0))) (h1 : e ≠ 75) (h2 : e ≠ 9) (h3 : e ≠ 92) : w'.heap[b]? = w.heap[b]? := by
  obtain ⟨c1, r1, _⟩ := hI.rd
  obtain ⟨c2, r2, _⟩ := hI.rc
  refine fr.block b (Array.getElem?_eq_some_iff.1 hb).1 (typ_ne hb (show w.heap[g]? = _ from hI.d) h1) (typ_ne hb r1 h2) (typ_ne hb r2 h2) (fun hx => ?_)
  obtain ⟨c3, h⟩ := own_block hI.vw hx
  exact typ_ne hb h h3 rfl
theorem LogAt.disk (h : LogAt l g f m w) (hI : IsD B n g gd gc cd cc vw vk S w) {w' : World} (fr : FrD B g gd gc vw w w') : LogAt l g f m w' :=
  h.same (fr.kept hI (show w.heap[l]? = _ from h) (by decide) (by decide) (by decide))
theorem ChAt.disk {o : Option Addr} {x : List (Int × ByteArray)} (h : ChAt w o x) (hI : IsD B n g gd gc cd cc vw vk S w) {w' : World} (fr : FrD B g gd gc vw w w') : ChAt w' o x :=
  h.same fun _ _ _ h2 => fr.kept hI h2 (by decide) (by decide) (by decide)
def WstS (B n g gd gc cd cc : Nat) (vw : Value) (S : DS) (t : Nat) (x : List (Nat × ByteArray)) (w : World) (i : Value) (wr : World) : Prop :=
  ∃ (k : Nat) (T : DS) (va ka : Value), k ≤ x.length ∧ i = .int .i64 k ∧ putsS (x.take k) S = (0, T) ∧ IsD B n g gd gc cd cc va ka T wr ∧ (∀ y, va.ownBlock = some y → vw.ownBlock = some y ∨ w.heap.size ≤ y) ∧ FrD B g gd gc vw w wr ∧ Bd (t + k) T
/-- What a step over a disk leaves. -/
def Stepped (B n g gd gc cd cc : Nat) (vw : Value) (r : Int × DS) (w : World) (e : Ending) (w' : World) : Prop :=
  e = .returned (.int .i64 r.1) ∧ ∃ vw' vk', IsD B n g gd gc cd cc vw' vk' r.2 w' ∧ (∀ y, vw'.ownBlock = some y → vw.ownBlock = some y ∨ w.heap.size ≤ y) ∧ FrD B g gd gc vw w w'
theorem IsD.ownC (h : IsD B n g gd gc cd cc vw vk S w) {w' : World} (hh : w'.heap = w.heap) : IsD B n g gd gc cd cc vw vk S w' := h.keep fun _ _ => by rw [hh]
theorem FrD.alloc (hI : IsD B n g gd gc cd cc vw vk S w) (o : Obj) : FrD B g gd gc vw w (w.alloc o) := FrD.of_below hI.b1 (Nat.le_of_lt hI.d.lt) ((Below.refl _ _).alloc (Nat.le_refl _) _)
theorem FrD.drew (hI : IsD B n g gd gc cd cc vw vk S w) : FrD B g gd gc vw w w.drew := FrD.of_below hI.b1 (Nat.le_of_lt hI.d.lt) (Below.refl _ _).drew
set_option maxHeartbeats 4000000 in
set_option maxRecDepth 100000 in
theorem store_any (hL : LogAt l g f m w) (hI : IsD B n g gd gc cd cc vw vk S w) (hn0 : 1 ≤ n) (hn : n ≤ 4096) (bd : Bd t S) (v : Value) (x : List (Nat × ByteArray)) (hx : ChRow w v (intC x)) (hk : ∀ c ∈ x, c.1 < n ∧ c.2.size ≤ 512) (ht : t + x.length + 1 ≤ 10000000) :
    Calls Tryd.prog 48 #[.pointer (some ⟨l, 0, none⟩), v] w (Stepped B n g gd gc cd cc vw (makeS x S) w) := by
  obtain ⟨ox, cx, hv, hxm, hc⟩ := hx.opened
  subst hv
  obtain ⟨k, hkl⟩ : ∃ k, x.length = k := ⟨_, rfl⟩
  have hki : (k : Int) ≤ 10000000 := by omega
  rw [intC_length, hkl]
  have HX := Lib.hid hkl; have HC := Lib.hid hc; have HL := Lib.hid hL; have HI := Lib.hid hI; have HBD := Lib.hid bd; have HK := Lib.hid hk; have HT := Lib.hid ht
  have H0 : Hid (WstS B n g gd gc cd cc vw S t x w (.int .i64 0) w) := Lib.hid ⟨0, S, vw, vk, Nat.zero_le _, rfl, rfl, hI, fun _ h => .inl h, FrD.refl _ _ _ _ _ _, bd⟩
  clear hx hc hL hI bd hk ht hkl hxm
  go_enter Tryd.func48, Tryd.ntmps48
  go_wp2_with fail
  go_loopw [10] (fun i wr => WstS B n g gd gc cd cc vw S t x w i wr) (fun i _ => k - (intOf i).toNat)
  case atStart => exact H0.out
  case round =>
    obtain ⟨j, T, va, ka, hj, rfl, hp, hI, hva, hfr, hbd⟩ := hrel
    rw [HX.out] at hj
    have HP := Lib.hid hp; have HIr := Lib.hid hI; have HVA := Lib.hid hva; have HF := Lib.hid hfr; have HBr := Lib.hid hbd
    have hLr := HL.out.disk HI.out hfr
    have HLr := Lib.hid hLr
    clear hp hI hva hfr hbd hLr H0
    by_cases hlt : j < k
    · have hji : (j : Int) < k := by omega
      obtain ⟨c, hcx⟩ : ∃ c, x[j]? = some c := ⟨_, List.getElem?_eq_getElem (by rw [HX.out]; exact hlt)⟩
      have hcr := HC.out.disk HI.out HF.out
      obtain ⟨b, cur, hob, hcur, d0, d1⟩ := hcr j ((c.1 : Int), c.2) (by unfold intC; rw [List.getElem?_map, hcx]; rfl)
      subst hob
      have HCX := Lib.hid hcx
      obtain ⟨hcn, hcs⟩ := HK.out c (List.mem_of_getElem? hcx)
      obtain ⟨pi, ps⟩ := c
      simp only at d0 d1 hcn hcs
      obtain ⟨W1, hW1⟩ : ∃ W1, wr.alloc (.cells #[.int .i64 pi, .string ps] 55) = W1 := ⟨_, rfl⟩
      have hI1 : IsD B n g gd gc cd cc va ka T W1 := hW1 ▸ HIr.out.below ((Below.refl _ _).alloc (Nat.le_refl _) _)
      have hL1 : LogAt l g f m W1 := hW1 ▸ HLr.out.below ((Below.refl _ _).alloc (Nat.le_refl _) _)
      have hF1 : FrD B g gd gc vw w W1.drew := HF.out.trans (hW1 ▸ (FrD.alloc HIr.out _).trans (FrD.drew (hW1 ▸ hI1)) (fun _ h => .inl h)) HVA.out
      obtain ⟨gz, hgz⟩ : ∃ gz, wr.heap.size = gz := ⟨_, rfl⟩
      have y0 : W1.cell? ⟨gz, 0, none⟩ = some (.int .i64 pi) := by rw [← hW1, ← hgz]; unfold World.cell?; simp only [heap_alloc_new wr]; rfl
      have y1 : W1.cell? ⟨gz, 1, none⟩ = some (.string ps) := by rw [← hW1, ← hgz]; unfold World.cell?; simp only [heap_alloc_new wr]; rfl
      have z0 := hL1.c0
      have hI2 : IsD B n g gd gc cd cc va ka T W1.drew := hI1.ownC rfl
      have HI2 := Lib.hid hI2; have HF1 := Lib.hid hF1; have HL1 := Lib.hid hL1
      clear hcr hcx hcur hI1 hL1 hF1 hI2
      go_wp2_with (refine wpList_store_row rfl 55 _ _ rfl wr.heap.size #[.int .i64 pi, .string ps] rfl rfl 55 _ (heap_alloc_new wr _) change_size rfl (by rfl) ?_; rw [hW1, hgz])
      refine wp_region_still_tail 8 (by kernel_rfl) (by kernel_rfl) ?_
      change wpStill _ _ (World.drew _) _ _ _
      simp only [List.take_succ_cons, List.take_zero, List.drop_succ_cons, List.drop_zero]
      repeat still_step
      try refine wpStill_nil ?_
      change wpList _ _ _ _ _ (World.drew _)
      go_wp2_with (go_at_call 13; refine (WriteD HI2.out (HBr.out.ok hn0 hn (by have := HT.out; have := HX.out; omega)) pi ps hcn hcs).mono ?_)
      rintro e w3 ⟨rfl, va3, ka3, h3, hv3, f3⟩
      have hst := putsS_step x j (pi, ps) S T HCX.out HP.out
      have hF3 := HF1.out.trans f3 HVA.out
      have hva3 : ∀ y, va3.ownBlock = some y → vw.ownBlock = some y ∨ w.heap.size ≤ y := fun y hy => by
        rcases hv3 y hy with h | h
        · exact HVA.out y h
        · exact .inr (Nat.le_trans HF1.out.size h)
      have HI3 := Lib.hid h3; have HF3 := Lib.hid hF3; have HV3 := Lib.hid hva3; have HST := Lib.hid hst
      clear h3 hv3 f3 hst hF3 hva3
      rcases writeS_err pi ps T with he | he
      · have hn0 : Hid (WstS B n g gd gc cd cc vw S t x w (.int .i64 ((j : Int) + 1)) w3) := Lib.hid
          ⟨j + 1, (writeS pi ps T).2, va3, ka3, by rw [HX.out]; omega, by rw [Int.natCast_succ], HST.out.1 he, HI3.out, HV3.out, HF3.out, (HBr.out.write pi ps).more (by omega)⟩
        rw [he]
        go_wp2_with fail
        exact ⟨hn0.out, by simp [intOf]; omega⟩
      · have hend : Hid (Stepped B n g gd gc cd cc vw (makeS x S) w (.returned (.int .i64 7)) w3) := Lib.hid (by
          have e1 : makeS x S = writeS pi ps T := by
            unfold makeS
            rw [HST.out.2 (by rw [he]; decide), thenS_no _ (by rw [he]; decide)]
          rw [e1]
          exact ⟨by rw [he], va3, ka3, HI3.out, HV3.out, HF3.out⟩)
        rw [he]
        go_wp2_with fail
        go_ret
        exact hend.out
    · obtain rfl : j = k := by omega
      have hp := HP.out
      rw [← HX.out, List.take_length] at hp
      have z0 := HLr.out.c0
      have hS := SyncD HIr.out (HBr.out.ok hn0 hn (by have := HT.out; have := HX.out; omega))
      have HS := Lib.hid hS
      have e1 : makeS x S = syncS T := by unfold makeS; rw [hp, thenS_ok (a := ((0 : Int), T)) _ rfl]
      have HE := Lib.hid e1
      clear hS e1 hp
      go_wp2_with (go_at_call 66; refine HS.out.mono ?_)
      rintro e w3 ⟨rfl, va3, ka3, h3, hv3, f3⟩
      have hend : Hid (Stepped B n g gd gc cd cc vw (makeS x S) w (.returned (.int .i64 (syncS T).1)) w3) := Lib.hid (by
        rw [HE.out]
        exact ⟨rfl, va3, ka3, h3, fun y hy => HVA.out y (hv3 y hy), HF.out.trans f3 HVA.out⟩)
      clear h3 hv3 f3
      go_wp2_with fail
      go_ret
      exact hend.out
end Go.Proofs.YtbpaiiljhdohfaaDoor
