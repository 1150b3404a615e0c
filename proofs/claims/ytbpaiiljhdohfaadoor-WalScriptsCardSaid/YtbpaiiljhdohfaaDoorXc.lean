/- Wal, the document's side: Make. -/
import Derived.Test.YtbpaiiljhdohfaaDoorXb
namespace Go.Proofs.YtbpaiiljhdohfaaDoor
open Go.RowKit
variable {B n g gl cl : Nat} {vw vk : Value} {S : DS} {w : World} {t : Nat}

/-- A row of the document's changes. -/
def DrAt (w : World) (o : Option Addr) (x : List (Nat × ByteArray)) : Prop :=
  ∀ k p, x[k]? = some p → ∃ b cur, o = some ⟨b, 0, none⟩ ∧ w.heap[b]? = some (.cells cur 57 (0, 0)) ∧ w.cell? ⟨b, k * 2, none⟩ = some (.int .i64 p.1) ∧ w.cell? ⟨b, k * 2 + 1, none⟩ = some (.string p.2)
theorem DrAt.same {w w' : World} {o : Option Addr} {x : List (Nat × ByteArray)} (h : DrAt w o x) (hb : ∀ b cur, o = some ⟨b, 0, none⟩ → w.heap[b]? = some (.cells cur 57 (0, 0)) → w'.heap[b]? = w.heap[b]?) : DrAt w' o x := fun k p hp => by
  obtain ⟨b, cur, h1, h2, h3, h4⟩ := h k p hp
  have e := hb b cur h1 h2
  refine ⟨b, cur, h1, e.trans h2, ?_, ?_⟩
  · unfold World.cell? at h3 ⊢; simp only [e]; exact h3
  · unfold World.cell? at h4 ⊢; simp only [e]; exact h4
theorem FrR.kept {w' : World} (fr : FrR B g gl vw w w') (hI : IsR B n g gl cl vw vk S w) {b : Nat} {c : Array Value} {e : TypeId} (hb : w.heap[b]? = some (.cells c e (0, 0))) (h1 : e ≠ 51) (h2 : e ≠ 9) (h3 : e ≠ 88) : w'.heap[b]? = w.heap[b]? := by
  obtain ⟨c1, r1, _⟩ := hI.rd
  refine fr.block b (Array.getElem?_eq_some_iff.1 hb).1 (typ_ne hb (show w.heap[g]? = _ from hI.d) h1) (typ_ne hb r1 h2) (fun hx => ?_)
  obtain ⟨c3, h⟩ := own_block hI.vw hx
  exact typ_ne hb h h3 rfl
theorem DrAt.disk {o : Option Addr} {x : List (Nat × ByteArray)} (h : DrAt w o x) (hI : IsR B n g gl cl vw vk S w) {w' : World} (fr : FrR B g gl vw w w') : DrAt w' o x :=
  h.same fun _ _ _ h2 => fr.kept hI h2 (by decide) (by decide) (by decide)
def WmS (B n g gl cl : Nat) (vw vk : Value) (S : DS) (t : Nat) (x : List (Nat × ByteArray)) (w : World) (i : Value) (wr : World) : Prop :=
  ∃ (k : Nat) (T : DS) (va : Value), k ≤ x.length ∧ i = .int .i64 k ∧ putsS (x.take k) S = (0, T) ∧ IsR B n g gl cl va vk T wr ∧ (∀ y, va.ownBlock = some y → vw.ownBlock = some y ∨ w.heap.size ≤ y) ∧ FrR B g gl vw w wr ∧ Bd (t + k) T ∧ ∀ w', Below B w w' → Pend w' vk T

set_option maxHeartbeats 4000000 in
set_option maxRecDepth 100000 in
theorem RMake (hI : IsR B n g gl cl vw vk S w) (hn0 : 1 ≤ n) (hn : n ≤ 4096) (bd : Bd t S) (hP : ∀ w', Below B w w' → Pend w' vk S) (o : Option Addr) (cap : Nat) (x : List (Nat × ByteArray)) (hc : DrAt w o x) (hk : ∀ c ∈ x, c.1 < n ∧ c.2.size ≤ 512) (ht : t + x.length + 1 ≤ 10000000) :
    Calls Tryd.prog 31 #[.pointer (some ⟨g, 0, none⟩), .slice o x.length cap] w fun e w' => RStepped B n g gl cl vw vk (makeS x S) w e w' := by
  obtain ⟨k, hkl⟩ : ∃ k, x.length = k := ⟨_, rfl⟩
  have hki : (k : Int) ≤ 10000000 := by omega
  rw [hkl]
  have HX := Lib.hid hkl; have HC := Lib.hid hc; have HI := Lib.hid hI; have HK := Lib.hid hk; have HT := Lib.hid ht
  have H0 : Hid (WmS B n g gl cl vw vk S t x w (.int .i64 0) w) := Lib.hid ⟨0, S, vw, Nat.zero_le _, rfl, rfl, hI, fun _ h => .inl h, FrR.refl _ _ _ _ _, bd, hP⟩
  clear hc hI bd hk ht hkl hP
  go_enter Tryd.func31, Tryd.ntmps31
  go_wp2_with fail
  go_loopw [5] (fun i wr => WmS B n g gl cl vw vk S t x w i wr) (fun i _ => k - (intOf i).toNat)
  case atStart => exact H0.out
  case round =>
    obtain ⟨j, T, va, hj, rfl, hp, hI, hva, hfr, hbd, hpd⟩ := hrel
    rw [HX.out] at hj
    have HP := Lib.hid hp; have HIr := Lib.hid hI; have HVA := Lib.hid hva; have HF := Lib.hid hfr; have HBr := Lib.hid hbd; have HPD := Lib.hid hpd
    clear hp hI hva hfr hbd H0 hpd
    by_cases hlt : j < k
    · have hji : (j : Int) < k := by omega
      obtain ⟨c, hcx⟩ : ∃ c, x[j]? = some c := ⟨_, List.getElem?_eq_getElem (by rw [HX.out]; exact hlt)⟩
      have hcr := HC.out.disk HI.out HF.out
      obtain ⟨b, cur, hob, hcur, d0, d1⟩ := hcr j c hcx
      subst hob
      have HCX := Lib.hid hcx
      obtain ⟨hcn, hcs⟩ := HK.out c (List.mem_of_getElem? hcx)
      obtain ⟨pi, ps⟩ := c
      simp only at d0 d1 hcn hcs
      have hI2 : IsR B n g gl cl va vk T wr.drew := HIr.out.keep fun _ _ => rfl
      have HI2 := Lib.hid hI2
      clear hcr hcx hcur hI2
      go_wp2_with fail
      refine wp_region_still_tail 11 (by kernel_rfl) (by kernel_rfl) ?_
      change wpStill _ _ (World.drew _) _ _ _
      simp only [List.take_succ_cons, List.take_zero, List.drop_succ_cons, List.drop_zero]
      repeat still_step
      try refine wpStill_nil ?_
      change wpList _ _ _ _ _ (World.drew _)
      go_wp2_with (go_at_call 14; refine (RPut HI2.out (HBr.out.ok hn0 hn (by have := HT.out; have := HX.out; omega)) (fun h1 w' hb => HPD.out w' (HF.out.below.trans ⟨hb.os, hb.tape, hb.output, hb.size, hb.block⟩) (by rw [h1]; decide)) pi ps hcn hcs).mono ?_)
      first | rintro e w3 rfl va3 h3 hv3 f3 | rintro e w3 ⟨rfl, va3, h3, hv3, f3⟩
      have hst := putsS_step x j (pi, ps) S T HCX.out HP.out
      have hF3 := HF.out.trans f3.undrew HVA.out
      have hva3 : ∀ y, va3.ownBlock = some y → vw.ownBlock = some y ∨ w.heap.size ≤ y := fun y hy => by
        rcases hv3 y hy with h | h
        · exact HVA.out y h
        · exact .inr (Nat.le_trans HF.out.size h)
      have HI3 := Lib.hid h3; have HF3 := Lib.hid hF3; have HV3 := Lib.hid hva3; have HST := Lib.hid hst
      clear h3 hv3 f3 hst hF3 hva3
      rcases writeS_err pi ps T with he | he
      · have hn0 : Hid (WmS B n g gl cl vw vk S t x w (.int .i64 ((j : Int) + 1)) w3) := Lib.hid
          ⟨j + 1, (writeS pi ps T).2, va3, by rw [HX.out]; omega, by rw [Int.natCast_succ], HST.out.1 he, HI3.out, HV3.out, HF3.out, (HBr.out.write pi ps).more (by omega), fun w' hb => (HPD.out w' hb).write HBr.out.l0 pi ps⟩
        rw [he]
        go_wp2_with fail
        exact ⟨hn0.out, by simp [intOf] <;> omega⟩
      · have hend : Hid (RStepped B n g gl cl vw vk (makeS x S) w (.returned (.int .i64 7)) w3) := Lib.hid (by
          have e1 : makeS x S = writeS pi ps T := by
            unfold makeS
            rw [HST.out.2 (by rw [he]; decide), thenS_no _ (by rw [he]; decide)]
          rw [e1]
          exact ⟨by rw [he], va3, HI3.out, HV3.out, HF3.out⟩)
        rw [he]
        go_wp2_with fail
        go_ret
        exact hend.out
    · obtain rfl : j = k := by omega
      have hp := HP.out
      rw [← HX.out, List.take_length] at hp
      have hS := RSync HIr.out (HBr.out.ok hn0 hn (by have := HT.out; have := HX.out; omega)) (fun h1 w' hb => HPD.out w' (HF.out.below.trans hb) (by rw [h1]; decide))
      have HS := Lib.hid hS
      have e1 : makeS x S = syncS T := by unfold makeS; rw [hp, thenS_ok (a := ((0 : Int), T)) _ rfl]
      have HE := Lib.hid e1
      clear hS e1 hp
      go_wp2_with (go_at_call 41; refine HS.out.mono ?_)
      first | rintro e w3 rfl va3 h3 hv3 f3 | rintro e w3 ⟨rfl, va3, h3, hv3, f3⟩
      have hend : Hid (RStepped B n g gl cl vw vk (makeS x S) w (.returned (.int .i64 (syncS T).1)) w3) := Lib.hid (by
        rw [HE.out]
        exact ⟨rfl, va3, h3, fun y hy => HVA.out y (hv3 y hy), HF.out.trans f3 HVA.out⟩)
      clear h3 hv3 f3
      go_wp2_with fail
      go_ret
      exact hend.out
end Go.Proofs.YtbpaiiljhdohfaaDoor
