/- Rules: a line's reader. -/
import Derived.Test.YtmdhendfmhhniaaDoorRb
import Derived.Test.YtmdhendfmhhniaaDoorPs
import Derived.RangeFuncBox
namespace Go.Proofs.YtmdhendfmhhniaaDoor
open Go.RowKit
variable {w w' : World}

/-- The box at b holds the name of the last rule. -/
def IsLast (b : Nat) (out : List PairB) (w : World) : Prop := Boxed w b 9 (.string (lastN out))
theorem IsLast.keep {b : Nat} {out : List PairB} (h : IsLast b out w) (hb : w'.heap[b]? = w.heap[b]?) : IsLast b out w' := hb.trans h
theorem IsLast.lt {b : Nat} {out : List PairB} (h : IsLast b out w) : b < w.heap.size := Boxed.lt h
theorem IsLast.below {b : Nat} {out : List PairB} (h : IsLast b out w) (hb : Below w.heap.size w w') : IsLast b out w' := h.keep (hb.block b h.lt)
theorem IsLast.set {b : Nat} {out : List PairB} (h : IsLast b out w) (p : PairB) : IsLast b (out ++ [p]) (w.setCell ⟨b, 0, none⟩ (.string p.1)) := by
  unfold IsLast at h ⊢
  rw [lastN_snoc]; exact Boxed.set (.string p.1) h
def okReadR (b : Nat) (out : List PairB) (w : World) (r : PairB ⊕ Int) (e : Ending) (w' : World) : Prop :=
  match r with
  | .inr x => e = .returned (.tuple #[.agg #[.string ⟨#[]⟩, .string ⟨#[]⟩], .int .i64 x]) ∧ IsLast b out w' ∧ FrM b w w'
  | .inl p => e = .returned (.tuple #[.agg #[.string p.1, .string p.2], .int .i64 0]) ∧ IsLast b (out ++ [p]) w' ∧ FrM b w w'
theorem fin_belowR {b : Nat} {out : List PairB} (h : IsLast b out w) (hb : Below w.heap.size w w') : IsLast b out w' ∧ FrM b w w' := ⟨h.below hb, FrM.of_below hb⟩
theorem FrM.set {b i : Nat} (h : FrM b w w') (v : Value) : FrM b w (w'.setCell ⟨b, i, none⟩ v) :=
  ⟨h.low.trans ((Below.refl 0 w').setCell (p := ⟨b, i, none⟩) (Nat.zero_le _) v), Nat.le_trans h.size (by simp), fun k hk hb => (Below.heap_setCell w' ⟨b, i, none⟩ v k hb).trans (h.block k hk hb)⟩
theorem FrM.setNew {b r i : Nat} (h : FrM b w w') (hr : w.heap.size ≤ r) (v : Value) : FrM b w (w'.setCell ⟨r, i, none⟩ v) :=
  ⟨h.low.trans ((Below.refl 0 w').setCell (p := ⟨r, i, none⟩) (Nat.zero_le _) v), Nat.le_trans h.size (by simp), fun k hk hb => (Below.heap_setCell w' ⟨r, i, none⟩ v k (by show k ≠ r; omega)).trans (h.block k hk hb)⟩
theorem rrow_end {bk r : Nat} {out2 : List PairB} {w w2 : World} {x y x2 y2 : ByteArray} (hrow : w2.heap[r]? = some (.cells #[.string x, .string y] 107 (0, 0))) (hl : IsLast bk out2 w2) (hf : FrM bk w w2) (hr : w.heap.size ≤ r) (hne : bk ≠ r) :
    ((w2.setCell ⟨r, 0, none⟩ (.string x2)).setCell ⟨r, 1, none⟩ (.string y2)).cell? ⟨r, 0, none⟩ = some (.string x2) ∧ ((w2.setCell ⟨r, 0, none⟩ (.string x2)).setCell ⟨r, 1, none⟩ (.string y2)).cell? ⟨r, 1, none⟩ = some (.string y2) ∧ IsLast bk out2 ((w2.setCell ⟨r, 0, none⟩ (.string x2)).setCell ⟨r, 1, none⟩ (.string y2)) ∧ FrM bk w ((w2.setCell ⟨r, 0, none⟩ (.string x2)).setCell ⟨r, 1, none⟩ (.string y2)) := by
  have hw := heap_set (i := 1) (.string y2) (heap_set (i := 0) (.string x2) hrow)
  exact ⟨cell_of_row hw, cell_of_row hw, hl.keep ((Below.heap_setCell _ ⟨r, 1, none⟩ _ _ hne).trans (Below.heap_setCell _ ⟨r, 0, none⟩ _ _ hne)), (hf.setNew hr _).setNew hr _⟩
set_option maxHeartbeats 2000000 in
set_option maxRecDepth 100000 in
theorem readR_any (bk : Nat) (out : List PairB) (s : ByteArray) (w : World) (hs : s.size ≤ maxLen) (hS : IsLast bk out w) :
    Calls Tryd.prog 62 #[.string s, .pointer (some ⟨bk, 0, none⟩)] w fun e w' => okReadR bk out w (rdR out s) e w' := by
  have HC := fun W => cut_any s W hs
  have hsz := pairOf_size s
  have HE : Hid (rdR out s = if goodN (pairOf s).1 && goodQ (pairOf s).2 then if leB (pairOf s).1 (lastN out) then .inr 12 else .inl (pairOf s) else .inr 2) := Lib.hid rfl
  obtain ⟨d, hd⟩ : ∃ d, decide (spAt s < s.size) = d := ⟨_, rfl⟩
  obtain ⟨⟨a, b⟩, hab⟩ : ∃ p : PairB, pairOf s = p := ⟨_, rfl⟩
  rw [hab] at HE HC hsz
  simp only [hd] at HC
  have HC := Lib.hid HC
  obtain ⟨r, hr⟩ : ∃ r, rdR out s = r := ⟨_, rfl⟩
  rw [hr] at HE ⊢
  have HSS := Lib.hid hS
  have hbk := hS.lt
  clear hd hab hr hS
  simp only at hsz
  have HW0 := Lib.hid (show Below w.heap.size w (w.alloc (.cells #[.string ⟨#[]⟩, .string ⟨#[]⟩] 107)) from (Below.refl _ _).alloc (Nat.le_refl _) _)
  by_cases ga : goodN a = true
  · by_cases gb : goodQ b = true
    · have HGa := Lib.hid (Good_yesN a ga)
      have HGb := Lib.hid (Good_yesQ b gb)
      have HR := Lib.hid (show r = if leB a (lastN out) then .inr 12 else .inl (a, b) by rw [HE.out]; simp [ga, gb])
      clear ga gb HE
      go_enter Tryd.func62, Tryd.ntmps62
      go_wp2_with (go_at_call 63; (with_reducible refine (HC.out _).mono ?_); rintro e w1 ⟨rfl, q, rfl⟩; clear HC)
      have HB1 := Lib.hid (below_drewN HW0.out q)
      have HG1 : Hid (((w.alloc (.cells #[.string ⟨#[]⟩, .string ⟨#[]⟩] 107)).drewN q).heap[w.heap.size]? = some (.cells #[.string ⟨#[]⟩, .string ⟨#[]⟩] 107 (0, 0))) := Lib.hid (World.alloc_heap_new w _)
      generalize (w.alloc (.cells #[.string ⟨#[]⟩, .string ⟨#[]⟩] 107)).drewN q = w1 at HB1 HG1 ⊢
      have HL1 := Lib.hid (HSS.out.below HB1.out)
      have r0 : w1.cell? ⟨w.heap.size, 0, none⟩ = some (.string ⟨#[]⟩) := cell_of_row HG1.out
      have r1 : w1.cell? ⟨w.heap.size, 1, none⟩ = some (.string ⟨#[]⟩) := cell_of_row HG1.out
      have rf : ∀ j, w1.frozen? ⟨w.heap.size, j, none⟩ = false := fun j => by simp [World.frozen?, HG1.out]
      obtain ⟨pv, hpv⟩ : ∃ pv, lastN out = pv := ⟨_, rfl⟩
      have hbc : w1.cell? ⟨bk, 0, none⟩ = some (.string pv) := by rw [← hpv]; exact Boxed.cell HL1.out
      have hbf : w1.frozen? ⟨bk, 0, none⟩ = false := Boxed.frozen HL1.out
      have hne : bk ≠ w.heap.size := by omega
      rw [hpv] at HR
      clear hpv
      cases hc : leB a pv with
      | true =>
        have HR2 := Lib.hid (show r = .inr 12 by rw [HR.out, hc]; rfl)
        have hcc : (Op.bytesLess a.toList pv.toList || a.toList == pv.toList) = true := hc
        go_wp2_with (first
          | (go_at_call 64; (with_reducible refine (HGa.out _).mono ?_); rintro e w2 ⟨rfl, rfl⟩; clear HGa)
          | (go_at_call 65; (with_reducible refine (HGb.out _).mono ?_); rintro e w2 ⟨rfl, rfl⟩; clear HGb))
        rw [HR2.out]
        obtain ⟨z0, z1, z2, z3⟩ := rrow_end (x2 := ⟨#[]⟩) (y2 := ⟨#[]⟩) HG1.out HL1.out (FrM.of_below HB1.out) (Nat.le_refl _) hne
        have HZ2 := Lib.hid z2; have HZ3 := Lib.hid z3
        clear z2 z3 r0 r1 rf hbc hbf hcc
        generalize (w2.setCell ⟨w.heap.size, 0, none⟩ (.string ⟨#[]⟩)).setCell ⟨w.heap.size, 1, none⟩ (.string ⟨#[]⟩) = W at z0 z1 HZ2 HZ3 ⊢
        exact bodyPost_ret (v := .tuple #[.agg #[.string ⟨#[]⟩, .string ⟨#[]⟩], .int .i64 12]) (by simp [results, Tryd.results62, go_sem, z0, z1]) rfl ⟨rfl, HZ2.out, HZ3.out⟩
      | false =>
        have HR2 := Lib.hid (show r = .inl (a, b) by rw [HR.out, hc]; rfl)
        have hcc : (Op.bytesLess a.toList pv.toList || a.toList == pv.toList) = false := hc
        go_wp2_with (first
          | (go_at_call 64; (with_reducible refine (HGa.out _).mono ?_); rintro e w2 ⟨rfl, rfl⟩; clear HGa)
          | (go_at_call 65; (with_reducible refine (HGb.out _).mono ?_); rintro e w2 ⟨rfl, rfl⟩; clear HGb))
        rw [HR2.out]
        have hrow2 := (Below.heap_setCell w2 ⟨bk, 0, none⟩ (.string a) w.heap.size (Ne.symm hne)).trans HG1.out
        obtain ⟨z0, z1, z2, z3⟩ := rrow_end (x2 := a) (y2 := b) hrow2 (HL1.out.set (a, b)) ((FrM.of_below HB1.out).set (.string a)) (Nat.le_refl _) hne
        have HZ2 := Lib.hid z2; have HZ3 := Lib.hid z3
        clear z2 z3 r0 r1 rf hbc hbf hcc hrow2
        generalize ((w2.setCell ⟨bk, 0, none⟩ (.string a)).setCell ⟨w.heap.size, 0, none⟩ (.string a)).setCell ⟨w.heap.size, 1, none⟩ (.string b) = W at z0 z1 HZ2 HZ3 ⊢
        exact bodyPost_ret (v := .tuple #[.agg #[.string a, .string b], .int .i64 0]) (by simp [results, Tryd.results62, go_sem, z0, z1]) rfl ⟨rfl, HZ2.out, HZ3.out⟩
    · have HGa := Lib.hid (Good_yesN a ga)
      have HGb := Lib.hid (Good_noQ b (by simpa using gb) (by have := hsz.2; unfold maxLen at *; omega))
      have HR := Lib.hid (show r = .inr 2 by rw [HE.out]; simp [gb])
      clear ga gb HE
      go_enter Tryd.func62, Tryd.ntmps62
      go_wp2_with (first
        | (go_at_call 63; (with_reducible refine (HC.out _).mono ?_); rintro e w1 ⟨rfl, q, rfl⟩; clear HC)
        | (go_at_call 64; (with_reducible refine (HGa.out _).mono ?_); rintro e w2 ⟨rfl, rfl⟩; clear HGa)
        | (go_at_call 65; (with_reducible refine (HGb.out _).mono ?_); rintro e w2 ⟨rfl, rfl⟩; clear HGb))
      rw [HR.out]
      refine bodyPost_ret (v := .tuple #[.agg #[.string ⟨#[]⟩, .string ⟨#[]⟩], .int .i64 2]) (by simp [results, Tryd.results62, go_sem]) rfl ⟨rfl, ?_⟩
      exact fin_belowR HSS.out (((below_drewN HW0.out _).setCell (p := ⟨w.heap.size, 0, none⟩) (Nat.le_refl _) (.string ⟨#[]⟩)).setCell (p := ⟨w.heap.size, 1, none⟩) (Nat.le_refl _) (.string ⟨#[]⟩))
  · have HGa := Lib.hid (Good_noN a (by simpa using ga) (by have := hsz.1; unfold maxLen at *; omega))
    have HR := Lib.hid (show r = .inr 2 by rw [HE.out]; simp [ga])
    clear ga HE
    go_enter Tryd.func62, Tryd.ntmps62
    go_wp2_with (first
      | (go_at_call 63; (with_reducible refine (HC.out _).mono ?_); rintro e w1 ⟨rfl, q, rfl⟩; clear HC)
      | (go_at_call 64; (with_reducible refine (HGa.out _).mono ?_); rintro e w2 ⟨rfl, rfl⟩; clear HGa))
    rw [HR.out]
    refine bodyPost_ret (v := .tuple #[.agg #[.string ⟨#[]⟩, .string ⟨#[]⟩], .int .i64 2]) (by simp [results, Tryd.results62, go_sem]) rfl ⟨rfl, ?_⟩
    exact fin_belowR HSS.out (((below_drewN HW0.out _).setCell (p := ⟨w.heap.size, 0, none⟩) (Nat.le_refl _) (.string ⟨#[]⟩)).setCell (p := ⟨w.heap.size, 1, none⟩) (Nat.le_refl _) (.string ⟨#[]⟩))
end Go.Proofs.YtmdhendfmhhniaaDoor
