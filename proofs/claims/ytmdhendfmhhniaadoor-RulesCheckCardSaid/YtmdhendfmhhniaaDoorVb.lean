/- Vocabularies: strconv's variables; Atoi and Itoa at any text; a line's entry. -/
import Derived.Test.YtmdhendfmhhniaaDoorVa
import Derived.Test.YtmdhendfmhhniaaDoorPr
import Derived.Lib.AppendIntMem
import Derived.Lib.AtoiErrMem
import Derived.Lib.LaidTab
import Derived.Shelf.Strconv.ErrVarAll
namespace Go.Proofs.YtmdhendfmhhniaaDoor
open Go.RowKit
variable {w w' : World}

/-- The variables of strconv are as they were made. -/
structure StrAt (w : World) : Prop where
  syn : ∃ tp p, w.var? Tryd.prog "strconv.ErrSyntax" = some #[.iface tp p]
  ran : ∃ tp p, w.var? Tryd.prog "strconv.ErrRange" = some #[.iface tp p]
  pow : Lib.TabIs Tryd.prog w "internal/strconv.uint64pow10" .u64 Lib.pow10Tab
theorem gSyn : Tryd.prog.globalNamed "strconv.ErrSyntax" = some 2 := by kernel_rfl
theorem gRan : Tryd.prog.globalNamed "strconv.ErrRange" = some 3 := by kernel_rfl
theorem gPow : Tryd.prog.globalNamed "internal/strconv.uint64pow10" = some 1 := by kernel_rfl
theorem var_same {n : String} {g : Nat} (hg : Tryd.prog.globalNamed n = some g) (hb : w'.heap[g]? = w.heap[g]?) : w'.var? Tryd.prog n = w.var? Tryd.prog n := by
  simp only [World.var?, hg, Option.bind_some, hb]
theorem var_lt {n : String} {g : Nat} {c : Array Value} (hg : Tryd.prog.globalNamed n = some g) (h : w.var? Tryd.prog n = some c) : g < w.heap.size := by
  simp only [World.var?, hg, Option.bind_some] at h
  rcases Nat.lt_or_ge g w.heap.size with h1 | h1
  · exact h1
  · rw [Array.getElem?_eq_none h1] at h; cases h
theorem StrAt.keep (h : StrAt w) (h1 : w'.heap[2]? = w.heap[2]?) (h2 : w'.heap[3]? = w.heap[3]?) (h3 : w'.heap[1]? = w.heap[1]?) : StrAt w' := by
  obtain ⟨⟨a, b, h4⟩, ⟨c, d, h5⟩, h6⟩ := h
  exact ⟨⟨a, b, (var_same gSyn h1).trans h4⟩, ⟨c, d, (var_same gRan h2).trans h5⟩, (var_same gPow h3).trans h6⟩
theorem StrAt.lt (h : StrAt w) : 2 < w.heap.size ∧ 3 < w.heap.size ∧ 1 < w.heap.size := by
  obtain ⟨⟨a, b, h4⟩, ⟨c, d, h5⟩, h6⟩ := h
  exact ⟨var_lt gSyn h4, var_lt gRan h5, var_lt gPow h6⟩
theorem StrAt.below (h : StrAt w) (hb : Below w.heap.size w w') : StrAt w' := by
  obtain ⟨a, b, c⟩ := h.lt
  exact h.keep (hb.block _ a) (hb.block _ b) (hb.block _ c)
def atoiO (s : ByteArray) : Option Int := match Lib.atoiAll s.data.toList with
  | .ok v => some v
  | _ => none
theorem atoi_some {s : ByteArray} {v : Int} (h : atoiO s = some v) (w : World) (hs : s.size ≤ 262144) : Calls Tryd.prog 90 #[.string s] w fun e w' => e = .returned (.tuple #[.int .i64 v, .nilIface]) ∧ Below w.heap.size w w' := by
  unfold atoiO at h
  split at h
  · rename_i u hu
    injection h with h
    subst h
    refine (Tryd.strconv_Atoi_ok s (by omega) u hu w).mono ?_
    rintro e w1 ⟨rfl, rfl | ⟨t, rfl⟩⟩
    · exact ⟨rfl, Below.refl _ _⟩
    · exact ⟨rfl, Lib.bytesWorld_below _ _ _⟩
  · cases h
theorem atoi_none {s : ByteArray} (h : atoiO s = none) (w : World) (hs : s.size ≤ 262144) (hw : StrAt w) : Calls Tryd.prog 90 #[.string s] w fun e w' => ∃ z t N, e = .returned (.tuple #[.int .i64 z, .iface t (.pointer (some ⟨N, 0, none⟩))]) ∧ Below w.heap.size w w' := by
  obtain ⟨⟨a, b, h4⟩, ⟨c, d, h5⟩, h6⟩ := hw
  unfold atoiO at h
  split at h
  · cases h
  · rename_i hx
    by_cases hy : Lib.atoiAll s.data.toList = .range
    · refine (Tryd.strconv_Atoi_range_var s (by omega) hy c d w h5).mono ?_
      first | rintro e w1 N rfl _ _ hb | rintro e w1 ⟨N, rfl, _, _, hb⟩
      exact ⟨_, _, N, rfl, hb⟩
    · refine (Tryd.strconv_Atoi_syntax_var s (by omega) (fun v hv => hx v hv) hy a b w h4).mono ?_
      first | rintro e w1 N rfl _ _ hb | rintro e w1 ⟨N, rfl, _, _, hb⟩
      exact ⟨_, _, N, rfl, hb⟩
theorem itoa_any {v : Int} (w : World) (h0 : 0 ≤ v) (h1 : v ≤ 1073741824) (hw : StrAt w) : Calls Tryd.prog 49 #[.int .i64 v] w fun e w' => e = .returned (.string ⟨(Lib.itoa v).toArray⟩) ∧ Below w.heap.size w w' := by
  refine (Tryd.strconv_Itoa v (by omega) (by omega) w hw.pow).mono ?_
  first | rintro e w1 rfl k os rfl | rintro e w1 ⟨rfl, k, os, rfl⟩
  exact ⟨rfl, Lib.below_grow _ _ (Nat.le_refl _) _ _⟩
theorem numR_none {s : ByteArray} (h : atoiO s = none) : numR s = none := by
  unfold numR
  unfold atoiO at h
  split at h
  · cases h
  · rename_i hx
    split
    · rename_i v hv
      exact absurd hv (hx v)
    · rfl
theorem numR_some {s : ByteArray} {v : Int} (h : atoiO s = some v) : numR s = if 0 ≤ v ∧ v ≤ 1073741824 ∧ Lib.itoa v = s.data.toList then some v.toNat else none := by
  unfold numR
  unfold atoiO at h
  split at h
  · rename_i u hu
    injection h with h
    subst h
    rw [hu]
  · cases h
def entV : Option (Nat × ByteArray) → Value
  | some p => .tuple #[.agg #[.int .i64 (p.1 : Nat), .string p.2], .bool true]
  | none => .tuple #[.agg #[.int .i64 0, .string ⟨#[]⟩], .bool false]
theorem erow_end {r : Nat} {w w2 : World} {x x2 : Int} {y y2 : ByteArray} (hrow : w2.heap[r]? = some (.cells #[.int .i64 x, .string y] 56 (0, 0))) (hb : Below w.heap.size w w2) (hr : w.heap.size ≤ r) :
    ((w2.setCell ⟨r, 0, none⟩ (.int .i64 x2)).setCell ⟨r, 1, none⟩ (.string y2)).cell? ⟨r, 0, none⟩ = some (.int .i64 x2) ∧ ((w2.setCell ⟨r, 0, none⟩ (.int .i64 x2)).setCell ⟨r, 1, none⟩ (.string y2)).cell? ⟨r, 1, none⟩ = some (.string y2) ∧ Below w.heap.size w ((w2.setCell ⟨r, 0, none⟩ (.int .i64 x2)).setCell ⟨r, 1, none⟩ (.string y2)) := by
  have hw := heap_set (i := 1) (.string y2) (heap_set (i := 0) (.int .i64 x2) hrow)
  exact ⟨cell_of_row hw, cell_of_row hw, (hb.setCell (p := ⟨r, 0, none⟩) hr _).setCell (p := ⟨r, 1, none⟩) hr _⟩
theorem ne_text {x y : ByteArray} (h : ¬ x = y) : ¬ x.toList = y.toList := by
  rw [ByteArray.toList_eq, ByteArray.toList_eq]
  exact fun e => h (ByteArray.ext (Array.ext' e))
set_option maxHeartbeats 2000000 in
set_option maxRecDepth 100000 in
theorem parseEntry_any (s : ByteArray) (w : World) (hs : s.size ≤ 262144) (hw : StrAt w) :
    Calls Tryd.prog 69 #[.string s] w fun e w' => e = .returned (entV (entR s)) ∧ Below w.heap.size w w' := by
  have HC := fun W => cut_any s W (by unfold maxLen; omega)
  have hsz := pairOf_size s
  have HE : Hid (entR s = match numR (pairOf s).1 with | some n => if goodB (pairOf s).2 then some (n, (pairOf s).2) else none | none => none) := Lib.hid rfl
  obtain ⟨d, hd⟩ : ∃ d, decide (spAt s < s.size) = d := ⟨_, rfl⟩
  obtain ⟨⟨a, b⟩, hab⟩ : ∃ p : PairB, pairOf s = p := ⟨_, rfl⟩
  rw [hab] at HE HC hsz
  simp only [hd] at HC
  have HC := Lib.hid HC
  obtain ⟨r, hr⟩ : ∃ r, entR s = r := ⟨_, rfl⟩
  rw [hr] at HE ⊢
  clear hd hab hr
  simp only at hsz HE
  have has : a.size ≤ 262144 := by omega
  have hbs : b.size ≤ maxLen := by unfold maxLen; omega
  have HB0 := Lib.hid (show Below w.heap.size w (w.alloc (.cells #[.int .i64 0, .string ⟨#[]⟩] 56)) from (Below.refl _ _).alloc (Nat.le_refl _) _)
  have HWW := Lib.hid hw
  clear hsz hw
  cases ha : atoiO a with
  | none =>
    have HA := fun W hW => atoi_none ha W has hW
    have HA := Lib.hid HA
    have HR := Lib.hid (show r = none by rw [HE.out, numR_none ha])
    clear ha HE
    go_enter Tryd.func69, Tryd.ntmps69
    go_wp2_with (first
      | (go_at_call 63; (with_reducible refine (HC.out _).mono ?_); rintro e w1 ⟨rfl, q, rfl⟩; clear HC)
      | (go_at_call 90; (with_reducible refine (HA.out _ (HWW.out.below (below_drewN HB0.out _))).mono ?_); rintro e w2 ⟨z, t, N, rfl, hb2⟩; clear HA; have hb3 := (below_drewN HB0.out q).trans (hb2.mono (below_drewN HB0.out q).size); have hrow := (hb2.block w.heap.size (by simp)).trans (show ((w.alloc (.cells #[.int .i64 0, .string ⟨#[]⟩] 56)).drewN q).heap[w.heap.size]? = some (.cells #[.int .i64 0, .string ⟨#[]⟩] 56 (0, 0)) from World.alloc_heap_new w _); have r0 : w2.cell? ⟨w.heap.size, 0, none⟩ = some (.int .i64 0) := cell_of_row hrow; have r1 : w2.cell? ⟨w.heap.size, 1, none⟩ = some (.string ⟨#[]⟩) := cell_of_row hrow; have rf : ∀ j, w2.frozen? ⟨w.heap.size, j, none⟩ = false := (fun j => by simp [World.frozen?, hrow]); have HB3 := Lib.hid hb3; have HROW := Lib.hid hrow; clear hb2 hb3 hrow))
    rw [HR.out]
    obtain ⟨z0, z1, z2⟩ := erow_end (x2 := 0) (y2 := ⟨#[]⟩) HROW.out HB3.out (Nat.le_refl _)
    have HZ2 := Lib.hid z2
    clear z2 r0 r1 rf
    generalize (w2.setCell ⟨w.heap.size, 0, none⟩ (.int .i64 0)).setCell ⟨w.heap.size, 1, none⟩ (.string ⟨#[]⟩) = W at z0 z1 HZ2 ⊢
    exact bodyPost_ret (v := entV none) (by simp [entV, results, Tryd.results69, go_sem, z0, z1]) rfl ⟨rfl, HZ2.out⟩
  | some v =>
    have HA := fun W => atoi_some ha W has
    have HA := Lib.hid HA
    by_cases hv0 : v < 0
    · have HR := Lib.hid (show r = none by rw [HE.out, numR_some ha, if_neg (by omega)])
      clear ha HE
      go_enter Tryd.func69, Tryd.ntmps69
      go_wp2_with (first
        | (go_at_call 63; (with_reducible refine (HC.out _).mono ?_); rintro e w1 ⟨rfl, q, rfl⟩; clear HC)
        | (go_at_call 90; (with_reducible refine (HA.out _).mono ?_); rintro e w2 ⟨rfl, hb2⟩; clear HA; have hb3 := (below_drewN HB0.out q).trans (hb2.mono (below_drewN HB0.out q).size); have hrow := (hb2.block w.heap.size (by simp)).trans (show ((w.alloc (.cells #[.int .i64 0, .string ⟨#[]⟩] 56)).drewN q).heap[w.heap.size]? = some (.cells #[.int .i64 0, .string ⟨#[]⟩] 56 (0, 0)) from World.alloc_heap_new w _); have r0 : w2.cell? ⟨w.heap.size, 0, none⟩ = some (.int .i64 0) := cell_of_row hrow; have r1 : w2.cell? ⟨w.heap.size, 1, none⟩ = some (.string ⟨#[]⟩) := cell_of_row hrow; have rf : ∀ j, w2.frozen? ⟨w.heap.size, j, none⟩ = false := (fun j => by simp [World.frozen?, hrow]); have HB3 := Lib.hid hb3; have HROW := Lib.hid hrow; clear hb2 hb3 hrow))
      rw [HR.out]
      obtain ⟨z0, z1, z2⟩ := erow_end (x2 := 0) (y2 := ⟨#[]⟩) HROW.out HB3.out (Nat.le_refl _)
      have HZ2 := Lib.hid z2
      clear z2 r0 r1 rf
      generalize (w2.setCell ⟨w.heap.size, 0, none⟩ (.int .i64 0)).setCell ⟨w.heap.size, 1, none⟩ (.string ⟨#[]⟩) = W at z0 z1 HZ2 ⊢
      exact bodyPost_ret (v := entV none) (by simp [entV, results, Tryd.results69, go_sem, z0, z1]) rfl ⟨rfl, HZ2.out⟩
    · by_cases hv1 : 1073741824 < v
      · have HR := Lib.hid (show r = none by rw [HE.out, numR_some ha, if_neg (by omega)])
        clear ha HE
        go_enter Tryd.func69, Tryd.ntmps69
        go_wp2_with (first
          | (go_at_call 63; (with_reducible refine (HC.out _).mono ?_); rintro e w1 ⟨rfl, q, rfl⟩; clear HC)
          | (go_at_call 90; (with_reducible refine (HA.out _).mono ?_); rintro e w2 ⟨rfl, hb2⟩; clear HA; have hb3 := (below_drewN HB0.out q).trans (hb2.mono (below_drewN HB0.out q).size); have hrow := (hb2.block w.heap.size (by simp)).trans (show ((w.alloc (.cells #[.int .i64 0, .string ⟨#[]⟩] 56)).drewN q).heap[w.heap.size]? = some (.cells #[.int .i64 0, .string ⟨#[]⟩] 56 (0, 0)) from World.alloc_heap_new w _); have r0 : w2.cell? ⟨w.heap.size, 0, none⟩ = some (.int .i64 0) := cell_of_row hrow; have r1 : w2.cell? ⟨w.heap.size, 1, none⟩ = some (.string ⟨#[]⟩) := cell_of_row hrow; have rf : ∀ j, w2.frozen? ⟨w.heap.size, j, none⟩ = false := (fun j => by simp [World.frozen?, hrow]); have HB3 := Lib.hid hb3; have HROW := Lib.hid hrow; clear hb2 hb3 hrow))
        rw [HR.out]
        obtain ⟨z0, z1, z2⟩ := erow_end (x2 := 0) (y2 := ⟨#[]⟩) HROW.out HB3.out (Nat.le_refl _)
        have HZ2 := Lib.hid z2
        clear z2 r0 r1 rf
        generalize (w2.setCell ⟨w.heap.size, 0, none⟩ (.int .i64 0)).setCell ⟨w.heap.size, 1, none⟩ (.string ⟨#[]⟩) = W at z0 z1 HZ2 ⊢
        exact bodyPost_ret (v := entV none) (by simp [entV, results, Tryd.results69, go_sem, z0, z1]) rfl ⟨rfl, HZ2.out⟩
      · have HI := fun W hW => itoa_any (v := v) W (by omega) (by omega) hW
        have HI := Lib.hid HI
        obtain ⟨x, hx⟩ : ∃ x : ByteArray, (⟨(Lib.itoa v).toArray⟩ : ByteArray) = x := ⟨_, rfl⟩
        have hxa : (Lib.itoa v = a.data.toList) ↔ x = a := by
          rw [← hx]
          constructor
          · intro h; apply ByteArray.ext; rw [h]
          · intro h; rw [← h]
        rw [hx] at HI
        clear hx
        by_cases he : x = a
        · subst he
          have hn : ((v.toNat : Nat) : Int) = v := by omega
          have HN : Hid (numR x = some v.toNat) := Lib.hid (by rw [numR_some ha, if_pos ⟨by omega, by omega, hxa.2 rfl⟩])
          clear ha hxa
          by_cases gb : goodB b = true
          · have HG := Lib.hid (Good_yes b gb)
            have HR := Lib.hid (show r = some (v.toNat, b) by rw [HE.out, HN.out]; simp [gb])
            clear gb HE HN
            go_enter Tryd.func69, Tryd.ntmps69
            go_wp2_with (first
              | (go_at_call 63; (with_reducible refine (HC.out _).mono ?_); rintro e w1 ⟨rfl, q, rfl⟩; clear HC)
              | (go_at_call 49; (with_reducible refine (HI.out _ (HWW.out.below HB2.out)).mono ?_); rintro e w3 ⟨rfl, hb3⟩; clear HI; have hrow := (hb3.block w.heap.size (lt_of_some HROW2.out)).trans HROW2.out; have r0 : w3.cell? ⟨w.heap.size, 0, none⟩ = some (.int .i64 0) := cell_of_row hrow; have r1 : w3.cell? ⟨w.heap.size, 1, none⟩ = some (.string ⟨#[]⟩) := cell_of_row hrow; have rf : ∀ j, w3.frozen? ⟨w.heap.size, j, none⟩ = false := (fun j => by simp [World.frozen?, hrow]); have HB3 := Lib.hid (HB2.out.trans (hb3.mono HB2.out.size)); have HROW := Lib.hid hrow; clear hb3 hrow)
              | (go_at_call 90; (with_reducible refine (HA.out _).mono ?_); rintro e w2 ⟨rfl, hb2⟩; clear HA; have HB2 := Lib.hid ((below_drewN HB0.out q).trans (hb2.mono (below_drewN HB0.out q).size)); have HROW2 := Lib.hid ((hb2.block w.heap.size (by simp)).trans (show ((w.alloc (.cells #[.int .i64 0, .string ⟨#[]⟩] 56)).drewN q).heap[w.heap.size]? = some (.cells #[.int .i64 0, .string ⟨#[]⟩] 56 (0, 0)) from World.alloc_heap_new w _)); clear hb2)
              | (go_at_call 17; (with_reducible refine (HG.out _).mono ?_); rintro e w4 ⟨rfl, rfl⟩; clear HG))
            rw [HR.out]
            obtain ⟨z0, z1, z2⟩ := erow_end (x2 := v) (y2 := b) HROW.out HB3.out (Nat.le_refl _)
            have HZ2 := Lib.hid z2
            clear z2 r0 r1 rf
            generalize (w4.setCell ⟨w.heap.size, 0, none⟩ (.int .i64 v)).setCell ⟨w.heap.size, 1, none⟩ (.string b) = W at z0 z1 HZ2 ⊢
            exact bodyPost_ret (v := entV (some (v.toNat, b))) (by simp [entV, hn, results, Tryd.results69, go_sem, z0, z1]) rfl ⟨rfl, HZ2.out⟩
          · have HG := Lib.hid (Good_no b (by simpa using gb) hbs)
            have HR := Lib.hid (show r = none by rw [HE.out, HN.out]; simp [gb])
            clear gb HE HN hn
            go_enter Tryd.func69, Tryd.ntmps69
            go_wp2_with (first
              | (go_at_call 63; (with_reducible refine (HC.out _).mono ?_); rintro e w1 ⟨rfl, q, rfl⟩; clear HC)
              | (go_at_call 49; (with_reducible refine (HI.out _ (HWW.out.below HB2.out)).mono ?_); rintro e w3 ⟨rfl, hb3⟩; clear HI; have hrow := (hb3.block w.heap.size (lt_of_some HROW2.out)).trans HROW2.out; have r0 : w3.cell? ⟨w.heap.size, 0, none⟩ = some (.int .i64 0) := cell_of_row hrow; have r1 : w3.cell? ⟨w.heap.size, 1, none⟩ = some (.string ⟨#[]⟩) := cell_of_row hrow; have rf : ∀ j, w3.frozen? ⟨w.heap.size, j, none⟩ = false := (fun j => by simp [World.frozen?, hrow]); have HB3 := Lib.hid (HB2.out.trans (hb3.mono HB2.out.size)); have HROW := Lib.hid hrow; clear hb3 hrow)
              | (go_at_call 90; (with_reducible refine (HA.out _).mono ?_); rintro e w2 ⟨rfl, hb2⟩; clear HA; have HB2 := Lib.hid ((below_drewN HB0.out q).trans (hb2.mono (below_drewN HB0.out q).size)); have HROW2 := Lib.hid ((hb2.block w.heap.size (by simp)).trans (show ((w.alloc (.cells #[.int .i64 0, .string ⟨#[]⟩] 56)).drewN q).heap[w.heap.size]? = some (.cells #[.int .i64 0, .string ⟨#[]⟩] 56 (0, 0)) from World.alloc_heap_new w _)); clear hb2)
              | (go_at_call 17; (with_reducible refine (HG.out _).mono ?_); rintro e w4 ⟨rfl, rfl⟩; clear HG))
            rw [HR.out]
            obtain ⟨z0, z1, z2⟩ := erow_end (x2 := 0) (y2 := ⟨#[]⟩) HROW.out HB3.out (Nat.le_refl _)
            have HZ2 := Lib.hid z2
            clear z2 r0 r1 rf
            generalize (w4.setCell ⟨w.heap.size, 0, none⟩ (.int .i64 0)).setCell ⟨w.heap.size, 1, none⟩ (.string ⟨#[]⟩) = W at z0 z1 HZ2 ⊢
            exact bodyPost_ret (v := entV none) (by simp [entV, results, Tryd.results69, go_sem, z0, z1]) rfl ⟨rfl, HZ2.out⟩
        · have HR := Lib.hid (show r = none by rw [HE.out, numR_some ha, if_neg (by intro h; exact he (hxa.1 h.2.2))])
          have hee := ne_text he
          clear ha HE hxa
          go_enter Tryd.func69, Tryd.ntmps69
          go_wp2_with (first
            | (go_at_call 63; (with_reducible refine (HC.out _).mono ?_); rintro e w1 ⟨rfl, q, rfl⟩; clear HC)
            | (go_at_call 49; (with_reducible refine (HI.out _ (HWW.out.below HB2.out)).mono ?_); rintro e w3 ⟨rfl, hb3⟩; clear HI; have hrow := (hb3.block w.heap.size (lt_of_some HROW2.out)).trans HROW2.out; have r0 : w3.cell? ⟨w.heap.size, 0, none⟩ = some (.int .i64 0) := cell_of_row hrow; have r1 : w3.cell? ⟨w.heap.size, 1, none⟩ = some (.string ⟨#[]⟩) := cell_of_row hrow; have rf : ∀ j, w3.frozen? ⟨w.heap.size, j, none⟩ = false := (fun j => by simp [World.frozen?, hrow]); have HB3 := Lib.hid (HB2.out.trans (hb3.mono HB2.out.size)); have HROW := Lib.hid hrow; clear hb3 hrow)
            | (go_at_call 90; (with_reducible refine (HA.out _).mono ?_); rintro e w2 ⟨rfl, hb2⟩; clear HA; have HB2 := Lib.hid ((below_drewN HB0.out q).trans (hb2.mono (below_drewN HB0.out q).size)); have HROW2 := Lib.hid ((hb2.block w.heap.size (by simp)).trans (show ((w.alloc (.cells #[.int .i64 0, .string ⟨#[]⟩] 56)).drewN q).heap[w.heap.size]? = some (.cells #[.int .i64 0, .string ⟨#[]⟩] 56 (0, 0)) from World.alloc_heap_new w _)); clear hb2))
          rw [HR.out]
          obtain ⟨z0, z1, z2⟩ := erow_end (x2 := 0) (y2 := ⟨#[]⟩) HROW.out HB3.out (Nat.le_refl _)
          have HZ2 := Lib.hid z2
          clear z2 r0 r1 rf
          generalize (w3.setCell ⟨w.heap.size, 0, none⟩ (.int .i64 0)).setCell ⟨w.heap.size, 1, none⟩ (.string ⟨#[]⟩) = W at z0 z1 HZ2 ⊢
          exact bodyPost_ret (v := entV none) (by simp [entV, results, Tryd.results69, go_sem, z0, z1]) rfl ⟨rfl, HZ2.out⟩
end Go.Proofs.YtmdhendfmhhniaaDoor
