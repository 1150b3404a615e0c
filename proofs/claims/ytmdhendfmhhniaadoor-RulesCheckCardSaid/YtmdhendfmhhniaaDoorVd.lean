/- Vocabularies: lines.next. -/
import Derived.Test.YtmdhendfmhhniaaDoorVc
import Derived.Test.YtmdhendfmhhniaaDoorPs
namespace Go.Proofs.YtmdhendfmhhniaaDoor
open Go.RowKit
variable {w w' : World}

def lineV (out : List EntB) (S : ByteArray) (k : Nat) : EntB ⊕ Int := if 4096 ≤ out.length then .inr 6 else if nlAt S k = S.size then .inr 2 else rdV out (S.extract k (nlAt S k))
theorem restV_step {out : List EntB} {S : ByteArray} {k : Nat} (h : k < S.size) : restF rdV S k out = match lineV out S k with
    | .inr e => ([], (out.length : Int) + 1, e)
    | .inl x => restF rdV S (nlAt S k + 1) (out ++ [x]) := by
  rw [restF_step rdV out h]
  unfold lineV
  by_cases h1 : 4096 ≤ out.length
  · rw [if_pos h1, if_pos h1]
  · rw [if_neg h1, if_neg h1]
    by_cases h2 : nlAt S k = S.size
    · rw [if_pos h2, if_pos h2]
    · rw [if_neg h2, if_neg h2]
      cases rdV out (S.extract k (nlAt S k)) <;> rfl
theorem FrV.row {pb mb k : Nat} {o : Obj} (h : FrV pb mb w w') (hk : w.heap[k]? = some o) (h1 : k ≠ pb) (h2 : k ≠ mb) : w'.heap[k]? = some o := (h.block k (lt_of_some hk) h1 h2).trans hk
theorem IsVo.lts {pb kb mb : Nat} {out : List EntB} (h : IsVo pb kb mb out w) : pb < w.heap.size ∧ kb < w.heap.size ∧ mb < w.heap.size := ⟨h.prev.lt, World.block_lt_of_cell? w _ h.box, h.set.lt⟩
theorem fin_boxV {pb kb mb r : Nat} {out out0 : List EntB} {w w2 : World} {a p : Int} {b q : ByteArray} (h2 : IsVo pb kb mb out w2) (h3 : FrV pb mb w w2) (hr : w.heap.size ≤ r) (hw : IsVo pb kb mb out0 w) (hrow : w2.heap[r]? = some (.cells #[.int .i64 a, .string b] 56 (0, 0))) :
    ((w2.setCell ⟨r, 0, none⟩ (.int .i64 p)).setCell ⟨r, 1, none⟩ (.string q)).cell? ⟨r, 0, none⟩ = some (.int .i64 p) ∧ ((w2.setCell ⟨r, 0, none⟩ (.int .i64 p)).setCell ⟨r, 1, none⟩ (.string q)).cell? ⟨r, 1, none⟩ = some (.string q) ∧
    IsVo pb kb mb out ((w2.setCell ⟨r, 0, none⟩ (.int .i64 p)).setCell ⟨r, 1, none⟩ (.string q)) ∧ FrV pb mb w ((w2.setCell ⟨r, 0, none⟩ (.int .i64 p)).setCell ⟨r, 1, none⟩ (.string q)) := by
  obtain ⟨a1, a2, a3⟩ := hw.lts
  have hwr := heap_set (i := 1) (.string q) (heap_set (i := 0) (.int .i64 p) hrow)
  exact ⟨cell_of_row hwr, cell_of_row hwr, h2.other (r := r) (fun j hj => (Below.heap_setCell _ ⟨r, 1, none⟩ _ j hj).trans (Below.heap_setCell _ ⟨r, 0, none⟩ _ j hj)) (by omega) (by omega) (by omega) (hw.str.off hr), (h3.setNew hr _).setNew hr _⟩
set_option maxHeartbeats 2000000 in
set_option maxRecDepth 100000 in
theorem nextV_any (pb kb mb : Nat) (out : List EntB) (S : ByteArray) (k : Nat) (w : World) (hS : S.size ≤ 262144) (hk : k < S.size) (hno : out.length ≤ 4096) (hset : IsVo pb kb mb out w) :
    Calls Tryd.prog 89 #[.int .i64 (out.length : Nat), .string (S.extract k (endAt S k)), .func (.func 68) #[] #[.pointer (some ⟨pb, 0, none⟩), .pointer (some ⟨kb, 0, none⟩)]] w fun e w' => okReadV pb kb mb out w (lineV out S k) e w' := by
  have hlts := hset.lts
  have HSET := Lib.hid hset
  obtain ⟨r, hr⟩ : ∃ r, lineV out S k = r := ⟨_, rfl⟩
  obtain ⟨m, hm⟩ : ∃ m, out.length = m := ⟨_, rfl⟩
  obtain ⟨t, ht⟩ : ∃ t, S.extract k (endAt S k) = t := ⟨_, rfl⟩
  have hts : t.size ≤ 262144 := by rw [← ht]; simp; omega
  rw [hr, hm, ht]
  have hw0 : Below w.heap.size w ((w.alloc (.cells #[.int .i64 0, .string ⟨#[]⟩] 56)).alloc (.cells #[.int .i64 0, .string ⟨#[]⟩] 56)) := ((Below.refl _ _).alloc (Nat.le_refl _) _).alloc (by simp) _
  have HW0 := Lib.hid hw0
  have HR := Lib.hid hr; have HM := Lib.hid hm; have HTT := Lib.hid ht
  clear hr hm ht hw0 hset
  by_cases h4 : 4096 ≤ m
  · have HE := Lib.hid (show r = .inr 6 by rw [← HR.out]; unfold lineV; rw [if_pos (by rw [HM.out]; exact h4)])
    have h4i : (4096 : Int) ≤ m := by omega
    go_enter Tryd.func89, Tryd.ntmps89
    go_wp2_with fail
    rw [HE.out]
    refine bodyPost_ret (v := .tuple #[.agg #[.int .i64 0, .string ⟨#[]⟩], .int .i64 6]) (by simp [results, Tryd.results89, go_sem]) rfl ⟨rfl, ?_⟩
    exact fin_belowV HSET.out HW0.out
  have h4i : (m : Int) < 4096 := by omega
  by_cases hnl : nlAt S k = S.size
  · have HE := Lib.hid (show r = .inr 2 by rw [← HR.out]; unfold lineV; rw [if_neg (by rw [HM.out]; exact h4), if_pos hnl])
    have hend : endAt S k = S.size := by unfold endAt; rw [if_neg (by omega)]
    have HS2 : Hid (Lib.hasSuffix t.data.toList [10] = false) := Lib.hid (by rw [← HTT.out, hend]; exact suf_no _ (line_part hnl (by omega)))
    have HC := fun W => Tryd.strings_CutSuffix t ⟨#[10]⟩ W (by omega)
    have HC := Lib.hid HC
    clear hend hnl
    go_enter Tryd.func89, Tryd.ntmps89
    go_wp2_with (go_at_call 100; refine (HC.out _).mono ?_; rintro e w1 ⟨rfl, rfl⟩; rw [show Lib.hasSuffix t.data.toList (⟨#[10]⟩ : ByteArray).data.toList = false from HS2.out])
    rw [HE.out]
    refine bodyPost_ret (v := .tuple #[.agg #[.int .i64 0, .string ⟨#[]⟩], .int .i64 2]) (by simp [results, Tryd.results89, go_sem]) rfl ⟨rfl, ?_⟩
    exact fin_belowV HSET.out HW0.out
  · have hlt : nlAt S k < S.size := by have := nlAt_le (s := S) (k := k) (by omega); omega
    have hend : endAt S k = nlAt S k + 1 := by unfold endAt; rw [if_pos hlt]
    obtain ⟨x, hx⟩ : ∃ x, S.extract k (nlAt S k) = x := ⟨_, rfl⟩
    have hxs : x.size ≤ 262144 := by rw [← hx]; simp; omega
    have hlw := line_whole hk hlt
    rw [hx, ← hend, HTT.out] at hlw
    have HS2 : Hid (Lib.hasSuffix t.data.toList [10] = true) := Lib.hid (by rw [hlw]; exact (suf_yes _).1)
    have HS3 : Hid ((⟨(Lib.trimSuffix t.data.toList [10]).toArray⟩ : ByteArray) = x) := Lib.hid (by rw [hlw, (suf_yes _).2])
    have HE := Lib.hid (show r = rdV out x by rw [← HR.out]; unfold lineV; rw [if_neg (by rw [HM.out]; exact h4), if_neg hnl, hx])
    have HC := fun W => Tryd.strings_CutSuffix t ⟨#[10]⟩ W (by omega)
    have HC := Lib.hid HC
    have HRD : Hid (∀ W, Below w.heap.size w W → Calls Tryd.prog 68 #[.string x, .pointer (some ⟨pb, 0, none⟩), .pointer (some ⟨kb, 0, none⟩)] W fun e w' => okReadV pb kb mb out W (rdV out x) e w') := Lib.hid (fun W hW => readV_any pb kb mb out x W (by omega) (by omega) (HSET.out.below hW))
    have HG : Hid ((((w.alloc (.cells #[.int .i64 0, .string ⟨#[]⟩] 56)).alloc (.cells #[.int .i64 0, .string ⟨#[]⟩] 56))).heap[w.heap.size]? = some (.cells #[.int .i64 0, .string ⟨#[]⟩] 56 (0, 0))) := Lib.hid ((Lib.alloc_old _ _ _ (by simp)).trans (World.alloc_heap_new w _))
    have HLM := Lib.hid HSET.out.lts
    rw [HE.out]
    clear hend hnl hlw hx HE hlt
    cases hrd : rdV out x with
    | inr e =>
      rw [hrd] at HRD
      clear hrd
      go_enter Tryd.func89, Tryd.ntmps89
      go_wp2_with (first
        | (go_at_call 100; refine (HC.out _).mono ?_; rintro e w1 ⟨rfl, rfl⟩; rw [show Lib.hasSuffix t.data.toList (⟨#[10]⟩ : ByteArray).data.toList = true from HS2.out, show (⟨(Lib.trimSuffix t.data.toList (⟨#[10]⟩ : ByteArray).data.toList).toArray⟩ : ByteArray) = x from HS3.out])
        | (go_at_call 68; refine (HRD.out _ HW0.out).mono ?_; rintro e2 w2 ⟨rfl, h2, h3⟩; have hrow := h3.row HG.out (by have := HLM.out; omega) (by have := HLM.out; omega); have z0 := cell_of_row (j := 0) hrow; have z1 := cell_of_row (j := 1) hrow; have zf : ∀ j, w2.frozen? ⟨w.heap.size, j, none⟩ = false := (fun j => by simp [World.frozen?, hrow]); have H2 := Lib.hid h2; have H3 := Lib.hid h3; have HROW := Lib.hid hrow; clear h2 h3 hrow))
      obtain ⟨z0', z1', hf⟩ := fin_boxV (p := 0) (q := ⟨#[]⟩) H2.out ((FrV.of_below HW0.out).trans H3.out) (Nat.le_refl _) HSET.out HROW.out
      have HF := Lib.hid hf
      clear hf
      generalize (w2.setCell ⟨w.heap.size, 0, none⟩ (.int .i64 0)).setCell ⟨w.heap.size, 1, none⟩ (.string ⟨#[]⟩) = W at HF z0' z1' ⊢
      exact bodyPost_ret (v := .tuple #[.agg #[.int .i64 0, .string ⟨#[]⟩], .int .i64 e]) (by simp [results, Tryd.results89, go_sem, z0', z1']) rfl ⟨rfl, HF.out⟩
    | inl p =>
      obtain ⟨p1, p2⟩ := p
      rw [hrd] at HRD
      clear hrd
      go_enter Tryd.func89, Tryd.ntmps89
      go_wp2_with (first
        | (go_at_call 100; refine (HC.out _).mono ?_; rintro e w1 ⟨rfl, rfl⟩; rw [show Lib.hasSuffix t.data.toList (⟨#[10]⟩ : ByteArray).data.toList = true from HS2.out, show (⟨(Lib.trimSuffix t.data.toList (⟨#[10]⟩ : ByteArray).data.toList).toArray⟩ : ByteArray) = x from HS3.out])
        | (go_at_call 68; refine (HRD.out _ HW0.out).mono ?_; rintro e2 w2 ⟨rfl, h2, h3⟩; have hrow := h3.row HG.out (by have := HLM.out; omega) (by have := HLM.out; omega); have z0 := cell_of_row (j := 0) hrow; have z1 := cell_of_row (j := 1) hrow; have zf : ∀ j, w2.frozen? ⟨w.heap.size, j, none⟩ = false := (fun j => by simp [World.frozen?, hrow]); have H2 := Lib.hid h2; have H3 := Lib.hid h3; have HROW := Lib.hid hrow; clear h2 h3 hrow))
      obtain ⟨z0', z1', hf⟩ := fin_boxV (p := (p1 : Nat)) (q := p2) H2.out ((FrV.of_below HW0.out).trans H3.out) (Nat.le_refl _) HSET.out HROW.out
      have HF := Lib.hid hf
      clear hf
      generalize (w2.setCell ⟨w.heap.size, 0, none⟩ (.int .i64 (p1 : Nat))).setCell ⟨w.heap.size, 1, none⟩ (.string p2) = W at HF z0' z1' ⊢
      exact bodyPost_ret (v := .tuple #[.agg #[.int .i64 (p1 : Nat), .string p2], .int .i64 0]) (by simp [results, Tryd.results89, go_sem, z0', z1']) rfl ⟨rfl, HF.out⟩
end Go.Proofs.YtmdhendfmhhniaaDoor
