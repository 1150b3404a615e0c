/- Merges: lines.next. -/
import Derived.Test.YtmdhendfmhhniaaDoorPr
namespace Go.Proofs.YtmdhendfmhhniaaDoor
open Go.RowKit Go.Maps
variable {w w' : World}

def lineR (out : List PairB) (S : ByteArray) (k : Nat) : PairB ⊕ Int := if 4096 ≤ out.length then .inr 6 else if nlAt S k = S.size then .inr 2 else rdM out (S.extract k (nlAt S k))
theorem restM_step {out : List PairB} {S : ByteArray} {k : Nat} (h : k < S.size) : restF rdM S k out = match lineR out S k with
    | .inr e => ([], (out.length : Int) + 1, e)
    | .inl x => restF rdM S (nlAt S k + 1) (out ++ [x]) := by
  rw [restF_step rdM out h]
  unfold lineR
  by_cases h1 : 4096 ≤ out.length
  · rw [if_pos h1, if_pos h1]
  · rw [if_neg h1, if_neg h1]
    by_cases h2 : nlAt S k = S.size
    · rw [if_pos h2, if_pos h2]
    · rw [if_neg h2, if_neg h2]
      cases rdM out (S.extract k (nlAt S k)) <;> rfl
theorem suf_yes (l : List UInt8) : Lib.hasSuffix (l ++ [10]) [10] = true ∧ Lib.trimSuffix (l ++ [10]) [10] = l := by
  have h : Lib.hasSuffix (l ++ [10]) [10] = true := by unfold Lib.hasSuffix; rw [List.isSuffixOf_iff_suffix]; exact List.suffix_append _ _
  refine ⟨h, ?_⟩
  unfold Lib.trimSuffix
  rw [if_pos h]
  simp
theorem suf_no (l : List UInt8) (h : ∀ b ∈ l, b ≠ 10) : Lib.hasSuffix l [10] = false := by
  unfold Lib.hasSuffix
  cases hc : List.isSuffixOf [10] l with
  | false => rfl
  | true =>
    rw [List.isSuffixOf_iff_suffix] at hc
    obtain ⟨t, ht⟩ := hc
    exact absurd rfl (h 10 (by rw [← ht]; simp))
theorem take_all (l : List UInt8) (f : UInt8 → Bool) : ∀ b ∈ l.takeWhile f, f b = true := by
  induction l with
  | nil => intro b hb; cases hb
  | cons x r ih =>
    intro b hb
    rw [List.takeWhile_cons] at hb
    split at hb
    · rcases List.mem_cons.1 hb with rfl | hb
      · assumption
      · exact ih b hb
    · cases hb
theorem line_toList (S : ByteArray) (a b : Nat) : (S.extract a b).data.toList = (S.data.toList.drop a).take (b - a) := by
  rw [ByteArray.data_extract, Array.toList_extract, List.extract_eq_take_drop]
/-- A line with its newline. -/
theorem line_whole {S : ByteArray} {k : Nat} (hk : k < S.size) (h : nlAt S k < S.size) : (S.extract k (nlAt S k + 1)).data.toList = (S.extract k (nlAt S k)).data.toList ++ [10] := by
  have hge := nlAt_ge S k
  have h10 : S[nlAt S k] = 10 := by
    have : ∀ (d k : Nat) (hk : k ≤ S.size), S.size - k = d → ∀ hh : nlAt S k < S.size, S[nlAt S k] = 10 := by
      intro d
      induction d with
      | zero => intro k hk hd hh; have := nlAt_ge S k; omega
      | succ d ih =>
        intro k hk hd hh
        have hks : k < S.size := by omega
        by_cases e : S[k] = 10
        · have := nlAt_hit hks e
          simp only [this]; exact e
        · have := nlAt_miss hks e
          have h2 : nlAt S (k + 1) < S.size := by omega
          have := ih (k + 1) (by omega) (by omega) h2
          simp only [nlAt_miss hks e] at this
          exact this
    exact this _ k (by omega) rfl h
  rw [line_toList, line_toList, show nlAt S k + 1 - k = (nlAt S k - k) + 1 by omega, List.take_add_one]
  congr 1
  rw [List.getElem?_drop, show k + (nlAt S k - k) = nlAt S k by omega, List.getElem?_eq_getElem (by rw [size_len]; exact h)]
  show [S.data.toList[nlAt S k]] = [10]
  congr 1
theorem line_part {S : ByteArray} {k : Nat} (h : nlAt S k = S.size) (hk : k ≤ S.size) : ∀ b ∈ (S.extract k S.size).data.toList, b ≠ 10 := by
  rw [ext_drop]
  have hl : ((S.data.toList.drop k).takeWhile (· != 10)).length = (S.data.toList.drop k).length := by
    rw [List.length_drop, size_len]; unfold nlAt at h; omega
  have he : (S.data.toList.drop k).takeWhile (· != 10) = S.data.toList.drop k := (List.takeWhile_prefix _).eq_of_length hl
  intro b hb
  rw [← he] at hb
  simpa using take_all _ _ b hb
theorem FrM.row {b r : Nat} {cs : Array Value} {t : TypeId} (h : FrM b w w') (hr : w.heap[r]? = some (.cells cs t (0, 0))) (hne : r ≠ b) : w'.heap[r]? = some (.cells cs t (0, 0)) := (h.block r (lt_of_some hr) hne).trans hr
theorem fin_box {bm n r : Nat} {out : List PairB} {w2 : World} {a b p q : ByteArray} (h2 : IsSet bm n out w2) (h3 : FrM bm w w2) (hr : w.heap.size ≤ r) (hrow : w2.heap[r]? = some (.cells #[.string a, .string b] 48 (0, 0))) :
    ((w2.setCell ⟨r, 0, none⟩ (.string p)).setCell ⟨r, 1, none⟩ (.string q)).cell? ⟨r, 0, none⟩ = some (.string p) ∧ ((w2.setCell ⟨r, 0, none⟩ (.string p)).setCell ⟨r, 1, none⟩ (.string q)).cell? ⟨r, 1, none⟩ = some (.string q) ∧
    IsSet bm n out ((w2.setCell ⟨r, 0, none⟩ (.string p)).setCell ⟨r, 1, none⟩ (.string q)) ∧ FrM bm w ((w2.setCell ⟨r, 0, none⟩ (.string p)).setCell ⟨r, 1, none⟩ (.string q)) := by
  have hne : bm ≠ r := by
    obtain ⟨D, ⟨es, ck, hmm, _⟩, _⟩ := h2
    intro e
    rw [e, hrow] at hmm; cases hmm
  have hw := heap_set (i := 1) (.string q) (heap_set (i := 0) (.string p) hrow)
  have hb := ((Below.refl w.heap.size w2).setCell (p := ⟨r, 0, none⟩) hr (.string p)).setCell (p := ⟨r, 1, none⟩) hr (.string q)
  exact ⟨cell_of_row hw, cell_of_row hw, h2.keep ((Below.heap_setCell _ ⟨r, 1, none⟩ _ _ hne).trans (Below.heap_setCell _ ⟨r, 0, none⟩ _ _ hne)),
    ⟨h3.low.trans (hb.mono (Nat.zero_le _)), Nat.le_trans h3.size hb.size, fun k hk hkb => (hb.block k hk).trans (h3.block k hk hkb)⟩⟩
set_option maxHeartbeats 2000000 in
set_option maxRecDepth 100000 in
theorem next_any (bk bm n : Nat) (out : List PairB) (S : ByteArray) (k : Nat) (w : World) (hS : S.size ≤ 262144) (hk : k < S.size) (hb : w.cell? ⟨bk, 0, none⟩ = some (.map (some bm))) (hset : IsSet bm n out w) (hn : n ≤ 5000) (_ : bk ≠ bm) :
    Calls Tryd.prog 102 #[.int .i64 (out.length : Nat), .string (S.extract k (endAt S k)), .func (.func 88) #[] #[.pointer (some ⟨bk, 0, none⟩)]] w fun e w' => okRead bm n out w (lineR out S k) e w' := by
  have hbk := World.block_lt_of_cell? w _ hb
  have HSET := Lib.hid hset
  obtain ⟨r, hr⟩ : ∃ r, lineR out S k = r := ⟨_, rfl⟩
  obtain ⟨m, hm⟩ : ∃ m, out.length = m := ⟨_, rfl⟩
  obtain ⟨t, ht⟩ : ∃ t, S.extract k (endAt S k) = t := ⟨_, rfl⟩
  have hts : t.size ≤ 262144 := by rw [← ht]; simp; omega
  rw [hr, hm, ht]
  have hw0 : Below w.heap.size w ((w.alloc (.cells #[.string ⟨#[]⟩, .string ⟨#[]⟩] 48)).alloc (.cells #[.string ⟨#[]⟩, .string ⟨#[]⟩] 48)) := ((Below.refl _ _).alloc (Nat.le_refl _) _).alloc (by simp) _
  have HW0 := Lib.hid hw0
  have HR := Lib.hid hr; have HM := Lib.hid hm; have HTT := Lib.hid ht
  clear hr hm ht hw0 hset
  by_cases h4 : 4096 ≤ m
  · have HE := Lib.hid (show r = .inr 6 by rw [← HR.out]; unfold lineR; rw [if_pos (by rw [HM.out]; exact h4)])
    have h4i : (4096 : Int) ≤ m := by omega
    go_enter Tryd.func102, Tryd.ntmps102
    go_wp2_with fail
    rw [HE.out]
    refine bodyPost_ret (v := .tuple #[.agg #[.string ⟨#[]⟩, .string ⟨#[]⟩], .int .i64 6]) (by simp [results, Tryd.results102, go_sem]) rfl ⟨rfl, ?_⟩
    exact fin_below HSET.out HW0.out
  have h4i : (m : Int) < 4096 := by omega
  by_cases hnl : nlAt S k = S.size
  · have HE := Lib.hid (show r = .inr 2 by rw [← HR.out]; unfold lineR; rw [if_neg (by rw [HM.out]; exact h4), if_pos hnl])
    have hend : endAt S k = S.size := by unfold endAt; rw [if_neg (by omega)]
    have HS2 : Hid (Lib.hasSuffix t.data.toList [10] = false) := Lib.hid (by rw [← HTT.out, hend]; exact suf_no _ (line_part hnl (by omega)))
    have HC := fun W => Tryd.strings_CutSuffix t ⟨#[10]⟩ W (by omega)
    have HC := Lib.hid HC
    clear hend hnl
    go_enter Tryd.func102, Tryd.ntmps102
    go_wp2_with (go_at_call 100; refine (HC.out _).mono ?_; rintro e w1 ⟨rfl, rfl⟩; rw [show Lib.hasSuffix t.data.toList (⟨#[10]⟩ : ByteArray).data.toList = false from HS2.out])
    rw [HE.out]
    refine bodyPost_ret (v := .tuple #[.agg #[.string ⟨#[]⟩, .string ⟨#[]⟩], .int .i64 2]) (by simp [results, Tryd.results102, go_sem]) rfl ⟨rfl, ?_⟩
    exact fin_below HSET.out HW0.out
  · have hlt : nlAt S k < S.size := by have := nlAt_le (s := S) (k := k) (by omega); omega
    have hend : endAt S k = nlAt S k + 1 := by unfold endAt; rw [if_pos hlt]
    obtain ⟨x, hx⟩ : ∃ x, S.extract k (nlAt S k) = x := ⟨_, rfl⟩
    have hxs : x.size ≤ 262144 := by rw [← hx]; simp; omega
    have hlw := line_whole hk hlt
    rw [hx, ← hend, HTT.out] at hlw
    have HS2 : Hid (Lib.hasSuffix t.data.toList [10] = true) := Lib.hid (by rw [hlw]; exact (suf_yes _).1)
    have HS3 : Hid ((⟨(Lib.trimSuffix t.data.toList [10]).toArray⟩ : ByteArray) = x) := Lib.hid (by rw [hlw, (suf_yes _).2])
    have HE := Lib.hid (show r = rdM out x by rw [← HR.out]; unfold lineR; rw [if_neg (by rw [HM.out]; exact h4), if_neg hnl, hx])
    have HC := fun W => Tryd.strings_CutSuffix t ⟨#[10]⟩ W (by omega)
    have HC := Lib.hid HC
    have HRD : Hid (∀ W, Below w.heap.size w W → Calls Tryd.prog 88 #[.string x, .pointer (some ⟨bk, 0, none⟩)] W fun e w' => okRead bm n out W (rdM out x) e w') := Lib.hid (fun W hW => read_any bk bm n out x W (by unfold maxLen; omega) ((hW.cell (p := ⟨bk, 0, none⟩) hbk).trans hb) (HSET.out.below hW) hn)
    have HG : Hid ((((w.alloc (.cells #[.string ⟨#[]⟩, .string ⟨#[]⟩] 48)).alloc (.cells #[.string ⟨#[]⟩, .string ⟨#[]⟩] 48))).heap[w.heap.size]? = some (.cells #[.string ⟨#[]⟩, .string ⟨#[]⟩] 48 (0, 0))) := Lib.hid ((Lib.alloc_old _ _ _ (by simp)).trans (World.alloc_heap_new w _))
    have HLM := Lib.hid HSET.out.lt
    rw [HE.out]
    clear hend hnl hlw hx HE hlt
    cases hrd : rdM out x with
    | inr e =>
      rw [hrd] at HRD
      clear hrd
      go_enter Tryd.func102, Tryd.ntmps102
      go_wp2_with (first
        | (go_at_call 100; refine (HC.out _).mono ?_; rintro e w1 ⟨rfl, rfl⟩; rw [show Lib.hasSuffix t.data.toList (⟨#[10]⟩ : ByteArray).data.toList = true from HS2.out, show (⟨(Lib.trimSuffix t.data.toList (⟨#[10]⟩ : ByteArray).data.toList).toArray⟩ : ByteArray) = x from HS3.out])
        | (go_at_call 88; refine (HRD.out _ HW0.out).mono ?_; rintro e2 w2 ⟨rfl, h2, h3⟩; have hrow := h3.row HG.out (by have := HLM.out; omega); have z0 := cell_of_row (j := 0) hrow; have z1 := cell_of_row (j := 1) hrow; have zf : ∀ j, w2.frozen? ⟨w.heap.size, j, none⟩ = false := (fun j => by simp [World.frozen?, hrow]); have H2 := Lib.hid h2; have H3 := Lib.hid h3; have HROW := Lib.hid hrow; clear h2 h3 hrow))
      obtain ⟨z0', z1', hf⟩ := fin_box (p := ⟨#[]⟩) (q := ⟨#[]⟩) H2.out ((FrM.of_below HW0.out).trans H3.out) (Nat.le_refl _) HROW.out
      have HF := Lib.hid hf
      clear hf
      generalize (w2.setCell ⟨w.heap.size, 0, none⟩ (.string ⟨#[]⟩)).setCell ⟨w.heap.size, 1, none⟩ (.string ⟨#[]⟩) = W at HF z0' z1' ⊢
      exact bodyPost_ret (v := .tuple #[.agg #[.string ⟨#[]⟩, .string ⟨#[]⟩], .int .i64 e]) (by simp [results, Tryd.results102, go_sem, z0', z1']) rfl ⟨rfl, HF.out⟩
    | inl p =>
      obtain ⟨p1, p2⟩ := p
      rw [hrd] at HRD
      clear hrd
      go_enter Tryd.func102, Tryd.ntmps102
      go_wp2_with (first
        | (go_at_call 100; refine (HC.out _).mono ?_; rintro e w1 ⟨rfl, rfl⟩; rw [show Lib.hasSuffix t.data.toList (⟨#[10]⟩ : ByteArray).data.toList = true from HS2.out, show (⟨(Lib.trimSuffix t.data.toList (⟨#[10]⟩ : ByteArray).data.toList).toArray⟩ : ByteArray) = x from HS3.out])
        | (go_at_call 88; refine (HRD.out _ HW0.out).mono ?_; rintro e2 w2 ⟨rfl, h2, h3⟩; have hrow := h3.row HG.out (by have := HLM.out; omega); have z0 := cell_of_row (j := 0) hrow; have z1 := cell_of_row (j := 1) hrow; have zf : ∀ j, w2.frozen? ⟨w.heap.size, j, none⟩ = false := (fun j => by simp [World.frozen?, hrow]); have H2 := Lib.hid h2; have H3 := Lib.hid h3; have HROW := Lib.hid hrow; clear h2 h3 hrow))
      obtain ⟨z0', z1', hf⟩ := fin_box (p := p1) (q := p2) H2.out ((FrM.of_below HW0.out).trans H3.out) (Nat.le_refl _) HROW.out
      have HF := Lib.hid hf
      clear hf
      generalize (w2.setCell ⟨w.heap.size, 0, none⟩ (.string p1)).setCell ⟨w.heap.size, 1, none⟩ (.string p2) = W at HF z0' z1' ⊢
      exact bodyPost_ret (v := .tuple #[.agg #[.string p1, .string p2], .int .i64 0]) (by simp [results, Tryd.results102, go_sem, z0', z1']) rfl ⟨rfl, HF.out⟩
end Go.Proofs.YtmdhendfmhhniaaDoor
