/- Rules: the lines of a text, collected: plain facts; slices.AppendSeq, Collect, Lines. -/
import Derived.Test.YtlfjlkmikmajaaaRj
import Derived.Test.YtlfjlkmikmajaaaPv
import Derived.Test.YtlfjlkmikmajaaaPp
namespace Go.Proofs.Ytlfjlkmikmajaaa
open Go.RowKit Go.Shelf
attribute [local go_sem] Oper.semAt_some
variable {w w' : World}

/-- The parts' bytes, one behind the other. -/
def catT (L : List ByteArray) : List UInt8 := L.flatMap fun s => s.data.toList
theorem catT_snoc (L : List ByteArray) (x : ByteArray) : catT (L ++ [x]) = catT L ++ x.data.toList := by unfold catT; simp
/-- A part: no newline within it. -/
def OnlyEnd (p : ByteArray) : Prop := 0 < p.size ∧ ∀ j, j + 1 < p.size → ∀ c, p.data.toList[j]? = some c → c ≠ 10
def EndsNl (p : ByteArray) : Prop := p.data.toList[p.size - 1]? = some 10
/-- What stands at the parts of the text up to k. -/
structure LnOk (S : ByteArray) (k : Nat) (out : List ByteArray) : Prop where
  cat : catT out = S.data.toList.take k
  each : ∀ (i : Nat) (p : ByteArray), out[i]? = some p → OnlyEnd p
  inner : ∀ (i : Nat) (p : ByteArray), out[i]? = some p → i + 1 < out.length → EndsNl p
  more : k < S.size → ∀ (i : Nat) (p : ByteArray), out[i]? = some p → EndsNl p
  len : out.length ≤ k
  le : k ≤ S.size
theorem LnOk.nil (S : ByteArray) : LnOk S 0 [] := ⟨rfl, fun i p h => by simp at h, fun i p h => by simp at h, fun _ i p h => by simp at h, Nat.le_refl _, Nat.zero_le _⟩
theorem nl_before {S : ByteArray} {k j : Nat} {c : UInt8} (hj : j < nlAt S k - k) (hc : (S.data.toList.drop k)[j]? = some c) : c ≠ 10 := by
  have hlen : ((S.data.toList.drop k).takeWhile (· != 10)).length = nlAt S k - k := by unfold nlAt; omega
  have hpre := List.prefix_iff_eq_take.1 (List.takeWhile_prefix (l := S.data.toList.drop k) (· != 10))
  have h2 : ((S.data.toList.drop k).takeWhile (· != 10))[j]? = some c := by
    rw [hpre, List.getElem?_take, if_pos (by rw [hlen]; exact hj)]; exact hc
  have := take_all _ _ c (List.mem_of_getElem? h2)
  simpa using this
theorem LnOk.step {S : ByteArray} {k : Nat} {out : List ByteArray} (h : LnOk S k out) (hk : k < S.size) : LnOk S (endAt S k) (out ++ [S.extract k (endAt S k)]) := by
  obtain ⟨h1, h2⟩ := endAt_gt hk
  have hsz : (S.extract k (endAt S k)).size = endAt S k - k := by simp; omega
  have htl : (S.extract k (endAt S k)).data.toList = (S.data.toList.drop k).take (endAt S k - k) := line_toList S k (endAt S k)
  have honly : OnlyEnd (S.extract k (endAt S k)) := ⟨by omega, fun j hj c hc => by
    rw [htl, List.getElem?_take] at hc
    split at hc
    · refine nl_before (k := k) (j := j) ?_ hc
      have : endAt S k ≤ nlAt S k + 1 := by unfold endAt; split <;> have := nlAt_le (s := S) (k := k) (by omega) <;> omega
      omega
    · cases hc⟩
  have hends : endAt S k < S.size → EndsNl (S.extract k (endAt S k)) := fun hlt => by
    have hn : nlAt S k < S.size := by
      unfold endAt at hlt
      split at hlt
      · assumption
      · omega
    have he : endAt S k = nlAt S k + 1 := by unfold endAt; rw [if_pos hn]
    have hw := line_whole hk hn
    unfold EndsNl
    rw [hsz, he, hw]
    have hl : (S.extract k (nlAt S k)).data.toList.length = nlAt S k - k := by rw [size_len]; simp; omega
    have := nlAt_ge S k
    rw [List.getElem?_append_right (by omega), hl, show nlAt S k + 1 - k - 1 - (nlAt S k - k) = 0 by omega]
    rfl
  refine ⟨?_, fun i p hp => ?_, fun i p hp hi => ?_, fun hlt i p hp => ?_, by rw [List.length_append]; have := h.len; simp; omega, h2⟩
  · rw [catT_snoc, h.cat, htl]
    have : (S.data.toList.take (endAt S k)) = (S.data.toList.take (k + (endAt S k - k))) := by rw [show k + (endAt S k - k) = endAt S k by omega]
    rw [this, List.take_add]
  · by_cases hl : i < out.length
    · rw [List.getElem?_append_left hl] at hp; exact h.each i p hp
    · rw [List.getElem?_append_right (by omega)] at hp
      have : i - out.length = 0 := by
        rcases Nat.eq_zero_or_pos (i - out.length) with h0 | h0
        · exact h0
        · rw [List.getElem?_cons, if_neg (by omega)] at hp; simp at hp
      rw [this] at hp
      have := Option.some.inj hp
      subst this; exact honly
  · rw [List.length_append] at hi
    have hl : i < out.length := by simp at hi; omega
    rw [List.getElem?_append_left hl] at hp
    exact h.more hk i p hp
  · by_cases hl : i < out.length
    · rw [List.getElem?_append_left hl] at hp; exact h.more hk i p hp
    · rw [List.getElem?_append_right (by omega)] at hp
      have : i - out.length = 0 := by
        rcases Nat.eq_zero_or_pos (i - out.length) with h0 | h0
        · exact h0
        · rw [List.getElem?_cons, if_neg (by omega)] at hp; simp at hp
      rw [this] at hp
      have := Option.some.inj hp
      subst this; exact hends hlt
def strV (P : List ByteArray) : List Value := P.map Value.string
theorem strV_snoc (P : List ByteArray) (x : ByteArray) : strV (P ++ [x]) = strV P ++ [.string x] := by unfold strV; simp
theorem own_strs {B : Nat} {v : Value} {P : List ByteArray} (h : w.ownsRow B 9 1 v P.length (strV P)) : ∃ o cap, v = .slice o P.length cap ∧ StAt w o P := by
  rcases h.2 with ⟨h1, h2⟩ | ⟨g, cap, cur, h1, _, hg, hn, _, hz, ht⟩
  · exact ⟨none, 0, by rw [h1, h2], fun k s hk => by have := (List.getElem?_eq_some_iff.1 hk).1; omega⟩
  · refine ⟨some ⟨g, 0, none⟩, cap, h1, fun k s hk => ⟨g, cur, rfl, hg, ?_⟩⟩
    have hkl := (List.getElem?_eq_some_iff.1 hk).1
    have h3 : (strV P)[k]? = some (.string s) := by unfold strV; rw [List.getElem?_map, hk]; rfl
    rw [← ht, List.getElem?_take, if_pos (by omega), Array.getElem?_toList] at h3
    exact h3
theorem info_str : (Try.prog.info? 9).map (fun i => (i.zero, i.size, i.bytes)) = some (some (.string ⟨#[]⟩), 1, 16) := by kernel_rfl
structure AqI (Bn b D : Nat) (S : ByteArray) (w : World) (out : List ByteArray) (k : Nat) (W : World) : Prop where
  bx : ∃ v, Boxed W b 40 v ∧ W.ownsRow (D + 2) 9 1 v out.length (strV out)
  fr : FrM Bn w W
  ok : LnOk S k out
theorem AqI.stab {Bn b D : Nat} {S : ByteArray} {w : World} {k : Nat} (hb : b = w.heap.size) (hD : D = w.heap.size + 1) (hB : Bn < w.heap.size) : Stab Bn D (fun W => ∃ out, AqI Bn b D S w out k W) := by
  rintro W W' ⟨out, h⟩ hl hs hk
  obtain ⟨v, hv, hr⟩ := h.bx
  refine ⟨out, ⟨v, boxed_same hv (hk _ hv.lt (by omega) (by omega) (by omega)), ?_⟩, h.fr.more hl hs (fun j hj hjb => hk j (Nat.lt_of_lt_of_le hj h.fr.size) hjb (by omega) (by omega)), h.ok⟩
  refine ⟨hr.1, ?_⟩
  rcases hr.2 with h1 | ⟨g, cap, cur, h1, h2, h3, h4⟩
  · exact .inl h1
  · exact .inr ⟨g, cap, cur, h1, h2, (hk g (lt_of_some h3) (by omega) (by omega) (by omega)).trans h3, h4⟩
/-- A part more. -/
theorem aq_more {Bn b D : Nat} {S : ByteArray} {w W W4 : World} {out : List ByteArray} {k : Nat} {v v' : Value} {tmp : Obj} (hb : b = w.heap.size) (hD : D = w.heap.size + 1) (hB : Bn < w.heap.size) (hk : k < S.size) (hL : AqI Bn b D S w out k W) (hbox : Boxed W b 40 v) (hrow : W.ownsRow (D + 2) 9 1 v out.length (strV out)) (hDW : D + 1 < W.heap.size)
    (hown : W4.ownsRow (D + 2) 9 1 v' (out.length + 1) (strV out ++ [.string (S.extract k (endAt S k))])) (hg : (W.alloc tmp).grownBy W4 v.ownBlock) :
    Boxed W4 b 40 v ∧ ∀ Wf, Wf = W4.setCell ⟨b, 0, none⟩ v' → (∀ j, j = Bn ∨ j = D ∨ j = D + 1 → Wf.heap[j]? = W.heap[j]?) ∧ W.heap.size ≤ Wf.heap.size ∧ ∃ out, AqI Bn b D S w out (endAt S k) Wf := by
  have nb : ∀ j, j < D + 2 → some j ≠ v.ownBlock := fun j hj e => by have := own_base hrow j e.symm; omega
  have e14 : ∀ j, j < D + 2 → j < W.heap.size → W4.heap[j]? = W.heap[j]? := fun j h1 h2 => (hg.block j (by simp; omega) (nb j h1)).trans (Lib.alloc_old _ _ _ h2)
  have s14 : W.heap.size ≤ W4.heap.size := Nat.le_trans (by simp) hg.size
  have b4 : Boxed W4 b 40 v := boxed_same hbox (e14 _ (by omega) hbox.lt)
  refine ⟨b4, ?_⟩
  rintro Wf rfl
  have eF : ∀ j, j ≠ b → (W4.setCell ⟨b, 0, none⟩ v').heap[j]? = W4.heap[j]? := fun j h => Below.heap_setCell W4 ⟨b, 0, none⟩ v' j h
  have hbW := hbox.lt
  refine ⟨fun j hj => (eF j (by omega)).trans (e14 j (by omega) (by omega)), by simp; omega, out ++ [S.extract k (endAt S k)], ⟨v', b4.set _, ?_⟩, ?_, hL.ok.step hk⟩
  · rw [List.length_append, strV_snoc]
    exact hown.kept (grownBy_setCell' W4 _ v') (.inr (fun e => by have := own_base hown _ e; omega))
  · have lo : Below 0 W W4 := ((Below.refl 0 W).alloc (Nat.zero_le _) tmp).grown hg (Nat.zero_le _) (fun _ _ => Nat.zero_le _)
    exact hL.fr.more (lo.trans ((Below.refl 0 W4).setCell (p := ⟨b, 0, none⟩) (Nat.zero_le _) v')) (by simp; omega) (fun j hj hjb => (eF j (by omega)).trans (e14 j (by omega) (Nat.lt_of_lt_of_le hj hL.fr.size)))
theorem cell_one_new (w : World) (t : TypeId) (a : Value) : ∀ (j : Nat) (u : Value), [a][j]? = some u → (w.alloc (.cells #[a] t)).cell? ((⟨w.heap.size, 0, none⟩ : Addr).add j) = some u := fun j u h => by
  have hg : (w.alloc (.cells #[a] t)).heap[w.heap.size]? = some (.cells #[a] t (0, 0)) := World.alloc_heap_new w _
  rw [addr_at, cell_of_row hg]
  match j, h with
  | 0, h => exact h
theorem one_mem {a : ByteArray} : ∀ u ∈ [Value.string a], u.oneCell' = true := by
  intro u hu; simp at hu; subst hu; rfl
set_option maxHeartbeats 2000000 in
set_option maxRecDepth 100000 in
theorem appendSeq_any (Bn : Nat) (S : ByteArray) (w : World) (hS : S.size ≤ 262144) (hB : w.cell? ⟨Bn, 0, none⟩ = some (.string S)) (hf : w.frozen? ⟨Bn, 0, none⟩ = false) :
    Calls Try.prog 55 #[.slice none 0 0, .func (.func 56) #[] #[.pointer (some ⟨Bn, 0, none⟩)]] w fun e w' =>
      ∃ v out, e = .returned v ∧ w'.ownsRow w.heap.size 9 1 v out.length (strV out) ∧ LnOk S S.size out ∧ FrM Bn w w' := by
  refine callsIn_wide.1 (?_ : CallsIn Fence.wide 5 _ _ _ _ _)
  refine callsIn_of_wp_marks Try.func55 rfl trivial ?_ rfl
  simp only [Try.ntmps55, List.size_toArray, List.length_cons, List.length_nil, Nat.reduceAdd, Nat.reduceSub, Array.replicate_succ, Array.replicate_zero, List.push_toArray, List.append_toArray, List.nil_append, List.cons_append]
  have hBl : Bn < w.heap.size := World.block_lt_of_cell? w _ hB
  have HB0 := Lib.hid ((Below.refl w.heap.size w).alloc (Nat.le_refl _) (.cells #[.slice none 0 0] 40))
  have HX0 := Lib.hid (Boxed.new w 40 (.slice none 0 0))
  have HC := Lib.hid hB; have HF := Lib.hid hf
  clear hB hf
  gi_wp2
  have HSZ : Hid ((w.alloc (.cells #[.slice none 0 0] 40)).heap.size = w.heap.size + 1) := Lib.hid (by simp)
  have hB5 : (w.alloc (.cells #[.slice none 0 0] 40)).cell? ⟨Bn, 0, none⟩ = some (.string S) := (HB0.out.cell (p := ⟨Bn, 0, none⟩) hBl).trans HC.out
  have hf5 : (w.alloc (.cells #[.slice none 0 0] 40)).frozen? ⟨Bn, 0, none⟩ = false := (HB0.out.frozen (p := ⟨Bn, 0, none⟩) hBl).trans HF.out
  have H0 : Hid (∃ out, AqI Bn w.heap.size (w.heap.size + 1) S w out 0 (w.alloc (.cells #[.slice none 0 0] 40))) := Lib.hid ⟨[], ⟨_, HX0.out, World.ownsRow_nil _ _ _ _⟩, FrM.of_below HB0.out, LnOk.nil S⟩
  generalize w.alloc (.cells #[.slice none 0 0] 40) = w5 at HSZ hB5 hf5 H0 ⊢
  refine range_lines (w := w5) (n := 5) (by omega) Bn S (by omega) rfl rfl hB5 hf5
    (fun k W => ∃ out, AqI Bn w.heap.size w5.heap.size S w out k W) (fun _ _ => False) (fun k => AqI.stab rfl HSZ.out hBl) (fun c => fun _ _ h => h.elim) (HSZ.out ▸ H0.out)
    (fun k => { tmps := #[.slice none 0 0, .func (.func 56) #[] #[.pointer (some ⟨Bn, 0, none⟩)], .pointer (some ⟨w.heap.size, 0, none⟩), undef, .slice none 0 0, .string (S.extract k (endAt S k)), .func (.func 56) #[] #[.pointer (some ⟨Bn, 0, none⟩)], .string (S.extract k (endAt S k)), undef, undef, undef, undef, undef], defers := [] }) ?assign ?body ?done ?stop
  case assign =>
    intro l k W K hK
    gi_wp2
    exact hK
  case body =>
    rintro l k W hks ⟨out, hL⟩ hDW
    obtain ⟨v, hv, hr⟩ := hL.bx
    obtain ⟨o, cap, rfl, _⟩ := own_strs hr
    have c2 := hv.cell
    have hle := hL.ok.len
    have hle2 := hL.ok.le
    obtain ⟨m, hm'⟩ : ∃ m, out.length = m := ⟨_, rfl⟩
    have HOL := Lib.hid hm'
    have HL := Lib.hid hL; have HV := Lib.hid hv; have HR := Lib.hid hr
    obtain ⟨i1, hi1, hz0, hz1, hz2⟩ := info_parts info_str
    have HI1 := Lib.hid hi1; have HZ0 := Lib.hid hz0; have HZ1 := Lib.hid hz1; have HZ2 := Lib.hid hz2
    rw [hm'] at c2 HR HV hle
    have hm5 : m ≤ 262144 := by omega
    clear hL hv hr hm' hi1 hz0 hz1 hz2
    gi_wp2_with (gi_at_builtin; refine wpListIn_append_own _ rfl _ _ 40 rfl (w5.heap.size + 2) 9 i1 (.string ⟨#[]⟩) 1 16 Try.underlying40 HI1.out HZ0.out HZ1.out HZ2.out rfl (by decide) _ _ _ rfl (HR.out.alloc _) ⟨W.heap.size, 0, none⟩ 1 1 [.string (S.extract k (endAt S k))] rfl rfl (cell_one_new _ _ _) one_mem (by unfold maxLen; omega) (by omega) (by simp; omega) ?_; intro v' W4 hown hgrow _; obtain ⟨b4, hfin⟩ := aq_more rfl HSZ.out hBl hks HL.out (HOL.out ▸ HV.out) (HOL.out ▸ HR.out) hDW (HOL.out ▸ hown) hgrow; have z7 := b4.cell; have y7 := b4.frozen; have HFIN := Lib.hid (hfin _ rfl); obtain ⟨g', cap', rfl⟩ := ownsRow_succ hown; clear hown hgrow b4 hfin)
    exact HFIN.out
  case done =>
    rintro W ⟨out, hL⟩ hD
    obtain ⟨v, hv, hr⟩ := hL.bx
    have c2 := hv.cell
    have HR := Lib.hid hr; have HL := Lib.hid hL; have HD := Lib.hid hD
    clear hr hL hD hv
    gi_wp2
    refine ⟨by simp, .inl ⟨_, _, rfl, run_takeDeferred HD.out, ?_⟩⟩
    have hz : (W.putObj w5.heap.size (.deferred none)).ownsRow w.heap.size 9 1 v out.length (strV out) := own_lower (HR.out.kept (grownBy_putObj' W _ _) (.inr (fun e => by have := own_base HR.out _ e; omega))) (by have := HSZ.out; omega)
    have hzf : FrM Bn w (W.putObj w5.heap.size (.deferred none)) := HL.out.fr.more (put_low W _ _) (by simp) (fun j hj _ => put_other W _ (by have := HSZ.out; omega))
    exact ⟨v, by simp [results, Try.results55, go_sem], v, out, rfl, hz, HL.out.ok, hzf⟩
  case stop =>
    rintro W h _
    exact h.elim
set_option maxHeartbeats 1000000 in
theorem Collect_any (Bn : Nat) (S : ByteArray) (w : World) (hS : S.size ≤ 262144) (hB : w.cell? ⟨Bn, 0, none⟩ = some (.string S)) (hf : w.frozen? ⟨Bn, 0, none⟩ = false) :
    Calls Try.prog 42 #[.func (.func 56) #[] #[.pointer (some ⟨Bn, 0, none⟩)]] w fun e w' =>
      ∃ v out, e = .returned v ∧ w'.ownsRow w.heap.size 9 1 v out.length (strV out) ∧ LnOk S S.size out ∧ FrM Bn w w' := by
  have HA := Lib.hid (appendSeq_any Bn S w hS hB hf)
  clear hB hf
  go_enter Try.func42, Try.ntmps42
  go_wp2_with (go_at_call 55; refine HA.out.mono ?_)
  first | rintro e w1 ⟨v, out, rfl, h1, h2, h3⟩ | rintro e w1 v out rfl h1 h2 h3
  have H1 := Lib.hid h1; have H2 := Lib.hid h2; have H3 := Lib.hid h3
  clear h1 h2 h3
  go_wp2_with fail
  exact bodyPost_ret (v := v) (by simp [results, Try.results42, go_sem]) rfl ⟨v, out, rfl, H1.out, H2.out, H3.out⟩
set_option maxHeartbeats 1000000 in
theorem LinesT_any (S : ByteArray) (w : World) (hS : S.size ≤ 262144) :
    Calls Try.prog 22 #[.string S] w fun e w' => ∃ o cap out, e = .returned (.slice o out.length cap) ∧ StAt w' o out ∧ LnOk S S.size out ∧ Below w.heap.size w w' := by
  have hB : (w.alloc (.cells #[.string S] 9)).cell? ⟨w.heap.size, 0, none⟩ = some (.string S) := cell_of_row (World.alloc_heap_new w _)
  have hf : (w.alloc (.cells #[.string S] 9)).frozen? ⟨w.heap.size, 0, none⟩ = false := Boxed.frozen (Boxed.new w 9 (.string S))
  have HA := Lib.hid (Collect_any w.heap.size S _ hS hB hf)
  have HB := Lib.hid ((Below.refl w.heap.size w).alloc (Nat.le_refl _) (.cells #[.string S] 9))
  clear hB hf
  go_enter Try.func22, Try.ntmps22
  go_wp2_with (first | (go_at_call 43; refine (Lines_any S _).mono ?_; rintro e w1 ⟨rfl, rfl⟩) | (go_at_call 42; refine HA.out.mono ?_))
  first | rintro e w1 ⟨v, out, rfl, h1, h2, h3⟩ | rintro e w1 v out rfl h1 h2 h3
  have H2 := Lib.hid h2; have H3 := Lib.hid (HB.out.trans (h3.below (Nat.le_refl _) HB.out.size))
  obtain ⟨o, cap, rfl, hst⟩ := own_strs h1
  have H1 := Lib.hid hst
  clear h1 h2 h3 hst
  go_wp2_with fail
  exact bodyPost_ret (v := .slice o out.length cap) (by simp [results, Try.results22, go_sem]) rfl ⟨o, cap, out, rfl, H1.out, H2.out, H3.out⟩
end Go.Proofs.Ytlfjlkmikmajaaa
