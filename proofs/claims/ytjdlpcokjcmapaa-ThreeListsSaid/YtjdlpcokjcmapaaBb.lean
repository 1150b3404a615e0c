/- Three lists: the document's In, Twice; sets of items. -/
import Derived.Test.YtjdlpcokjcmapaaBa
set_option linter.unusedVariables false
set_option linter.unusedSimpArgs false
namespace Go.Proofs.Ytjdlpcokjcmapaa
open Go.RowKit Go.Maps Go.WideShapes
variable {w w' : World}

theorem in_iff (l : List ByteArray) (s : ByteArray) : inB l s = true ↔ s ∈ l := by
  unfold inB; rw [List.any_eq_true]
  constructor
  · rintro ⟨x, hx, h⟩; rw [← of_decide_eq_true h]; exact hx
  · intro h; exact ⟨s, h, decide_eq_true rfl⟩
theorem in_take {l : List ByteArray} {k : Nat} {s : ByteArray} (h : l[k]? = some s) : inB l s = true := (in_iff l s).2 (List.mem_of_getElem? h)
set_option maxHeartbeats 1000000 in
set_option maxRecDepth 100000 in
theorem In_any (o : Option Addr) (l : List ByteArray) (c : Nat) (s : ByteArray) (w : World) (hl : l.length ≤ maxLen) (h : TxAt w o l) :
    Calls Try.prog 25 #[.slice o l.length c, .string s] w fun e w' => e = .returned (.bool (inB l s)) ∧ w' = w := by
  obtain ⟨n, hn⟩ : ∃ n, l.length = n := ⟨_, rfl⟩
  have HN := Lib.hid hn; have HL := Lib.hid h
  rw [hn] at hl ⊢
  unfold maxLen at hl
  clear hn h
  go_enter Try.func25, Try.ntmps25
  go_wp2_with fail
  go_loopw [5] (fun i wr => ∃ k : Nat, k ≤ n ∧ i = .int .i64 k ∧ inB (l.take k) s = false ∧ wr = w) (fun i _ => n - (intOf i).toNat)
  case atStart => exact ⟨0, Nat.zero_le _, rfl, rfl, rfl⟩
  case round =>
    obtain ⟨k, hk, rfl, hT, rfl⟩ := hrel
    have HT := Lib.hid hT
    clear hT
    by_cases hlt : k < n
    · obtain ⟨x, hx⟩ : ∃ p, l[k]? = some p := ⟨_, List.getElem?_eq_getElem (by rw [HN.out]; omega)⟩
      obtain ⟨_, b0, i0, ho, c0⟩ := tx_at HL.out hx
      subst ho
      have HX := Lib.hid hx
      have hki : (k : Int) < n := by omega
      clear hx
      by_cases he : x = s
      · subst he
        have HE := Lib.hid (in_take HX.out)
        go_wp2_with fail
        go_ret
        exact ⟨ret_bool HE.out.symm, rfl⟩
      · have hne : (x.toList == s.toList) = false := by rw [beq_eq_false_iff_ne]; exact fun e => he (toL_inj e)
        have HE : Hid (decide (x = s) = false) := Lib.hid (decide_eq_false he)
        clear he
        go_wp2_with fail
        go_roundw
        case rel => exact ⟨k + 1, hlt, by go_num, by rw [take_get HX.out, inB_snoc, HT.out, HE.out]; rfl, by first | trivial | rfl⟩
        case measure => simp [intOf]; omega
    · obtain rfl : k = n := by omega
      have HE : Hid (inB l s = false) := Lib.hid (by
        have h := HT.out
        rw [List.take_of_length_le (by rw [HN.out]; exact Nat.le_refl _)] at h; exact h)
      go_wp2_with fail
      go_ret
      exact ⟨ret_bool HE.out.symm, rfl⟩
theorem nodup_snoc {l : List ByteArray} {x : ByteArray} : (l ++ [x]).Nodup ↔ l.Nodup ∧ inB l x = false := by
  rw [List.nodup_append]
  constructor
  · rintro ⟨h, _, h2⟩
    refine ⟨h, ?_⟩
    cases hi : inB l x with
    | false => rfl
    | true => exact absurd rfl (h2 x ((in_iff l x).1 hi) x (by simp))
  · rintro ⟨h, h2⟩
    refine ⟨h, by simp, fun a ha b hb => ?_⟩
    simp at hb; subst hb
    intro e; subst e
    rw [(in_iff l a).2 ha] at h2; cases h2
set_option maxHeartbeats 2000000 in
set_option maxRecDepth 100000 in
theorem Twice_any (o : Option Addr) (l : List ByteArray) (c : Nat) (w : World) (hl : l.length ≤ maxLen) (hc : l.length ≤ c) (h : TxAt w o l) :
    Calls Try.prog 24 #[.slice o l.length c] w fun e w' => e = .returned (.bool (!decide l.Nodup)) ∧ ∃ m, w' = w.drewN m := by
  obtain ⟨n, hn⟩ : ∃ n, l.length = n := ⟨_, rfl⟩
  have HN := Lib.hid hn; have HL := Lib.hid h
  rw [hn] at hl hc ⊢
  unfold maxLen at hl
  clear hn h
  go_enter Try.func24, Try.ntmps24
  go_wp2_with fail
  go_loopw [3] (fun i wr => ∃ k q : Nat, k ≤ n ∧ i = .int .i64 k ∧ (l.take k).Nodup ∧ wr = w.drewN q) (fun i _ => n - (intOf i).toNat)
  case atStart => exact ⟨0, 0, Nat.zero_le _, rfl, by simp, rfl⟩
  case round =>
    obtain ⟨k, q, hk, rfl, hT, rfl⟩ := hrel
    have HT := Lib.hid hT
    clear hT
    by_cases hlt : k < n
    · obtain ⟨x, hx⟩ : ∃ p, l[k]? = some p := ⟨_, List.getElem?_eq_getElem (by rw [HN.out]; omega)⟩
      obtain ⟨_, b0, i0, ho, c0'⟩ := tx_at HL.out hx
      subst ho
      have HX := Lib.hid hx
      have hki : (k : Int) < n := by omega
      have hkc : (k : Int) ≤ c := by omega
      have hlk : (l.take k).length = k := by rw [List.length_take, HN.out]; omega
      obtain ⟨y, hy⟩ : ∃ y, inB (l.take k) x = y := ⟨_, rfl⟩
      have HC : Hid (∀ m, Calls Try.prog 25 #[.slice (some ⟨b0, i0, none⟩) k c, .string x] ((w.drewN q).drewN m) fun e w'' => e = .returned (.bool y) ∧ ∃ j, w'' = (w.drewN q).drewN j) := Lib.hid (fun m => by
        have h := In_any (some ⟨b0, i0, none⟩) (l.take k) c x ((w.drewN q).drewN m) (by rw [hlk]; unfold maxLen; omega) (((HL.out.below (below_drewN (Below.refl _ _) q)).below (below_drewN (Below.refl _ _) m)).take k)
        rw [hlk, hy] at h
        exact h.mono fun e w'' h => ⟨h.1, m, h.2⟩)
      have HY := Lib.hid hy
      have c0 : (w.drewN q).cell? ⟨b0, i0 + k, none⟩ = some (.string x) := c0'
      clear hx c0' hy hlk
      generalize hwd : w.drewN q = wd at c0 HC ⊢
      have HWD := Lib.hid hwd
      clear hwd
      cases y with
      | true =>
        have HE : Hid ((!decide l.Nodup) = true) := Lib.hid (by
          rw [decide_eq_false]; · rfl
          intro hd
          have h1 : (l.take (k + 1)).Nodup := hd.sublist (List.take_sublist _ _)
          rw [take_get HX.out, nodup_snoc, HY.out] at h1
          exact absurd h1.2 (by simp))
        go_wp2_with fail
        go_quiet ((go_at_call 25; with_reducible exact HC.out _))
        (first | (have _h : Nat := nq; clear _h) | rename_i nq)
        clear HC
        go_wp2_with fail
        go_ret
        exact ⟨ret_bool HE.out.symm, _, by rw [← HWD.out, World.drewN_drewN]⟩
      | false =>
        go_wp2_with fail
        go_quiet ((go_at_call 25; with_reducible exact HC.out _))
        (first | (have _h : Nat := nq; clear _h) | rename_i nq)
        clear HC
        go_wp2_with fail
        go_roundw
        case rel => exact ⟨k + 1, q + nq, hlt, by go_num, by rw [take_get HX.out, nodup_snoc]; exact ⟨HT.out, HY.out⟩, by rw [← HWD.out, World.drewN_drewN]⟩
        case measure => simp [intOf]; omega
    · obtain rfl : k = n := by omega
      have HE : Hid ((!decide l.Nodup) = false) := Lib.hid (by
        have h := HT.out
        rw [List.take_of_length_le (by rw [HN.out]; exact Nat.le_refl _)] at h
        rw [decide_eq_true h]; rfl)
      go_wp2_with fail
      go_ret
      exact ⟨ret_bool HE.out.symm, _, rfl⟩
/-! Sets of items. -/
theorem rev_ind {P : List ByteArray → Prop} (h0 : P []) (h1 : ∀ l x, P l → P (l ++ [x])) (l : List ByteArray) : P l := by
  have h : ∀ m : List ByteArray, P m.reverse := fun m => by
    induction m with
    | nil => exact h0
    | cons x m ih => rw [List.reverse_cons]; exact h1 _ x ih
  have := h l.reverse
  rwa [List.reverse_reverse] at this
/-- The items of a list, each once. -/
def setL (l : List ByteArray) : List ByteArray := l.foldl numK []
theorem setL_snoc (l : List ByteArray) (x : ByteArray) : setL (l ++ [x]) = numK (setL l) x := by unfold setL; rw [List.foldl_append]; rfl
theorem num_in2 (K : List ByteArray) (q s : ByteArray) : inB (numK K q) s = (inB K s || decide (q = s)) := by
  unfold numK; split
  · rename_i h
    by_cases e : q = s
    · subst e; rw [h]; rfl
    · rw [decide_eq_false e, Bool.or_false]
  · exact inB_snoc _ _ _
theorem set_in : ∀ (l : List ByteArray) (s : ByteArray), inB (setL l) s = inB l s := by
  refine rev_ind (fun s => rfl) fun l x ih s => ?_
  rw [setL_snoc, num_in2, inB_snoc, ih]
theorem set_len (l : List ByteArray) : (setL l).length ≤ l.length := by
  refine rev_ind (P := fun l => (setL l).length ≤ l.length) (Nat.le_refl _) (fun l x ih => ?_) l
  rw [setL_snoc, List.length_append]; have := (num_len (setL l) x).1; simp; omega
theorem set_nodup (l : List ByteArray) : (setL l).length < l.length ↔ ¬ l.Nodup := by
  refine rev_ind (P := fun l => (setL l).length < l.length ↔ ¬ l.Nodup) (by simp [setL]) (fun l x ih => ?_) l
  rw [nodup_snoc, setL_snoc, List.length_append]
  have hx : numK (setL l) x = if inB l x then setL l else setL l ++ [x] := by unfold numK; rw [set_in]
  have hle := set_len l
  rw [hx]
  cases hi : inB l x with
  | true => simp; omega
  | false =>
    simp only [Bool.false_eq_true, if_false, List.length_append, List.length_cons, List.length_nil, and_true]
    rw [← ih]; omega
/-- The map at b holds just what P tells. -/
def IsRs (b : Nat) (P : ByteArray → Bool) (w : World) : Prop :=
  ∃ (n : Nat) (D : DataW Unit), w.ownsMap Try.prog 9 unitElem b n D ∧ ∀ s : ByteArray, s.size ≤ maxLen → has D (.string s.data.toList) = P s
theorem IsRs.keep {b : Nat} {P : ByteArray → Bool} (h : IsRs b P w) (hb : w'.heap[b]? = w.heap[b]?) : IsRs b P w' := by
  obtain ⟨n, D, ⟨es, clock, h1, h2⟩, h3⟩ := h
  exact ⟨n, D, ⟨es, clock, hb.trans h1, h2⟩, h3⟩
theorem IsRs.lt {b : Nat} {P : ByteArray → Bool} (h : IsRs b P w) : b < w.heap.size := by
  obtain ⟨n, D, h1, _⟩ := h
  exact h1.lt
theorem IsRs.below {b : Nat} {P : ByteArray → Bool} (h : IsRs b P w) (hb : Below w.heap.size w w') : IsRs b P w' := h.keep (hb.block b h.lt)
theorem IsRs.look {b : Nat} {P : ByteArray → Bool} {q : ByteArray} (h : IsRs b P w) (hq : q.size ≤ maxLen) :
    (Instr.lookup 59 (.map (some b)) (.string q) true).run Try.prog w = .ok (.tuple #[.agg #[], .bool (P q)]) w := by
  obtain ⟨n, D, hD, h2⟩ := h
  obtain ⟨v, ps, hr, hv⟩ := hD.look_ok keyedS Try.underlying59 (Try.zeroValue74 w) (zd := .agg []) (zp := []) unitElem_mk (keyS hq)
  obtain ⟨rfl, _⟩ := unitElem_inv hv
  rw [hr, h2 q hq]
/-- .. and as many as K. -/
def IsSt (b n : Nat) (K : List ByteArray) (w : World) : Prop :=
  ∃ D : DataW Unit, w.ownsMap Try.prog 9 unitElem b n D ∧ Tidy D ∧ size D = K.length ∧ ∀ s : ByteArray, s.size ≤ maxLen → has D (.string s.data.toList) = inB K s
theorem IsSt.rs {b n : Nat} {K : List ByteArray} (h : IsSt b n K w) : IsRs b (inB K) w := by
  obtain ⟨D, h1, _, _, h2⟩ := h
  exact ⟨n, D, h1, h2⟩
theorem IsSt.new (w : World) : IsSt w.heap.size 0 [] (w.alloc (.map #[] 0)) := ⟨.map [], World.ownsMap_made w _ _ _, tidy_empty, rfl, fun _ _ => rfl⟩
theorem IsSt.put {b n : Nat} {K : List ByteArray} {q : ByteArray} {D : DataW Unit} (ht : Tidy D) (hz : size D = K.length) (h2 : ∀ s : ByteArray, s.size ≤ maxLen → has D (.string s.data.toList) = inB K s) (hq : q.size ≤ maxLen)
    (h' : w'.ownsMap Try.prog 9 unitElem b (n + 1) (D.put (.string q.data.toList) (.agg []))) : IsSt b (n + 1) (numK K q) w' := by
  have hkl : WideAt.IsKeyLit (.string q.data.toList) := trivial
  refine ⟨_, h', ht.put hkl _, ?_, fun p hp => ?_⟩
  · rw [size_put ht, h2 q hq, hz]
    unfold numK; split <;> simp
  · rw [num_in2]
    by_cases e : p = q
    · subst e
      rw [has_put_same ht.isMap hkl]; simp
    · rw [has_put_other (fun hk => e (by injection hk with hk; exact ByteArray.ext (Array.ext' hk))), h2 p hp]
      have : decide (q = p) = false := decide_eq_false (fun h => e h.symm)
      rw [this, Bool.or_false]
theorem run_makeSet_n (n : Nat) (w : World) : (Instr.makeMap 59 (some (.int .i64 n))).run Try.prog w = .ok (.map (some w.heap.size)) (w.alloc (.map #[] 0)) := by
  have u := run_underlying Try.underlying59 (w := w)
  simp [Instr.makeMap, u, asInt, go_sem]
set_option maxHeartbeats 2000000 in
set_option maxRecDepth 100000 in
theorem setOf_any (o : Option Addr) (l : List ByteArray) (c : Nat) (w : World) (hl : l.length ≤ 1000000) (h : TxAt w o l) :
    Calls Try.prog 30 #[.slice o l.length c] w fun e w' => e = .returned (.map (some w.heap.size)) ∧ IsSt w.heap.size l.length (setL l) w' ∧ Below w.heap.size w w' := by
  obtain ⟨n, hn⟩ : ∃ n, l.length = n := ⟨_, rfl⟩
  have HN := Lib.hid hn; have HL := Lib.hid h
  rw [hn] at hl ⊢
  clear hn h
  have hmm := run_makeSet_n n
  have H0 : Hid (∃ k, k ≤ n ∧ (Value.int .i64 0) = .int .i64 k ∧ IsSt w.heap.size k (setL (l.take k)) (w.alloc (.map #[] 0)) ∧ Below w.heap.size w (w.alloc (.map #[] 0))) := Lib.hid ⟨0, Nat.zero_le _, rfl, IsSt.new w, (Below.refl _ w).alloc (Nat.le_refl _) _⟩
  go_enter Try.func30, Try.ntmps30
  go_wp2_with fail
  clear hmm
  go_loopw [11] (fun i wr => ∃ k, k ≤ n ∧ i = .int .i64 k ∧ IsSt w.heap.size k (setL (l.take k)) wr ∧ Below w.heap.size w wr) (fun i _ => n - (intOf i).toNat)
  case atStart => exact H0.out
  case round =>
    obtain ⟨k, hk, rfl, hU, hb⟩ := hrel
    have HU := Lib.hid hU; have HBB := Lib.hid hb
    clear hU hb H0
    by_cases hlt : k < n
    · obtain ⟨s, hs⟩ : ∃ p, l[k]? = some p := ⟨_, List.getElem?_eq_getElem (by rw [HN.out]; omega)⟩
      obtain ⟨z0, b0, i0, ho, c0⟩ := tx_at (HL.out.below HBB.out) hs
      have HT := Lib.hid (take_get hs)
      subst ho
      obtain ⟨D, hD, hD2, hD3, hD4⟩ := HU.out
      have HD := Lib.hid hD; have HD2 := Lib.hid hD2; have HD3 := Lib.hid hD3; have HD4 := Lib.hid hD4
      have HK := Lib.hid (keyS z0)
      have HZ := Lib.hid z0
      have hml := hD.lt
      clear hs hD hD2 hD3 hD4 z0
      go_wp2_with (at_mapUpdate; (refine wpList_mapUpdate_in _ rfl _ _ _ 59 rfl 9 74 keyedS Try.underlying59 unitElem w.heap.size k D rfl HD.out (by unfold maxLen; omega) _ _ (.string s.data.toList) rfl rfl HK.out (.agg []) [] unitElem_mk ?_); intro w1 hown1 hturn1; have HO := Lib.hid hown1; have HT1 := Lib.hid hturn1; clear hown1 hturn1)
      go_roundw
      case rel => exact ⟨k + 1, hlt, by go_num, by rw [HT.out, setL_snoc]; exact IsSt.put HD2.out HD3.out HD4.out HZ.out HO.out, mapTurned_below HT1.out HBB.out (Nat.le_refl _) HBB.out.size⟩
      case measure => simp [intOf]; omega
    · obtain rfl : k = n := by omega
      have HU2 : Hid (IsSt w.heap.size k (setL l) wr) := Lib.hid (by have h := HU.out; rw [List.take_of_length_le (by rw [HN.out]; exact Nat.le_refl _)] at h; exact h)
      go_wp2_with fail
      go_ret
      exact ⟨rfl, HU2.out, HBB.out⟩
set_option maxHeartbeats 1000000 in
theorem has_any (b : Nat) (P : ByteArray → Bool) (s : ByteArray) (w : World) (hs : s.size ≤ maxLen) (h : IsRs b P w) :
    Calls Try.prog 33 #[.map (some b), .string s] w fun e w' => e = .returned (.bool (P s)) ∧ Below w.heap.size w w' := by
  have hlk := h.look hs
  have HB := Lib.hid ((Below.refl w.heap.size w).alloc (Nat.le_refl _) (.cells #[] 74))
  obtain ⟨y, hy⟩ : ∃ y, P s = y := ⟨_, rfl⟩
  rw [hy] at hlk ⊢
  clear hy h
  go_enter Try.func33, Try.ntmps33
  go_wp2_with fail
  go_ret
  exact ⟨rfl, HB.out⟩
set_option maxHeartbeats 1000000 in
theorem repeats_any (o : Option Addr) (l : List ByteArray) (c : Nat) (w : World) (hl : l.length ≤ 1000000) (h : TxAt w o l) :
    Calls Try.prog 19 #[.slice o l.length c] w fun e w' => e = .returned (.bool (!decide l.Nodup)) ∧ Below w.heap.size w w' := by
  have H := Lib.hid (setOf_any o l c w hl h)
  obtain ⟨n, hn⟩ : ∃ n, l.length = n := ⟨_, rfl⟩
  have HZ := Lib.hid (set_nodup l); have HZ2 := Lib.hid (set_len l)
  rw [hn] at H HZ HZ2 hl ⊢
  clear hn h
  have FIRST : Hid (1 = 1) := Lib.hid rfl
  go_enter Try.func19, Try.ntmps19
  go_wp2_with (first
    | (go_at_call 30; refine H.out.mono ?_; rintro e w2 ⟨rfl, hst, hb⟩; obtain ⟨D, hD, _, hD3, _⟩ := hst; have HD := Lib.hid hD; have HD3 := Lib.hid hD3; have HB := Lib.hid hb; clear hD hD3 hb)
    | (clear FIRST; at_len; refine wpList_len_own _ rfl _ 59 rfl 9 74 Try.underlying59 unitElem w.heap.size n D rfl HD.out ?_; rw [HD3.out]))
  go_ret
  refine ⟨ret_bool ?_, HB.out⟩
  have := HZ.out
  rw [Bool.eq_iff_iff]
  simp only [decide_eq_true_eq, Bool.not_eq_true', decide_eq_false_iff_not]
  rw [← this]
theorem long_any (o : Option Addr) (n c : Nat) (w : World) :
    Calls Try.prog 18 #[.slice o n c] w fun e w' => e = .returned (.bool (decide (4096 < n))) ∧ w' = w := by
  go_enter Try.func18, Try.ntmps18
  go_wp2_with fail
  go_ret
  exact ⟨ret_bool (decide_eq_decide.2 (by omega)), rfl⟩
end Go.Proofs.Ytjdlpcokjcmapaa
