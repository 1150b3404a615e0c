/- Lists' edits: the items of two lists as numbers. -/
import Derived.Test.YtjdlpcokjcmapaaLb
set_option linter.unusedVariables false
set_option linter.unusedSimpArgs false
namespace Go.Proofs.Ytjdlpcokjcmapaa
open Go.RowKit Go.Maps Go.WideShapes
variable {w w' : World}

def inB (rs : List ByteArray) (s : ByteArray) : Bool := rs.any fun r => decide (r = s)
def posB (rs : List ByteArray) (s : ByteArray) : Nat := rs.findIdx fun r => decide (r = s)
def numK (K : List ByteArray) (s : ByteArray) : List ByteArray := if inB K s then K else K ++ [s]
theorem inB_snoc (rs : List ByteArray) (q s : ByteArray) : inB (rs ++ [q]) s = (inB rs s || decide (q = s)) := by unfold inB; rw [List.any_append]; simp
theorem pos_lt {K : List ByteArray} {s : ByteArray} (h : inB K s = true) : posB K s < K.length := by
  unfold posB; rw [List.findIdx_lt_length]; unfold inB at h; rw [List.any_eq_true] at h; exact h
theorem pos_get {K : List ByteArray} {s : ByteArray} (h : inB K s = true) : K[posB K s]? = some s := by
  have hl := pos_lt h
  rw [List.getElem?_eq_getElem hl]
  have := List.findIdx_getElem (xs := K) (p := fun r => decide (r = s)) (w := hl)
  exact congrArg some (of_decide_eq_true this)
theorem pos_inj {K : List ByteArray} {s t : ByteArray} (h : inB K s = true) (h2 : inB K t = true) (e : posB K s = posB K t) : s = t := by
  have a := pos_get h; have b := pos_get h2
  rw [e, b] at a; exact (Option.some.inj a).symm
theorem pos_app {K : List ByteArray} {s : ByteArray} (l : List ByteArray) (h : inB K s = true) : posB (K ++ l) s = posB K s := by
  have hl := pos_lt h
  unfold posB at hl ⊢; rw [List.findIdx_append, if_pos hl]
theorem pos_new {K : List ByteArray} {s : ByteArray} (h : inB K s = false) : posB (K ++ [s]) s = K.length := by
  have : ¬ posB K s < K.length := fun hl => by
    have := List.findIdx_getElem (xs := K) (p := fun r => decide (r = s)) (w := hl)
    unfold inB at h
    rw [List.any_eq_false] at h
    exact h _ (List.getElem_mem hl) this
  unfold posB at *; rw [List.findIdx_append, if_neg this]; simp
theorem num_in (K : List ByteArray) (s : ByteArray) : inB (numK K s) s = true := by
  unfold numK; split
  · assumption
  · rw [inB_snoc]; simp
theorem num_sub {K : List ByteArray} {t : ByteArray} (s : ByteArray) (h : inB K t = true) : inB (numK K s) t = true ∧ posB (numK K s) t = posB K t := by
  unfold numK; split
  · exact ⟨h, rfl⟩
  · exact ⟨by rw [inB_snoc, h]; rfl, pos_app _ h⟩
theorem num_len (K : List ByteArray) (s : ByteArray) : (numK K s).length ≤ K.length + 1 ∧ K.length ≤ (numK K s).length := by
  unfold numK; split <;> simp
theorem keyedS : Keyed Try.prog 9 := Maps.string_keyed Try.underlying9
theorem keyS {s : ByteArray} (h : s.size ≤ maxLen) : keyOf Try.prog 9 (.string s) = some (.string s.data.toList) := by
  unfold keyOf
  simp only [Try.underlying9]
  simp [mapKey, Try.underlying9, h]
/-- The map at m tells each text of K its place there. -/
def KnD (K : List ByteArray) (D : DataW Unit) : Prop :=
  Tidy D ∧ size D = K.length ∧ ∀ s : ByteArray, s.size ≤ maxLen → has D (.string s.data.toList) = inB K s ∧ (inB K s = true → D.atKey (.string s.data.toList) (.lit (.int .i64 0)) = .lit (.int .i64 (posB K s)))
def IsKn (m : Nat) (K : List ByteArray) (w : World) : Prop :=
  ∃ D : DataW Unit, w.ownsMap Try.prog 9 (plainElem Try.prog 3) m K.length D ∧ KnD K D
theorem IsKn.keep {m : Nat} {K : List ByteArray} (h : IsKn m K w) (hb : w'.heap[m]? = w.heap[m]?) : IsKn m K w' := by
  obtain ⟨D, ⟨es, clock, h1, h2⟩, h3⟩ := h
  exact ⟨D, ⟨es, clock, hb.trans h1, h2⟩, h3⟩
theorem IsKn.lt {m : Nat} {K : List ByteArray} (h : IsKn m K w) : m < w.heap.size := by
  obtain ⟨D, h1, _⟩ := h
  exact h1.lt
theorem IsKn.new (w : World) : IsKn w.heap.size [] (w.alloc (.map #[] 0)) :=
  ⟨.map [], World.ownsMap_made w _ _ _, tidy_empty, rfl, fun s _ => ⟨rfl, fun h => by cases h⟩⟩
theorem KnD.put {K : List ByteArray} {q : ByteArray} {D : DataW Unit} (h : KnD K D) (hq : q.size ≤ maxLen) (hn : inB K q = false) : KnD (K ++ [q]) (D.put (.string q.data.toList) (.lit (.int .i64 (K.length : Nat)))) := by
  obtain ⟨ht, hs, hk⟩ := h
  have hkl : WideAt.IsKeyLit (.string q.data.toList) := trivial
  refine ⟨ht.put hkl _, ?_, fun s hss => ?_⟩
  · rw [size_put ht, (hk q hq).1, hn, hs]; simp
  · by_cases e : q = s
    · subst e
      exact ⟨by rw [has_put_same ht.isMap hkl, inB_snoc]; simp, fun _ => by rw [atKey_put_same ht.isMap hkl, pos_new hn]⟩
    · have hne : (Lit.string s.data.toList) ≠ .string q.data.toList := fun hk => e (by injection hk with hk; exact (ByteArray.ext (Array.ext' hk)).symm)
      rw [has_put_other hne, atKey_put_other hne, inB_snoc]
      have hd : decide (q = s) = false := decide_eq_false e
      rw [hd, Bool.or_false]
      exact ⟨(hk s hss).1, fun hi => by rw [pos_app _ hi]; exact (hk s hss).2 hi⟩
theorem Keeps.of_grown {r : Option Nat} (h : w.grownBy w' r) : Keeps (fun k => k < w.heap.size ∧ some k ≠ r) w w' :=
  ⟨⟨h.os, h.tape, h.output, h.size, fun k hk => absurd hk (Nat.not_lt_zero k)⟩, h.size, fun k hk => h.block k hk.1 hk.2⟩
theorem Keeps.weak {k1 k2 : Nat → Prop} (h : Keeps k1 w w') (hk : ∀ k, k2 k → k1 k) : Keeps k2 w w' := ⟨h.low, h.size, fun k h2 => h.block k (hk k h2)⟩
set_option maxHeartbeats 1000000 in
set_option maxRecDepth 100000 in
theorem number_any (s : ByteArray) (p m : Nat) (K : List ByteArray) (w : World) (hs : s.size ≤ maxLen) (hn : K.length ≤ 100000) (hp : Boxed w p 86 (.map (some m))) (hm : IsKn m K w) :
    Calls Try.prog 47 #[.string s, .pointer (some ⟨p, 0, none⟩)] w fun e w' => e = .returned (.int .i64 (posB (numK K s) s : Nat)) ∧ IsKn m (numK K s) w' ∧ Keeps (fun k => k < w.heap.size ∧ k ≠ m) w w' := by
  have HM := Lib.hid hm
  obtain ⟨D, hD, hD2⟩ := hm
  have HD := Lib.hid hD; have HD2 := Lib.hid hD2
  have HK := Lib.hid (keyS hs)
  have HS := Lib.hid hs
  have cp : w.cell? ⟨p, 0, none⟩ = some (.map (some m)) := hp.cell
  cases hin : inB K s with
  | true =>
    have HH := Lib.hid (((hD2.2.2 s hs).1).trans hin)
    have HA := Lib.hid ((hD2.2.2 s hs).2 hin)
    have HN : Hid (numK K s = K) := Lib.hid (by unfold numK; rw [if_pos hin])
    rw [HN.out]
    obtain ⟨q, hq⟩ : ∃ q, posB K s = q := ⟨_, rfl⟩
    rw [hq] at HA ⊢
    clear hin hD hD2 hs hq hp
    go_enter Try.func47, Try.ntmps47
    go_wp2_with (at_lookup; refine wpList_lookup_own_ok_int _ rfl _ _ 86 rfl 9 3 .i64 keyedS Try.underlying86 Try.underlying3 (Try.zeroValue3 _) m K.length D rfl HD.out _ (.string s.data.toList) rfl HK.out ?_; intro c hat hwc; rw [HH.out]; (obtain rfl : c = (q : Int) := by have h := hat.symm.trans HA.out; injection h with h; injection h); clear hat hwc)
    go_ret
    exact ⟨rfl, HM.out, Keeps.refl _ _⟩
  | false =>
    have HH := Lib.hid (((hD2.2.2 s hs).1).trans hin)
    have HN : Hid (numK K s = K ++ [s]) := Lib.hid (by unfold numK; rw [hin]; rfl)
    have HP := Lib.hid (pos_new hin)
    have HSZ := Lib.hid hD2.2.1
    have HPUT := Lib.hid (hD2.put hs hin)
    rw [HN.out, HP.out]
    obtain ⟨n, hnn⟩ : ∃ n, K.length = n := ⟨_, rfl⟩
    have HNN := Lib.hid hnn
    rw [hnn] at HD HSZ HPUT hn ⊢
    have hwf : Hid ((Lit.int .i64 (n : Int)).wf = true) := Lib.hid (by simp only [Lit.wf, IntKind.min, IntKind.max, IntKind.signed, IntKind.bits, Bool.and_eq_true, decide_eq_true_eq, if_true]; omega)
    clear hin hD hD2 hs hp hnn
    go_enter Try.func47, Try.ntmps47
    go_wp2_with (first
      | (at_lookup; refine wpList_lookup_own_ok_int _ rfl _ _ 86 rfl 9 3 .i64 keyedS Try.underlying86 Try.underlying3 (Try.zeroValue3 _) m n D rfl HD.out _ (.string s.data.toList) rfl HK.out ?_; intro c hat hwc; rw [HH.out]; clear hat hwc)
      | (at_len; go_loud (refine wpList_len_own _ rfl _ 86 rfl 9 3 Try.underlying86 (plainElem Try.prog 3) m n D rfl HD.out ?_; rw [HSZ.out]))
      | (at_mapUpdate; refine wpList_mapUpdate_in _ rfl _ _ _ 86 rfl 9 3 keyedS Try.underlying86 (plainElem Try.prog 3) m n D rfl HD.out (by unfold maxLen; omega) _ _ (.string s.data.toList) rfl rfl HK.out (.lit (.int .i64 n)) [] (plainElem_int Try.underlying3 hwf.out) ?_; intro w1 hown1 hturn1; have HO := Lib.hid hown1; have HT := Lib.hid hturn1; clear hown1 hturn1))
    go_ret
    exact ⟨rfl, ⟨_, by rw [List.length_append, HNN.out]; exact HO.out, HPUT.out⟩, (Keeps.of_grown HT.out.grown).weak fun k hk => ⟨hk.1, fun e => by injection e with e; exact hk.2 e⟩⟩
end Go.Proofs.Ytjdlpcokjcmapaa
