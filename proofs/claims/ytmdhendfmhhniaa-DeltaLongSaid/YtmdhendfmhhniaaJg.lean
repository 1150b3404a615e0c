/- Deltas: the windows of a base. -/
import Derived.Test.YtmdhendfmhhniaaJf
namespace Go.Proofs.Ytmdhendfmhhniaa
open Go.RowKit Go.Maps Go.WideShapes
variable {w w' : World}

theorem keyedS : Keyed Try.prog 9 := Maps.string_keyed Try.underlying9
theorem keyS {s : ByteArray} (h : s.size ≤ maxLen) : keyOf Try.prog 9 (.string s) = some (.string s.data.toList) := by
  unfold keyOf
  simp only [Try.underlying9]
  simp [mapKey, Try.underlying9, h]
theorem mapTurned_below {B b : Nat} {w0 w w' : World} (h : w.mapTurned w' b) (hb : Below B w0 w) (hB : B ≤ b) (hs : B ≤ w.heap.size) : Below B w0 w' :=
  hb.grown h.grown hs (fun k e => by cases e; exact hB)
/-- What the map tells of a piece is a place where it is in the base. -/
def WnD (base : ByteArray) (D : DataW Unit) : Prop :=
  ∀ s : ByteArray, s.size ≤ maxLen → has D (.string s.data.toList) = true → ∃ i : Nat, D.atKey (.string s.data.toList) (.lit (.int .i64 0)) = .lit (.int .i64 (i : Nat)) ∧ i + 16 ≤ base.size ∧ base.extract i (i + 16) = s
def IsWn (b n : Nat) (base : ByteArray) (w : World) : Prop :=
  ∃ D : DataW Unit, w.ownsMap Try.prog 9 (plainElem Try.prog 3) b n D ∧ WnD base D
theorem IsWn.keep {b n : Nat} {base : ByteArray} (h : IsWn b n base w) (hb : w'.heap[b]? = w.heap[b]?) : IsWn b n base w' := by
  obtain ⟨D, ⟨es, clock, h1, h2⟩, h3⟩ := h
  exact ⟨D, ⟨es, clock, hb.trans h1, h2⟩, h3⟩
theorem IsWn.lt {b n : Nat} {base : ByteArray} (h : IsWn b n base w) : b < w.heap.size := by
  obtain ⟨D, h1, _⟩ := h
  exact h1.lt
theorem IsWn.below {b n : Nat} {base : ByteArray} (h : IsWn b n base w) (hb : Below w.heap.size w w') : IsWn b n base w' := h.keep (hb.block b h.lt)
theorem IsWn.more {b n m : Nat} {base : ByteArray} (h : IsWn b n base w) (hn : n ≤ m) : IsWn b m base w := by
  obtain ⟨D, h1, h2⟩ := h
  exact ⟨D, h1.mono hn, h2⟩
theorem IsWn.new (base : ByteArray) (w : World) : IsWn w.heap.size 0 base (w.alloc (.map #[] 0)) :=
  ⟨.map [], World.ownsMap_made w _ _ _, fun s _ h => by cases h⟩
theorem IsWn.put {b n i : Nat} {base q : ByteArray} {D : DataW Unit} (hD : w.ownsMap Try.prog 9 (plainElem Try.prog 3) b n D) (h2 : WnD base D) (hi : i + 16 ≤ base.size) (hq : base.extract i (i + 16) = q)
    (h' : w'.ownsMap Try.prog 9 (plainElem Try.prog 3) b (n + 1) (D.put (.string q.data.toList) (.lit (.int .i64 (i : Nat))))) : IsWn b (n + 1) base w' := by
  refine ⟨_, h', fun s hs hh => ?_⟩
  have hm : IsMap D := hD.isMap
  by_cases e : q = s
  · subst e
    exact ⟨i, by rw [atKey_put_same hm (show WideAt.IsKeyLit (.string q.data.toList) from trivial)], hi, hq⟩
  · have hk : (Lit.string s.data.toList) ≠ .string q.data.toList := fun hk => e (by injection hk with hk; exact (ByteArray.ext (Array.ext' hk)).symm)
    rw [has_put_other hk] at hh
    rw [atKey_put_other hk]
    exact h2 s hs hh
theorem run_hintS (n : Int) (w : World) (h0 : 0 ≤ n) (h1 : n ≤ 1000000) : (Instr.makeMap 63 (some (.int .i64 n))).run Try.prog w = .ok (.map (some w.heap.size)) (w.alloc (.map #[] 0)) := by
  obtain ⟨m, rfl⟩ : ∃ m : Nat, n = (m : Int) := ⟨n.toNat, by omega⟩
  simp [Instr.makeMap, go_sem]
def WiS (base : ByteArray) (w : World) (i : Value) (wr : World) : Prop :=
  ∃ k : Nat, k ≤ base.size + 16 ∧ i = .int .i64 k ∧ IsWn w.heap.size k base wr ∧ Below w.heap.size w wr
set_option maxHeartbeats 2000000 in
set_option maxRecDepth 100000 in
theorem windows_any (base : ByteArray) (w : World) (hs : base.size ≤ 1000000) :
    Calls Try.prog 32 #[.string base] w fun e w' => e = .returned (.map (some w.heap.size)) ∧ IsWn w.heap.size 2000000 base w' ∧ Below w.heap.size w w' := by
  obtain ⟨q, hq⟩ : ∃ q : Int, (base.size : Int) / 16 = q := ⟨_, rfl⟩
  have hmm := fun W => run_hintS q W (by omega) (by omega)
  have H0 : Hid (WiS base w (.int .i64 0) (w.alloc (.map #[] 0))) := Lib.hid ⟨0, Nat.zero_le _, rfl, IsWn.new base w, (Below.refl _ w).alloc (Nat.le_refl _) _⟩
  have hsi : (base.size : Int) ≤ 1000000 := by omega
  go_enter Try.func32, Try.ntmps32
  go_wp2_with fail
  clear hmm hq
  go_loopw [4] (fun i wr => WiS base w i wr) (fun i _ => base.size + 32 - (intOf i).toNat)
  case atStart => exact H0.out
  case round =>
    obtain ⟨k, hk, rfl, ⟨D, hD, hD2⟩, hb⟩ := hrel
    have HD := Lib.hid hD; have HD2 := Lib.hid hD2; have HB := Lib.hid hb
    clear hD hD2 hb H0
    obtain ⟨k2, hk2⟩ : ∃ k2, k + 16 = k2 := ⟨_, rfl⟩
    have hk2i : (k : Int) + 16 = (k2 : Int) := by omega
    have hki : (k : Int) ≤ 1000016 := by omega
    by_cases hlt : k2 ≤ base.size
    · have hlti : (k2 : Int) ≤ base.size := by omega
      have hkk : (k : Int) ≤ (k2 : Int) := by omega
      obtain ⟨x, hx⟩ : ∃ x, base.extract k k2 = x := ⟨_, rfl⟩
      have hxs : x.size ≤ maxLen := by rw [← hx, ByteArray.size_extract]; unfold maxLen; omega
      have HK := Lib.hid (keyS hxs)
      have HX := Lib.hid (show k + 16 ≤ base.size ∧ base.extract k (k + 16) = x from ⟨by omega, by rw [hk2]; exact hx⟩)
      have HX0 := Lib.hid hx
      clear hxs hk2
      cases hc : has D (.string x.data.toList) with
      | true =>
        have HH := Lib.hid hc
        clear hc
        go_wp2_with (at_lookup; refine wpList_lookup_own_ok_int _ rfl _ _ 63 rfl 9 3 .i64 keyedS Try.underlying63 Try.underlying3 (Try.zeroValue3 _) w.heap.size k D rfl HD.out _ (.string x.data.toList) rfl HK.out ?_; intro c hat hwc; rw [HH.out]; clear hat)
        go_roundw
        case rel => exact ⟨k2, by omega, rfl, IsWn.more ⟨D, HD.out, HD2.out⟩ (by omega), HB.out⟩
        case measure => simp [intOf]; omega
      | false =>
        have HH := Lib.hid hc
        clear hc
        have hwf : Hid ((Lit.int .i64 (k : Int)).wf = true) := Lib.hid (by simp only [Lit.wf, IntKind.min, IntKind.max, IntKind.signed, IntKind.bits, Bool.and_eq_true, decide_eq_true_eq, if_true]; omega)
        go_wp2_with (first
          | (at_lookup; refine wpList_lookup_own_ok_int _ rfl _ _ 63 rfl 9 3 .i64 keyedS Try.underlying63 Try.underlying3 (Try.zeroValue3 _) w.heap.size k D rfl HD.out _ (.string x.data.toList) rfl HK.out ?_; intro c hat hwc; rw [HH.out]; clear hat)
          | (at_mapUpdate; refine wpList_mapUpdate_in _ rfl _ _ _ 63 rfl 9 3 keyedS Try.underlying63 (plainElem Try.prog 3) w.heap.size k D rfl HD.out (by unfold maxLen; omega) _ _ (.string x.data.toList) rfl rfl HK.out (.lit (.int .i64 k)) [] (plainElem_int Try.underlying3 hwf.out) ?_; intro w1 hown1 hturn1))
        have hr : Hid (IsWn w.heap.size (k + 1) base w1) := Lib.hid (IsWn.put HD.out HD2.out HX.out.1 HX.out.2 hown1)
        have hb2 := mapTurned_below hturn1 HB.out (Nat.le_refl _) HB.out.size
        go_roundw
        case rel => exact ⟨k2, by omega, rfl, hr.out.more (by omega), hb2⟩
        case measure => simp [intOf]; omega
    · have hlti : ¬ (k2 : Int) ≤ base.size := by omega
      go_wp2_with fail
      exact bodyPost_ret (v := .map (some w.heap.size)) (by simp [results, Try.results32, go_sem]) rfl ⟨rfl, IsWn.more ⟨D, HD.out, HD2.out⟩ (by omega), HB.out⟩
end Go.Proofs.Ytmdhendfmhhniaa
