/- TopFramed: what a walk is told of the lists of texts; the loops' relations. -/
import Derived.Test.YtaionhdamdhjjabDoorYb
import Derived.Test.YtaionhdamdhjjabDoorKp
namespace Go.Proofs.YtaionhdamdhjjabDoor
open Go.RowKit

def IsSt (w : World) (a2 : Option Addr) (len2 cap2 : Nat) (l : List ByteArray) : Prop :=
  (a2 = none ∧ len2 = 0 ∧ cap2 = 0 ∧ l = []) ∨ (∃ b o, a2 = some ⟨b, o, none⟩ ∧ b < w.heap.size ∧ l.length = len2 ∧ ∀ i s, l[i]? = some s → w.cell? ⟨b, o + i, none⟩ = some (.string s)) ∨ ∃ x, a2 = some x ∧ len2 = 0 ∧ l = []
def IsLS (w : World) (a : Option Addr) (len : Nat) (zs : List (List ByteArray)) : Prop :=
  zs.length = len ∧ (0 < len → ∃ b o, a = some ⟨b, o, none⟩ ∧ b < w.heap.size ∧ ∀ i l, zs[i]? = some l → ∃ a2 n2 c2, w.cell? ⟨b, o + i, none⟩ = some (.slice a2 n2 c2) ∧ IsSt w a2 n2 c2 l ∧ n2 ≤ 9223372036854775807)
theorem IsSt.len {w : World} {a2 : Option Addr} {len2 cap2 : Nat} {l : List ByteArray} (h : IsSt w a2 len2 cap2 l) : l.length = len2 := by
  rcases h with ⟨_, h, _, rfl⟩ | ⟨_, _, _, _, h, _⟩ | ⟨_, _, h, rfl⟩
  · rw [h]; rfl
  · exact h
  · rw [h]; rfl
theorem IsSt.at {w : World} {a2 : Option Addr} {len2 cap2 : Nat} {l : List ByteArray} (h : IsSt w a2 len2 cap2 l) (i : Nat) (s : ByteArray) (hs : l[i]? = some s) : ∃ b o, a2 = some ⟨b, o, none⟩ ∧ b < w.heap.size ∧ w.cell? ⟨b, o + i, none⟩ = some (.string s) := by
  rcases h with ⟨_, _, _, rfl⟩ | ⟨b, o, h1, h2, _, h4⟩ | ⟨_, _, _, rfl⟩
  · cases hs
  · exact ⟨b, o, h1, h2, h4 i s hs⟩
  · cases hs
theorem IsLS.at {w : World} {a : Option Addr} {len : Nat} {zs : List (List ByteArray)} (h : IsLS w a len zs) (i : Nat) (hi : i < len) : ∃ b o l a2 n2 c2, a = some ⟨b, o, none⟩ ∧ b < w.heap.size ∧ zs[i]? = some l ∧ w.cell? ⟨b, o + i, none⟩ = some (.slice a2 n2 c2) ∧ IsSt w a2 n2 c2 l ∧ n2 ≤ 9223372036854775807 := by
  obtain ⟨b, o, h1, h2, h3⟩ := h.2 (by omega)
  obtain ⟨l, hl⟩ : ∃ l, zs[i]? = some l := ⟨_, List.getElem?_eq_getElem (by rw [h.1]; exact hi)⟩
  obtain ⟨a2, n2, c2, h4, h5, h6⟩ := h3 i l hl
  exact ⟨b, o, l, a2, n2, c2, h1, h2, hl, h4, h5, h6⟩

def Fit (l : List ByteArray) : Prop := l.length ≤ 21 ∧ ∀ t ∈ l, t.size ≤ 1000
def txt (l : List ByteArray) : ByteArray := mkB (joinL l)
def txts (zs : List (List ByteArray)) : List ByteArray := zs.map txt
theorem fit_join (l : List ByteArray) (h : ∀ t ∈ l, t.size ≤ 1000) : (joinL l).length ≤ 1006 * l.length := by
  induction l with
  | nil => simp [joinL]
  | cons t l ih =>
    have h1 := ih (fun t ht => h t (by simp [ht]))
    have h2 := h t (by simp)
    have h3 := encL_le t
    rw [joinL, List.length_append, List.length_cons]; omega
theorem Fit.size {l : List ByteArray} (h : Fit l) : (txt l).size ≤ 21126 := by
  have := fit_join l h.2
  unfold txt; rw [mkB_size]; have := h.1; omega
def TaS (zs : List (List ByteArray)) (len : Nat) (w : World) (s n i : Value) (wr : World) : Prop :=
  ∃ k : Nat, k ≤ len ∧ k ≤ 20 ∧ i = .int .i64 k ∧ n = .int .i64 k ∧ s = .string (mkB (FL 0 ((txts zs).take k))) ∧ offs (txts zs) k ≤ 21137 * k ∧ (∀ j l, j < k → zs[j]? = some l → Fit l) ∧ Below w.heap.size w wr
def TbS (l : List ByteArray) (v : Value) : Prop := ∃ q : Nat, q ≤ l.length ∧ q ≤ 21 ∧ v = .int .i64 q ∧ ∀ j s, j < q → l[j]? = some s → s.size ≤ 1000
theorem fit_of (l : List ByteArray) (q : Nat) (h : l.length ≤ q) (hq : q ≤ 21) (hs : ∀ j s, j < q → l[j]? = some s → s.size ≤ 1000) : Fit l := by
  refine ⟨by omega, fun t ht => ?_⟩
  obtain ⟨i, hi, rfl⟩ := List.getElem_of_mem ht
  exact hs i _ (by omega) (List.getElem?_eq_getElem hi)
theorem txts_at (zs : List (List ByteArray)) (k : Nat) (l : List ByteArray) (h : zs[k]? = some l) : ∃ hk : k < (txts zs).length, (txts zs)[k] = txt l := by
  obtain ⟨h1, h2⟩ := List.getElem?_eq_some_iff.1 h
  exact ⟨by unfold txts; simpa using h1, by unfold txts; simp [h2]⟩
theorem ta_step (zs : List (List ByteArray)) (k : Nat) (l : List ByteArray) (h : zs[k]? = some l) (hf : Fit l) (ho : offs (txts zs) k ≤ 21137 * k) :
    mkB (FL 0 ((txts zs).take k)) ++ mkB (frL (UInt8.ofNat k) (txt l)) = mkB (FL 0 ((txts zs).take (k + 1))) ∧ offs (txts zs) (k + 1) ≤ 21137 * (k + 1) ∧ (mkB (frL (UInt8.ofNat k) (txt l))).size ≤ 21137 ∧ (mkB (FL 0 ((txts zs).take k))).size ≤ 21137 * k := by
  obtain ⟨hk, ht⟩ := txts_at zs k l h
  have h1 := frL_len (UInt8.ofNat k) (txt l)
  have h2 := encL_le (txt l)
  have h3 := hf.size
  refine ⟨by rw [FL_snoc _ k hk, ht, mkB_app], by rw [offs_succ _ k hk, ht]; omega, by rw [mkB_size]; omega, by rw [mkB_size]; exact ho⟩
theorem below_st {w w' : World} {a2 : Option Addr} {len2 cap2 : Nat} {l : List ByteArray} (h : IsSt w a2 len2 cap2 l) (hb : Below w.heap.size w w') : IsSt w' a2 len2 cap2 l := by
  rcases h with h | ⟨b, o, h1, h2, h3, h4⟩ | h
  · exact .inl h
  · exact .inr (.inl ⟨b, o, h1, Nat.lt_of_lt_of_le h2 hb.size, h3, fun i s hs => (hb.cell (p := ⟨b, o + i, none⟩) h2).trans (h4 i s hs)⟩)
  · exact .inr (.inr h)
theorem laidS_zero (s : ByteArray) (n : Nat) : laidS s n 0 = newS n := (layS_eq s n 0 (Nat.zero_le _)).symm
def TcS (B g gd gc cd cc : Nat) (S : ByteArray) (m : Nat) (w : World) (i : Value) (wq : World) : Prop :=
  ∃ (j : Nat) (vw vk : Value), j ≤ m ∧ i = .int .i64 j ∧ IsD B (m + 1) g gd gc cd cc vw vk (laidS S (m + 1) j) wq ∧ Below B w wq
def TdS (S : ByteArray) (m : Nat) (wd : World) (b i : Value) (wq : World) : Prop :=
  ∃ j : Nat, j ≤ m ∧ i = .int .i64 j ∧ b = .string (backB S j) ∧ wq = wd
theorem whole_js (js : List ByteArray) (S : ByteArray) (hS : mkB (FL 0 js) = S) (hz : ∀ i (h : i < js.length), js[i].size ≤ 262144) : wholeI S = (S.size, js.length) := by
  have hs : S.size = (FL 0 js).length := by rw [← hS, mkB_size]
  have h := (whole_cut js S.size js.length hz (by omega) (Nat.le_refl _) (by rw [offs_all]; omega) (.inl rfl)).1
  rw [offs_all, hs, List.take_of_length_le (Nat.le_refl _), hS] at h
  rw [h, hs]
theorem te_facts (js : List ByteArray) (q : Nat) (hq : q < js.length) (hz : js[q].size ≤ 262144) (hq2 : q < 256) (T : ByteArray) (hT : mkB (FL q (js.drop q)) = T) :
    nextF T = ((q : Int), js[q], ((frL (UInt8.ofNat q) js[q]).length : Int), 0) ∧ (frL (UInt8.ofNat q) js[q]).length ≤ T.size ∧ T.extract (frL (UInt8.ofNat q) js[q]).length T.size = mkB (FL (q + 1) (js.drop (q + 1))) := by
  rw [FL_at js q hq] at hT
  subst hT
  refine ⟨?_, by rw [mkB_size]; simp, by rw [mkB_drop _ _ (by simp), List.drop_left]⟩
  rw [nextF_frame _ _ _ hz, UInt8.toNat_ofNat', Nat.mod_eq_of_lt (show q < 2 ^ 8 by omega)]
theorem te_size (js : List ByteArray) (q : Nat) (h : q ≤ js.length) : (mkB (FL q (js.drop q))).size ≤ (mkB (FL 0 js)).size := by
  rw [mkB_size, mkB_size, ← FL_drop js q h, List.length_drop]; omega
def TeS (js : List ByteArray) (w : World) (b i : Value) (wq : World) : Prop :=
  ∃ q : Nat, q ≤ js.length ∧ i = .int .i64 q ∧ b = .string (mkB (FL q (js.drop q))) ∧ Below w.heap.size w wq
def TfS (n : Nat) (w7 : World) (v : Value) (wq : World) : Prop := ∃ j : Nat, j ≤ n ∧ v = .int .i64 j ∧ Below w7.heap.size w7 wq
theorem tjs_at (zs : List (List ByteArray)) (k q : Nat) (l : List ByteArray) (h : zs[q]? = some l) (hq : q < k) : ∃ hk : q < ((txts zs).take k).length, ((txts zs).take k)[q] = txt l := by
  obtain ⟨h1, h2⟩ := txts_at zs q l h
  exact ⟨by rw [List.length_take]; omega, by rw [List.getElem_take]; exact h2⟩
theorem tjs_small (zs : List (List ByteArray)) (k : Nat) (hfit : ∀ j l, j < k → zs[j]? = some l → Fit l) (i : Nat) (h : i < ((txts zs).take k).length) : ((txts zs).take k)[i].size ≤ 262144 := by
  rw [List.length_take] at h
  have hl : i < zs.length := by have : (txts zs).length = zs.length := by unfold txts; simp
                                omega
  obtain ⟨hk, e⟩ := tjs_at zs k i zs[i] (List.getElem?_eq_getElem hl) (by omega)
  rw [e]
  have := (hfit i _ (by omega) (List.getElem?_eq_getElem hl)).size
  omega
end Go.Proofs.YtaionhdamdhjjabDoor
