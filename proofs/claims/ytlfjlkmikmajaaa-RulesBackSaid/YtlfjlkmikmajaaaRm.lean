/- Lists of merges, plain facts: a long list's text, with what may stand behind it. -/
import Derived.Test.YtlfjlkmikmajaaaRa
namespace Go.Proofs.Ytlfjlkmikmajaaa
open Go.RowKit

theorem cut_partsT {S : ByteArray} {l : List PairB} {R : List UInt8} (hS : S.data.toList = showM l ++ R) {i : Nat} {p : PairB} (hi : l[i]? = some p) (hn : ∀ c ∈ (lineB p).data.toList, c ≠ 10) :
    (showM (l.take i)).length + (lineB p).data.toList.length + 1 ≤ S.size ∧ nlAt S (showM (l.take i)).length = (showM (l.take i)).length + (lineB p).data.toList.length ∧
    S.extract (showM (l.take i)).length (nlAt S (showM (l.take i)).length) = lineB p := by
  have hl := (List.getElem?_eq_some_iff.1 hi).1
  have hpe := (List.getElem?_eq_some_iff.1 hi).2
  have hsplit : showM l = showM (l.take i) ++ ((lineB p).data.toList ++ 10 :: showM (l.drop (i + 1))) := by
    rw [← showM_cons, ← showM_append, ← hpe, ← List.drop_eq_getElem_cons hl, List.take_append_drop]
  have hdrop : S.data.toList.drop (showM (l.take i)).length = (lineB p).data.toList ++ 10 :: (showM (l.drop (i + 1)) ++ R) := by
    rw [hS, hsplit, List.append_assoc, List.drop_append, List.drop_of_length_le (Nat.le_refl _)]
    simp
  have hlen : S.size = (showM (l.take i)).length + ((lineB p).data.toList.length + (1 + (showM (l.drop (i + 1))).length)) + R.length := by
    rw [← size_len, hS, hsplit, List.length_append, List.length_append, List.length_append, List.length_cons]; omega
  have hnl : nlAt S (showM (l.take i)).length = (showM (l.take i)).length + (lineB p).data.toList.length := by
    unfold nlAt
    rw [hdrop, tw_at10 _ _ hn]
  refine ⟨by omega, hnl, ?_⟩
  apply ba_ext
  rw [ext_list, hdrop, hnl, Nat.add_sub_cancel_left]
  simp
theorem show_runT {rd : List PairB → ByteArray → PairB ⊕ Int} {l : List PairB} {R : List UInt8} (S : ByteArray) (hS : S.data.toList = showM l ++ R) (hn : ∀ p ∈ l, ∀ c ∈ (lineB p).data.toList, c ≠ 10) :
    ∀ i, i ≤ l.length → i ≤ 4096 → (∀ j p, j < i → l[j]? = some p → rd (l.take j) (lineB p) = .inl p) → restF rd S 0 [] = restF rd S (showM (l.take i)).length (l.take i)
  | 0, _, _, _ => rfl
  | i + 1, hi, hi2, h => by
    rw [show_runT S hS hn i (by omega) (by omega) (fun j p hj => h j p (by omega))]
    have hl : i < l.length := by omega
    have hp := List.getElem?_eq_getElem hl
    have hr := h i _ (Nat.lt_succ_self i) hp
    obtain ⟨p, hpe⟩ : ∃ p, l[i] = p := ⟨_, rfl⟩
    rw [hpe] at hp hr
    have hmem : p ∈ l := List.mem_of_getElem? hp
    obtain ⟨q1, q2, q3⟩ := cut_partsT hS hp (hn p hmem)
    rw [restF_step rd _ (by omega), if_neg (by rw [List.length_take]; omega), if_neg (by omega), q3, hr]
    have ht : l.take (i + 1) = l.take i ++ [p] := by rw [List.take_add_one, hp]; rfl
    rw [ht, showM_append, showM_one, q2]
    simp [Nat.add_assoc]
/-- The i-th pair of the long list. -/
def pairI (i : Nat) : PairB := (⟨#[97, UInt8.ofNat (33 + i % 90), UInt8.ofNat (33 + i / 90)]⟩, ⟨#[98]⟩)
def manyL (n : Nat) : List PairB := (List.range n).map pairI
def lineI (i : Nat) : List UInt8 := [97, UInt8.ofNat (33 + i % 90), UInt8.ofNat (33 + i / 90), 32, 98, 10]
theorem manyL_len (n : Nat) : (manyL n).length = n := by unfold manyL; simp
theorem manyL_get {n i : Nat} (h : i < n) : (manyL n)[i]? = some (pairI i) := by unfold manyL; rw [List.getElem?_map, List.getElem?_range h]; rfl
theorem manyL_succ (n : Nat) : manyL (n + 1) = manyL n ++ [pairI n] := by unfold manyL; rw [List.range_succ, List.map_append]; rfl
theorem manyL_take {n i : Nat} (h : i ≤ n) : (manyL n).take i = manyL i := by
  unfold manyL
  rw [← List.map_take, List.take_range, Nat.min_eq_left h]
theorem show_lineI (i : Nat) : showM [pairI i] = lineI i := rfl
theorem show_manyS (n : Nat) : showM (manyL (n + 1)) = showM (manyL n) ++ lineI n := by rw [manyL_succ, showM_append, show_lineI]
theorem show_many_len : ∀ n, (showM (manyL n)).length = 6 * n
  | 0 => rfl
  | n + 1 => by rw [show_manyS, List.length_append, show_many_len n]; show _ + 6 = _; omega
theorem toN (k : Nat) (h : k < 256) : (UInt8.ofNat k).toNat = k := by rw [UInt8.toNat_ofNat']; omega
theorem pairI_good {i : Nat} (h : i < 4200) : goodB (pairI i).1 = true ∧ goodB (pairI i).2 = true := by
  refine ⟨?_, by show goodB ⟨#[98]⟩ = true; decide +kernel⟩
  have h1 := toN (33 + i % 90) (by omega)
  have h2 := toN (33 + i / 90) (by omega)
  obtain ⟨x, hx⟩ : ∃ x, UInt8.ofNat (33 + i % 90) = x := ⟨_, rfl⟩
  obtain ⟨y, hy⟩ : ∃ y, UInt8.ofNat (33 + i / 90) = y := ⟨_, rfl⟩
  rw [hx] at h1; rw [hy] at h2
  show goodB ⟨#[97, UInt8.ofNat (33 + i % 90), UInt8.ofNat (33 + i / 90)]⟩ = true
  rw [hx, hy]
  have hs : ByteArray.size ⟨#[97, x, y]⟩ = 3 := rfl
  unfold goodB
  rw [hs]
  have e1 : decide (33 ≤ (x.toNat : Int) ∧ (x.toNat : Int) ≤ 126) = true := decide_eq_true (by omega)
  have e2 : decide (33 ≤ (y.toNat : Int) ∧ (y.toNat : Int) ≤ 126) = true := decide_eq_true (by omega)
  show (decide (0 < 3) && decide (3 ≤ 64) && ([97, x, y] : List UInt8).all _) = true
  rw [List.all_cons, List.all_cons, List.all_cons, List.all_nil]
  show (_ && (decide (33 ≤ (x.toNat : Int) ∧ (x.toNat : Int) ≤ 126) && (decide (33 ≤ (y.toNat : Int) ∧ (y.toNat : Int) ≤ 126) && true))) = true
  rw [e1, e2]; rfl
theorem pairI_inj {i j : Nat} (h1 : i < 4200) (h2 : j < 4200) (h : pairI i = pairI j) : i = j := by
  have e := congrArg (fun p : PairB => p.1.data.toList) h
  have e : [97, UInt8.ofNat (33 + i % 90), UInt8.ofNat (33 + i / 90)] = [97, UInt8.ofNat (33 + j % 90), UInt8.ofNat (33 + j / 90)] := e
  injection e with _ e
  injection e with e1 e
  injection e with e2 _
  have a1 := congrArg UInt8.toNat e1
  have a2 := congrArg UInt8.toNat e2
  rw [toN _ (by omega), toN _ (by omega)] at a1 a2
  omega
theorem rank_none {l : List PairB} {p : PairB} (h : ∀ q ∈ l, q ≠ p) : rankN l p = none := rankN_none.2 (fun hm => h p hm rfl)
theorem pairI_no {i : Nat} (h : i < 4200) : (∀ c ∈ (lineB (pairI i)).data.toList, c ≠ 10) ∧ ∀ c ∈ (pairI i).1.data.toList, c ≠ 32 := by
  have h1 := toN (33 + i % 90) (by omega)
  have h2 := toN (33 + i / 90) (by omega)
  have k1 : UInt8.ofNat (33 + i % 90) ≠ 10 ∧ UInt8.ofNat (33 + i % 90) ≠ 32 := by
    constructor <;> intro e <;> rw [e] at h1 <;> simp at h1 <;> omega
  have k2 : UInt8.ofNat (33 + i / 90) ≠ 10 ∧ UInt8.ofNat (33 + i / 90) ≠ 32 := by
    constructor <;> intro e <;> rw [e] at h2 <;> simp at h2 <;> omega
  constructor
  · intro c hc
    have hc : c ∈ [97, UInt8.ofNat (33 + i % 90), UInt8.ofNat (33 + i / 90), 32, 98] := hc
    simp only [List.mem_cons, List.not_mem_nil, or_false] at hc
    rcases hc with rfl | rfl | rfl | rfl | rfl
    · decide
    · exact k1.1
    · exact k2.1
    · decide
    · decide
  · intro c hc
    have hc : c ∈ [97, UInt8.ofNat (33 + i % 90), UInt8.ofNat (33 + i / 90)] := hc
    simp only [List.mem_cons, List.not_mem_nil, or_false] at hc
    rcases hc with rfl | rfl | rfl
    · decide
    · exact k1.2
    · exact k2.2
theorem many_rd {n j : Nat} {p : PairB} (hn : n < 4200) (hp : (manyL n)[j]? = some p) : rdM ((manyL n).take j) (lineB p) = .inl p := by
  have hj := (List.getElem?_eq_some_iff.1 hp).1
  rw [manyL_len] at hj
  rw [manyL_get hj] at hp
  have hp := Option.some.inj hp
  subst hp
  unfold rdM
  rw [(pair_of_line _ (pairI_no (by omega)).2).1, (pairI_good (i := j) (by omega)).1, (pairI_good (i := j) (by omega)).2, manyL_take (by omega), rank_none (p := pairI j) (fun q hq e => ?_)]
  · rfl
  · obtain ⟨i, hi, rfl⟩ := List.mem_map.1 hq
    rw [List.mem_range] at hi
    have := pairI_inj (by omega) (by omega) e
    omega
theorem many_no {n : Nat} (hn : n < 4200) : ∀ p ∈ manyL n, ∀ c ∈ (lineB p).data.toList, c ≠ 10 := fun p hp => by
  obtain ⟨i, hi, rfl⟩ := List.mem_map.1 hp
  rw [List.mem_range] at hi
  exact (pairI_no (by omega)).1
/-- The text that the law makes, and what it is read as. -/
def manyT (n : Nat) (wrong : Bool) : List UInt8 := showM (manyL n) ++ if wrong then [120, 10] else []
def manyR (n : Nat) (wrong : Bool) : List PairB × Int × Int := if 4096 < n ∨ (wrong = true ∧ n = 4096) then ([], 4097, 6) else if wrong then ([], (n : Int) + 1, 2) else (manyL n, 0, 0)
theorem many_parse {n : Nat} {wrong : Bool} {S : ByteArray} (hn : n < 4200) (hS : S.data.toList = manyT n wrong) : parseM S = manyR n wrong := by
  have hlen : S.size = 6 * n + if wrong then 2 else 0 := by
    rw [← size_len, hS]; unfold manyT; rw [List.length_append, show_many_len]; cases wrong <;> rfl
  have hsz : S.size ≤ 262144 := by rw [hlen]; cases wrong <;> simp <;> omega
  unfold parseM
  rw [parseL_eq rdM hsz]
  have hrun := fun i h1 h2 => show_runT (rd := rdM) S hS (many_no hn) i h1 h2 (fun j p _ hp => many_rd hn hp)
  unfold manyR
  by_cases h1 : 4096 < n ∨ (wrong = true ∧ n = 4096)
  · rw [if_pos h1, hrun 4096 (by rw [manyL_len]; omega) (Nat.le_refl _), manyL_take (by omega), show_many_len, restF_step rdM _ (by
      rcases h1 with h1 | ⟨rfl, rfl⟩
      · omega
      · simp at hlen; omega), if_pos (by rw [manyL_len]; exact Nat.le_refl _), manyL_len]
    rfl
  · rw [if_neg h1, hrun n (by rw [manyL_len]; exact Nat.le_refl _) (by omega), manyL_take (Nat.le_refl _), show_many_len]
    cases wrong with
    | false => rw [restF_end rdM _ (by simp at hlen; omega)]; rfl
    | true =>
      have hlen : S.size = 6 * n + 2 := hlen
      have hn2 : n < 4096 := by simp at h1; omega
      have hdrop : S.data.toList.drop (6 * n) = [120, 10] := by
        rw [hS]; unfold manyT
        rw [List.drop_append, List.drop_of_length_le (by rw [show_many_len]; omega), show_many_len]
        simp
      have hnl : nlAt S (6 * n) = 6 * n + 1 := by unfold nlAt; rw [hdrop]; rfl
      have hx : S.extract (6 * n) (nlAt S (6 * n)) = ⟨#[120]⟩ := by
        apply ba_ext
        rw [ext_list, hdrop, hnl, Nat.add_sub_cancel_left]; rfl
      rw [restF_step rdM _ (by omega), if_neg (by rw [manyL_len]; omega), if_neg (by omega), hx, show rdM (manyL n) ⟨#[120]⟩ = .inr 2 by
        unfold rdM
        rw [show goodB (pairOf ⟨#[120]⟩).2 = false by decide +kernel, Bool.and_false]; rfl]
      rw [manyL_len]
      rfl
end Go.Proofs.Ytlfjlkmikmajaaa
