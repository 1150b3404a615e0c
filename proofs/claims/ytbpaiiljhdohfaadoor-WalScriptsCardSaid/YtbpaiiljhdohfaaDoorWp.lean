/- Wal: what a commit or an opening leaves, wherever the power fails: over data alone. -/
import Derived.Test.YtbpaiiljhdohfaaDoorWk
namespace Go.Proofs.YtbpaiiljhdohfaaDoor
open Go.RowKit
variable {n f m t : Nat} {S : DS}

theorem keepTo_sub (lost : Nat → Int → Bool) (ws : List (Nat × ByteArray)) (k : Nat) : (keepTo lost ws k).Sublist ws := by
  unfold keepTo
  have h1 : (((ws.take k).zipIdx.filter fun q => !lost q.2 (q.1.1 : Int)).map (·.1)).Sublist ((ws.take k).zipIdx.map (·.1)) := List.Sublist.map _ (List.filter_sublist ..)
  rw [List.zipIdx_map_fst] at h1
  exact h1.trans (List.take_sublist _ _)
/-- Changes as they lie on the disk. -/
def padW (x : List (Nat × ByteArray)) : List (Nat × ByteArray) := x.map fun c => (c.1, padB c.2)
theorem padW_append (a b : List (Nat × ByteArray)) : padW (a ++ b) = padW a ++ padW b := List.map_append
theorem padW_length (a : List (Nat × ByteArray)) : (padW a).length = a.length := List.length_map _
theorem padB_padB (s : ByteArray) (h : s.size ≤ 512) : padB (padB s) = padB s := by
  have hz := padB_size s h
  generalize hp : padB s = p at hz ⊢
  show p ++ ⟨(Lib.repeatL [0] (512 - p.size)).toArray⟩ = p
  rw [hz]
  exact ByteArray.append_empty
theorem padW_padW (x : List (Nat × ByteArray)) (h : ∀ c ∈ x, c.2.size ≤ 512) : padW (padW x) = padW x := by
  unfold padW
  rw [List.map_map]
  exact List.map_congr_left fun c hc => by show (c.1, padB (padB c.2)) = _; rw [padB_padB _ (h c hc)]
/-- A disk with power on; one without. -/
structure On (S : DS) : Prop where
  off : S.off = false
  cu : S.cur = putW S.dur S.ws
structure Dead (S : DS) : Prop where
  off : S.off = true
  ws : S.ws = []
  cu : S.cur = S.dur
  left : S.left = 0
structure Clean (S : DS) : Prop where
  off : S.off = false
  ws : S.ws = []
  cu : S.cur = S.dur
theorem Clean.on (h : Clean S) : On S := ⟨h.off, by rw [h.cu, h.ws]; rfl⟩
theorem putW_app (L : List ByteArray) (a b : List (Nat × ByteArray)) : putW L (a ++ b) = putW (putW L a) b := by unfold putW; rw [List.foldl_append]
theorem dead_fail (zs : List Int) (S : DS) : Dead (failS zs S) ∧ ∃ y, y.Sublist S.ws ∧ (failS zs S).dur = putW S.dur y :=
  ⟨⟨rfl, rfl, rfl, rfl⟩, _, keepTo_sub _ _ _, rfl⟩
theorem write_cases (h : On S) (k : Nat) (s : ByteArray) :
    ((writeS k s S).1 = 0 ∧ On (writeS k s S).2 ∧ (writeS k s S).2.dur = S.dur ∧ (writeS k s S).2.ws = S.ws ++ [(k, padB s)] ∧ (S.left = 0 → (writeS k s S).2.left = 0)) ∨
    ((writeS k s S).1 = 7 ∧ Dead (writeS k s S).2 ∧ S.left ≠ 0 ∧ ∃ y, y.Sublist S.ws ∧ (writeS k s S).2.dur = putW S.dur y) := by
  by_cases hl : S.left = 1
  · have e : begS S = (false, failS S.kp S) := by unfold begS; rw [if_neg (by rw [h.off]; decide), if_pos hl]
    have e2 : writeS k s S = (7, failS S.kp S) := by unfold writeS; rw [e]; rfl
    rw [e2]
    obtain ⟨h1, h2⟩ := dead_fail S.kp S
    exact .inr ⟨rfl, h1, by omega, h2⟩
  · have e : begS S = (true, { S with done := S.done + 1, left := max (S.left - 1) 0 }) := by unfold begS; rw [if_neg (by rw [h.off]; decide), if_neg hl]
    have e2 : writeS k s S = (0, { S with done := S.done + 1, left := max (S.left - 1) 0, cur := S.cur.set k (padB s), ws := S.ws ++ [(k, padB s)] }) := by unfold writeS; rw [e]; rfl
    rw [e2]
    refine .inl ⟨rfl, ⟨h.off, ?_⟩, rfl, rfl, fun h0 => ?_⟩
    · show S.cur.set k (padB s) = putW S.dur (S.ws ++ [(k, padB s)])
      rw [h.cu, putW_append]
    · show max (S.left - 1) 0 = 0
      omega
theorem sync_cases (h : On S) :
    ((syncS S).1 = 0 ∧ Clean (syncS S).2 ∧ (syncS S).2.dur = putW S.dur S.ws ∧ (S.left = 0 → (syncS S).2.left = 0)) ∨
    ((syncS S).1 = 7 ∧ Dead (syncS S).2 ∧ S.left ≠ 0 ∧ ∃ y, y.Sublist S.ws ∧ (syncS S).2.dur = putW S.dur y) := by
  by_cases hl : S.left = 1
  · have e : begS S = (false, failS S.kp S) := by unfold begS; rw [if_neg (by rw [h.off]; decide), if_pos hl]
    have e2 : syncS S = (7, failS S.kp S) := by unfold syncS; rw [e]; rfl
    rw [e2]
    obtain ⟨h1, h2⟩ := dead_fail S.kp S
    exact .inr ⟨rfl, h1, by omega, h2⟩
  · have e : begS S = (true, { S with done := S.done + 1, left := max (S.left - 1) 0 }) := by unfold begS; rw [if_neg (by rw [h.off]; decide), if_neg hl]
    have e2 : syncS S = (0, { S with done := S.done + 1, left := max (S.left - 1) 0, dur := putW S.dur S.ws, ws := [] }) := by unfold syncS; rw [e]; rfl
    rw [e2]
    refine .inl ⟨rfl, ⟨h.off, rfl, h.cu⟩, rfl, fun h0 => ?_⟩
    show max (S.left - 1) 0 = 0
    omega
theorem puts_cases (h : On S) (x : List (Nat × ByteArray)) :
    ((putsS x S).1 = 0 ∧ On (putsS x S).2 ∧ (putsS x S).2.dur = S.dur ∧ (putsS x S).2.ws = S.ws ++ padW x ∧ (S.left = 0 → (putsS x S).2.left = 0)) ∨
    ((putsS x S).1 = 7 ∧ Dead (putsS x S).2 ∧ S.left ≠ 0 ∧ ∃ y, y.Sublist (S.ws ++ padW x) ∧ (putsS x S).2.dur = putW S.dur y) := by
  induction x generalizing S with
  | nil => exact .inl ⟨rfl, h, rfl, (List.append_nil _).symm, fun h => h⟩
  | cons c x ih =>
    have e : padW (c :: x) = (c.1, padB c.2) :: padW x := rfl
    rcases write_cases h c.1 c.2 with ⟨h1, h2, h3, h4, h5⟩ | ⟨h1, h2, h3, y, h4, h5⟩
    · have e2 : putsS (c :: x) S = putsS x (writeS c.1 c.2 S).2 := if_pos h1
      rw [e2, e]
      rcases ih h2 with ⟨k1, k2, k3, k4, k5⟩ | ⟨k1, k2, k3, y, k4, k5⟩
      · exact .inl ⟨k1, k2, k3.trans h3, by rw [k4, h4]; simp, fun h0 => k5 (h5 h0)⟩
      · refine .inr ⟨k1, k2, fun h0 => k3 (h5 h0), y, ?_, by rw [k5, h3]⟩
        rw [h4] at k4
        simpa using k4
    · have e2 : putsS (c :: x) S = writeS c.1 c.2 S := if_neg (by rw [h1]; decide)
      rw [e2]
      exact .inr ⟨h1, h2, h3, y, h4.trans (List.sublist_append_left _ _), h5⟩
theorem make_cases (h : Clean S) (x : List (Nat × ByteArray)) :
    ((makeS x S).1 = 0 ∧ Clean (makeS x S).2 ∧ (makeS x S).2.dur = putW S.dur (padW x) ∧ (S.left = 0 → (makeS x S).2.left = 0)) ∨
    ((makeS x S).1 = 7 ∧ Dead (makeS x S).2 ∧ S.left ≠ 0 ∧ ∃ y, y.Sublist (padW x) ∧ (makeS x S).2.dur = putW S.dur y) := by
  rcases puts_cases h.on x with ⟨h1, h2, h3, h4, h5⟩ | ⟨h1, h2, h3, y, h4, h5⟩
  · have e : makeS x S = syncS (putsS x S).2 := thenS_ok _ h1
    rw [e]
    rw [h.ws, List.nil_append] at h4
    rcases sync_cases h2 with ⟨k1, k2, k3, k4⟩ | ⟨k1, k2, k3, y, k4, k5⟩
    · exact .inl ⟨k1, k2, by rw [k3, h3, h4], fun h0 => k4 (h5 h0)⟩
    · exact .inr ⟨k1, k2, fun h0 => k3 (h5 h0), y, by rw [h4] at k4; exact k4, by rw [k5, h3]⟩
  · have e : makeS x S = putsS x S := thenS_no _ (by rw [h1]; decide)
    rw [e]
    rw [h.ws, List.nil_append] at h4
    exact .inr ⟨h1, h2, h3, y, h4, h5⟩
theorem putW_get_out (ws : List (Nat × ByteArray)) : ∀ (L : List ByteArray) (j : Nat), (∀ p ∈ ws, p.1 ≠ j) → (putW L ws)[j]? = L[j]? := by
  induction ws with
  | nil => intro L j _; rfl
  | cons p ws ih =>
    intro L j h
    show (putW (L.set p.1 p.2) ws)[j]? = _
    rw [ih _ j (fun q hq => h q (List.mem_cons_of_mem _ hq)), List.getElem?_set_ne (h p (List.mem_cons_self ..))]
theorem putW_get_congr (ws : List (Nat × ByteArray)) : ∀ (L L' : List ByteArray) (j : Nat), L.length = L'.length → (L[j]? = L'[j]? ∨ ∃ p ∈ ws, p.1 = j) → (putW L ws)[j]? = (putW L' ws)[j]? := by
  induction ws with
  | nil =>
    intro L L' j _ h
    rcases h with h | ⟨p, hp, _⟩
    · exact h
    · cases hp
  | cons p ws ih =>
    intro L L' j hl h
    show (putW (L.set p.1 p.2) ws)[j]? = (putW (L'.set p.1 p.2) ws)[j]?
    refine ih _ _ j (by rw [List.length_set, List.length_set, hl]) ?_
    by_cases hp : p.1 = j
    · left
      subst hp
      rw [List.getElem?_set, List.getElem?_set, if_pos rfl, if_pos rfl, hl]
    · rcases h with h | ⟨q, hq, h⟩
      · left
        rw [List.getElem?_set_ne hp, List.getElem?_set_ne hp, h]
      · rcases List.mem_cons.1 hq with rfl | hq
        · exact absurd h hp
        · exact .inr ⟨q, hq, h⟩
theorem sub_one {y : List (Nat × ByteArray)} {c : Nat × ByteArray} (h : y.Sublist [c]) : y = [] ∨ y = [c] := by
  cases h with
  | cons _ h => exact .inl (List.sublist_nil.1 h)
  | cons_cons _ h => exact .inr (by rw [List.sublist_nil.1 h])
/-- The bytes of a cleared head. -/
def zeroS : ByteArray := padB ⟨#[]⟩
theorem zeroS_two : byteAt zeroS 2 = 0 := by unfold zeroS padB; decide +kernel
/-- Outside of the log. -/
def Out (f m j : Nat) : Prop := j < f ∨ f + 1 + m ≤ j
/-- All is as ahead of a commit. -/
structure Before (f m : Nat) (D L : List ByteArray) : Prop where
  len : L.length = D.length
  head : L[f]? = some zeroS
  out : ∀ j, Out f m j → L[j]? = D[j]?
/-- The head describes the changes. -/
structure Mid (f m : Nat) (D : List ByteArray) (x : List (Nat × ByteArray)) (L : List ByteArray) : Prop where
  len : L.length = D.length
  head : L[f]? = some (headB x)
  img : ∀ i c, x[i]? = some c → L[f + 1 + i]? = some (padB c.2)
  out : ∀ j, Out f m j → (∀ c ∈ x, c.1 ≠ j) → L[j]? = D[j]?
/-- All is as behind it. -/
structure After (f m : Nat) (D : List ByteArray) (x : List (Nat × ByteArray)) (L : List ByteArray) : Prop where
  len : L.length = D.length
  head : L[f]? = some zeroS
  out : ∀ j, Out f m j → L[j]? = (putW D (padW x))[j]?
theorem putW_one_self (L : List ByteArray) (k : Nat) (s : ByteArray) (h : k < L.length) : (putW L [(k, s)])[k]? = some s := List.getElem?_set_self h
theorem headB_get (x : List (Nat × ByteArray)) (hl : x.length ≤ 64) (i : Nat) (hi : i < (hdL x).length) : byteAt (headB x) i = ((hdL x).getD i 0).toNat := by
  unfold byteAt headB padB
  have h1 : i < (mkBy (hdL x)).data.size := by show i < (hdL x).toArray.size; rw [List.size_toArray]; exact hi
  have e : ((mkBy (hdL x) ++ leB (crcL (hdL x ++ bodyL x))) ++ (⟨(Lib.repeatL [0] (512 - (mkBy (hdL x) ++ leB (crcL (hdL x ++ bodyL x))).size)).toArray⟩ : ByteArray)).data.getD i 0 = (hdL x).getD i 0 := by
    rw [Array.getD_eq_getD_getElem?, List.getD_eq_getElem?_getD]
    congr 1
    rw [ByteArray.data_append, ByteArray.data_append, Array.getElem?_append_left (by rw [Array.size_append]; omega), Array.getElem?_append_left h1]
    show (hdL x).toArray[i]? = _
    rw [List.getElem?_toArray]
  rw [e]
theorem sec_get (x : List (Nat × ByteArray)) (i : Nat) (c : Nat × ByteArray) (h : x[i]? = some c) : (x.flatMap secB)[2 * i]? = some (UInt8.ofNat (c.1 / 256 % 256)) ∧ (x.flatMap secB)[2 * i + 1]? = some (UInt8.ofNat (c.1 % 256)) := by
  induction x generalizing i with
  | nil => simp at h
  | cons q x ih =>
    have e : (q :: x).flatMap secB = UInt8.ofNat (q.1 / 256 % 256) :: UInt8.ofNat (q.1 % 256) :: x.flatMap secB := rfl
    rw [e]
    cases i with
    | zero => simp at h; subst h; exact ⟨rfl, rfl⟩
    | succ i =>
      rw [List.getElem?_cons_succ] at h
      rw [show 2 * (i + 1) = 2 * i + 1 + 1 by omega]
      exact ih i h
theorem byte_mod (v : Nat) (h : v < 256) : (UInt8.ofNat v).toNat = v := by rw [UInt8.toNat_ofNat']; omega
theorem headB_len (x : List (Nat × ByteArray)) (hl : x.length ≤ 64) : byteAt (headB x) 2 = x.length := by
  rw [headB_get x hl 2 (by rw [hdL_eq, List.length_append]; show 2 < 3 + _; omega)]
  show (UInt8.ofNat x.length).toNat = _
  exact byte_mod _ (by omega)
theorem headB_sec (x : List (Nat × ByteArray)) (hl : x.length ≤ 64) (i : Nat) (c : Nat × ByteArray) (h : x[i]? = some c) (hc : c.1 < 65536) : 256 * byteAt (headB x) (3 + 2 * i) + byteAt (headB x) (4 + 2 * i) = c.1 := by
  obtain ⟨h1, h2⟩ := sec_get x i c h
  have hlt := (List.getElem?_eq_some_iff.1 h).1
  have hlen : (hdL x).length = 3 + 2 * x.length := by rw [hdL_eq, List.length_append, secs_len]; rfl
  have e : ∀ j, (hdL x)[3 + j]? = (x.flatMap secB)[j]? := fun j => by
    rw [hdL_eq, List.getElem?_append_right (by show 3 ≤ _; omega), show 3 + j - (hd3 x.length).length = j from by show 3 + j - 3 = j; omega]
  rw [headB_get x hl _ (by omega), headB_get x hl _ (by omega), List.getD_eq_getElem?_getD, List.getD_eq_getElem?_getD, e (2 * i), show 4 + 2 * i = 3 + (2 * i + 1) by omega, e (2 * i + 1), h1, h2]
  show 256 * (UInt8.ofNat (c.1 / 256 % 256)).toNat + (UInt8.ofNat (c.1 % 256)).toNat = c.1
  rw [byte_mod _ (by omega), byte_mod _ (by omega)]
  omega
theorem hdL_padW (x : List (Nat × ByteArray)) : hdL (padW x) = hdL x := by
  rw [hdL_eq, hdL_eq, padW_length]
  congr 1
  unfold padW
  rw [List.flatMap_map]
  rfl
theorem bodyL_padW (x : List (Nat × ByteArray)) (h : ∀ c ∈ x, c.2.size ≤ 512) : bodyL (padW x) = bodyL x := by
  unfold bodyL padW
  rw [List.flatMap_map]
  induction x with
  | nil => rfl
  | cons c x ih =>
    rw [List.flatMap_cons, List.flatMap_cons, ih (fun c hc => h c (List.mem_cons_of_mem _ hc))]
    show (padB (padB c.2)).data.toList ++ _ = _
    rw [padB_padB _ (h c (List.mem_cons_self ..))]
theorem headB_padW (x : List (Nat × ByteArray)) (h : ∀ c ∈ x, c.2.size ≤ 512) : headB (padW x) = headB x := by
  unfold headB
  rw [hdL_padW, bodyL_padW x h]
theorem takes_padW {x : List (Nat × ByteArray)} (h : Takes n f m (intC x)) : Takes n f m (intC (padW x)) := by
  obtain ⟨h1, h2, h3⟩ := h
  rw [intC_length] at h1 h2
  refine ⟨by rw [intC_length, padW_length]; exact h1, by rw [intC_length, padW_length]; exact h2, fun c hc => ?_⟩
  obtain ⟨c1, hc1, rfl⟩ := List.mem_map.1 hc
  obtain ⟨c2, hc2, rfl⟩ := List.mem_map.1 hc1
  obtain ⟨k1, k2, k3, k4⟩ := h3 ((c2.1 : Int), c2.2) (List.mem_map.2 ⟨c2, hc2, rfl⟩)
  exact ⟨k1, k2, k3, by show (padB c2.2).size ≤ 512; rw [padB_size _ k4]; exact Nat.le_refl _⟩
/-- With a cleared head nothing is found. -/
theorem found_zero {L : List ByteArray} (hc : S.cur = L) (h : L[f]? = some zeroS) : foundS n f m S = [] := by
  have e : S.cur.getD f ⟨#[]⟩ = zeroS := by rw [hc, List.getD_eq_getElem?_getD, h]; rfl
  unfold foundS
  refine if_neg fun h' => ?_
  have := h'.2.2.1
  rw [e, zeroS_two] at this
  exact absurd this (show ¬ (1 ≤ 0) by decide)
/-- With a head that describes changes they are found. -/
theorem found_mid {D L : List ByteArray} {x : List (Nat × ByteArray)} (hc : S.cur = L) (h : Mid f m D x L) (hT : Takes n f m (intC x)) (hm : m ≤ 64) (hn : n ≤ 4096) : foundS n f m S = padW x := by
  obtain ⟨t1, t2⟩ := takes_nat hT
  have e : S.cur.getD f ⟨#[]⟩ = headB x := by rw [hc, List.getD_eq_getElem?_getD, h.head]; rfl
  have ek : byteAt (headB x) 2 = x.length := headB_len x (by omega)
  have ed : descrS f x.length S = padW x := by
    apply List.ext_getElem?
    intro i
    unfold descrS padW
    rw [List.getElem?_map, List.getElem?_map]
    rcases Nat.lt_or_ge i x.length with hi | hi
    · have hx : x[i]? = some x[i] := List.getElem?_eq_getElem hi
      rw [List.getElem?_range hi, hx]
      have hcm := t2 _ (List.getElem_mem hi)
      have e1 := headB_sec x (by omega) i _ hx (by omega)
      have e2 := h.img i _ hx
      show some _ = some _
      congr 1
      refine Prod.ext ?_ ?_
      · show 256 * byteAt (S.cur.getD f ⟨#[]⟩) _ + byteAt (S.cur.getD f ⟨#[]⟩) _ = _
        rw [e]; exact e1
      · show S.cur.getD (f + 1 + i) ⟨#[]⟩ = _
        rw [hc, List.getD_eq_getElem?_getD, e2]; rfl
    · rw [List.getElem?_eq_none (by rw [List.length_range]; exact hi), List.getElem?_eq_none hi]; rfl
  unfold foundS
  rw [e, ek, ed]
  exact if_pos ⟨by omega, (headB_padW x (fun c hc => (t2 c hc).2)).symm, takes_padW hT⟩
end Go.Proofs.YtbpaiiljhdohfaaDoor
