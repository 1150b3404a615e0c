/- Merges, plain facts: what splitting leaves; longer lists; one pair. -/
import Derived.Test.YtbegjgceemffcaaPb
namespace Go.Proofs.Ytbegjgceemffcaa
open Go.RowKit

theorem split_ind {l : List PairB} (hl : l.length ≤ 100000) (Q : List ByteArray → Prop) (hs : ∀ P (k : Nat) (a b : ByteArray), Q P → P[k]? = some a → P[k + 1]? = some b → (a, b) ∈ l → Q (mergeL a b P)) : ∀ (n : Nat) (P : List ByteArray), Q P → Q (splitN n l P)
  | 0, _, h => h
  | n + 1, P, h => by
    unfold splitN
    split
    · exact h
    · rename_i hb
      obtain ⟨k, a, b, h1, h2, h3⟩ := bestI_at l hl P hb
      obtain ⟨e, _, h4, h5⟩ := pairAt_of h3 hb
      rw [e]
      exact split_ind hl Q hs n _ (hs P k a b h h1 h2 (List.mem_of_getElem? h5))
theorem splitP_fix {l : List PairB} (hl : l.length ≤ 100000) : ∀ (n : Nat) (P : List ByteArray), P.length ≤ n → bestI l (splitN n l P) = noR
  | 0, P, h => by
    have : P = [] := List.eq_nil_of_length_eq_zero (by omega)
    subst this
    rfl
  | n + 1, P, h => by
    unfold splitN
    split
    · assumption
    · rename_i hb
      have := (mergeL_best hl hb).1
      exact splitP_fix hl n _ (by omega)
theorem bestI_apart {l : List PairB} (hl : l.length ≤ 100000) : ∀ (P : List ByteArray) (k : Nat) (a b : ByteArray), bestI l P = noR → P[k]? = some a → P[k + 1]? = some b → (a, b) ∉ l
  | [], k, a, b, _, h, _ => by simp at h
  | [_], 0, _, _, _, _, h => by simp at h
  | [_], _ + 1, _, _, _, h, _ => by simp at h
  | x :: y :: r, k, a, b, hb, h1, h2 => by
    unfold bestI at hb
    have b1 := rkI_bd l (x, y) hl
    have b2 := bestI_bd l hl (y :: r)
    cases k with
    | zero =>
      simp at h1 h2
      subst h1; subst h2
      exact rankN_none.1 ((rkI_no hl).1 (by omega))
    | succ k => exact bestI_apart hl (y :: r) k a b (by omega) h1 h2
/-- What each part is. -/
def Part (l : List PairB) (p : ByteArray) : Prop := p.size ≠ 0 ∧ (p.size = 1 ∨ ∃ q ∈ l, q.1 ++ q.2 = p)
theorem app_size (a b : ByteArray) : (a ++ b).size = a.size + b.size := by simp
theorem mergeL_part {l : List PairB} {a b : ByteArray} (hm : (a, b) ∈ l) : ∀ P, (∀ p ∈ P, Part l p) → ∀ p ∈ mergeL a b P, Part l p
  | [], h => h
  | [_], h => h
  | x :: y :: r, h => by
    unfold mergeL
    split
    · rename_i e
      intro p hp
      rcases List.mem_cons.1 hp with rfl | hp
      · exact ⟨by rw [app_size]; have := (h x (by simp)).1; omega, .inr ⟨(a, b), hm, by rw [e.1, e.2]⟩⟩
      · exact mergeL_part hm r (fun p hp => h p (by simp [hp])) p hp
    · intro p hp
      rcases List.mem_cons.1 hp with rfl | hp
      · exact h _ (by simp)
      · exact mergeL_part hm (y :: r) (fun p hp => h p (List.mem_cons_of_mem _ hp)) p hp
theorem splitB_part {l : List PairB} (hl : l.length ≤ 100000) (s : ByteArray) : ∀ p ∈ splitB l s, Part l p :=
  split_ind hl (fun P => ∀ p ∈ P, Part l p) (fun P k a b h _ _ hm => mergeL_part hm P h) _ _ (fun p hp => by
    unfold bytesB at hp
    obtain ⟨c, _, rfl⟩ := List.mem_map.1 hp
    exact ⟨by show 1 ≠ 0; omega, .inl rfl⟩)
theorem splitB_apart {l : List PairB} (hl : l.length ≤ 100000) (s : ByteArray) (k : Nat) (a b : ByteArray) (h1 : (splitB l s)[k]? = some a) (h2 : (splitB l s)[k + 1]? = some b) : (a, b) ∉ l :=
  bestI_apart hl _ k a b (splitP_fix hl _ _ (by rw [bytesB_length]; exact Nat.le_refl _)) h1 h2
theorem splitB_cat (l : List PairB) (s : ByteArray) : catB (splitB l s) = s.data.toList := by
  unfold splitB; rw [splitN_cat, catB_bytes]
theorem splitB_nonempty {l : List PairB} (hl : l.length ≤ 100000) (s : ByteArray) : (splitB l s).length ≤ s.size := by
  have : (splitB l s).length ≤ (bytesB s).length := split_ind hl (fun P => P.length ≤ (bytesB s).length) (fun P k a b h _ _ _ => Nat.le_trans (mergeL_le a b P) h) _ _ (Nat.le_refl _)
  rwa [bytesB_length] at this

/-- Q's parts are P's, some of them joined. -/
def Coarse (P Q : List ByteArray) : Prop := Q.length ≤ P.length ∧ ∀ j, j < Q.length → ∃ i, i < P.length ∧ offB Q (j + 1) = offB P (i + 1)
theorem Coarse.refl (P : List ByteArray) : Coarse P P := ⟨Nat.le_refl _, fun j h => ⟨j, h, rfl⟩⟩
theorem Coarse.trans {P Q R : List ByteArray} (h : Coarse P Q) (k : Coarse Q R) : Coarse P R :=
  ⟨Nat.le_trans k.1 h.1, fun j hj => by
    obtain ⟨i, hi, e⟩ := k.2 j hj
    obtain ⟨m, hm, e2⟩ := h.2 i hi
    exact ⟨m, hm, e.trans e2⟩⟩
theorem offB_cons (p : ByteArray) (P : List ByteArray) (k : Nat) : offB (p :: P) (k + 1) = p.size + offB P k := by
  unfold offB
  rw [List.take_succ_cons, catB_cons, List.length_append, size_len]
theorem mergeL_coarse (a b : ByteArray) : ∀ P, Coarse P (mergeL a b P)
  | [] => Coarse.refl _
  | [_] => Coarse.refl _
  | x :: y :: r => by
    unfold mergeL
    split
    · have ih := mergeL_coarse a b r
      refine ⟨by have := ih.1; simp; omega, fun j hj => ?_⟩
      cases j with
      | zero => exact ⟨1, by simp, by rw [offB_cons, offB_cons, offB_cons, offB_zero, offB_zero, app_size]; omega⟩
      | succ j =>
        obtain ⟨i, hi, e⟩ := ih.2 j (by simp at hj; omega)
        exact ⟨i + 2, by simp; omega, by rw [offB_cons, offB_cons, offB_cons, e, app_size]; omega⟩
    · have ih := mergeL_coarse a b (y :: r)
      refine ⟨by have := ih.1; simp at this ⊢; omega, fun j hj => ?_⟩
      cases j with
      | zero => exact ⟨0, by simp, by rw [offB_cons, offB_cons, offB_zero, offB_zero]⟩
      | succ j =>
        obtain ⟨i, hi, e⟩ := ih.2 j (by simp at hj; omega)
        exact ⟨i + 1, by simp at hi ⊢; omega, by rw [offB_cons, offB_cons, e]⟩
theorem rankN_append (l m : List PairB) (p : PairB) : rankN (l ++ m) p = match rankN l p with | some i => some i | none => (rankN m p).map (· + l.length) := by
  induction l with
  | nil => simp [rankN]
  | cons x r ih =>
    have e : ∀ l' : List PairB, rankN (x :: l') p = if x = p then some 0 else (rankN l' p).map (· + 1) := fun _ => rfl
    show rankN (x :: (r ++ m)) p = _
    rw [e, e, ih]
    by_cases h : x = p
    · simp [h]
    · rw [if_neg h, if_neg h]
      cases rankN r p with
      | some i => rfl
      | none =>
        cases rankN m p with
        | none => rfl
        | some i => simp; omega
theorem rkI_append {l m : List PairB} (hl : (l ++ m).length ≤ 100000) (p : PairB) : rkI (l ++ m) p = rkI l p ∧ rankN l p ≠ none ∨ (l.length : Int) ≤ rkI (l ++ m) p ∧ rkI l p = noR := by
  unfold rkI
  rw [rankN_append]
  cases rankN l p with
  | some i => exact .inl ⟨rfl, by simp⟩
  | none =>
    refine .inr ⟨?_, rfl⟩
    rw [List.length_append] at hl
    cases rankN m p with
    | none => show (l.length : Int) ≤ noR; unfold noR; omega
    | some i => show (l.length : Int) ≤ ((i + l.length : Nat) : Int); omega
theorem rkI_some {l : List PairB} {p : PairB} (h : rankN l p ≠ none) : rkI l p < l.length := by
  unfold rkI
  cases hr : rankN l p with
  | none => exact absurd hr h
  | some i => have := (rankN_lt hr).1; show (i : Int) < _; omega
theorem bestI_append {l m : List PairB} (hl : (l ++ m).length ≤ 100000) : ∀ P, bestI (l ++ m) P = bestI l P ∧ bestI l P < l.length ∨ (l.length : Int) ≤ bestI (l ++ m) P ∧ bestI l P = noR
  | [] => .inr ⟨by unfold bestI noR; rw [List.length_append] at hl; omega, rfl⟩
  | [_] => .inr ⟨by unfold bestI noR; rw [List.length_append] at hl; omega, rfl⟩
  | x :: y :: r => by
    have ll : l.length ≤ 100000 := by rw [List.length_append] at hl; omega
    have ih := bestI_append hl (y :: r)
    have hr := rkI_append hl (x, y)
    have b1 := rkI_bd (l ++ m) (x, y) hl
    have b2 := bestI_bd (l ++ m) hl (y :: r)
    have hn : (l.length : Int) ≤ noR := by unfold noR; omega
    have hs : rankN l (x, y) ≠ none → rkI l (x, y) < l.length := rkI_some
    unfold bestI
    rcases ih with ⟨e1, e2⟩ | ⟨e1, e2⟩ <;> rcases hr with ⟨f1, f2⟩ | ⟨f1, f2⟩
    · left; have := hs f2; omega
    · left; omega
    · left; have := hs f2; omega
    · right; omega
theorem pairAt_append {l m : List PairB} {i : Int} (h : 0 ≤ i) (hi : i < l.length) : pairAt (l ++ m) i = pairAt l i := by
  unfold pairAt
  rw [List.getD_eq_getElem?_getD, List.getD_eq_getElem?_getD, List.getElem?_append_left (by omega)]
theorem split_longer {l m : List PairB} (hl : (l ++ m).length ≤ 100000) : ∀ (n : Nat) (P : List ByteArray), P.length ≤ n → splitN P.length (l ++ m) P = splitN (splitN n l P).length (l ++ m) (splitN n l P)
  | 0, P, _ => rfl
  | n + 1, P, hn => by
    have ll : l.length ≤ 100000 := by rw [List.length_append] at hl; omega
    by_cases hb : bestI l P = noR
    · have : splitN (n + 1) l P = P := by unfold splitN; rw [if_pos hb]
      rw [this]
    · have h1 := (mergeL_best ll hb).1
      have h0 := (bestI_bd l ll P).1
      rcases bestI_append hl P with ⟨e1, e2⟩ | ⟨_, e2⟩
      · rw [splitP_step hl (by rw [e1]; exact hb), e1, pairAt_append h0 e2]
        have : splitN (n + 1) l P = splitN n l (mergeL (pairAt l (bestI l P)).1 (pairAt l (bestI l P)).2 P) := by
          conv => lhs; unfold splitN
          rw [if_neg hb]
        rw [this]
        exact split_longer hl n _ (by omega)
      · exact absurd e2 hb
theorem splitB_longer {l m : List PairB} (hl : (l ++ m).length ≤ 100000) (s : ByteArray) : Coarse (splitB l s) (splitB (l ++ m) s) := by
  have h := split_longer hl (bytesB s).length (bytesB s) (Nat.le_refl _)
  have e : splitB (l ++ m) s = splitN (bytesB s).length (l ++ m) (bytesB s) := by unfold splitB; rw [bytesB_length]
  have e2 : splitB l s = splitN (bytesB s).length l (bytesB s) := by unfold splitB; rw [bytesB_length]
  rw [e, h, ← e2]
  exact split_ind hl (fun P => Coarse (splitB l s) P) (fun P k a b h _ _ _ => h.trans (mergeL_coarse a b P)) _ _ (Coarse.refl _)

/-- One pair of single bytes: a round does it. -/
theorem one_done (a b : ByteArray) (ha : a.size = 1) (hb : b.size = 1) : ∀ P, (∀ p ∈ P, p.size = 1) → bestI [(a, b)] (mergeL a b P) = noR ∧ (∀ x y r, P = x :: y :: r → ¬ (x = a ∧ y = b) → ∃ z t, mergeL a b (y :: r) = z :: t ∧ rkI [(a, b)] (x, z) = noR)
  | [], _ => ⟨rfl, fun x y r h => by cases h⟩
  | [_], _ => ⟨rfl, fun x y r h => by cases h⟩
  | x :: y :: r, h => by
    have rk : ∀ u v : ByteArray, ¬ (u = a ∧ v = b) → rkI [(a, b)] (u, v) = noR := fun u v huv => by
      unfold rkI rankN rankN
      rw [if_neg (fun e => huv ⟨(congrArg Prod.fst e).symm, (congrArg Prod.snd e).symm⟩)]
      rfl
    have two : ∀ x y r, (∀ p ∈ x :: y :: r, p.size = 1) → ¬ (x = a ∧ y = b) → ∃ z t, mergeL a b (y :: r) = z :: t ∧ rkI [(a, b)] (x, z) = noR := fun x y r h hn => by
      cases r with
      | nil => exact ⟨y, [], rfl, rk x y hn⟩
      | cons z r =>
        unfold mergeL
        split
        · refine ⟨_, _, rfl, rk _ _ fun e => ?_⟩
          have h1 := congrArg ByteArray.size e.2
          rw [app_size, h y (by simp), h z (by simp), hb] at h1
          omega
        · exact ⟨_, _, rfl, rk x y hn⟩
    refine ⟨?_, fun x' y' r' e hn => by cases e; exact two x y r h hn⟩
    unfold mergeL
    split
    · have ih := (one_done a b ha hb r (fun p hp => h p (by simp [hp]))).1
      cases hm : mergeL a b r with
      | nil => rfl
      | cons z t =>
        rw [hm] at ih
        unfold bestI
        rw [ih, rk _ _ (fun e => ?_)]
        · omega
        · have h1 := congrArg ByteArray.size e.1
          rw [app_size, h x (by simp), h y (by simp), ha] at h1
          omega
    · rename_i hn
      have ih := (one_done a b ha hb (y :: r) (fun p hp => h p (List.mem_cons_of_mem _ hp))).1
      obtain ⟨z, t, e, hr⟩ := two x y r h hn
      rw [e] at ih ⊢
      unfold bestI
      rw [ih, hr]
      omega
theorem splitB_one (a b : UInt8) (s : ByteArray) : splitB [(⟨#[a]⟩, ⟨#[b]⟩)] s = mergeL ⟨#[a]⟩ ⟨#[b]⟩ (bytesB s) := by
  have hone : ∀ p ∈ bytesB s, p.size = 1 := fun p hp => by
    unfold bytesB at hp
    obtain ⟨c, _, rfl⟩ := List.mem_map.1 hp
    rfl
  have hd := (one_done ⟨#[a]⟩ ⟨#[b]⟩ rfl rfl (bytesB s) hone).1
  have e2 : splitB [(⟨#[a]⟩, ⟨#[b]⟩)] s = splitN (bytesB s).length [(⟨#[a]⟩, ⟨#[b]⟩)] (bytesB s) := by unfold splitB; rw [bytesB_length]
  rw [e2]
  by_cases hb : bestI [(⟨#[a]⟩, ⟨#[b]⟩)] (bytesB s) = noR
  · rw [splitP_done hb]
    have : ∀ P : List ByteArray, bestI [((⟨#[a]⟩ : ByteArray), (⟨#[b]⟩ : ByteArray))] P = noR → mergeL ⟨#[a]⟩ ⟨#[b]⟩ P = P := by
      intro P
      induction P with
      | nil => intro _; rfl
      | cons x r ih =>
        intro h
        cases r with
        | nil => rfl
        | cons y r =>
          unfold bestI at h
          have b1 := rkI_bd [((⟨#[a]⟩ : ByteArray), (⟨#[b]⟩ : ByteArray))] (x, y) (by simp)
          have b2 := bestI_bd [((⟨#[a]⟩ : ByteArray), (⟨#[b]⟩ : ByteArray))] (by simp) (y :: r)
          unfold mergeL
          rw [if_neg, ih (by omega)]
          rintro ⟨rfl, rfl⟩
          have : rkI [((⟨#[a]⟩ : ByteArray), (⟨#[b]⟩ : ByteArray))] (⟨#[a]⟩, ⟨#[b]⟩) = 0 := by unfold rkI rankN; simp
          unfold noR at *
          omega
    exact (this _ hb).symm
  · have h0 := bestI_bd [((⟨#[a]⟩ : ByteArray), (⟨#[b]⟩ : ByteArray))] (by simp) (bytesB s)
    have h1 := (mergeL_best (l := [((⟨#[a]⟩ : ByteArray), (⟨#[b]⟩ : ByteArray))]) (by simp) hb).2
    have h2 : bestI [((⟨#[a]⟩ : ByteArray), (⟨#[b]⟩ : ByteArray))] (bytesB s) = 0 := by simp at h1; omega
    rw [splitP_step (by simp) hb, h2]
    exact splitP_done hd
end Go.Proofs.Ytbegjgceemffcaa
