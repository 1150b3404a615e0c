/- Merges: ranksOf. Merges: bytesOf. Merges: look, least. Merges: least. Merges: a word's parts while a round merges them. Merges: one round over a word's parts, step by step: plain facts. -/
import Derived.Test.YtmkaecpecikcaaaGreatDoorY2
import Derived.Laws.MakeOwn
namespace Go.Proofs.YtmkaecpecikcaaaGreatDoor
open Go.RowKit Go.Maps

def RoS (w : World) (l : List PairB) (i : Value) (wr : World) : Prop :=
  ∃ k : Nat, k ≤ l.length ∧ i = .int .i64 k ∧ IsRk w.heap.size k (l.take k) wr ∧ Below w.heap.size w wr
theorem mapTurned_below {B b : Nat} {w0 w w' : World} (h : w.mapTurned w' b) (hb : Below B w0 w) (hB : B ≤ b) (hs : B ≤ w.heap.size) : Below B w0 w' :=
  hb.grown h.grown hs (fun k e => by cases e; exact hB)
end Go.Proofs.YtmkaecpecikcaaaGreatDoor
namespace Go.Proofs.YtmkaecpecikcaaaGreatDoor
open Go.RowKit

theorem offB_bytes (s : ByteArray) {j : Nat} (h : j ≤ s.size) : offB (bytesB s) j = j := by
  unfold offB bytesB catB
  rw [← List.map_take, List.flatMap_map]
  simp
  exact Nat.min_eq_left h
theorem mk_set {cur : Array Value} {n k : Nat} {v : Nat → Value} (hz : cur.size = n) (hk : k < n) (hc : ∀ j : Nat, j < k → cur[j]? = some (v j)) : (cur.setIfInBounds k (v k)).size = n ∧ ∀ j : Nat, j < k + 1 → (cur.setIfInBounds k (v k))[j]? = some (v j) := by
  refine ⟨by simp [hz], fun j hj => ?_⟩
  by_cases e : k = j
  · subst e; rw [Array.getElem?_setIfInBounds_self_of_lt (by omega)]
  · rw [Array.getElem?_setIfInBounds_ne e]; exact hc j (by omega)
theorem cell_in {w : World} {g j : Nat} {cur : Array Value} {t : TypeId} (h : w.heap[g]? = some (.cells cur t (0, 0))) (hj : j < cur.size) : (∃ v, w.cell? ⟨g, j, none⟩ = some v) ∧ w.frozen? ⟨g, j, none⟩ = false := by
  rw [cell_of_row h]
  exact ⟨⟨_, Array.getElem?_eq_getElem hj⟩, by simp [World.frozen?, h]⟩
end Go.Proofs.YtmkaecpecikcaaaGreatDoor
namespace Go.Proofs.YtmkaecpecikcaaaGreatDoor
open Go.RowKit Go.Maps
variable {g gf gr cf cr : Nat} {word : ByteArray} {P : List ByteArray} {R : Nat → Int} {w w' w'' : World}

def upd (R : Nat → Int) (i : Nat) (v : Int) : Nat → Int := fun j => if j = i then v else R j
/-- The ranks that are known are right. -/
def RkOk (l : List PairB) (P : List ByteArray) (R : Nat → Int) : Prop := ∀ k a b, P[k]? = some a → P[k + 1]? = some b → R k = -1 ∨ R k = rkI l (a, b)
theorem RkOk.upd {l : List PairB} {i : Nat} {p q : ByteArray} (h : RkOk l P R) (hp : P[i]? = some p) (hq : P[i + 1]? = some q) : RkOk l P (upd R i (rkI l (p, q))) := by
  intro k a b ha hb
  unfold Go.Proofs.YtmkaecpecikcaaaGreatDoor.upd
  by_cases e : k = i
  · subst e
    rw [if_pos rfl]
    rw [hp] at ha; rw [hq] at hb
    injection ha with ha; injection hb with hb
    subst ha; subst hb
    exact .inr rfl
  · rw [if_neg e]; exact h k a b ha hb
theorem IsRk.fr {b n : Nat} {l : List PairB} (h : IsRk b n l w) (hf : FrP g gf gr w w') (h1 : b ≠ g) (h2 : b ≠ gf) (h3 : b ≠ gr) : IsRk b n l w' := h.keep (hf.block b h.lt h1 h2 h3)
theorem part_ok {P : List ByteArray} {k : Nat} {p s : ByteArray} (hs : catB P = s.data.toList) (h : P[k]? = some p) : p.size ≤ s.size := by
  have h1 := offB_succ h
  have h2 := offB_le P (k + 1)
  rw [hs, size_len] at h2
  omega
end Go.Proofs.YtmkaecpecikcaaaGreatDoor
namespace Go.Proofs.YtmkaecpecikcaaaGreatDoor
open Go.RowKit Go.Maps
variable {g gf gr cf cr : Nat} {word : ByteArray} {P : List ByteArray} {R : Nat → Int} {w w' w'' : World}

theorem bestI_snoc (l : List PairB) (hl : l.length ≤ 100000) (a b : ByteArray) : ∀ Q : List ByteArray, bestI l (Q ++ [a, b]) = min (bestI l (Q ++ [a])) (rkI l (a, b))
  | [] => by
    have := rkI_bd l (a, b) hl
    show min (rkI l (a, b)) noR = min noR (rkI l (a, b))
    omega
  | [x] => by
    show min (rkI l (x, a)) (min (rkI l (a, b)) noR) = min (min (rkI l (x, a)) noR) (rkI l (a, b))
    omega
  | x :: y :: Q => by
    have ih := bestI_snoc l hl a b (y :: Q)
    show min (rkI l (x, y)) (bestI l ((y :: Q) ++ [a, b])) = min (min (rkI l (x, y)) (bestI l ((y :: Q) ++ [a]))) (rkI l (a, b))
    rw [ih]
    omega
theorem bestI_to {l : List PairB} (hl : l.length ≤ 100000) {k : Nat} {a b : ByteArray} (h1 : P[k]? = some a) (h2 : P[k + 1]? = some b) : bestI l (P.take (k + 2)) = min (bestI l (P.take (k + 1))) (rkI l (a, b)) := by
  have e1 : P.take (k + 1) = P.take k ++ [a] := by rw [List.take_add_one, h1]; rfl
  have e2 : P.take (k + 2) = P.take k ++ [a, b] := by rw [List.take_add_one, h2, e1, List.append_assoc]; rfl
  rw [e1, e2]
  exact bestI_snoc l hl a b _
theorem bestI_one (l : List PairB) (P : List ByteArray) : bestI l (P.take 1) = noR := by
  cases P with
  | nil => rfl
  | cons a r => rfl
end Go.Proofs.YtmkaecpecikcaaaGreatDoor
namespace Go.Proofs.YtmkaecpecikcaaaGreatDoor
open Go.RowKit Go.Maps
variable {g gf gr cf cr m : Nat} {word : ByteArray} {P : List ByteArray} {F : Nat → Nat} {R : Nat → Int} {w w' w'' : World}

def updN (F : Nat → Nat) (i v : Nat) : Nat → Nat := fun j => if j = i then v else F j
theorem under_mp : Tryz.prog.underlying 42 = some (.struct (Tryz.prog.fieldsOf 42)) := by kernel_rfl
theorem held_mp : Tryz.prog.stoodInHeld 42 = false := by kernel_rfl
theorem run_eq_mp (a b c d : ByteArray) (w : World) : (binOp .eql 42 (.agg #[.string a, .string b]) (.agg #[.string c, .string d])).run Tryz.prog w = .ok (.bool (decide ((a, b) = (c, d)))) w := by
  rw [run_eql_struct, run_equalIn_agg _ _ _ _ _ under_mp held_mp]
  have e1 : (decide ((a, b) = (c, d)) : Bool) = (decide (a = c) && decide (b = d)) := by
    rw [Bool.eq_iff_iff]; simp
  rw [e1]
  simp [Op.eqFields, Program.fieldsOf, Tryz.underlying42, part, go_sem, Tryz.underlying9, ba_beq]
  by_cases h1 : a = c <;> by_cases h2 : b = d <;> simp [h1, h2]
end Go.Proofs.YtmkaecpecikcaaaGreatDoor
namespace Go.Proofs.YtmkaecpecikcaaaGreatDoor
open Go.RowKit

structure ApS (a b : ByteArray) (l : List PairB) (P Q : List ByteArray) (i : Nat) (F : Nat → Nat) (R : Nat → Int) : Prop where
  mg : Q ++ mergeL a b (P.drop i) = mergeL a b P
  le : Q.length ≤ i
  il : i ≤ P.length
  cat : catB Q = catB (P.take i)
  f1 : ∀ j, j < Q.length → F j = offB Q j
  f2 : ∀ j, i ≤ j → j ≤ P.length → F j = offB P j
  r1 : ∀ j x y, Q[j]? = some x → Q[j + 1]? = some y → R j = -1 ∨ R j = rkI l (x, y)
  r2 : ∀ x y, 0 < Q.length → Q[Q.length - 1]? = some x → P[i]? = some y → R (Q.length - 1) = -1 ∨ R (Q.length - 1) = rkI l (x, y)
  r3 : ∀ j x y, i ≤ j → P[j]? = some x → P[j + 1]? = some y → R j = -1 ∨ R j = rkI l (x, y)
variable {a b : ByteArray} {l : List PairB} {P Q : List ByteArray} {i : Nat} {F : Nat → Nat} {R : Nat → Int}
theorem ApS.start (a b : ByteArray) (h : RkOk l P R) : ApS a b l P [] 0 (offB P) R :=
  ⟨rfl, Nat.le_refl _, Nat.zero_le _, rfl, fun j hj => absurd hj (Nat.not_lt_zero _), fun _ _ _ => rfl, fun j x y hx => by simp at hx, fun x y h0 => absurd h0 (Nat.not_lt_zero _), fun j x y _ => h j x y⟩
theorem mergeL_no {p : ByteArray} {r : List ByteArray} (h : ∀ q, r.head? = some q → ¬ (p = a ∧ q = b)) : mergeL a b (p :: r) = p :: mergeL a b r := by
  cases r with
  | nil => rfl
  | cons q r =>
    conv => lhs; unfold mergeL
    rw [if_neg (h q rfl)]
theorem ApS.off (h : ApS a b l P Q i F R) : offB Q Q.length = offB P i := by
  unfold offB
  rw [List.take_length, h.cat]
theorem take_cat {p : ByteArray} (hp : P[i]? = some p) : catB (P.take (i + 1)) = catB (P.take i) ++ p.data.toList := by
  rw [List.take_add_one, hp, catB_append]
  simp [catB]
theorem off_snoc (Q : List ByteArray) (p : ByteArray) (j : Nat) (hj : j ≤ Q.length) : offB (Q ++ [p]) j = offB Q j := by
  unfold offB
  rw [List.take_append_of_le_length hj]
theorem get_snoc {Q : List ByteArray} {p x : ByteArray} {j : Nat} (h : (Q ++ [p])[j]? = some x) : j < Q.length ∧ Q[j]? = some x ∨ j = Q.length ∧ x = p := by
  by_cases hj : j < Q.length
  · rw [List.getElem?_append_left hj] at h; exact .inl ⟨hj, h⟩
  · rw [List.getElem?_append_right (by omega)] at h
    have h1 : j - Q.length < 1 := by have := (List.getElem?_eq_some_iff.1 h).1; simpa using this
    have : j - Q.length = 0 := by omega
    rw [this] at h
    exact .inr ⟨by omega, by simpa using h.symm⟩
theorem ApS.no (h : ApS a b l P Q i F R) {p : ByteArray} (hp : P[i]? = some p) (hn : ∀ q, P[i + 1]? = some q → ¬ (p = a ∧ q = b)) :
    ApS a b l P (Q ++ [p]) (i + 1) (updN F Q.length (offB P i)) (upd R Q.length (R i)) := by
  have hil := (List.getElem?_eq_some_iff.1 hp).1
  have hle := h.le
  have hd : P.drop i = p :: P.drop (i + 1) := by rw [List.drop_eq_getElem_cons hil, (List.getElem?_eq_some_iff.1 hp).2]
  have hl1 : (Q ++ [p]).length = Q.length + 1 := by simp
  refine ⟨?_, by omega, by omega, ?_, ?_, ?_, ?_, ?_, ?_⟩
  · rw [← h.mg, hd, mergeL_no (fun q hq => hn q (by rwa [List.head?_drop] at hq)), List.append_assoc]; rfl
  · rw [catB_append, h.cat, take_cat hp]; simp [catB]
  · intro j hj
    rw [hl1] at hj
    unfold updN
    by_cases e : j = Q.length
    · rw [if_pos e, e, off_snoc Q p _ (Nat.le_refl _), h.off]
    · rw [if_neg e, off_snoc Q p _ (by omega)]; exact h.f1 j (by omega)
  · intro j h1 h2
    unfold updN
    rw [if_neg (by omega)]; exact h.f2 j (by omega) h2
  · intro j x y hx hy
    unfold upd
    rcases get_snoc hx with ⟨g1, g2⟩ | ⟨g1, _⟩
    · rw [if_neg (by omega)]
      rcases get_snoc hy with ⟨g3, g4⟩ | ⟨g3, g4⟩
      · exact h.r1 j x y g2 g4
      · subst g4
        have ej : j = Q.length - 1 := by omega
        subst ej
        exact h.r2 x y (by omega) g2 hp
    · have := (List.getElem?_eq_some_iff.1 hy).1
      rw [hl1] at this; omega
  · intro x y _ hx hy
    have e1 : (Q ++ [p]).length - 1 = Q.length := by omega
    rw [e1] at hx ⊢
    unfold upd
    rw [if_pos rfl]
    rw [List.getElem?_append_right (Nat.le_refl _), Nat.sub_self] at hx
    have : x = p := by simpa using hx.symm
    subst this
    exact h.r3 i x y (Nat.le_refl _) hp hy
  · intro j x y hj hx hy
    unfold upd
    rw [if_neg (by omega)]
    exact h.r3 j x y (by omega) hx hy
theorem ApS.yes (h : ApS a b l P Q i F R) (hp : P[i]? = some a) (hq : P[i + 1]? = some b) :
    ApS a b l P (Q ++ [a ++ b]) (i + 2) (updN F Q.length (offB P i)) (upd (upd (upd R (i + 1) (-1)) (Q.length - 1) (-1)) Q.length (-1)) := by
  have hil := (List.getElem?_eq_some_iff.1 hq).1
  have hle := h.le
  have hd : P.drop i = a :: b :: P.drop (i + 2) := by
    rw [List.drop_eq_getElem_cons (by omega), (List.getElem?_eq_some_iff.1 hp).2, List.drop_eq_getElem_cons hil, (List.getElem?_eq_some_iff.1 hq).2]
  have hl1 : (Q ++ [a ++ b]).length = Q.length + 1 := by simp
  have hneg : ∀ j, (j = i + 1 ∨ j = Q.length - 1 ∨ j = Q.length) → upd (upd (upd R (i + 1) (-1)) (Q.length - 1) (-1)) Q.length (-1) j = -1 := by
    intro j hj
    unfold upd
    by_cases e1 : j = Q.length
    · rw [if_pos e1]
    · rw [if_neg e1]
      by_cases e2 : j = Q.length - 1
      · rw [if_pos e2]
      · rw [if_neg e2, if_pos (by omega)]
  have hsame : ∀ j, j ≠ i + 1 → j ≠ Q.length - 1 → j ≠ Q.length → upd (upd (upd R (i + 1) (-1)) (Q.length - 1) (-1)) Q.length (-1) j = R j := by
    intro j h1 h2 h3
    unfold upd
    rw [if_neg h3, if_neg h2, if_neg h1]
  refine ⟨?_, by omega, by omega, ?_, ?_, ?_, ?_, ?_, ?_⟩
  · rw [← h.mg, hd]
    have : mergeL a b (a :: b :: P.drop (i + 2)) = (a ++ b) :: mergeL a b (P.drop (i + 2)) := by
      conv => lhs; unfold mergeL
      rw [if_pos ⟨rfl, rfl⟩]
    rw [this, List.append_assoc]; rfl
  · rw [catB_append, h.cat, show i + 2 = (i + 1) + 1 from rfl, take_cat hq, take_cat hp]; simp [catB]
  · intro j hj
    rw [hl1] at hj
    unfold updN
    by_cases e : j = Q.length
    · rw [if_pos e, e, off_snoc Q _ _ (Nat.le_refl _), h.off]
    · rw [if_neg e, off_snoc Q _ _ (by omega)]; exact h.f1 j (by omega)
  · intro j h1 h2
    unfold updN
    rw [if_neg (by omega)]; exact h.f2 j (by omega) h2
  · intro j x y hx hy
    rcases get_snoc hx with ⟨g1, g2⟩ | ⟨g1, _⟩
    · rcases get_snoc hy with ⟨g3, g4⟩ | ⟨g3, g4⟩
      · rw [hsame j (by omega) (by omega) (by omega)]
        exact h.r1 j x y g2 g4
      · exact .inl (hneg j (by omega))
    · have := (List.getElem?_eq_some_iff.1 hy).1
      rw [hl1] at this; omega
  · intro x y _ hx hy
    exact .inl (hneg _ (by omega))
  · intro j x y hj hx hy
    rw [hsame j (by omega) (by omega) (by omega)]
    exact h.r3 j x y (by omega) hx hy
theorem ApS.done (h : ApS a b l P Q P.length F R) : mergeL a b P = Q ∧ RkOk l Q R ∧ ∀ j, j ≤ Q.length → updN F Q.length (catB P).length j = offB Q j := by
  have h1 : mergeL a b P = Q := by rw [← h.mg, List.drop_length]; unfold mergeL; simp
  refine ⟨h1, fun k x y hx hy => h.r1 k x y hx hy, fun j hj => ?_⟩
  unfold updN
  by_cases e : j = Q.length
  · rw [if_pos e, e, h.off, offB_all (Nat.le_refl _)]
  · rw [if_neg e]; exact h.f1 j (by omega)
end Go.Proofs.YtmkaecpecikcaaaGreatDoor
