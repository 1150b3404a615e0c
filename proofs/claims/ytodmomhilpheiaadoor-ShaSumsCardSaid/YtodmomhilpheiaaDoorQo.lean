/- The laws ShaParts and ShaApart: plain facts. -/
import Derived.Test.YtodmomhilpheiaaDoorQn
namespace Go.Proofs.YtodmomhilpheiaaDoor
open Go.RowKit

theorem atI_app (a b : ByteArray) (i : Nat) : atI (a ++ b) i = if i < a.size then atI a i else atI b (i - a.size) := by
  have hs : a.size = a.data.size := rfl
  unfold atI
  rw [ByteArray.data_append, Array.getElem?_append]
  by_cases h : i < a.size
  · rw [if_pos h, if_pos (by omega)]
  · rw [if_neg h, if_neg (by omega), hs]
theorem atI_bytes (s : ByteArray) : Bytes8 (atI s) := fun i => atI_rng s i
theorem HashAt.kept {b b' : Nat} {f blk : Nat → Int} {n : Int} {w w' : World} (h : HashAt b' f blk n w) (g : w.grownBy w' (some b)) (hne : b' ≠ b) : HashAt b' f blk n w' :=
  (g.block b' h.lt (by intro e; injection e with e; exact hne e)).trans h
theorem HasP.kept {b b' : Nat} {D : Nat → Int} {m : Nat} {w w' : World} (h : HasP b' D m w) (g : w.grownBy w' (some b)) (hne : b' ≠ b) : HasP b' D m w' := by
  rcases h with ⟨h0, f, blk, h1, h2⟩ | ⟨h0, blk, h1, h2, h3⟩
  · exact Or.inl ⟨h0, f, blk, h1.kept g hne, h2⟩
  · exact Or.inr ⟨h0, blk, h1.kept g hne, h2, h3⟩

/-- Texts one behind the other; the same with an empty one ahead of each. -/
def catB : List ByteArray → ByteArray
  | [] => ⟨#[]⟩
  | s :: r => s ++ catB r
def inter : List ByteArray → List ByteArray
  | [] => []
  | s :: r => ⟨#[]⟩ :: s :: inter r
theorem ba_nil (s : ByteArray) : (⟨#[]⟩ : ByteArray) ++ s = s := by
  cases s; rename_i d; show ByteArray.empty ++ _ = _; simp
theorem ba_end (s : ByteArray) : s ++ (⟨#[]⟩ : ByteArray) = s := by
  cases s; rename_i d; show _ ++ ByteArray.empty = _; simp
theorem catB_snoc (l : List ByteArray) (s : ByteArray) : catB (l ++ [s]) = catB l ++ s := by
  induction l with
  | nil => show s ++ ⟨#[]⟩ = ⟨#[]⟩ ++ s; rw [ba_nil, ba_end]
  | cons t l ih => show t ++ catB (l ++ [s]) = (t ++ catB l) ++ s; rw [ih, ByteArray.append_assoc]
theorem catB_size (l : List ByteArray) : (catB l).size = partsLen l := by
  induction l with
  | nil => rfl
  | cons t l ih => show (t ++ catB l).size = _; rw [ByteArray.size_append, ih]; unfold partsLen; simp
theorem inter_snoc (l : List ByteArray) (s : ByteArray) : inter (l ++ [s]) = inter l ++ [⟨#[]⟩, s] := by
  induction l with
  | nil => rfl
  | cons t l ih => show ⟨#[]⟩ :: t :: inter (l ++ [s]) = _; rw [ih]; rfl
theorem inter_length (l : List ByteArray) : (inter l).length = 2 * l.length := by
  induction l with
  | nil => rfl
  | cons t l ih => show (inter l).length + 1 + 1 = _; rw [ih, List.length_cons]; omega
theorem inter_size (l : List ByteArray) : partsLen (inter l) = (catB l).size := by
  rw [catB_size]
  induction l with
  | nil => rfl
  | cons t l ih =>
    have e : partsLen (inter (t :: l)) = 0 + (t.size + partsLen (inter l)) := by unfold partsLen; simp [inter]; rfl
    rw [e, ih]; unfold partsLen; simp
theorem parts_inter (D : Nat → Int) : ∀ (l : List ByteArray) (m : Nat), (∀ i, i < (catB l).size → D (m + i) = atI (catB l) i) → PartsAt D (inter l) m
  | [], _, _ => trivial
  | s :: r, m, h => by
    have hz : (catB (s :: r)).size = s.size + (catB r).size := by show (s ++ catB r).size = _; rw [ByteArray.size_append]
    refine ⟨fun i hi => absurd hi (Nat.not_lt_zero i), fun i hi => ?_, parts_inter D r _ fun i hi => ?_⟩
    · have := h i (by omega)
      show atI s i = D (m + 0 + i)
      rw [Nat.add_zero, this]
      show _ = atI (s ++ catB r) i
      rw [atI_app, if_pos hi]
    · have := h (s.size + i) (by omega)
      show D (m + 0 + s.size + i) = _
      rw [Nat.add_zero, Nat.add_assoc, this]
      show atI (s ++ catB r) _ = _
      rw [atI_app, if_neg (by omega), Nat.add_sub_cancel_left]
theorem parts_self (s : ByteArray) : PartsAt (atI s) [s] 0 := ⟨fun i _ => by rw [Nat.zero_add], trivial⟩
theorem parts_two (a b : ByteArray) : PartsAt (atI (a ++ b)) [a, b] 0 :=
  ⟨fun i hi => by rw [Nat.zero_add, atI_app, if_pos hi], fun i hi => by rw [Nat.zero_add, atI_app, if_neg (by omega), Nat.add_sub_cancel_left], trivial⟩
theorem parts_two_len (a b : ByteArray) : partsLen [a, b] = a.size + b.size := by unfold partsLen; simp
/-- The digest of a text. -/
def shaT (s : ByteArray) : ByteArray := shaB (atI s) s.size
theorem shaT_size (s : ByteArray) : (shaT s).size = 32 := shaB_size _ _
theorem parts_empty (D : Nat → Int) : PartsAt D [⟨#[]⟩] 0 := ⟨fun i hi => absurd hi (Nat.not_lt_zero i), trivial⟩

/-- Sum of one text, of two texts: in a row of the call's own. -/
theorem Sum_row (g cap t : Nat) (ps : List ByteArray) (s : ByteArray) (w : World) (h : w.heap[g]? = some (.cells (ps.map Value.string).toArray t (0, 0))) (hp : PartsAt (atI s) ps 0) (hl : partsLen ps = s.size) (hV : VarsAt w) (hm : s.size < 1152921504606846976) (hn : ps.length < 1152921504606846976) :
    Calls Tryd.prog 12 #[.slice (some ⟨g, 0, none⟩) ps.length cap] w fun e w' => e = .returned (.string (shaT s)) ∧ Below w.heap.size w w' := by
  have hg : g < w.heap.size := by
    rcases Nat.lt_or_ge g w.heap.size with h' | h'
    · exact h'
    · rw [Array.getElem?_eq_none h'] at h; cases h
  unfold shaT; rw [← hl]
  exact Sum_any ⟨g, 0, none⟩ cap ps (atI s) w (row_cells ps h) hg hp (atI_bytes s) hV (by omega) hn

/-- Sum of a row that the call has made, nil too. -/
theorem Sum_own (B : Nat) (v : Value) (n : Nat) (ps : List ByteArray) (s : ByteArray) (w : World) (h : w.ownsRow B 9 1 v n (ps.map Value.string)) (hnl : ps.length = n) (hp : PartsAt (atI s) ps 0) (hl : partsLen ps = s.size) (hV : VarsAt w) (hm : s.size < 1152921504606846976) (hn : ps.length < 1152921504606846976) :
    Calls Tryd.prog 12 #[v] w fun e w' => e = .returned (.string (shaT s)) ∧ Below w.heap.size w w' := by
  subst hnl
  have hc := h
  rcases h.2 with ⟨rfl, h0⟩ | ⟨g, cap, cur, rfl, _, hg, _⟩
  · have hps : ps = [] := List.eq_nil_of_length_eq_zero h0
    have hs : s.size = 0 := by rw [← hl, hps]; rfl
    unfold shaT
    rw [hs]
    exact Sum_none (atI s) 0 w (atI_bytes s) hV
  · unfold shaT; rw [← hl]
    have hlt : g < w.heap.size := by
      rcases Nat.lt_or_ge g w.heap.size with h' | h'
      · exact h'
      · rw [Array.getElem?_eq_none h'] at hg; cases hg
    exact Sum_any ⟨g, 0, none⟩ cap ps (atI s) w (fun i hi => hc.cells (g := g) rfl i (.string ps[i]) (by rw [List.getElem?_map, List.getElem?_eq_getElem hi]; rfl)) hlt hp (atI_bytes s) hV (by omega) hn

/-- What a walk is told of a list of texts that came in. -/
def IsStrs (w : World) (a : Option Addr) (len cap : Nat) (zs : List ByteArray) : Prop :=
  (a = none ∧ len = 0 ∧ cap = 0 ∧ zs = []) ∨
  ∃ x, a = some x ∧ zs.length = len ∧ len ≤ maxLen ∧ (∀ i, i < len → w.cell? (x.add i) = some (.string (zs.getD i ByteArray.empty)))
theorem cell_lt {w : World} {a : Addr} {v : Value} (h : w.cell? a = some v) : a.block < w.heap.size := by
  rcases Nat.lt_or_ge a.block w.heap.size with h' | h'
  · exact h'
  · unfold World.cell? at h
    simp [Array.getElem?_eq_none h'] at h
theorem strs_of {w : World} {x : Addr} {l c : Nat} {ss : List ByteArray} {b : Bool} (hl : l ≤ c) (hm : c ≤ maxLen) (hz : ss.length = (if b then c else l)) (hcell : ∀ i, i < ss.length → w.cell? (x.add i) = some (.string (ss.getD i ByteArray.empty))) : IsStrs w (some x) l c (ss.take l) := by
  have hle : l ≤ ss.length := by rw [hz]; split <;> omega
  refine .inr ⟨x, rfl, by rw [List.length_take]; omega, by omega, fun i hi => ?_⟩
  rw [hcell i (by omega)]
  simp [List.getD, List.getElem?_take_of_lt hi]
theorem strInfo : (Tryd.prog.info? 9).map (fun i => (i.zero, i.size, i.bytes)) = some (some (.string ⟨#[]⟩), 1, 16) := by kernel_rfl
end Go.Proofs.YtodmomhilpheiaaDoor
