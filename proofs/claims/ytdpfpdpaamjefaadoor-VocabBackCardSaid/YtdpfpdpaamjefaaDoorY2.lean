/- Merges: which texts are tokens: the program's Good and the document's. Merges: rows of pairs; the law's pairs, which makes both. Merges, the document's Rank. Merges: the parts of a word in memory; text, two. Merges: maps whose keys are pairs. Merges: strings.Cut at a space; a line's reader; lines.next. Vocabularies: strconv's variables; Atoi and Itoa at any text; a line's entry. Merges: lines.next. Lines of a text: the library's iterator. A range over the lines of a text: what its caller owes. Merges: lines.Parse. Merges: Parse; sets of texts; Invalid. -/
import Derived.Test.YtdpfpdpaamjefaaDoorY1
import Derived.Test.YtdpfpdpaamjefaaDoorRows
import Derived.WalkKit
import Derived.WalkSpells
import Derived.Lib.Hide
import Derived.WalkLawsBesides
import Derived.BigQuiet
import Derived.RangeFuncBox
import Derived.Laws.StructEq
import Derived.Maps.OwnSet
import Derived.DeepKeys4
import Derived.StillTailTactics
import Derived.Lib.AppendIntMem
import Derived.Lib.AtoiErrMem
import Derived.Lib.LaidTab
import Derived.Shelf.Strconv.ErrVarAll
import Derived.RangeFuncNested
import Derived.RangeFuncBound
import Derived.RangeFuncCalls
import Derived.RangeFuncLeaves
import Derived.Shelf.Abstract
import Derived.Shelf.RegionOpen
import Derived.OwnWalkIn
import Derived.TacticsInMore
import Derived.LoopNIn
import Derived.LoopIn
import Derived.Maps.AppendAt
namespace Go.Proofs.YtdpfpdpaamjefaaDoor
open Go.RowKit

theorem ret_int {k : IntKind} {a b : Int} (h : a = b) : Ending.returned (.int k a) = .returned (.int k b) := by rw [h]
theorem ret_bool {a b : Bool} (h : a = b) : Ending.returned (.bool a) = .returned (.bool b) := by rw [h]
def okB (b : UInt8) : Bool := decide (33 ≤ (b.toNat : Int) ∧ (b.toNat : Int) ≤ 126)
theorem all_at {s : ByteArray} {k : Nat} (h : k < s.size) : (s.data.toList.drop k).all okB = (okB s[k] && (s.data.toList.drop (k + 1)).all okB) := by
  rw [drop_at s k h, List.all_cons]
theorem goodB_all (s : ByteArray) : goodB s = (decide (0 < s.size) && decide (s.size ≤ 64) && (s.data.toList.drop 0).all okB) := rfl
theorem all_end {s : ByteArray} {k : Nat} (h : s.size ≤ k) : (s.data.toList.drop k).all okB = true := by
  rw [List.drop_eq_nil_of_le (by rw [size_len]; exact h)]; rfl
theorem okB_low {b : UInt8} (h : (b.toNat : Int) < 33) : okB b = false := by unfold okB; simp; omega
theorem okB_high {b : UInt8} (h : 126 < (b.toNat : Int)) : okB b = false := by unfold okB; simp; omega
theorem okB_mid {b : UInt8} (h : 33 ≤ (b.toNat : Int)) (h2 : (b.toNat : Int) ≤ 126) : okB b = true := by unfold okB; simp; omega
def GS (s : ByteArray) (i : Value) : Prop := ∃ k : Nat, k ≤ s.size ∧ i = .int .i64 k ∧ (s.data.toList.drop k).all okB = (s.data.toList.drop 0).all okB
theorem ba_empty (s : ByteArray) (h : s.size = 0) : s.toList.isEmpty = true := by
  rw [ByteArray.toList_eq, List.isEmpty_iff_length_eq_zero]; simpa using h
theorem ba_nil (s : ByteArray) (h : s.size = 0) : s.toList = [] := List.isEmpty_iff.1 (ba_empty s h)
theorem ba_some (s : ByteArray) (h : 0 < s.size) : s.toList.isEmpty = false := by
  cases hc : s.toList.isEmpty
  · rfl
  · rw [ByteArray.toList_eq, List.isEmpty_iff_length_eq_zero] at hc
    have : s.size = 0 := by simpa using hc
    omega
theorem good_no {s : ByteArray} {k : Nat} (h : (s.data.toList.drop k).all okB = (s.data.toList.drop 0).all okB) (hk : k < s.size) (hb : okB s[k] = false) : goodB s = false := by
  rw [goodB_all, ← h, all_at hk, hb, Bool.false_and, Bool.and_false]
set_option maxHeartbeats 1000000 in
theorem Good_any (s : ByteArray) (w : World) (hs : s.size ≤ maxLen) :
    Calls Tryd.prog 6 #[.string s] w fun e w' => e = .returned (.bool (goodB s)) ∧ w' = w := by
  unfold maxLen at hs
  by_cases h0 : s.size = 0
  · have e1 : s.toList = [] := ba_nil s h0
    have e2 : goodB s = false := by unfold goodB; simp [h0]
    have E2 := Lib.hid e2; clear e2 h0
    go_enter Tryd.func6, Tryd.ntmps6
    go_wp2_with fail
    go_ret
    exact ⟨ret_bool E2.out.symm, rfl⟩
  have h1 : s.toList.isEmpty = false := ba_some s (by omega)
  have h1' : s.toList ≠ [] := fun e => by rw [e] at h1; cases h1
  by_cases h2 : 64 < s.size
  · have e2 : goodB s = false := by unfold goodB; simp; omega
    have E2 := Lib.hid e2; clear e2
    go_enter Tryd.func6, Tryd.ntmps6
    go_wp2_with fail
    go_ret
    exact ⟨ret_bool E2.out.symm, rfl⟩
  have h3 : s.size ≤ 64 := by omega
  go_enter Tryd.func6, Tryd.ntmps6
  go_wp2_with fail
  go_loop [13] (GS s) (fun i => s.size - (intOf i).toNat)
  case atStart => exact ⟨0, Nat.zero_le _, rfl, rfl⟩
  case round =>
    obtain ⟨k, hk, rfl, hr⟩ := hrel
    have HR := Lib.hid hr; clear hr
    by_cases hlt : k < s.size
    · by_cases hlo : (s[k].toNat : Int) < 33
      · have E2 := Lib.hid (good_no HR.out hlt (okB_low hlo))
        go_wp2_with fail
        go_ret
        exact ⟨ret_bool E2.out.symm, rfl⟩
      · have hlo' : 33 ≤ (s[k].toNat : Int) := by omega
        by_cases hhi : 126 < (s[k].toNat : Int)
        · have E2 := Lib.hid (good_no HR.out hlt (okB_high hhi))
          go_wp2_with fail
          go_ret
          exact ⟨ret_bool E2.out.symm, rfl⟩
        · have hhi' : (s[k].toNat : Int) ≤ 126 := by omega
          have E3 := Lib.hid (show (s.data.toList.drop (k + 1)).all okB = (s.data.toList.drop 0).all okB by
            rw [← HR.out, all_at hlt, okB_mid hlo' hhi', Bool.true_and])
          go_wp2_with fail
          go_round
          case rel => exact ⟨k + 1, by omega, by go_num, E3.out⟩
          case measure => simp [intOf]; omega
    · have E2 := Lib.hid (show goodB s = true by
        rw [goodB_all, ← HR.out, all_end (by omega)]; simp; omega)
      go_wp2_with fail
      go_ret
      exact ⟨ret_bool E2.out.symm, rfl⟩
end Go.Proofs.YtdpfpdpaamjefaaDoor
namespace Go.Proofs.YtdpfpdpaamjefaaDoor
open Go.RowKit

/-- The cells of a row of pairs. -/
def flatP (l : List PairB) : List Value := l.flatMap fun p => [Value.string p.1, Value.string p.2]
theorem flatP_length (l : List PairB) : (flatP l).length = l.length * 2 := by
  unfold flatP
  induction l with
  | nil => rfl
  | cons p l ih => rw [List.flatMap_cons, List.length_append, ih, List.length_cons]; simp; omega
theorem flatP_snoc (l : List PairB) (p : PairB) : flatP (l ++ [p]) = flatP l ++ [Value.string p.1, Value.string p.2] := by unfold flatP; rw [List.flatMap_append]; rfl
theorem flatP_get : ∀ (l : List PairB) (k : Nat) (p : PairB), l[k]? = some p → (flatP l)[k * 2]? = some (.string p.1) ∧ (flatP l)[k * 2 + 1]? = some (.string p.2)
  | [], k, p, h => by simp at h
  | q :: l, 0, p, h => by simp at h; subst h; exact ⟨rfl, rfl⟩
  | q :: l, k + 1, p, h => by
    rw [List.getElem?_cons_succ] at h
    have := flatP_get l k p h
    have e : flatP (q :: l) = Value.string q.1 :: Value.string q.2 :: flatP l := rfl
    rw [e, show (k + 1) * 2 = k * 2 + 1 + 1 by omega]
    simpa only [List.getElem?_cons_succ] using this
/-- A slice's pairs, in its row of type t. -/
def PrAt (w : World) (t : TypeId) (o : Option Addr) (l : List PairB) : Prop :=
  ∀ k p, l[k]? = some p → ∃ g cur, o = some ⟨g, 0, none⟩ ∧ w.heap[g]? = some (.cells cur t (0, 0)) ∧ w.cell? ⟨g, k * 2, none⟩ = some (.string p.1) ∧ w.cell? ⟨g, k * 2 + 1, none⟩ = some (.string p.2)
theorem PrAt.same {w w' : World} {t : TypeId} {o : Option Addr} {l : List PairB} (h : PrAt w t o l) (hb : ∀ g cur, o = some ⟨g, 0, none⟩ → w.heap[g]? = some (.cells cur t (0, 0)) → w'.heap[g]? = w.heap[g]?) : PrAt w' t o l := fun k p hp => by
  obtain ⟨b, cur, h1, h2, h3, h4⟩ := h k p hp
  have e := hb b cur h1 h2
  refine ⟨b, cur, h1, e.trans h2, ?_, ?_⟩
  · unfold World.cell? at h3 ⊢; simp only [e]; exact h3
  · unfold World.cell? at h4 ⊢; simp only [e]; exact h4
theorem lt_of_some {w : World} {g : Nat} {o : Obj} (h : w.heap[g]? = some o) : g < w.heap.size := (Array.getElem?_eq_some_iff.1 h).1
theorem PrAt.below {w w' : World} {t : TypeId} {o : Option Addr} {l : List PairB} (h : PrAt w t o l) (hb : Below w.heap.size w w') : PrAt w' t o l := h.same fun _ _ _ h2 => hb.block _ (lt_of_some h2)
theorem addr_at (g j : Nat) : ((⟨g, 0, none⟩ : Addr).add j) = ⟨g, j, none⟩ := by unfold Addr.add; split <;> simp_all
theorem cell_of_row {w : World} {g : Nat} {cur : Array Value} {t : TypeId} {x : Nat × Nat} {j : Nat} (h : w.heap[g]? = some (.cells cur t x)) : w.cell? ⟨g, j, none⟩ = cur[j]? := by
  unfold World.cell?; simp only [h]; rfl
/-- What a row of one's own holds. -/
theorem own_pairs {w : World} {B : Nat} {t : TypeId} {v : Value} {l : List PairB} (h : w.ownsRow B t 2 v l.length (flatP l)) : ∃ o cap, v = .slice o l.length cap ∧ PrAt w t o l := by
  rcases h.2 with ⟨h1, h2⟩ | ⟨g, cap, cur, h1, _, hg, hn, _, hz, ht⟩
  · exact ⟨none, 0, by rw [h1, h2], fun k p hp => by have := (List.getElem?_eq_some_iff.1 hp).1; omega⟩
  · refine ⟨some ⟨g, 0, none⟩, cap, h1, fun k p hp => ⟨g, cur, rfl, hg, ?_, ?_⟩⟩
    · have h3 := (flatP_get l k p hp).1
      have hk := (List.getElem?_eq_some_iff.1 hp).1
      rw [← ht, List.getElem?_take, if_pos (by omega), Array.getElem?_toList] at h3
      rw [cell_of_row hg]; exact h3
    · have h3 := (flatP_get l k p hp).2
      have hk := (List.getElem?_eq_some_iff.1 hp).1
      rw [← ht, List.getElem?_take, if_pos (by omega), Array.getElem?_toList] at h3
      rw [cell_of_row hg]; exact h3
theorem own_below {w w' : World} {B : Nat} {e : TypeId} {size : Nat} {v : Value} {n : Nat} {xs : List Value} (h : w.ownsRow B e size v n xs) (hb : Below w.heap.size w w') : w'.ownsRow B e size v n xs := by
  refine ⟨h.1, ?_⟩
  rcases h.2 with hv | ⟨g, cap, cur, hv, hB, hg, r⟩
  · exact .inl hv
  · exact .inr ⟨g, cap, cur, hv, hB, (hb.block g (lt_of_some hg)).trans hg, r⟩

/-- The pairs that come in: rows of two texts, one behind the other. -/
def InAt (w : World) (o : Option Addr) (l : List PairB) : Prop :=
  ∀ k p, l[k]? = some p → ∃ b i, o = some ⟨b, i, none⟩ ∧ w.cell? ⟨b, i + k * 2, none⟩ = some (.string p.1) ∧ w.cell? ⟨b, i + k * 2 + 1, none⟩ = some (.string p.2)
theorem below_drewN {B : Nat} {a w : World} (h : Below B a w) (n : Nat) : Below B a (w.drewN n) := ⟨h.os, h.tape, h.output, h.size, h.block⟩
theorem cell_two_new (w : World) (t : TypeId) (a b : Value) : ∀ (j : Nat) (u : Value), [a, b][j]? = some u → (w.alloc (.cells #[a, b] t)).cell? ((⟨w.heap.size, 0, none⟩ : Addr).add j) = some u := fun j u h => by
  have hg : (w.alloc (.cells #[a, b] t)).heap[w.heap.size]? = some (.cells #[a, b] t (0, 0)) := World.alloc_heap_new w _
  rw [addr_at, cell_of_row hg]
  match j, h with
  | 0, h => exact h
  | 1, h => exact h
theorem row_apart {w : World} {B B' : Nat} {t t' : TypeId} {v v' : Value} {n n' s s' : Nat} {xs ys : List Value} (h : w.ownsRow B t s v n xs) (h' : w.ownsRow B' t' s' v' n' ys) (hne : t ≠ t') : v.ownBlock = none ∨ v.ownBlock ≠ v'.ownBlock := by
  rcases h.2 with ⟨h1, _⟩ | ⟨g, cap, cur, h1, _, hg, _⟩
  · exact .inl (by rw [h1]; rfl)
  · right
    subst h1
    rcases h'.2 with ⟨h2, _⟩ | ⟨g', cap', cur', h2, _, hg', _⟩
    · subst h2; simp [Value.ownBlock]
    · subst h2
      intro e
      have : g = g' := by simpa [Value.ownBlock] using e
      subst this
      rw [hg] at hg'
      injection hg' with hg'; injection hg' with _ h3
      exact hne h3
theorem own_base {w : World} {B : Nat} {t : TypeId} {v : Value} {n s : Nat} {xs : List Value} (h : w.ownsRow B t s v n xs) : ∀ k, v.ownBlock = some k → B ≤ k := fun k hk => by
  rcases h.2 with ⟨h1, _⟩ | ⟨g, cap, cur, h1, hB, _⟩
  · rw [h1] at hk; cases hk
  · rw [h1] at hk
    have : g = k := by simpa [Value.ownBlock] using hk
    omega
theorem flatP_take (l : List PairB) (k : Nat) (p : PairB) (h : l[k]? = some p) : flatP (l.take (k + 1)) = flatP (l.take k) ++ [Value.string p.1, Value.string p.2] := by
  rw [List.take_add_one, h, Option.toList_some, flatP_snoc]
def PS (w : World) (l : List PairB) (a b i : Value) (wr : World) : Prop :=
  ∃ k : Nat, k ≤ l.length ∧ k ≤ 60 ∧ i = .int .i64 k ∧ wr.ownsRow w.heap.size 31 2 a k (flatP (l.take k)) ∧ wr.ownsRow w.heap.size 48 2 b k (flatP (l.take k)) ∧ Below w.heap.size w wr
theorem info_mp : (Tryd.prog.info? 31).map (fun i => (i.zero, i.size, i.bytes)) = some (some (.agg #[.string ⟨#[]⟩, .string ⟨#[]⟩]), 2, 32) := by kernel_rfl
theorem info_rp : (Tryd.prog.info? 48).map (fun i => (i.zero, i.size, i.bytes)) = some (some (.agg #[.string ⟨#[]⟩, .string ⟨#[]⟩]), 2, 32) := by kernel_rfl
theorem two_mem {a b : ByteArray} : ∀ u ∈ [Value.string a, Value.string b], u.oneCell' = true := by
  intro u hu; simp at hu; rcases hu with rfl | rfl <;> rfl
end Go.Proofs.YtdpfpdpaamjefaaDoor
namespace Go.Proofs.YtdpfpdpaamjefaaDoor
open Go.RowKit

def dRank (l : List PairB) (p : PairB) : Int := match rankN l p with | some i => (i : Int) | none => -1
theorem rank_at {l : List PairB} {p q : PairB} {k : Nat} (h : l[k]? = some q) (h0 : rankN (l.take k) p = none) : (q = p → rankN l p = some k) ∧ (q ≠ p → rankN (l.take (k + 1)) p = none) := by
  have e : l.take (k + 1) = l.take k ++ [q] := by rw [List.take_add_one, h]; rfl
  have hk := (List.getElem?_eq_some_iff.1 h).1
  have h1 := rankN_snoc (l.take k) q p
  rw [h0] at h1
  simp only at h1
  have hlen : (l.take k).length = k := by rw [List.length_take]; omega
  refine ⟨fun hq => ?_, fun hq => ?_⟩
  · rw [if_pos hq, hlen, ← e] at h1
    have h2 := rankN_append (l.take (k + 1)) (l.drop (k + 1)) p
    rw [List.take_append_drop, h1] at h2
    exact h2
  · rw [if_neg hq, ← e] at h1; exact h1
theorem under_rp : Tryd.prog.underlying 48 = some (.struct (Tryd.prog.fieldsOf 48)) := by kernel_rfl
theorem held_rp : Tryd.prog.stoodInHeld 48 = false := by kernel_rfl
theorem ba_beq (a b : ByteArray) : (a.toList == b.toList) = decide (a = b) := by
  rw [ByteArray.toList_eq, ByteArray.toList_eq, Bool.eq_iff_iff]
  simp only [beq_iff_eq, decide_eq_true_eq]
  exact ⟨fun h => ByteArray.ext (Array.ext' h), fun h => by rw [h]⟩
theorem run_eq_rp (a b c d : ByteArray) (w : World) : (binOp .eql 48 (.agg #[.string a, .string b]) (.agg #[.string c, .string d])).run Tryd.prog w = .ok (.bool (decide ((a, b) = (c, d)))) w := by
  rw [run_eql_struct, run_equalIn_agg _ _ _ _ _ under_rp held_rp]
  have e1 : (decide ((a, b) = (c, d)) : Bool) = (decide (a = c) && decide (b = d)) := by
    rw [Bool.eq_iff_iff]; simp
  rw [e1]
  simp [Op.eqFields, Program.fieldsOf, Tryd.underlying48, part, go_sem, Tryd.underlying9, ba_beq]
  by_cases h1 : a = c <;> by_cases h2 : b = d <;> simp [h1, h2]
def RkS (w : World) (l : List PairB) (p : PairB) (i : Value) (wr : World) : Prop :=
  ∃ k m : Nat, k ≤ l.length ∧ i = .int .i64 k ∧ rankN (l.take k) p = none ∧ wr = (w.alloc (.cells #[.string p.1, .string p.2] 48)).drewN m
end Go.Proofs.YtdpfpdpaamjefaaDoor
namespace Go.Proofs.YtdpfpdpaamjefaaDoor
open Go.RowKit

/-- The parts P of a word, with ranks R, at g: their ends in the row gf, the ranks in the row gr. -/
structure PtAt (g gf gr cf cr : Nat) (word : ByteArray) (P : List ByteArray) (R : Nat → Int) (w : World) : Prop where
  d : w.heap[g]? = some (.cells #[.string word, .slice (some ⟨gf, 0, none⟩) (P.length + 1) cf, .slice (some ⟨gr, 0, none⟩) P.length cr] 107 (0, 0))
  f : ∃ cur, w.heap[gf]? = some (.cells cur 3 (0, 0)) ∧ ∀ j, j ≤ P.length → cur[j]? = some (.int .i64 (offB P j : Nat))
  r : ∃ cur, w.heap[gr]? = some (.cells cur 3 (0, 0)) ∧ ∀ j, j < P.length → cur[j]? = some (.int .i64 (R j))
  cat : catB P = word.data.toList
  ne : gf ≠ gr
  cf : P.length + 1 ≤ cf
  cr : P.length ≤ cr
/-- Only the blocks of a word's parts have changed. -/
structure FrP (g gf gr : Nat) (w w' : World) : Prop where
  low : Below 0 w w'
  size : w.heap.size ≤ w'.heap.size
  block : ∀ k, k < w.heap.size → k ≠ g → k ≠ gf → k ≠ gr → w'.heap[k]? = w.heap[k]?
variable {g gf gr cf cr : Nat} {word : ByteArray} {P : List ByteArray} {R : Nat → Int} {w w' w'' : World}
theorem FrP.refl (g gf gr : Nat) (w : World) : FrP g gf gr w w := ⟨(Below.refl w.heap.size w).mono (Nat.zero_le _), Nat.le_refl _, fun _ _ _ _ _ => rfl⟩
theorem FrP.trans (h : FrP g gf gr w w') (k : FrP g gf gr w' w'') : FrP g gf gr w w'' :=
  ⟨h.low.trans k.low, Nat.le_trans h.size k.size, fun i hi a b c => (k.block i (Nat.lt_of_lt_of_le hi h.size) a b c).trans (h.block i hi a b c)⟩
theorem FrP.of_below (h : Below w.heap.size w w') : FrP g gf gr w w' := ⟨h.mono (Nat.zero_le _), h.size, fun k hk _ _ _ => h.block k hk⟩
theorem FrP.below {B : Nat} (h : FrP g gf gr w w') (hB : B ≤ w.heap.size) (h1 : B ≤ g) (h2 : B ≤ gf) (h3 : B ≤ gr) : Below B w w' :=
  ⟨h.low.os, h.low.tape, h.low.output, h.size, fun k hk => h.block k (by omega) (by omega) (by omega) (by omega)⟩
theorem FrP.drewN (h : FrP g gf gr w w') (m : Nat) : FrP g gf gr w (w'.drewN m) := ⟨below_drewN h.low m, h.size, h.block⟩
theorem FrP.undrew {m : Nat} (h : FrP g gf gr (w.drewN m) w') : FrP g gf gr w w' := ⟨⟨h.low.os, h.low.tape, h.low.output, h.size, fun _ hk => absurd hk (Nat.not_lt_zero _)⟩, h.size, h.block⟩
theorem FrP.set (w : World) (b i : Nat) (v : Value) (hb : b = g ∨ b = gf ∨ b = gr) : FrP g gf gr w (w.setCell ⟨b, i, none⟩ v) :=
  ⟨(Below.refl 0 w).setCell (p := ⟨b, i, none⟩) (Nat.zero_le _) _, (KeepsWalks.setCell w _ v).size, fun k _ h1 h2 h3 => Below.heap_setCell w _ v k (by rcases hb with rfl | rfl | rfl <;> assumption)⟩
theorem heap_set {b i : Nat} {cur : Array Value} {t : TypeId} {x : Nat × Nat} (v : Value) (h : w.heap[b]? = some (.cells cur t x)) : (w.setCell ⟨b, i, none⟩ v).heap[b]? = some (.cells (cur.setIfInBounds i v) t x) := by
  show (w.heap.modify b _)[b]? = _
  rw [Array.getElem?_modify, if_pos rfl, h]
  rfl
theorem PtAt.c0 (h : PtAt g gf gr cf cr word P R w) : w.cell? ⟨g, 0, none⟩ = some (.string word) := cell_of_row h.d
theorem PtAt.c1 (h : PtAt g gf gr cf cr word P R w) : w.cell? ⟨g, 1, none⟩ = some (.slice (some ⟨gf, 0, none⟩) (P.length + 1) cf) := cell_of_row h.d
theorem PtAt.c2 (h : PtAt g gf gr cf cr word P R w) : w.cell? ⟨g, 2, none⟩ = some (.slice (some ⟨gr, 0, none⟩) P.length cr) := cell_of_row h.d
theorem PtAt.cf' (h : PtAt g gf gr cf cr word P R w) {j : Nat} (hj : j ≤ P.length) : w.cell? ⟨gf, j, none⟩ = some (.int .i64 (offB P j : Nat)) := by
  obtain ⟨cur, hg, hc⟩ := h.f
  rw [cell_of_row hg]; exact hc j hj
theorem PtAt.cr' (h : PtAt g gf gr cf cr word P R w) {j : Nat} (hj : j < P.length) : w.cell? ⟨gr, j, none⟩ = some (.int .i64 (R j)) := by
  obtain ⟨cur, hg, hc⟩ := h.r
  rw [cell_of_row hg]; exact hc j hj
theorem PtAt.fr_f (h : PtAt g gf gr cf cr word P R w) (j : Nat) : w.frozen? ⟨gf, j, none⟩ = false := by
  obtain ⟨cur, hg, _⟩ := h.f
  simp [World.frozen?, hg]
theorem PtAt.fr_r (h : PtAt g gf gr cf cr word P R w) (j : Nat) : w.frozen? ⟨gr, j, none⟩ = false := by
  obtain ⟨cur, hg, _⟩ := h.r
  simp [World.frozen?, hg]
theorem PtAt.fr_g (h : PtAt g gf gr cf cr word P R w) (j : Nat) : w.frozen? ⟨g, j, none⟩ = false := by simp [World.frozen?, h.d]
theorem PtAt.lt (h : PtAt g gf gr cf cr word P R w) : g < w.heap.size ∧ gf < w.heap.size ∧ gr < w.heap.size := by
  obtain ⟨_, hf, _⟩ := h.f
  obtain ⟨_, hr, _⟩ := h.r
  exact ⟨lt_of_some h.d, lt_of_some hf, lt_of_some hr⟩
theorem PtAt.apart (h : PtAt g gf gr cf cr word P R w) : g ≠ gf ∧ g ≠ gr := by
  obtain ⟨_, hf, _⟩ := h.f
  obtain ⟨_, hr, _⟩ := h.r
  have hd := h.d
  constructor
  · rintro rfl; rw [hd] at hf; injection hf with hf; injection hf with _ h3; exact absurd h3 (by decide)
  · rintro rfl; rw [hd] at hr; injection hr with hr; injection hr with _ h3; exact absurd h3 (by decide)
theorem PtAt.keep (h : PtAt g gf gr cf cr word P R w) (hb : ∀ k, k < w.heap.size → w'.heap[k]? = w.heap[k]?) : PtAt g gf gr cf cr word P R w' := by
  obtain ⟨l1, l2, l3⟩ := h.lt
  obtain ⟨c1, f1, f2⟩ := h.f
  obtain ⟨c2, r1, r2⟩ := h.r
  exact ⟨(hb g l1).trans h.d, ⟨c1, (hb gf l2).trans f1, f2⟩, ⟨c2, (hb gr l3).trans r1, r2⟩, h.cat, h.ne, h.cf, h.cr⟩
theorem PtAt.below (h : PtAt g gf gr cf cr word P R w) (hb : Below w.heap.size w w') : PtAt g gf gr cf cr word P R w' := h.keep fun k hk => hb.block k hk
theorem PtAt.drewN (h : PtAt g gf gr cf cr word P R w) (m : Nat) : PtAt g gf gr cf cr word P R (w.drewN m) := h.keep fun _ _ => rfl
theorem PtAt.size_word (h : PtAt g gf gr cf cr word P R w) (k : Nat) : offB P k ≤ word.size := by
  have := offB_le P k
  rw [h.cat, size_len] at this
  exact this

set_option maxHeartbeats 1000000 in
set_option maxRecDepth 100000 in
theorem text_any (h : PtAt g gf gr cf cr word P R w) (_ : word.size ≤ 4096) (hP : P.length ≤ 4096) (i : Nat) (p : ByteArray) (hi : P[i]? = some p) :
    Calls Tryd.prog 43 #[.pointer (some ⟨g, 0, none⟩), .int .i64 i] w fun e w' => e = .returned (.string p) ∧ ∃ m, w' = w.drewN m := by
  have hil := (List.getElem?_eq_some_iff.1 hi).1
  have c0 := h.c0; have c1 := h.c1
  have d0 := h.cf' (j := i) (by omega)
  have d1 := h.cf' (j := i + 1) (by omega)
  have hs := h.size_word (i + 1)
  have hle : offB P i ≤ offB P (i + 1) := by rw [offB_succ hi]; omega
  have HE := Lib.hid (part_ext h.cat hi)
  obtain ⟨n, hn⟩ : ∃ n, P.length = n := ⟨_, rfl⟩
  rw [hn] at c1 hil hP
  obtain ⟨x, hx⟩ : ∃ x, offB P i = x := ⟨_, rfl⟩
  obtain ⟨y, hy⟩ : ∃ y, offB P (i + 1) = y := ⟨_, rfl⟩
  rw [hx] at d0 HE hle; rw [hy] at d1 HE hle hs
  clear hx hy hi hn h
  go_enter Tryd.func43, Tryd.ntmps43
  go_wp2_with fail
  go_quiet (fail)
  go_wp2_with fail
  go_ret
  refine ⟨?_, _, rfl⟩
  try rw [HE.out]
  rfl
theorem PtAt.undrew {m : Nat} (h : PtAt g gf gr cf cr word P R (w.drewN m)) : PtAt g gf gr cf cr word P R w := h.keep fun _ _ => rfl
set_option maxHeartbeats 1000000 in
set_option maxRecDepth 100000 in
theorem two_any (h : PtAt g gf gr cf cr word P R w) (hw : word.size ≤ 4096) (hP : P.length ≤ 4096) (i : Nat) (p q : ByteArray) (hi : P[i]? = some p) (hj : P[i + 1]? = some q) :
    Calls Tryd.prog 44 #[.pointer (some ⟨g, 0, none⟩), .int .i64 i] w fun e w' => e = .returned (.agg #[.string p, .string q]) ∧ Below w.heap.size w w' := by
  have hil := (List.getElem?_eq_some_iff.1 hj).1
  have hi3 : (i : Int) ≤ 4096 := by omega
  have HA : ∀ W, Below w.heap.size w W → Calls Tryd.prog 43 #[.pointer (some ⟨g, 0, none⟩), .int .i64 i] W fun e w' => e = .returned (.string p) ∧ ∃ m, w' = W.drewN m := fun W hb => text_any (h.below hb) hw hP i p hi
  have HB : ∀ W, Below w.heap.size w W → Calls Tryd.prog 43 #[.pointer (some ⟨g, 0, none⟩), .int .i64 ((i : Int) + 1)] W fun e w' => e = .returned (.string q) ∧ ∃ m, w' = W.drewN m := fun W hb => text_any (h.below hb) hw hP (i + 1) q hj
  have HA := Lib.hid HA; have HB := Lib.hid HB
  clear h hi hj
  go_enter Tryd.func44, Tryd.ntmps44
  go_wp2_with fail
  have hb0 : Below w.heap.size w (w.alloc (.cells #[.string ⟨#[]⟩, .string ⟨#[]⟩] 31)) := (Below.refl _ _).alloc (Nat.le_refl _) _
  refine (HA.out _ hb0).mono ?_
  rintro e w1 ⟨rfl, m, rfl⟩
  have hb1 := below_drewN hb0 m
  go_wp2_with fail
  refine (HB.out _ hb1).mono ?_
  rintro e w2 ⟨rfl, m2, rfl⟩
  go_wp2_with fail
  have hb2 := below_drewN hb1 m2
  refine bodyPost_ret (v := .agg #[.string p, .string q]) (by simp [results, Tryd.results44, go_sem]) rfl ⟨rfl, ?_⟩
  first
    | exact (hb2.setCell (p := ⟨w.heap.size, 0, none⟩) (Nat.le_refl _) _).setCell (p := ⟨w.heap.size, 1, none⟩) (Nat.le_refl _) _
    | (simp only [World.drewN_drewN] at hb2 ⊢; exact (hb2.setCell (p := ⟨w.heap.size, 0, none⟩) (Nat.le_refl _) _).setCell (p := ⟨w.heap.size, 1, none⟩) (Nat.le_refl _) _)
end Go.Proofs.YtdpfpdpaamjefaaDoor
namespace Go.Proofs.YtdpfpdpaamjefaaDoor
open Go.RowKit Go.Maps Go.WideShapes

theorem wideP : (match Tryd.prog.underlying 31 with | some (.array _ _) | some (.struct _) => true | _ => false) = true := by kernel_rfl
theorem tiledP : Tryd.prog.tiled 2 31 = true := by kernel_rfl
theorem atP : Tryd.prog.keyTypeAt 2 31 = true := by kernel_rfl
theorem lawP : WideMaps.KeyLaw Tryd.prog 31 := Go.deep_law (m := 2) (by omega) (by kernel_rfl) (by kernel_rfl) (by kernel_rfl)
theorem keyTyP : Tryd.prog.keyType 31 = true := by kernel_rfl
theorem cells_str : Tryd.prog.cellsOf 9 = 1 := by kernel_rfl
theorem cells_mp : Tryd.prog.cellsOf 31 = 2 := by kernel_rfl
def keyB (p : PairB) : Lit := .string (keyBytes [.string p.1.data.toList, .string p.2.data.toList])
theorem key_ex (a b : ByteArray) (ha : a.size ≤ maxLen) (hb : b.size ≤ maxLen) : keyOf Tryd.prog 31 (.agg #[.string a, .string b]) = some (keyB (a, b)) := by
  have hf : (Value.agg #[.string a, .string b]).formed Tryd.prog 31 = true := by
    simp [Value.formed, Tryd.underlying31]
    kernel_rfl
  unfold keyOf
  simp only [Tryd.underlying31]
  rw [keyTyP, hf]
  have hk : (Tryd.prog.keyLits (Tryd.prog.types.size + 1) 31 (Value.agg #[.string a, .string b]).cells.toList) = some [.string a.data.toList, .string b.data.toList] := by
    have hn : ∃ n, Tryd.prog.types.size = n + 1 := ⟨Tryd.prog.types.size - 1, by have : 0 < Tryd.prog.types.size := of_decide_eq_true (by kernel_rfl); omega⟩
    obtain ⟨n, hn⟩ := hn
    rw [hn]
    simp [Program.keyLits, Tryd.underlying31, Tryd.underlying9, Value.cells, ha, hb, cells_str, cells_mp]


  rw [hk]
  rfl
/-- A pair that may be a key: its parts aren't longer than any text. -/
def OkP (p : PairB) : Prop := p.1.size ≤ maxLen ∧ p.2.size ≤ maxLen
theorem keyB_of {p : PairB} (h : OkP p) : keyOf Tryd.prog 31 (.agg #[.string p.1, .string p.2]) = some (keyB p) := key_ex p.1 p.2 h.1 h.2
theorem keyB_inj {p q : PairB} (hp : OkP p) (hq : OkP q) (h : keyB p = keyB q) : p = q := by
  have h1 := keyB_of hp
  have h2 := keyB_of hq
  rw [← h] at h2
  have h3 : Value.agg #[.string p.1, .string p.2] = .agg #[.string q.1, .string q.2] := lawP.inj h1 h2
  clear h1 h2 h
  simp only [Value.agg.injEq, Array.mk.injEq, List.cons.injEq, Value.string.injEq, and_true] at h3
  exact Prod.ext h3.1 h3.2
theorem keyB_str (p : PairB) : WideAt.IsKeyLit (keyB p) := trivial
theorem keyedP : Keyed Tryd.prog 31 := Keyed.of_law lawP

/-- The map at b tells each pair of l the index at which it is first. -/
def IsRk (b n : Nat) (l : List PairB) (w : World) : Prop :=
  ∃ D : DataW Unit, w.ownsMap Tryd.prog 31 (plainElem Tryd.prog 3) b n D ∧ ∀ p, OkP p → has D (keyB p) = (rankN l p).isSome ∧ ∀ i, rankN l p = some i → D.atKey (keyB p) (.lit (.int .i64 0)) = .lit (.int .i64 (i : Nat))
theorem IsRk.keep {b n : Nat} {l : List PairB} {w w' : World} (h : IsRk b n l w) (hb : w'.heap[b]? = w.heap[b]?) : IsRk b n l w' := by
  obtain ⟨D, ⟨es, clock, h1, h2⟩, h3⟩ := h
  exact ⟨D, ⟨es, clock, hb.trans h1, h2⟩, h3⟩
theorem IsRk.lt {b n : Nat} {l : List PairB} {w : World} (h : IsRk b n l w) : b < w.heap.size := by
  obtain ⟨D, h1, _⟩ := h
  exact h1.lt
theorem IsRk.below {b n : Nat} {l : List PairB} {w w' : World} (h : IsRk b n l w) (hb : Below w.heap.size w w') : IsRk b n l w' := h.keep (hb.block b h.lt)
theorem IsRk.new (w : World) : IsRk w.heap.size 0 [] (w.alloc (.map #[] 0)) :=
  ⟨.map [], World.ownsMap_made w _ _ _, fun p _ => ⟨rfl, fun i h => by cases h⟩⟩
theorem IsRk.again {b n : Nat} {l : List PairB} {w : World} {q : PairB} (h : IsRk b n l w) (hq : (rankN l q).isSome = true) : IsRk b (n + 1) (l ++ [q]) w := by
  obtain ⟨D, h1, h2⟩ := h
  refine ⟨D, h1.mono (by omega), fun p hp => ?_⟩
  have e : rankN (l ++ [q]) p = rankN l p := by
    rw [rankN_snoc]
    cases hr : rankN l p with
    | some i => rfl
    | none =>
      by_cases e : q = p
      · subst e; rw [hr] at hq; cases hq
      · simp [e]
  rw [e]; exact h2 p hp
theorem IsRk.put {b n : Nat} {l : List PairB} {w w' : World} {q : PairB} {D : DataW Unit} (hD : w.ownsMap Tryd.prog 31 (plainElem Tryd.prog 3) b n D) (h2 : ∀ p, OkP p → has D (keyB p) = (rankN l p).isSome ∧ ∀ i, rankN l p = some i → D.atKey (keyB p) (.lit (.int .i64 0)) = .lit (.int .i64 (i : Nat)))
    (hq : OkP q) (hn : rankN l q = none) (h' : w'.ownsMap Tryd.prog 31 (plainElem Tryd.prog 3) b (n + 1) (D.put (keyB q) (.lit (.int .i64 (l.length : Nat))))) : IsRk b (n + 1) (l ++ [q]) w' := by
  refine ⟨_, h', fun p hp => ?_⟩
  have hm : IsMap D := hD.isMap
  by_cases e : q = p
  · subst e
    rw [rankN_snoc, hn]
    simp only [if_true]
    refine ⟨by rw [has_put_same hm (keyB_str q)]; rfl, fun i hi => ?_⟩
    injection hi with hi
    rw [atKey_put_same hm (keyB_str q), hi]
  · have hk : keyB p ≠ keyB q := fun hk => e (keyB_inj hq hp hk.symm)
    have e2 : rankN (l ++ [q]) p = rankN l p := by
      rw [rankN_snoc]
      cases hr : rankN l p with
      | some i => rfl
      | none => simp [e]
    rw [e2, has_put_other hk, atKey_put_other hk]
    exact h2 p hp
end Go.Proofs.YtdpfpdpaamjefaaDoor
namespace Go.Proofs.YtdpfpdpaamjefaaDoor
open Go.RowKit Go.Maps
variable {w w' : World}

theorem idx_sp : ∀ l : List UInt8, Lib.indexByte l 32 = if (l.takeWhile (· != 32)).length < l.length then ((l.takeWhile (· != 32)).length : Int) else -1
  | [] => rfl
  | b :: r => by
    rw [List.takeWhile_cons]
    unfold Lib.indexByte
    by_cases h : b = 32
    · subst h; simp
    · have h1 : (b == 32) = false := by simpa using h
      have h2 : (b != 32) = true := by simpa using h
      have ih := idx_sp r
      rw [if_neg (by simp [h1]), if_pos h2, ih]
      by_cases hc : (r.takeWhile (· != 32)).length < r.length
      · simp [hc]
      · simp [hc]
theorem spAt_le (s : ByteArray) : spAt s ≤ s.size := by
  unfold spAt
  have := takeWhile_len (· != 32) s.data.toList
  rw [size_len] at this; exact this
theorem idx_spAt (s : ByteArray) : Lib.indexByte s.data.toList 32 = if spAt s < s.size then ((spAt s : Nat) : Int) else -1 := by
  rw [idx_sp, size_len]; rfl
theorem ext_none {s : ByteArray} {a b : Nat} (h : b ≤ a) : s.extract a b = ⟨#[]⟩ := by
  apply ByteArray.ext
  rw [ByteArray.data_extract]
  apply Array.eq_empty_of_size_eq_zero
  simp; omega
/-- The map at b is the set of the pairs of out. -/
def IsSet (b n : Nat) (out : List PairB) (w : World) : Prop :=
  ∃ D : DataW Unit, w.ownsMap Tryd.prog 31 unitElem b n D ∧ ∀ p, OkP p → has D (keyB p) = (rankN out p).isSome
theorem IsSet.keep {b n : Nat} {out : List PairB} (h : IsSet b n out w) (hb : w'.heap[b]? = w.heap[b]?) : IsSet b n out w' := by
  obtain ⟨D, ⟨es, clock, h1, h2⟩, h3⟩ := h
  exact ⟨D, ⟨es, clock, hb.trans h1, h2⟩, h3⟩
theorem IsSet.lt {b n : Nat} {out : List PairB} (h : IsSet b n out w) : b < w.heap.size := by
  obtain ⟨D, h1, _⟩ := h
  exact h1.lt
theorem IsSet.below {b n : Nat} {out : List PairB} (h : IsSet b n out w) (hb : Below w.heap.size w w') : IsSet b n out w' := h.keep (hb.block b h.lt)
theorem IsSet.new (w : World) : IsSet w.heap.size 0 [] (w.alloc (.map #[] 0)) := ⟨.map [], World.ownsMap_made w _ _ _, fun _ _ => rfl⟩
theorem IsSet.put {b n : Nat} {out : List PairB} {q : PairB} {D : DataW Unit} (hD : w.ownsMap Tryd.prog 31 unitElem b n D) (h2 : ∀ p, OkP p → has D (keyB p) = (rankN out p).isSome) (hq : OkP q)
    (h' : w'.ownsMap Tryd.prog 31 unitElem b (n + 1) (D.put (keyB q) (.agg []))) : IsSet b (n + 1) (out ++ [q]) w' := by
  refine ⟨_, h', fun p hp => ?_⟩
  have hm : IsMap D := hD.isMap
  rw [rankN_snoc]
  by_cases e : q = p
  · subst e
    rw [has_put_same hm (keyB_str q)]
    cases rankN out q <;> simp
  · rw [has_put_other (fun hk => e (keyB_inj hq hp hk.symm)), h2 p hp]
    cases rankN out p <;> simp [e]
/-- Only the map at b has changed. -/
structure FrM (b : Nat) (w w' : World) : Prop where
  low : Below 0 w w'
  size : w.heap.size ≤ w'.heap.size
  block : ∀ k, k < w.heap.size → k ≠ b → w'.heap[k]? = w.heap[k]?
theorem FrM.of_below {b : Nat} (h : Below w.heap.size w w') : FrM b w w' := ⟨h.mono (Nat.zero_le _), h.size, fun k hk _ => h.block k hk⟩
theorem FrM.trans {b : Nat} {w'' : World} (h : FrM b w w') (k : FrM b w' w'') : FrM b w w'' :=
  ⟨h.low.trans k.low, Nat.le_trans h.size k.size, fun i hi a => (k.block i (Nat.lt_of_lt_of_le hi h.size) a).trans (h.block i hi a)⟩
theorem FrM.turned {b : Nat} (h : w.mapTurned w' b) : FrM b w w' :=
  ⟨(Below.refl 0 w).grown h.grown (Nat.zero_le _) (fun k e => Nat.zero_le _), h.grown.size, fun k hk hb => h.grown.block k hk (fun e => hb (by injection e))⟩
def okRead (b n : Nat) (out : List PairB) (w : World) (r : PairB ⊕ Int) (e : Ending) (w' : World) : Prop :=
  match r with
  | .inr x => e = .returned (.tuple #[.agg #[.string ⟨#[]⟩, .string ⟨#[]⟩], .int .i64 x]) ∧ IsSet b n out w' ∧ FrM b w w'
  | .inl p => e = .returned (.tuple #[.agg #[.string p.1, .string p.2], .int .i64 0]) ∧ IsSet b (n + 1) (out ++ [p]) w' ∧ FrM b w w'
theorem fin_below {b n : Nat} {out : List PairB} (h : IsSet b n out w) (hb : Below w.heap.size w w') : IsSet b n out w' ∧ FrM b w w' := ⟨h.below hb, FrM.of_below hb⟩
theorem after_put {w2 w3 : World} {bm r : Nat} {x y : ByteArray} {cs : Array Value} {es : Array MapEntry} {ck : Nat} (ht : ((w2.alloc (.cells #[.string x, .string y] 31)).alloc (.cells #[] 50)).mapTurned w3 bm) (hm : w2.heap[bm]? = some (.map es ck)) (hr : w2.heap[r]? = some (.cells cs 31 (0, 0))) :
    w3.heap[w2.heap.size]? = some (.cells #[.string x, .string y] 31 (0, 0)) ∧ w3.heap[r]? = some (.cells cs 31 (0, 0)) ∧ FrM bm w2 w3 := by
  have hlm := lt_of_some hm
  have hlr := lt_of_some hr
  have hne : r ≠ bm := fun e => by rw [e, hm] at hr; cases hr
  have hg := ht.grown
  have hb : Below w2.heap.size w2 ((w2.alloc (.cells #[.string x, .string y] 31)).alloc (.cells #[] 50)) := ((Below.refl _ w2).alloc (Nat.le_refl _) _).alloc (by simp) _
  refine ⟨?_, ?_, (FrM.of_below hb).trans (FrM.turned ht)⟩
  · rw [hg.block w2.heap.size (by simp; omega) (fun e => by injection e with e; omega)]
    exact (Lib.alloc_old _ _ _ (by simp)).trans (World.alloc_heap_new w2 _)
  · rw [hg.block r (by simp; omega) (fun e => by injection e with e; exact hne e)]
    exact (hb.block r hlr).trans hr
theorem good_ok {s : ByteArray} (h : goodB s = true) : s.size ≤ 64 := by
  unfold goodB at h
  simp only [Bool.and_eq_true, decide_eq_true_eq] at h
  exact h.1.2
theorem Good_yes (s : ByteArray) (h : goodB s = true) (w : World) : Calls Tryd.prog 6 #[.string s] w fun e w' => e = .returned (.bool true) ∧ w' = w := by
  have h2 := good_ok h
  exact h ▸ Good_any s w (by unfold maxLen; omega)
theorem Good_no (s : ByteArray) (h : goodB s = false) (hs : s.size ≤ maxLen) (w : World) : Calls Tryd.prog 6 #[.string s] w fun e w' => e = .returned (.bool false) ∧ w' = w := h ▸ Good_any s w hs
theorem pairOf_size (s : ByteArray) : (pairOf s).1.size ≤ s.size ∧ (pairOf s).2.size ≤ s.size := by
  unfold pairOf
  constructor <;> simp <;> omega
end Go.Proofs.YtdpfpdpaamjefaaDoor
namespace Go.Proofs.YtdpfpdpaamjefaaDoor
open Go.RowKit
variable {w w' : World}

/-- The variables of strconv are as they were made. -/
structure StrAt (w : World) : Prop where
  pow : Lib.TabIs Tryd.prog w "internal/strconv.uint64pow10" .u64 Lib.pow10Tab
theorem gPow : Tryd.prog.globalNamed "internal/strconv.uint64pow10" = some 0 := by kernel_rfl
theorem var_same {n : String} {g : Nat} (hg : Tryd.prog.globalNamed n = some g) (hb : w'.heap[g]? = w.heap[g]?) : w'.var? Tryd.prog n = w.var? Tryd.prog n := by
  simp only [World.var?, hg, Option.bind_some, hb]
theorem var_lt {n : String} {g : Nat} {c : Array Value} (hg : Tryd.prog.globalNamed n = some g) (h : w.var? Tryd.prog n = some c) : g < w.heap.size := by
  simp only [World.var?, hg, Option.bind_some] at h
  rcases Nat.lt_or_ge g w.heap.size with h1 | h1
  · exact h1
  · rw [Array.getElem?_eq_none h1] at h; cases h
theorem StrAt.keep (h : StrAt w) (h3 : w'.heap[0]? = w.heap[0]?) : StrAt w' := ⟨(var_same gPow h3).trans h.pow⟩
theorem StrAt.lt (h : StrAt w) : 0 < w.heap.size := var_lt gPow h.pow
theorem StrAt.below (h : StrAt w) (hb : Below w.heap.size w w') : StrAt w' := h.keep (hb.block _ h.lt)
def atoiO (s : ByteArray) : Option Int := match Lib.atoiAll s.data.toList with
  | .ok v => some v
  | _ => none
theorem itoa_any {v : Int} (w : World) (h0 : 0 ≤ v) (h1 : v ≤ 1073741824) (hw : StrAt w) : Calls Tryd.prog 25 #[.int .i64 v] w fun e w' => e = .returned (.string ⟨(Lib.itoa v).toArray⟩) ∧ Below w.heap.size w w' := by
  refine (Tryd.strconv_Itoa v (by omega) (by omega) w hw.pow).mono ?_
  first | rintro e w1 rfl k os rfl | rintro e w1 ⟨rfl, k, os, rfl⟩
  exact ⟨rfl, Lib.below_grow _ _ (Nat.le_refl _) _ _⟩
theorem numR_none {s : ByteArray} (h : atoiO s = none) : numR s = none := by
  unfold numR
  unfold atoiO at h
  split at h
  · cases h
  · rename_i hx
    split
    · rename_i v hv
      exact absurd hv (hx v)
    · rfl
theorem numR_some {s : ByteArray} {v : Int} (h : atoiO s = some v) : numR s = if 0 ≤ v ∧ v ≤ 1073741824 ∧ Lib.itoa v = s.data.toList then some v.toNat else none := by
  unfold numR
  unfold atoiO at h
  split at h
  · rename_i u hu
    injection h with h
    subst h
    rw [hu]
  · cases h
def entV : Option (Nat × ByteArray) → Value
  | some p => .tuple #[.agg #[.int .i64 (p.1 : Nat), .string p.2], .bool true]
  | none => .tuple #[.agg #[.int .i64 0, .string ⟨#[]⟩], .bool false]
theorem erow_end {r : Nat} {w w2 : World} {x x2 : Int} {y y2 : ByteArray} (hrow : w2.heap[r]? = some (.cells #[.int .i64 x, .string y] 55 (0, 0))) (hb : Below w.heap.size w w2) (hr : w.heap.size ≤ r) :
    ((w2.setCell ⟨r, 0, none⟩ (.int .i64 x2)).setCell ⟨r, 1, none⟩ (.string y2)).cell? ⟨r, 0, none⟩ = some (.int .i64 x2) ∧ ((w2.setCell ⟨r, 0, none⟩ (.int .i64 x2)).setCell ⟨r, 1, none⟩ (.string y2)).cell? ⟨r, 1, none⟩ = some (.string y2) ∧ Below w.heap.size w ((w2.setCell ⟨r, 0, none⟩ (.int .i64 x2)).setCell ⟨r, 1, none⟩ (.string y2)) := by
  have hw := heap_set (i := 1) (.string y2) (heap_set (i := 0) (.int .i64 x2) hrow)
  exact ⟨cell_of_row hw, cell_of_row hw, (hb.setCell (p := ⟨r, 0, none⟩) hr _).setCell (p := ⟨r, 1, none⟩) hr _⟩
theorem ne_text {x y : ByteArray} (h : ¬ x = y) : ¬ x.toList = y.toList := by
  rw [ByteArray.toList_eq, ByteArray.toList_eq]
  exact fun e => h (ByteArray.ext (Array.ext' e))
end Go.Proofs.YtdpfpdpaamjefaaDoor
namespace Go.Proofs.YtdpfpdpaamjefaaDoor
open Go.RowKit Go.Maps
variable {w w' : World}

def lineR (out : List PairB) (S : ByteArray) (k : Nat) : PairB ⊕ Int := if 4096 ≤ out.length then .inr 6 else if nlAt S k = S.size then .inr 2 else rdM out (S.extract k (nlAt S k))
theorem restM_step {out : List PairB} {S : ByteArray} {k : Nat} (h : k < S.size) : restF rdM S k out = match lineR out S k with
    | .inr e => ([], (out.length : Int) + 1, e)
    | .inl x => restF rdM S (nlAt S k + 1) (out ++ [x]) := by
  rw [restF_step rdM out h]
  unfold lineR
  by_cases h1 : 4096 ≤ out.length
  · rw [if_pos h1, if_pos h1]
  · rw [if_neg h1, if_neg h1]
    by_cases h2 : nlAt S k = S.size
    · rw [if_pos h2, if_pos h2]
    · rw [if_neg h2, if_neg h2]
      cases rdM out (S.extract k (nlAt S k)) <;> rfl
theorem suf_yes (l : List UInt8) : Lib.hasSuffix (l ++ [10]) [10] = true ∧ Lib.trimSuffix (l ++ [10]) [10] = l := by
  have h : Lib.hasSuffix (l ++ [10]) [10] = true := by unfold Lib.hasSuffix; rw [List.isSuffixOf_iff_suffix]; exact List.suffix_append _ _
  refine ⟨h, ?_⟩
  unfold Lib.trimSuffix
  rw [if_pos h]
  simp
theorem suf_no (l : List UInt8) (h : ∀ b ∈ l, b ≠ 10) : Lib.hasSuffix l [10] = false := by
  unfold Lib.hasSuffix
  cases hc : List.isSuffixOf [10] l with
  | false => rfl
  | true =>
    rw [List.isSuffixOf_iff_suffix] at hc
    obtain ⟨t, ht⟩ := hc
    exact absurd rfl (h 10 (by rw [← ht]; simp))
theorem take_all (l : List UInt8) (f : UInt8 → Bool) : ∀ b ∈ l.takeWhile f, f b = true := by
  induction l with
  | nil => intro b hb; cases hb
  | cons x r ih =>
    intro b hb
    rw [List.takeWhile_cons] at hb
    split at hb
    · rcases List.mem_cons.1 hb with rfl | hb
      · assumption
      · exact ih b hb
    · cases hb
theorem line_toList (S : ByteArray) (a b : Nat) : (S.extract a b).data.toList = (S.data.toList.drop a).take (b - a) := by
  rw [ByteArray.data_extract, Array.toList_extract, List.extract_eq_take_drop]
/-- A line with its newline. -/
theorem line_whole {S : ByteArray} {k : Nat} (hk : k < S.size) (h : nlAt S k < S.size) : (S.extract k (nlAt S k + 1)).data.toList = (S.extract k (nlAt S k)).data.toList ++ [10] := by
  have hge := nlAt_ge S k
  have h10 : S[nlAt S k] = 10 := by
    have : ∀ (d k : Nat) (hk : k ≤ S.size), S.size - k = d → ∀ hh : nlAt S k < S.size, S[nlAt S k] = 10 := by
      intro d
      induction d with
      | zero => intro k hk hd hh; have := nlAt_ge S k; omega
      | succ d ih =>
        intro k hk hd hh
        have hks : k < S.size := by omega
        by_cases e : S[k] = 10
        · have := nlAt_hit hks e
          simp only [this]; exact e
        · have := nlAt_miss hks e
          have h2 : nlAt S (k + 1) < S.size := by omega
          have := ih (k + 1) (by omega) (by omega) h2
          simp only [nlAt_miss hks e] at this
          exact this
    exact this _ k (by omega) rfl h
  rw [line_toList, line_toList, show nlAt S k + 1 - k = (nlAt S k - k) + 1 by omega, List.take_add_one]
  congr 1
  rw [List.getElem?_drop, show k + (nlAt S k - k) = nlAt S k by omega, List.getElem?_eq_getElem (by rw [size_len]; exact h)]
  show [S.data.toList[nlAt S k]] = [10]
  congr 1
theorem line_part {S : ByteArray} {k : Nat} (h : nlAt S k = S.size) (hk : k ≤ S.size) : ∀ b ∈ (S.extract k S.size).data.toList, b ≠ 10 := by
  rw [ext_drop]
  have hl : ((S.data.toList.drop k).takeWhile (· != 10)).length = (S.data.toList.drop k).length := by
    rw [List.length_drop, size_len]; unfold nlAt at h; omega
  have he : (S.data.toList.drop k).takeWhile (· != 10) = S.data.toList.drop k := (List.takeWhile_prefix _).eq_of_length hl
  intro b hb
  rw [← he] at hb
  simpa using take_all _ _ b hb
theorem FrM.row {b r : Nat} {cs : Array Value} {t : TypeId} (h : FrM b w w') (hr : w.heap[r]? = some (.cells cs t (0, 0))) (hne : r ≠ b) : w'.heap[r]? = some (.cells cs t (0, 0)) := (h.block r (lt_of_some hr) hne).trans hr
theorem fin_box {bm n r : Nat} {out : List PairB} {w2 : World} {a b p q : ByteArray} (h2 : IsSet bm n out w2) (h3 : FrM bm w w2) (hr : w.heap.size ≤ r) (hrow : w2.heap[r]? = some (.cells #[.string a, .string b] 31 (0, 0))) :
    ((w2.setCell ⟨r, 0, none⟩ (.string p)).setCell ⟨r, 1, none⟩ (.string q)).cell? ⟨r, 0, none⟩ = some (.string p) ∧ ((w2.setCell ⟨r, 0, none⟩ (.string p)).setCell ⟨r, 1, none⟩ (.string q)).cell? ⟨r, 1, none⟩ = some (.string q) ∧
    IsSet bm n out ((w2.setCell ⟨r, 0, none⟩ (.string p)).setCell ⟨r, 1, none⟩ (.string q)) ∧ FrM bm w ((w2.setCell ⟨r, 0, none⟩ (.string p)).setCell ⟨r, 1, none⟩ (.string q)) := by
  have hne : bm ≠ r := by
    obtain ⟨D, ⟨es, ck, hmm, _⟩, _⟩ := h2
    intro e
    rw [e, hrow] at hmm; cases hmm
  have hw := heap_set (i := 1) (.string q) (heap_set (i := 0) (.string p) hrow)
  have hb := ((Below.refl w.heap.size w2).setCell (p := ⟨r, 0, none⟩) hr (.string p)).setCell (p := ⟨r, 1, none⟩) hr (.string q)
  exact ⟨cell_of_row hw, cell_of_row hw, h2.keep ((Below.heap_setCell _ ⟨r, 1, none⟩ _ _ hne).trans (Below.heap_setCell _ ⟨r, 0, none⟩ _ _ hne)),
    ⟨h3.low.trans (hb.mono (Nat.zero_le _)), Nat.le_trans h3.size hb.size, fun k hk hkb => (hb.block k hk).trans (h3.block k hk hkb)⟩⟩
end Go.Proofs.YtdpfpdpaamjefaaDoor
namespace Go.Proofs.YtdpfpdpaamjefaaDoor
open Go.RowKit Go.Shelf
attribute [local go_sem] Oper.semAt_some
variable {w w' : World}

def msrL (B : Nat) (w : World) : Nat := match w.cell? ⟨B, 0, none⟩ with | some (.string s) => s.size | _ => 0
end Go.Proofs.YtdpfpdpaamjefaaDoor
namespace Go.Proofs.YtdpfpdpaamjefaaDoor
open Go.RowKit Go.Shelf
attribute [local go_sem] Oper.semAt_some

/-- What may change beside the caller: a block of its own of the loop's, and the text's box. -/
def Stab (B D : Nat) (I : World → Prop) : Prop :=
  ∀ W W', I W → Below 0 W W' → W.heap.size ≤ W'.heap.size → (∀ j, j < W.heap.size → j ≠ B → j ≠ D → j ≠ D + 1 → W'.heap[j]? = W.heap[j]?) → I W'
/-- What a round's body owes. -/
def lnPost (B D : Nat) (I : World → Prop) (Ix : Code → World → Prop) (W : World) : Exit → Act → World → Prop
  | .normal, _, W' => (∀ j, j = B ∨ j = D ∨ j = D + 1 → W'.heap[j]? = W.heap[j]?) ∧ W.heap.size ≤ W'.heap.size ∧ I W'
  | .ret, _, W' => (∀ j, j = B ∨ j = D ∨ j = D + 1 → W'.heap[j]? = W.heap[j]?) ∧ W.heap.size ≤ W'.heap.size ∧ Ix .ret W'
  | .exit _, _, _ => False
  | .goto _, _, _ => False
  | .panic _, _, _ => False
  | .outgrown, _, _ => False
theorem put_other (W : World) {r k : Nat} (o : Obj) (h : k ≠ r) : (W.putObj r o).heap[k]? = W.heap[k]? := World.putObj_heap_other h
theorem put_low (W : World) (r : Nat) (o : Obj) : Below 0 W (W.putObj r o) := (Below.refl 0 W).grown (grownBy_putObj' W r o) (Nat.zero_le _) (fun _ _ => Nat.zero_le _)
theorem Stab.put {B D : Nat} {I : World → Prop} (h : Stab B D I) {W : World} (hI : I W) (o : Obj) : I (W.putObj (D + 1) o) :=
  h W _ hI (put_low W _ o) (by simp) (fun j _ _ _ h4 => put_other W o h4)
theorem Stab.box {B D : Nat} {I : World → Prop} (h : Stab B D I) {W : World} (hI : I W) (i : Nat) (v : Value) : I (W.setCell ⟨B, i, none⟩ v) :=
  h W _ hI ((Below.refl 0 W).setCell (p := ⟨B, i, none⟩) (Nat.zero_le _) v) (KeepsWalks.setCell W _ v).size (fun j _ h2 _ _ => Below.heap_setCell W _ v j h2)
theorem Stab.drewN {B D : Nat} {I : World → Prop} (h : Stab B D I) {W : World} (hI : I W) (q : Nat) : I (W.drewN q) :=
  h W _ hI (below_drewN (Below.refl 0 W) q) (Nat.le_refl _) (fun _ _ _ _ _ => rfl)
theorem cell_block {W W' : World} {B i : Nat} (h : W'.heap[B]? = W.heap[B]?) : W'.cell? ⟨B, i, none⟩ = W.cell? ⟨B, i, none⟩ ∧ W'.frozen? ⟨B, i, none⟩ = W.frozen? ⟨B, i, none⟩ :=
  ⟨World.cell?_of_block (a := ⟨B, i, none⟩) h, World.frozen?_of_block (a := ⟨B, i, none⟩) h⟩
end Go.Proofs.YtdpfpdpaamjefaaDoor
namespace Go.Proofs.YtdpfpdpaamjefaaDoor
open Go.RowKit Go.Shelf
attribute [local go_sem] Oper.semAt_some

theorem lineR_err {out : List PairB} {S : ByteArray} {k : Nat} {e : Int} (h : lineR out S k = .inr e) : e = 6 ∨ e = 2 ∨ e = 10 := by
  unfold lineR rdM at h
  split at h
  · injection h with h; exact .inl h.symm
  · split at h
    · injection h with h; exact .inr (.inl h.symm)
    · split at h
      · split at h
        · injection h with h; exact .inr (.inr h.symm)
        · cases h
      · injection h with h; exact .inr (.inl h.symm)
theorem lineR_ok {out : List PairB} {S : ByteArray} {k : Nat} {p : PairB} (h : lineR out S k = .inl p) (hk : k < S.size) : out.length < 4096 ∧ endAt S k = nlAt S k + 1 := by
  unfold lineR at h
  split at h
  · cases h
  · split at h
    · cases h
    · have := nlAt_le (s := S) (k := k) (by omega)
      exact ⟨by omega, by unfold endAt; rw [if_pos (by omega)]⟩
theorem boxed_same {W W' : World} {b : Nat} {t : TypeId} {v : Value} (h : Boxed W b t v) (e : W'.heap[b]? = W.heap[b]?) : Boxed W' b t v := e.trans h
theorem FrM.more {bm : Nat} {w W W' : World} (h : FrM bm w W) (hl : Below 0 W W') (hs : W.heap.size ≤ W'.heap.size) (hb : ∀ k, k < w.heap.size → k ≠ bm → W'.heap[k]? = W.heap[k]?) : FrM bm w W' :=
  ⟨h.low.trans hl, Nat.le_trans h.size hs, fun k hk hkb => (hb k hk hkb).trans (h.block k hk hkb)⟩
theorem own_frm {bm B n : Nat} {W W' : World} {v : Value} {xs : List Value} (h : W.ownsRow B 31 2 v n xs) (hf : FrM bm W W') (hb : bm < B) : W'.ownsRow B 31 2 v n xs := by
  refine ⟨h.1, ?_⟩
  rcases h.2 with h1 | ⟨g, cap, cur, h1, h2, h3, h4⟩
  · exact .inl h1
  · exact .inr ⟨g, cap, cur, h1, h2, (hf.block g (lt_of_some h3) (by omega)).trans h3, h4⟩
theorem own_lower {w : World} {B B' n s : Nat} {t : TypeId} {v : Value} {xs : List Value} (h : w.ownsRow B t s v n xs) (hb : B' ≤ B) : w.ownsRow B' t s v n xs := by
  refine ⟨h.1, ?_⟩
  rcases h.2 with h1 | ⟨g, cap, cur, h1, h2, h3⟩
  · exact .inl h1
  · exact .inr ⟨g, cap, cur, h1, by omega, h3⟩
end Go.Proofs.YtdpfpdpaamjefaaDoor
namespace Go.Proofs.YtdpfpdpaamjefaaDoor
open Go.RowKit Go.Maps
variable {w w' : World}

theorem FrM.below {b B : Nat} (h : FrM b w w') (h1 : B ≤ b) (h2 : B ≤ w.heap.size) : Below B w w' :=
  ⟨h.low.os, h.low.tape, h.low.output, h.size, fun k hk => h.block k (by omega) (by omega)⟩
theorem keyedS : Keyed Tryd.prog 9 := Maps.string_keyed Tryd.underlying9
theorem keyS {s : ByteArray} (h : s.size ≤ maxLen) : keyOf Tryd.prog 9 (.string s) = some (.string s.data.toList) := by
  unfold keyOf
  simp only [Tryd.underlying9]
  simp [mapKey, Tryd.underlying9, h]
def inB (rs : List ByteArray) (s : ByteArray) : Bool := rs.any fun r => decide (r = s)
theorem inB_snoc (rs : List ByteArray) (q s : ByteArray) : inB (rs ++ [q]) s = (inB rs s || decide (q = s)) := by unfold inB; rw [List.any_append]; simp
/-- The map at b is the set of the texts rs. -/
def IsTx (b n : Nat) (rs : List ByteArray) (w : World) : Prop :=
  ∃ D : DataW Unit, w.ownsMap Tryd.prog 9 unitElem b n D ∧ ∀ s : ByteArray, s.size ≤ maxLen → has D (.string s.data.toList) = inB rs s
theorem IsTx.keep {b n : Nat} {rs : List ByteArray} (h : IsTx b n rs w) (hb : w'.heap[b]? = w.heap[b]?) : IsTx b n rs w' := by
  obtain ⟨D, ⟨es, clock, h1, h2⟩, h3⟩ := h
  exact ⟨D, ⟨es, clock, hb.trans h1, h2⟩, h3⟩
theorem IsTx.lt {b n : Nat} {rs : List ByteArray} (h : IsTx b n rs w) : b < w.heap.size := by
  obtain ⟨D, h1, _⟩ := h
  exact h1.lt
theorem IsTx.new (w : World) : IsTx w.heap.size 0 [] (w.alloc (.map #[] 0)) := ⟨.map [], World.ownsMap_made w _ _ _, fun _ _ => rfl⟩
theorem IsTx.put {b n : Nat} {rs : List ByteArray} {q : ByteArray} {D : DataW Unit} (hD : w.ownsMap Tryd.prog 9 unitElem b n D) (h2 : ∀ s : ByteArray, s.size ≤ maxLen → has D (.string s.data.toList) = inB rs s)
    (h' : w'.ownsMap Tryd.prog 9 unitElem b (n + 1) (D.put (.string q.data.toList) (.agg []))) : IsTx b (n + 1) (rs ++ [q]) w' := by
  refine ⟨_, h', fun p hp => ?_⟩
  have hm : IsMap D := hD.isMap
  rw [inB_snoc]
  by_cases e : p = q
  · subst e
    rw [has_put_same hm (by trivial)]; simp
  · rw [has_put_other (fun hk => e (by injection hk with hk; exact ByteArray.ext (Array.ext' hk))), h2 p hp]
    have : decide (q = p) = false := decide_eq_false (fun h => e h.symm)
    rw [this, Bool.or_false]
def partOk (rs : List ByteArray) (x : ByteArray) : Bool := inB rs x || decide (x.size ≤ 1)
def invF : Nat → List ByteArray → List PairB → Int
  | _, _, [] => -1
  | i, rs, p :: r => if partOk rs p.1 && partOk rs p.2 then invF (i + 1) (rs ++ [p.1 ++ p.2]) r else (i : Int)
def invM (l : List PairB) : Int := invF 0 [] l
def resL (l : List PairB) : List ByteArray := l.map fun p => p.1 ++ p.2
set_option maxHeartbeats 1000000 in
set_option maxRecDepth 100000 in
theorem exists_any (bk bm n : Nat) (rs : List ByteArray) (s : ByteArray) (w : World) (hs : s.size ≤ maxLen) (hk : w.cell? ⟨bk, 0, none⟩ = some (.map (some bm))) (hS : IsTx bm n rs w) :
    Calls Tryd.prog 15 #[.string s, .pointer (some ⟨bk, 0, none⟩)] w fun e w' => e = .returned (.bool (partOk rs s)) ∧ Below w.heap.size w w' := by
  obtain ⟨D, hD, hD2⟩ := hS
  have HD := Lib.hid hD; have HH := Lib.hid (hD2 s hs); have HK := Lib.hid (keyS hs)
  unfold maxLen at hs
  have HB := Lib.hid ((Below.refl w.heap.size w).alloc (Nat.le_refl _) (.cells #[] 50))
  clear hD hD2
  cases hc : inB rs s with
  | true =>
    have HE := Lib.hid (show partOk rs s = true by unfold partOk; rw [hc]; rfl)
    go_enter Tryd.func15, Tryd.ntmps15
    go_wp2_with (at_lookup; refine wpList_lookup_own_unit _ rfl _ _ 49 rfl 9 50 keyedS Tryd.underlying49 (Tryd.zeroValue50 _) bm n D rfl HD.out _ (.string s.data.toList) rfl HK.out ?_; rw [HH.out, hc])
    go_ret
    exact ⟨ret_bool HE.out.symm, HB.out⟩
  | false =>
    by_cases h1 : s.size ≤ 1
    · have HE := Lib.hid (show partOk rs s = true by unfold partOk; simp [h1])
      have h1i : (s.size : Int) ≤ 1 := by omega
      go_enter Tryd.func15, Tryd.ntmps15
      go_wp2_with (at_lookup; refine wpList_lookup_own_unit _ rfl _ _ 49 rfl 9 50 keyedS Tryd.underlying49 (Tryd.zeroValue50 _) bm n D rfl HD.out _ (.string s.data.toList) rfl HK.out ?_; rw [HH.out, hc])
      go_ret
      first | exact ⟨ret_bool HE.out.symm, HB.out⟩ | exact ⟨ret_bool (by rw [HE.out]; simp; omega), HB.out⟩
    · have HE := Lib.hid (show partOk rs s = false by unfold partOk; rw [hc]; simp; omega)
      go_enter Tryd.func15, Tryd.ntmps15
      go_wp2_with (at_lookup; refine wpList_lookup_own_unit _ rfl _ _ 49 rfl 9 50 keyedS Tryd.underlying49 (Tryd.zeroValue50 _) bm n D rfl HD.out _ (.string s.data.toList) rfl HK.out ?_; rw [HH.out, hc])
      go_ret
      first | exact ⟨ret_bool HE.out.symm, HB.out⟩ | exact ⟨ret_bool (by rw [HE.out]; simp; omega), HB.out⟩
theorem result_any (a b : ByteArray) (w : World) (h : a.size + b.size ≤ maxLen) :
    Calls Tryd.prog 16 #[.agg #[.string a, .string b]] w fun e w' => e = .returned (.string (a ++ b)) ∧ Below w.heap.size w w' := by
  unfold maxLen at h
  have hs : ¬ (9223372036854775807 < a.size + b.size) := by omega
  go_enter Tryd.func16, Tryd.ntmps16
  go_wp2_with fail
  go_ret
  exact ⟨rfl, (Below.refl _ _).alloc (Nat.le_refl _) _⟩
end Go.Proofs.YtdpfpdpaamjefaaDoor
