/- Merges: the document's reader of a line. Vocabularies, plain facts: where the document's reader of a line stops. Vocabularies: the document's reader of a line. Rules: which names and patterns are good: the program's and the document's. Rules: the document's Good; a line scanned, plain facts. Rules: a line's reader. Rules: lines.next. Rules: the document's Parse: plain facts of a line. Vocabularies: the document's Parse. -/
import Derived.Test.YtdpfpdpaamjefaaDoorY2
import Derived.RangeFuncBox
import Derived.StillTailTactics
import Derived.Deep.RegionHeld3
import Derived.Test.YtdpfpdpaamjefaaDoorY3
import Derived.Deep.CutBlock
import Derived.Deep.DeepCutAuto
import Derived.Deep.RegionWith
import Derived.Test.YtdpfpdpaamjefaaDoorY1
namespace Go.Proofs.YtdpfpdpaamjefaaDoor
open Go.RowKit
variable {w w' : World}

theorem frozen_row {g j : Nat} {cur : Array Value} {t : TypeId} (h : w.heap[g]? = some (.cells cur t (0, 0))) : w.frozen? ⟨g, j, none⟩ = false := by simp [World.frozen?, h]
theorem sp_not {s : ByteArray} {k : Nat} (hk : k < spAt s) (hs : k < s.size) : s[k] ≠ 32 := by
  have hk : k < (s.data.toList.takeWhile (· != 32)).length := hk
  have hpre := List.prefix_iff_eq_take.1 (List.takeWhile_prefix (l := s.data.toList) (· != 32))
  have h2 : (s.data.toList.takeWhile (· != 32))[k]? = some s[k] := by
    rw [hpre, List.getElem?_take, if_pos hk, List.getElem?_eq_getElem (by rw [size_len]; exact hs)]
    rfl
  have := take_all _ _ _ (List.mem_of_getElem? h2)
  simpa using this
theorem tw_hit : ∀ (l : List UInt8) (h : (l.takeWhile (· != 32)).length < l.length), l[(l.takeWhile (· != 32)).length]'h = 32
  | [], h => by simp at h
  | b :: r, h => by
    by_cases hb : b = 32
    · subst hb; simp
    · have h2 : (b != 32) = true := by simpa using hb
      have e : ((b :: r).takeWhile (· != 32)) = b :: r.takeWhile (· != 32) := by rw [List.takeWhile_cons, if_pos h2]
      simp only [e, List.length_cons, List.getElem_cons_succ]
      exact tw_hit r (by rw [e] at h; simpa using h)
theorem sp_hit {s : ByteArray} (h : spAt s < s.size) : s[spAt s] = 32 := tw_hit s.data.toList (by rw [size_len]; exact h)
def LlS (w : World) (s : ByteArray) (i : Value) (wr : World) : Prop := ∃ k : Nat, k ≤ spAt s ∧ i = .int .i64 k ∧ wr = w.alloc (.cells #[.string ⟨#[]⟩, .string ⟨#[]⟩] 48)
/-- What a line with a space is. -/
def linG (p : PairB) : Bool := goodB p.1 && goodB p.2
end Go.Proofs.YtdpfpdpaamjefaaDoor
namespace Go.Proofs.YtdpfpdpaamjefaaDoor
open Go.RowKit

/-- The first k bytes are digits, of the number n. -/
structure DgTo (s : ByteArray) (k n : Nat) : Prop where
  le : k ≤ s.size
  ten : k ≤ 10
  all : ∀ j, (h : j < s.size) → j < k → isDg s[j] = true
  num : n = horA (s.data.toList.take k) 0
  lt : n < 10 ^ k
theorem DgTo.zero (s : ByteArray) : DgTo s 0 0 := ⟨Nat.zero_le _, by decide, fun j _ h => absurd h (by omega), rfl, by decide⟩
theorem DgTo.step {s : ByteArray} {k n : Nat} (h : DgTo s k n) (hk : k < s.size) (h10 : k < 10) (hd : isDg s[k] = true) : DgTo s (k + 1) (n * 10 + (s[k].toNat - 48)) := by
  have hb : 48 ≤ s[k].toNat ∧ s[k].toNat ≤ 57 := of_decide_eq_true hd
  refine ⟨hk, h10, fun j hj hjk => ?_, ?_, ?_⟩
  · rcases Nat.lt_or_ge j k with h1 | h1
    · exact h.all j hj h1
    · have : j = k := by omega
      subst this; exact hd
  · rw [List.take_succ_eq_append_getElem (by rw [size_len]; exact hk), horA_app, ← h.num]; rfl
  · have := h.lt
    rw [Nat.pow_succ]; omega
/-- The reader's loop has stopped at k. -/
def DgEnd (s : ByteArray) (k : Nat) : Prop := k = s.size ∨ k = 10 ∨ ∃ h : k < s.size, isDg s[k] = false
theorem ent_space {s : ByteArray} {k n : Nat} (h : DgTo s k n) (h0 : 0 < k) (hk : k < s.size) (hs : s[k] = 32) : pairOf s = (s.extract 0 k, s.extract (k + 1) s.size) := by
  have : spAt s = k := by
    rcases Nat.lt_trichotomy (spAt s) k with h1 | h1 | h1
    · have h2 := sp_hit (s := s) (by omega)
      have h3 := h.all (spAt s) (by omega) h1
      rw [h2] at h3; exact absurd h3 (by decide)
    · exact h1
    · exact absurd hs (sp_not h1 hk)
  unfold pairOf; rw [this]
theorem ent_num {s : ByteArray} {k n : Nat} (h : DgTo s k n) : numR (s.extract 0 k) = if n ≤ 1073741824 ∧ Lib.decDigits n = (s.extract 0 k).data.toList then some n else none := by
  have he : (s.extract 0 k).data.toList = s.data.toList.take k := by simp
  split
  · rename_i hc
    exact (numR_iff _ _).2 ⟨hc.1, hc.2.symm⟩
  · rename_i hc
    cases hr : numR (s.extract 0 k) with
    | none => rfl
    | some m =>
      obtain ⟨h1, h2⟩ := (numR_iff _ _).1 hr
      have : m = n := by rw [h.num, ← he, h2, dec_hor m m (Nat.le_refl _)]
      subst this
      exact absurd ⟨h1, h2.symm⟩ hc
theorem dec_len_pow : ∀ (d k u : Nat), u ≤ d → 1 ≤ k → u < 10 ^ k → (Lib.decDigits u).length ≤ k
  | d, k, u, h, hk, hu => by
    rw [dec_unfold]
    split
    · exact hk
    · rename_i h10
      cases d with
      | zero => omega
      | succ d =>
        cases k with
        | zero => omega
        | succ k =>
          cases k with
          | zero => simp at hu; omega
          | succ k =>
            rw [Nat.pow_succ] at hu
            have := dec_len_pow d (k + 1) (u / 10) (by omega) (by omega) (by omega)
            rw [List.length_append]; simp; omega
theorem ent_stop {s : ByteArray} {k n : Nat} (h : DgTo s k n) (he : DgEnd s k) (hc : k = 0 ∨ k = s.size ∨ ∃ hk : k < s.size, s[k] ≠ 32) : entR s = none := by
  unfold entR
  cases hr : numR (pairOf s).1 with
  | none => rfl
  | some m =>
    simp only
    rw [if_neg]
    intro hg
    obtain ⟨h1, h2⟩ := (numR_iff _ _).1 hr
    have hle := spAt_le s
    have hq : spAt s < s.size := by
      rcases Nat.lt_or_ge (spAt s) s.size with h3 | h3
      · exact h3
      · have h4 : (pairOf s).2 = ⟨#[]⟩ := by unfold pairOf; exact ext_none (by omega)
        rw [h4] at hg; exact absurd hg (by decide)
    have h2' : s.data.toList.take (spAt s) = Lib.decDigits m := by rw [← h2]; unfold pairOf; simp
    have hlen := congrArg List.length h2'
    rw [List.length_take, size_len, Nat.min_eq_left hle] at hlen
    have hq10 : spAt s ≤ 10 := by rw [hlen]; exact dec_len_pow m 10 m (Nat.le_refl _) (by decide) (by omega)
    have hq0 : 0 < spAt s := by rw [hlen]; exact List.length_pos_iff.2 (dec_ne m)
    have hall : ∀ j, (hj : j < s.size) → j < spAt s → isDg s[j] = true := fun j hj hjq => by
      have h5 := List.all_eq_true.1 (dec_all m m (Nat.le_refl _))
      rw [← h2'] at h5
      refine h5 _ (List.mem_of_getElem? (i := j) ?_)
      rw [List.getElem?_take, if_pos hjq, List.getElem?_eq_getElem (by rw [size_len]; exact hj)]
      rfl
    rcases Nat.lt_trichotomy k (spAt s) with h6 | h6 | h6
    · rcases he with h7 | h7 | ⟨h7, h8⟩
      · omega
      · omega
      · rw [hall k h7 h6] at h8; cases h8
    · rcases hc with h7 | h7 | ⟨h7, h8⟩
      · omega
      · omega
      · subst h6; exact h8 (sp_hit hq)
    · have h7 := h.all (spAt s) hq h6
      rw [sp_hit hq] at h7; exact absurd h7 (by decide)
theorem ent_go {s : ByteArray} {k n : Nat} (h : DgTo s k n) (h0 : 0 < k) (hk : k < s.size) (hs : s[k] = 32) :
    entR s = if n ≤ 1073741824 ∧ Lib.decDigits n = (s.extract 0 k).data.toList then if goodB (s.extract (k + 1) s.size) then some (n, s.extract (k + 1) s.size) else none else none := by
  unfold entR
  rw [ent_space h h0 hk hs]
  simp only
  rw [ent_num h]
  by_cases hc : n ≤ 1073741824 ∧ Lib.decDigits n = (s.extract 0 k).data.toList
  · rw [if_pos hc, if_pos hc]
  · rw [if_neg hc, if_neg hc]
end Go.Proofs.YtdpfpdpaamjefaaDoor
namespace Go.Proofs.YtdpfpdpaamjefaaDoor
open Go.RowKit
variable {w w' : World}

theorem dg_no {x : UInt8} (h : ¬ (48 ≤ x.toNat ∧ x.toNat ≤ 57)) : isDg x = false := decide_eq_false h
/-- Why a line is none. -/
def badL (s : ByteArray) (a b : Nat) : Prop := a = 0 ∨ a = s.size ∨ (∃ h : a < s.size, s[a] ≠ 32) ∨ 1073741824 < b ∨ (⟨(Lib.decDigits b).toArray⟩ : ByteArray) ≠ s.extract 0 a
theorem bad_none {s : ByteArray} {a b : Nat} (hD : DgTo s a b) (hE : DgEnd s a) (h : badL s a b) : entR s = none := by
  have hle := hD.le
  by_cases h0 : a = 0
  · exact ent_stop hD hE (.inl h0)
  by_cases h1 : a = s.size
  · exact ent_stop hD hE (.inr (.inl h1))
  by_cases h2 : s[a]'(by omega) = 32
  · rw [ent_go hD (by omega) (by omega) h2, if_neg]
    rintro ⟨g1, g2⟩
    rcases h with h | h | ⟨_, h⟩ | h | h
    · exact h0 h
    · exact h1 h
    · exact h h2
    · omega
    · exact h (ByteArray.ext (by rw [g2]))
  · exact ent_stop hD hE (.inr (.inr ⟨by omega, h2⟩))
theorem bad_not {s : ByteArray} {a b : Nat} (hD : DgTo s a b) (h : ¬ badL s a b) : 0 < a ∧ a < s.size ∧ entR s = if goodB (s.extract (a + 1) s.size) then some (b, s.extract (a + 1) s.size) else none := by
  unfold badL at h
  have hle := hD.le
  have h0 : ¬ a = 0 := fun e => h (.inl e)
  have h1 : ¬ a = s.size := fun e => h (.inr (.inl e))
  have h2 : s[a]'(by omega) = 32 := by
    rcases Decidable.em (s[a]'(by omega) = 32) with h2 | h2
    · exact h2
    · exact absurd (.inr (.inr (.inl ⟨by omega, h2⟩))) h
  have h3 : ¬ 1073741824 < b := fun e => h (.inr (.inr (.inr (.inl e))))
  have h4 : (⟨(Lib.decDigits b).toArray⟩ : ByteArray) = s.extract 0 a := by
    rcases Decidable.em ((⟨(Lib.decDigits b).toArray⟩ : ByteArray) = s.extract 0 a) with h4 | h4
    · exact h4
    · exact absurd (.inr (.inr (.inr (.inr h4)))) h
  refine ⟨by omega, by omega, ?_⟩
  rw [ent_go hD (by omega) (by omega) h2, if_pos ⟨by omega, by rw [← h4]⟩]
/-- What the reader gives of a line that is an entry. -/
def EntIs (s : ByteArray) (x : Int) (t : ByteArray) : Prop := ∀ p, entR s = some p → x = (p.1 : Nat) ∧ t = p.2
theorem ba_ne {x y : ByteArray} (h : ¬ x = y) : ¬ x.toList = y.toList := by
  rw [ByteArray.toList_eq, ByteArray.toList_eq]
  exact fun e => h (ByteArray.ext (Array.ext' e))
end Go.Proofs.YtdpfpdpaamjefaaDoor
namespace Go.Proofs.YtdpfpdpaamjefaaDoor
open Go.RowKit

theorem nb_c (s : ByteArray) (f : UInt8 → Bool) {k : Nat} (h : k < s.size) : (s.data.toList.drop k).all f = (f s[k] && (s.data.toList.drop (k + 1)).all f) := by
  rw [drop_at s k h, List.all_cons]
theorem nb_end (s : ByteArray) (f : UInt8 → Bool) {k : Nat} (h : s.size ≤ k) : (s.data.toList.drop k).all f = true := by
  rw [List.drop_eq_nil_of_le (by rw [size_len]; exact h)]; rfl
def GSf (f : UInt8 → Bool) (s : ByteArray) (i : Value) : Prop := ∃ k : Nat, k ≤ s.size ∧ i = .int .i64 k ∧ (s.data.toList.drop k).all f = (s.data.toList.drop 0).all f
theorem goodN_no {s : ByteArray} {k : Nat} (h : (s.data.toList.drop k).all nameC = (s.data.toList.drop 0).all nameC) (hk : k < s.size) (hb : nameC s[k] = false) : goodN s = false := by
  unfold goodN
  rw [← h, nb_c s nameC hk, hb, Bool.false_and, Bool.and_false]
theorem goodQ_no {s : ByteArray} {k : Nat} (h : (s.data.toList.drop k).all patC = (s.data.toList.drop 0).all patC) (hk : k < s.size) (hb : patC s[k] = false) : goodQ s = false := by
  unfold goodQ
  rw [← h, nb_c s patC hk, hb, Bool.false_and, Bool.and_false]
end Go.Proofs.YtdpfpdpaamjefaaDoor
namespace Go.Proofs.YtdpfpdpaamjefaaDoor
open Go.RowKit
variable {w w' : World}

theorem nameC_hit {x : UInt8} (h : (97 ≤ (x.toNat : Int) ∧ (x.toNat : Int) ≤ 122) ∨ (48 ≤ (x.toNat : Int) ∧ (x.toNat : Int) ≤ 57) ∨ (x.toNat : Int) = 45) : nameC x = true := decide_eq_true h
theorem nameC_miss {x : UInt8} (h : ¬ ((97 ≤ (x.toNat : Int) ∧ (x.toNat : Int) ≤ 122) ∨ (48 ≤ (x.toNat : Int) ∧ (x.toNat : Int) ≤ 57) ∨ (x.toNat : Int) = 45)) : nameC x = false := decide_eq_false h
/-- Where the first space is. -/
def spL (l : List UInt8) : Nat := (l.takeWhile (· != 32)).length
theorem spL_le (l : List UInt8) : spL l ≤ l.length := takeWhile_len _ l
theorem spL_snoc : ∀ (l : List UInt8) (c : UInt8), spL (l ++ [c]) = if spL l < l.length then spL l else if c = 32 then l.length else l.length + 1
  | [], c => by
    unfold spL
    by_cases h : c = 32
    · subst h; rfl
    · simp [h]
  | x :: r, c => by
    have ih := spL_snoc r c
    by_cases h : x = 32
    · subst h
      unfold spL; simp
    · have e : ∀ t : List UInt8, spL (x :: t) = spL t + 1 := fun t => by unfold spL; rw [List.takeWhile_cons, if_pos (by simpa using h)]; rfl
      rw [List.cons_append, e, e, ih]
      simp only [List.length_cons]
      split <;> split <;> (try split) <;> omega
theorem spAt_L (s : ByteArray) : spAt s = spL s.data.toList := rfl
end Go.Proofs.YtdpfpdpaamjefaaDoor
namespace Go.Proofs.YtdpfpdpaamjefaaDoor
open Go.RowKit
variable {w w' : World}

/-- The box at b holds the name of the last rule. -/
def IsLast (b : Nat) (out : List PairB) (w : World) : Prop := Boxed w b 9 (.string (lastN out))
theorem IsLast.keep {b : Nat} {out : List PairB} (h : IsLast b out w) (hb : w'.heap[b]? = w.heap[b]?) : IsLast b out w' := hb.trans h
theorem IsLast.lt {b : Nat} {out : List PairB} (h : IsLast b out w) : b < w.heap.size := Boxed.lt h
theorem IsLast.below {b : Nat} {out : List PairB} (h : IsLast b out w) (hb : Below w.heap.size w w') : IsLast b out w' := h.keep (hb.block b h.lt)
theorem IsLast.set {b : Nat} {out : List PairB} (h : IsLast b out w) (p : PairB) : IsLast b (out ++ [p]) (w.setCell ⟨b, 0, none⟩ (.string p.1)) := by
  unfold IsLast at h ⊢
  rw [lastN_snoc]; exact Boxed.set (.string p.1) h
def okReadR (b : Nat) (out : List PairB) (w : World) (r : PairB ⊕ Int) (e : Ending) (w' : World) : Prop :=
  match r with
  | .inr x => e = .returned (.tuple #[.agg #[.string ⟨#[]⟩, .string ⟨#[]⟩], .int .i64 x]) ∧ IsLast b out w' ∧ FrM b w w'
  | .inl p => e = .returned (.tuple #[.agg #[.string p.1, .string p.2], .int .i64 0]) ∧ IsLast b (out ++ [p]) w' ∧ FrM b w w'
theorem fin_belowR {b : Nat} {out : List PairB} (h : IsLast b out w) (hb : Below w.heap.size w w') : IsLast b out w' ∧ FrM b w w' := ⟨h.below hb, FrM.of_below hb⟩
theorem FrM.set {b i : Nat} (h : FrM b w w') (v : Value) : FrM b w (w'.setCell ⟨b, i, none⟩ v) :=
  ⟨h.low.trans ((Below.refl 0 w').setCell (p := ⟨b, i, none⟩) (Nat.zero_le _) v), Nat.le_trans h.size (by simp), fun k hk hb => (Below.heap_setCell w' ⟨b, i, none⟩ v k hb).trans (h.block k hk hb)⟩
theorem FrM.setNew {b r i : Nat} (h : FrM b w w') (hr : w.heap.size ≤ r) (v : Value) : FrM b w (w'.setCell ⟨r, i, none⟩ v) :=
  ⟨h.low.trans ((Below.refl 0 w').setCell (p := ⟨r, i, none⟩) (Nat.zero_le _) v), Nat.le_trans h.size (by simp), fun k hk hb => (Below.heap_setCell w' ⟨r, i, none⟩ v k (by show k ≠ r; omega)).trans (h.block k hk hb)⟩
end Go.Proofs.YtdpfpdpaamjefaaDoor
namespace Go.Proofs.YtdpfpdpaamjefaaDoor
open Go.RowKit
variable {w w' : World}

def lineQ (out : List PairB) (S : ByteArray) (k : Nat) : PairB ⊕ Int := if 4096 ≤ out.length then .inr 6 else if nlAt S k = S.size then .inr 2 else rdR out (S.extract k (nlAt S k))
theorem restR_step {out : List PairB} {S : ByteArray} {k : Nat} (h : k < S.size) : restF rdR S k out = match lineQ out S k with
    | .inr e => ([], (out.length : Int) + 1, e)
    | .inl x => restF rdR S (nlAt S k + 1) (out ++ [x]) := by
  rw [restF_step rdR out h]
  unfold lineQ
  by_cases h1 : 4096 ≤ out.length
  · rw [if_pos h1, if_pos h1]
  · rw [if_neg h1, if_neg h1]
    by_cases h2 : nlAt S k = S.size
    · rw [if_pos h2, if_pos h2]
    · rw [if_neg h2, if_neg h2]
      cases rdR out (S.extract k (nlAt S k)) <;> rfl
end Go.Proofs.YtdpfpdpaamjefaaDoor
namespace Go.Proofs.YtdpfpdpaamjefaaDoor
open Go.RowKit
variable {w w' : World}

/-- The line from k on, up to j. -/
def lnL (S : ByteArray) (k j : Nat) : List UInt8 := (S.data.toList.drop k).take (j - k)
theorem lnL_len {S : ByteArray} {k j : Nat} (hj : j ≤ S.size) : (lnL S k j).length = j - k := by
  unfold lnL; rw [List.length_take, List.length_drop, size_len]; omega
theorem lnL_self (S : ByteArray) (k : Nat) : lnL S k k = [] := by unfold lnL; simp
theorem lnL_succ {S : ByteArray} {k j : Nat} (hk : k ≤ j) (hj : j < S.size) : lnL S k (j + 1) = lnL S k j ++ [S[j]] := by
  unfold lnL
  rw [show j + 1 - k = (j - k) + 1 by omega, List.take_add_one, List.getElem?_drop, show k + (j - k) = j by omega, List.getElem?_eq_getElem (by rw [size_len]; exact hj)]
  rfl
/-- Where the first space is, as the document has it: -1 for none. -/
def blV (k : Nat) (L : List UInt8) : Int := if spL L < L.length then ((k + spL L : Nat) : Int) else -1
theorem blV_some {k : Nat} {L : List UInt8} (h : spL L < L.length) : blV k L = ((k + spL L : Nat) : Int) := if_pos h
theorem blV_none {k : Nat} {L : List UInt8} (h : ¬ spL L < L.length) : blV k L = -1 := if_neg h
theorem blV_keep {k : Nat} {L : List UInt8} {c : UInt8} (h : spL L < L.length ∨ c ≠ 32) : blV k (L ++ [c]) = blV k L := by
  unfold blV
  rw [spL_snoc]
  have := spL_le L
  by_cases h1 : spL L < L.length
  · rw [if_pos h1, if_pos h1, if_pos (by simp; omega)]
  · have hc : c ≠ 32 := by rcases h with h | h; exact absurd h h1; exact h
    rw [if_neg h1, if_neg hc, if_neg h1, if_neg (by simp)]
theorem blV_hit {k : Nat} {L : List UInt8} (h : ¬ spL L < L.length) : blV k (L ++ [32]) = ((k + L.length : Nat) : Int) := by
  unfold blV
  rw [spL_snoc, if_neg h, if_pos rfl, if_pos (by simp)]
theorem nl_at {S : ByteArray} : ∀ (d k : Nat), S.size - k = d → k ≤ S.size → ∀ hh : nlAt S k < S.size, S[nlAt S k] = 10 := by
  intro d
  induction d with
  | zero => intro k hd hk hh; have := nlAt_ge S k; omega
  | succ d ih =>
    intro k hd hk hh
    have hks : k < S.size := by omega
    by_cases e : S[k] = 10
    · have := nlAt_hit hks e
      simp only [this]; exact e
    · have := nlAt_miss hks e
      have h2 : nlAt S (k + 1) < S.size := by omega
      have := ih (k + 1) (by omega) (by omega) h2
      simp only [nlAt_miss hks e] at this
      exact this
theorem nl_not {S : ByteArray} {k j : Nat} (hk : k ≤ j) (hj : j < nlAt S k) (hjs : j < S.size) : S[j] ≠ 10 := by
  have hlen : ((S.data.toList.drop k).takeWhile (· != 10)).length = nlAt S k - k := by unfold nlAt; omega
  have hpre := List.prefix_iff_eq_take.1 (List.takeWhile_prefix (l := S.data.toList.drop k) (· != 10))
  have h2 : ((S.data.toList.drop k).takeWhile (· != 10))[j - k]? = some S[j] := by
    rw [hpre, List.getElem?_take, if_pos (by rw [hlen]; omega), List.getElem?_drop, show k + (j - k) = j by omega, List.getElem?_eq_getElem (by rw [size_len]; exact hjs)]
    rfl
  have := take_all _ _ _ (List.mem_of_getElem? h2)
  simpa using this
theorem line_eq {S : ByteArray} {k t : Nat} : (S.extract k t).data.toList = lnL S k t := line_toList S k t
theorem spAt_line {S : ByteArray} {k t : Nat} : spAt (S.extract k t) = spL (lnL S k t) := by rw [spAt_L, line_eq]
theorem line_parts {S : ByteArray} {k t : Nat} (_hk : k ≤ t) (ht : t ≤ S.size) (h : spL (lnL S k t) < (lnL S k t).length) :
    (pairOf (S.extract k t)).1 = S.extract k (k + spL (lnL S k t)) ∧ (pairOf (S.extract k t)).2 = S.extract (k + spL (lnL S k t) + 1) t := by
  have hl := lnL_len (S := S) (k := k) ht
  have hsz : (S.extract k t).size = t - k := by simp; omega
  unfold pairOf
  rw [spAt_line, hsz]
  constructor
  · show (S.extract k t).extract 0 (spL (lnL S k t)) = _
    rw [ByteArray.extract_extract, Nat.add_zero, Nat.min_eq_left (by omega)]
  · show (S.extract k t).extract (spL (lnL S k t) + 1) (t - k) = _
    rw [ByteArray.extract_extract, show min (k + (t - k)) t = t by omega, Nat.add_assoc]
theorem line_noQ {S : ByteArray} {k t : Nat} (_hk : k ≤ t) (ht : t ≤ S.size) (h : ¬ spL (lnL S k t) < (lnL S k t).length) : goodQ (pairOf (S.extract k t)).2 = false := by
  have hl := lnL_len (S := S) (k := k) ht
  have hsz : (S.extract k t).size = t - k := by simp; omega
  have e : (pairOf (S.extract k t)).2.size = 0 := by
    unfold pairOf
    rw [spAt_line, hsz]
    simp; omega
  unfold goodQ
  rw [e]; rfl
theorem patC_name {b : UInt8} (h : nameC b = true) : patC b = true := by
  unfold nameC at h; unfold patC
  simp only [decide_eq_true_eq] at h ⊢
  omega
theorem line_all {S : ByteArray} {k t : Nat} (h : (goodN (pairOf (S.extract k t)).1 && goodQ (pairOf (S.extract k t)).2) = true) : (lnL S k t).all patC = true := by
  simp only [Bool.and_eq_true] at h
  have hq := (goodQ_size h.2).1
  have hsp : spAt (S.extract k t) < (S.extract k t).size := by
    have e : (pairOf (S.extract k t)).2.size = (S.extract k t).size - (spAt (S.extract k t) + 1) := by unfold pairOf; simp
    omega
  have hp := pair_line _ hsp
  rw [← line_eq, ← hp, List.all_append, List.all_cons]
  have h1 : (pairOf (S.extract k t)).1.data.toList.all patC = true := List.all_eq_true.2 (fun c hc => patC_name (goodN_all h.1 c hc))
  have h2 : (pairOf (S.extract k t)).2.data.toList.all patC = true := List.all_eq_true.2 (fun c hc => goodQ_all h.2 c hc)
  rw [h1, h2]; decide
theorem line_Q {S : ByteArray} {k t : Nat} (hk : k ≤ t) (ht : t ≤ S.size) (h : spL (lnL S k t) < (lnL S k t).length) (ha : (lnL S k t).all patC = true) :
    goodQ (S.extract (k + spL (lnL S k t) + 1) t) = (decide (0 < t - (k + spL (lnL S k t)) - 1) && decide (t - (k + spL (lnL S k t)) - 1 ≤ 256)) := by
  have hsz : (S.extract (k + spL (lnL S k t) + 1) t).size = t - (k + spL (lnL S k t)) - 1 := by simp; omega
  have hall : (S.extract (k + spL (lnL S k t) + 1) t).data.toList.all patC = true := by
    refine List.all_eq_true.2 (fun c hc => List.all_eq_true.1 ha c ?_)
    rw [line_eq] at hc
    unfold lnL at hc ⊢
    rw [show S.data.toList.drop (k + spL (List.take (t - k) (List.drop k S.data.toList)) + 1) = (S.data.toList.drop k).drop (spL (List.take (t - k) (List.drop k S.data.toList)) + 1) by rw [List.drop_drop]; congr 1] at hc
    rw [show ∀ x, t - (k + x + 1) = t - k - (x + 1) by omega, ← List.drop_take] at hc
    exact List.mem_of_mem_drop hc
  unfold goodQ
  rw [hsz, List.drop_zero, hall, Bool.and_true]
theorem rdR_in {out : List PairB} {S : ByteArray} {k t : Nat} {nm pt : ByteArray} (h1 : (pairOf (S.extract k t)).1 = nm) (h2 : (pairOf (S.extract k t)).2 = pt) (hn : goodN nm = true) (hq : goodQ pt = true) :
    rdR out (S.extract k t) = if leB nm (lastN out) then .inr 12 else .inl (nm, pt) := by
  unfold rdR
  rw [h1, h2, hn, hq]
  have : pairOf (S.extract k t) = (nm, pt) := Prod.ext h1 h2
  rw [this]; rfl
theorem rdR_no {out : List PairB} {s : ByteArray} (h : (goodN (pairOf s).1 && goodQ (pairOf s).2) = false) : rdR out s = .inr 2 := by
  unfold rdR; rw [if_neg (by simp [h])]
theorem leB_nil {a : ByteArray} (h : 0 < a.size) : leB a ⟨#[]⟩ = false := by
  unfold leB
  have h1 := ba_some a h
  have e : (⟨#[]⟩ : ByteArray).toList = [] := by rw [ByteArray.toList_eq]
  rw [e]
  cases hl : a.toList with
  | nil => rw [hl] at h1; cases h1
  | cons x r => rfl
theorem lastN_at {out : List PairB} {m : Nat} {q : PairB} (hm : out.length = m + 1) (h : out[m]? = some q) : lastN out = q.1 := by
  unfold lastN
  rw [List.getLast?_eq_getElem?, hm]
  simp [h]
end Go.Proofs.YtdpfpdpaamjefaaDoor
namespace Go.Proofs.YtdpfpdpaamjefaaDoor
open Go.RowKit
variable {w w' : World}

/-- A slice's entries, in its row of type t. -/
def EnAt (w : World) (t : TypeId) (o : Option Addr) (l : List EntB) : Prop :=
  ∀ k p, l[k]? = some p → ∃ g cur, o = some ⟨g, 0, none⟩ ∧ w.heap[g]? = some (.cells cur t (0, 0)) ∧ w.cell? ⟨g, k * 2, none⟩ = some (.int .i64 (p.1 : Nat)) ∧ w.cell? ⟨g, k * 2 + 1, none⟩ = some (.string p.2)
theorem EnAt.below {w w' : World} {t : TypeId} {o : Option Addr} {l : List EntB} (h : EnAt w t o l) (hb : Below w.heap.size w w') : EnAt w' t o l := fun k p hp => by
  obtain ⟨b, cur, h1, h2, h3, h4⟩ := h k p hp
  have e := hb.block _ (lt_of_some h2)
  refine ⟨b, cur, h1, e.trans h2, ?_, ?_⟩
  · unfold World.cell? at h3 ⊢; simp only [e]; exact h3
  · unfold World.cell? at h4 ⊢; simp only [e]; exact h4
theorem flatE_get : ∀ (l : List EntB) (k : Nat) (p : EntB), l[k]? = some p → (flatE l)[k * 2]? = some (.int .i64 (p.1 : Nat)) ∧ (flatE l)[k * 2 + 1]? = some (.string p.2)
  | [], k, p, h => by simp at h
  | q :: l, 0, p, h => by simp at h; subst h; exact ⟨rfl, rfl⟩
  | q :: l, k + 1, p, h => by
    rw [List.getElem?_cons_succ] at h
    have := flatE_get l k p h
    have e : flatE (q :: l) = Value.int .i64 (q.1 : Nat) :: Value.string q.2 :: flatE l := rfl
    rw [e, show (k + 1) * 2 = k * 2 + 1 + 1 by omega]
    simpa only [List.getElem?_cons_succ] using this
theorem own_entries {w : World} {B : Nat} {t : TypeId} {v : Value} {l : List EntB} (h : w.ownsRow B t 2 v l.length (flatE l)) : ∃ o cap, v = .slice o l.length cap ∧ EnAt w t o l := by
  rcases h.2 with ⟨h1, h2⟩ | ⟨g, cap, cur, h1, _, hg, hn, _, hz, ht⟩
  · exact ⟨none, 0, by rw [h1, h2], fun k p hp => by have := (List.getElem?_eq_some_iff.1 hp).1; omega⟩
  · refine ⟨some ⟨g, 0, none⟩, cap, h1, fun k p hp => ⟨g, cur, rfl, hg, ?_, ?_⟩⟩
    · have h3 := (flatE_get l k p hp).1
      have hk := (List.getElem?_eq_some_iff.1 hp).1
      rw [← ht, List.getElem?_take, if_pos (by omega), Array.getElem?_toList] at h3
      rw [cell_of_row hg]; exact h3
    · have h3 := (flatE_get l k p hp).2
      have hk := (List.getElem?_eq_some_iff.1 hp).1
      rw [← ht, List.getElem?_take, if_pos (by omega), Array.getElem?_toList] at h3
      rw [cell_of_row hg]; exact h3
theorem tok_at {l : List EntB} {q : EntB} {b : ByteArray} {k : Nat} (h : l[k]? = some q) (h0 : inB ((l.take k).map (·.2)) b = false) : (q.2 = b → inB (l.map (·.2)) b = true) ∧ (q.2 ≠ b → inB ((l.take (k + 1)).map (·.2)) b = false) := by
  refine ⟨fun e => List.any_eq_true.2 ⟨q.2, List.mem_map.2 ⟨q, List.mem_of_getElem? h, rfl⟩, decide_eq_true e⟩, fun e => ?_⟩
  rw [List.take_add_one, h, List.map_append, show ((some q).toList.map (·.2)) = [q.2] from rfl, inB_snoc, h0]
  simp [e]
theorem lastE_at {l : List EntB} {m : Nat} {p : EntB} (hm : l.length = m + 1) (h : l[m]? = some p) : lastE l = (p.1 : Int) := by
  unfold lastE
  rw [List.getLast?_eq_getElem?, hm, show m + 1 - 1 = m by omega, h]
def MsV (S : ByteArray) (k : Nat) (wo : World) (t : Value) (wr : World) : Prop :=
  ∃ j : Nat, k ≤ j ∧ j ≤ nlAt S k ∧ t = .int .i64 j ∧ wr = wo
def MvS (out : List EntB) (b : ByteArray) (m : Nat) (wl : World) (i : Value) (wr : World) : Prop :=
  ∃ (j q : Nat), j ≤ m ∧ i = .int .i64 j ∧ inB ((out.take j).map (·.2)) b = false ∧ wr = wl.drewN q
end Go.Proofs.YtdpfpdpaamjefaaDoor
