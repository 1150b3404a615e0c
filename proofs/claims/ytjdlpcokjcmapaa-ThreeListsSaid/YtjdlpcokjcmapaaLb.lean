/- Lists' edits: rows in memory: texts, numbers, edits; what two maps of a program's worlds leave alone. -/
import Derived.Test.YtjdlpcokjcmapaaLa
import Derived.Test.YtjdlpcokjcmapaaProg
import Derived.Test.YtjdlpcokjcmapaaChecked
import Derived.WalkKit
import Derived.RegionTactic
import Derived.BigRegion
import Derived.BigQuiet
import Derived.Deep.QuietTactic
import Derived.RangeFuncBox
import Derived.StillTailTactics
import Derived.Deep.RegionHeld3
import Derived.Deep.AppendLies
import Derived.IntWalk
import Derived.Maps.OwnIn
import Derived.Maps.OwnSet
import Derived.WalkSpells
import Derived.Lib.Hide
import Derived.Outline
import Derived.Lib.Builder
set_option linter.unusedVariables false
set_option linter.unusedSimpArgs false
namespace Go.Proofs.Ytjdlpcokjcmapaa
open Go.RowKit
variable {w w' : World}

theorem ret_int {k : IntKind} {a b : Int} (h : a = b) : Ending.returned (.int k a) = .returned (.int k b) := by rw [h]
theorem ret_bool {a b : Bool} (h : a = b) : Ending.returned (.bool a) = .returned (.bool b) := by rw [h]
theorem lt_of_some {w : World} {g : Nat} {o : Obj} (h : w.heap[g]? = some o) : g < w.heap.size := (Array.getElem?_eq_some_iff.1 h).1
theorem addr_at (g j : Nat) : ((⟨g, 0, none⟩ : Addr).add j) = ⟨g, j, none⟩ := by unfold Addr.add; split <;> simp_all
theorem cell_of_row {w : World} {g : Nat} {cur : Array Value} {t : TypeId} {x : Nat × Nat} {j : Nat} (h : w.heap[g]? = some (.cells cur t x)) : w.cell? ⟨g, j, none⟩ = cur[j]? := by
  unfold World.cell?; simp only [h]; rfl
theorem cell_keep {a : Addr} (hb : w'.heap[a.block]? = w.heap[a.block]?) : w'.cell? a = w.cell? a := by simp [World.cell?, hb]
theorem frozen_keep {a : Addr} (hb : w'.heap[a.block]? = w.heap[a.block]?) : w'.frozen? a = w.frozen? a := by simp [World.frozen?, hb]
theorem below_drewN {B : Nat} {a w : World} (h : Below B a w) (n : Nat) : Below B a (w.drewN n) := ⟨h.os, h.tape, h.output, h.size, h.block⟩
theorem own_below {w w' : World} {B : Nat} {e : TypeId} {size : Nat} {v : Value} {n : Nat} {xs : List Value} (h : w.ownsRow B e size v n xs) (hb : Below w.heap.size w w') : w'.ownsRow B e size v n xs := by
  refine ⟨h.1, ?_⟩
  rcases h.2 with hv | ⟨g, cap, cur, hv, hB, hg, r⟩
  · exact .inl hv
  · exact .inr ⟨g, cap, cur, hv, hB, (hb.block g (lt_of_some hg)).trans hg, r⟩
theorem own_base {w : World} {B : Nat} {t : TypeId} {v : Value} {n s : Nat} {xs : List Value} (h : w.ownsRow B t s v n xs) : ∀ k, v.ownBlock = some k → B ≤ k := fun k hk => (h.lt k hk).1
/-- What a row of one's own holds. -/
theorem own_at {w : World} {B n s : Nat} {v : Value} {xs : List Value} {e : TypeId} (h : w.ownsRow B e s v n xs) : ∃ a cap, v = .slice a n cap ∧ (n = 0 ∨ ∃ g, a = some ⟨g, 0, none⟩ ∧ B ≤ g ∧ g < w.heap.size ∧ ∀ i u, xs[i]? = some u → w.cell? ⟨g, i, none⟩ = some u) := by
  rcases h.2 with ⟨hv, h0⟩ | ⟨g, cap, cur, hv, hB, hg, hn, _, hz, ht⟩
  · exact ⟨none, 0, by rw [hv, h0], Or.inl h0⟩
  · refine ⟨_, cap, hv, Or.inr ⟨g, rfl, hB, lt_of_some hg, fun i u hu => ?_⟩⟩
    have hi := (List.getElem?_eq_some_iff.1 hu).1
    have hl : i < n * s := by have := h.1; omega
    rw [← ht, List.getElem?_take, if_pos hl, Array.getElem?_toList] at hu
    rw [cell_of_row hg]; exact hu
theorem own_keep {B n s : Nat} {v : Value} {xs : List Value} {e : TypeId} (h : w.ownsRow B e s v n xs) (hb : ∀ k, v.ownBlock = some k → w'.heap[k]? = w.heap[k]?) : w'.ownsRow B e s v n xs := by
  refine ⟨h.1, ?_⟩
  rcases h.2 with hv | ⟨g, cap, cur, hv, hB, hg, r⟩
  · exact .inl hv
  · exact .inr ⟨g, cap, cur, hv, hB, (hb g (by rw [hv]; rfl)).trans hg, r⟩

/-! Texts. -/
abbrev strV (l : List ByteArray) : List Value := l.map Value.string
def TxAt (w : World) (o : Option Addr) (l : List ByteArray) : Prop :=
  ∀ k, k < l.length → (itB l k).size ≤ maxLen ∧ ∃ b i, o = some ⟨b, i, none⟩ ∧ w.cell? ⟨b, i + k, none⟩ = some (.string (itB l k))
theorem TxAt.keep {o : Option Addr} {l : List ByteArray} (h : TxAt w o l) (hb : ∀ b i, o = some ⟨b, i, none⟩ → b < w.heap.size → 0 < l.length → w'.heap[b]? = w.heap[b]?) : TxAt w' o l := fun k hk => by
  obtain ⟨h1, b, i, h2, h3⟩ := h k hk
  exact ⟨h1, b, i, h2, (cell_keep (hb b i h2 (World.block_lt_of_cell? w _ h3) (Nat.lt_of_le_of_lt (Nat.zero_le _) hk))).trans h3⟩
theorem TxAt.low {o : Option Addr} {l : List ByteArray} (h : TxAt w o l) : ∀ b i, o = some ⟨b, i, none⟩ → 0 < l.length → b < w.heap.size := fun b i ho h0 => by
  obtain ⟨_, b', i', h2, h3⟩ := h 0 h0
  rw [ho] at h2; injection h2 with h2; injection h2 with h2 _
  subst h2
  exact World.block_lt_of_cell? w _ h3
theorem TxAt.below {o : Option Addr} {l : List ByteArray} (h : TxAt w o l) (hb : Below w.heap.size w w') : TxAt w' o l := h.keep fun b _ _ hl _ => hb.block b hl
theorem it_get {l : List ByteArray} {k : Nat} (h : k < l.length) : l[k]? = some (itB l k) := by unfold itB; rw [List.getD_eq_getElem?_getD, List.getElem?_eq_getElem h]; rfl
theorem it_mem {l : List ByteArray} {k : Nat} (h : k < l.length) : itB l k ∈ l := List.mem_of_getElem? (it_get h)
theorem own_texts {B : Nat} {v : Value} {l : List ByteArray} {e : TypeId} (h : w.ownsRow B e 1 v l.length (strV l)) (hs : ∀ s ∈ l, s.size ≤ maxLen) : ∃ a cap, v = .slice a l.length cap ∧ TxAt w a l ∧ ∀ b i, a = some ⟨b, i, none⟩ → B ≤ b := by
  obtain ⟨a, cap, rfl, h0 | ⟨g, rfl, hB, hg, hc⟩⟩ := own_at h
  · refine ⟨a, cap, rfl, fun k hk => by omega, fun b i e => ?_⟩
    subst e
    exact (h.lt b rfl).1
  · exact ⟨_, cap, rfl, fun k hk => ⟨hs _ (it_mem hk), g, 0, rfl, by rw [Nat.zero_add]; exact hc k _ (by rw [List.getElem?_map, it_get hk]; rfl)⟩, fun b i e => by injection e with e; injection e with e; omega⟩
/-! Numbers. -/
abbrev intV (l : List Int) : List Value := l.map (Value.int .i64)
def NmAt (w : World) (o : Option Addr) (l : List Int) : Prop :=
  ∀ k, k < l.length → ∃ b i, o = some ⟨b, i, none⟩ ∧ w.cell? ⟨b, i + k, none⟩ = some (.int .i64 (l.getD k 0))
theorem NmAt.keep {o : Option Addr} {l : List Int} (h : NmAt w o l) (hb : ∀ b i, o = some ⟨b, i, none⟩ → b < w.heap.size → w'.heap[b]? = w.heap[b]?) : NmAt w' o l := fun k hk => by
  obtain ⟨b, i, h2, h3⟩ := h k hk
  exact ⟨b, i, h2, (cell_keep (hb b i h2 (World.block_lt_of_cell? w _ h3))).trans h3⟩
theorem NmAt.below {o : Option Addr} {l : List Int} (h : NmAt w o l) (hb : Below w.heap.size w w') : NmAt w' o l := h.keep fun b _ _ hl => hb.block b hl
theorem nm_get {l : List Int} {k : Nat} (h : k < l.length) : l[k]? = some (l.getD k 0) := by rw [List.getD_eq_getElem?_getD, List.getElem?_eq_getElem h]; rfl
theorem own_nums {B : Nat} {v : Value} {l : List Int} {e : TypeId} (h : w.ownsRow B e 1 v l.length (intV l)) : ∃ a cap, v = .slice a l.length cap ∧ NmAt w a l ∧ ∀ b i, a = some ⟨b, i, none⟩ → B ≤ b := by
  obtain ⟨a, cap, rfl, h0 | ⟨g, rfl, hB, hg, hc⟩⟩ := own_at h
  · refine ⟨a, cap, rfl, fun k hk => by omega, fun b i e => ?_⟩
    subst e
    exact (h.lt b rfl).1
  · exact ⟨_, cap, rfl, fun k hk => ⟨g, 0, rfl, by rw [Nat.zero_add]; exact hc k _ (by rw [List.getElem?_map, nm_get hk]; rfl)⟩, fun b i e => by injection e with e; injection e with e; omega⟩
/-! Edits. -/
abbrev EdZ := Int × ByteArray
def flatZ (l : List EdZ) : List Value := l.flatMap fun p => [Value.int .i64 p.1, Value.string p.2]
theorem flatZ_length (l : List EdZ) : (flatZ l).length = l.length * 2 := by
  unfold flatZ
  induction l with
  | nil => rfl
  | cons p l ih => rw [List.flatMap_cons, List.length_append, ih, List.length_cons]; simp; omega
theorem flatZ_snoc (l : List EdZ) (p : EdZ) : flatZ (l ++ [p]) = flatZ l ++ [Value.int .i64 p.1, Value.string p.2] := by unfold flatZ; rw [List.flatMap_append]; rfl
theorem flatZ_get : ∀ (l : List EdZ) (k : Nat) (p : EdZ), l[k]? = some p → (flatZ l)[k * 2]? = some (.int .i64 p.1) ∧ (flatZ l)[k * 2 + 1]? = some (.string p.2)
  | [], k, p, h => by simp at h
  | q :: l, 0, p, h => by simp at h; subst h; exact ⟨rfl, rfl⟩
  | q :: l, k + 1, p, h => by
    rw [List.getElem?_cons_succ] at h
    have := flatZ_get l k p h
    have e : flatZ (q :: l) = Value.int .i64 q.1 :: Value.string q.2 :: flatZ l := rfl
    rw [e, show (k + 1) * 2 = k * 2 + 1 + 1 by omega]
    simpa only [List.getElem?_cons_succ] using this
def EdAt (w : World) (o : Option Addr) (l : List EdZ) : Prop :=
  ∀ k p, l[k]? = some p → ∃ b i, o = some ⟨b, i, none⟩ ∧ w.cell? ⟨b, i + k * 2, none⟩ = some (.int .i64 p.1) ∧ w.cell? ⟨b, i + k * 2 + 1, none⟩ = some (.string p.2)
theorem EdAt.keep {o : Option Addr} {l : List EdZ} (h : EdAt w o l) (hb : ∀ b i, o = some ⟨b, i, none⟩ → b < w.heap.size → w'.heap[b]? = w.heap[b]?) : EdAt w' o l := fun k p hk => by
  obtain ⟨b, i, h2, h3, h4⟩ := h k p hk
  have e := hb b i h2 (World.block_lt_of_cell? w _ h3)
  exact ⟨b, i, h2, (cell_keep e).trans h3, (cell_keep e).trans h4⟩
theorem EdAt.below {o : Option Addr} {l : List EdZ} (h : EdAt w o l) (hb : Below w.heap.size w w') : EdAt w' o l := h.keep fun b _ _ hl => hb.block b hl
theorem own_edits {B : Nat} {v : Value} {l : List EdZ} {e : TypeId} (h : w.ownsRow B e 2 v l.length (flatZ l)) : ∃ a cap, v = .slice a l.length cap ∧ EdAt w a l ∧ ∀ b i, a = some ⟨b, i, none⟩ → B ≤ b := by
  obtain ⟨a, cap, rfl, h0 | ⟨g, rfl, hB, hg, hc⟩⟩ := own_at h
  · refine ⟨a, cap, rfl, fun k p hk => by have := (List.getElem?_eq_some_iff.1 hk).1; omega, fun b i e => ?_⟩
    subst e
    exact (h.lt b rfl).1
  · exact ⟨_, cap, rfl, fun k p hk => by
      have h2 := flatZ_get l k p hk
      exact ⟨g, 0, rfl, by rw [Nat.zero_add]; exact hc _ _ h2.1, by rw [Nat.zero_add]; exact hc _ _ h2.2⟩, fun b i e => by injection e with e; injection e with e; omega⟩
theorem two_memZ {a : Int} {b : ByteArray} : ∀ u ∈ [Value.int .i64 a, Value.string b], u.oneCell' = true := by
  intro u hu; simp at hu; rcases hu with rfl | rfl <;> rfl
theorem one_memS {b : ByteArray} : ∀ u ∈ [Value.string b], u.oneCell' = true := by
  intro u hu; simp at hu; subst hu; rfl
theorem one_memI {b : Int} : ∀ u ∈ [Value.int .i64 b], u.oneCell' = true := by
  intro u hu; simp at hu; subst hu; rfl
theorem cell_two_new (w : World) (t : TypeId) (a b : Value) : ∀ (j : Nat) (u : Value), [a, b][j]? = some u → (w.alloc (.cells #[a, b] t)).cell? ((⟨w.heap.size, 0, none⟩ : Addr).add j) = some u := fun j u h => by
  have hg : (w.alloc (.cells #[a, b] t)).heap[w.heap.size]? = some (.cells #[a, b] t (0, 0)) := World.alloc_heap_new w _
  rw [addr_at, cell_of_row hg]
  match j, h with
  | 0, h => exact h
  | 1, h => exact h
theorem cell_one_new (w : World) (t : TypeId) (a : Value) : ∀ (j : Nat) (u : Value), [a][j]? = some u → (w.alloc (.cells #[a] t)).cell? ((⟨w.heap.size, 0, none⟩ : Addr).add j) = some u := fun j u h => by
  have hg : (w.alloc (.cells #[a] t)).heap[w.heap.size]? = some (.cells #[a] t (0, 0)) := World.alloc_heap_new w _
  rw [addr_at, cell_of_row hg]
  match j, h with
  | 0, h => exact h
theorem info_s : (Try.prog.info? 9).map (fun i => (i.zero, i.size, i.bytes)) = some (some (.string ⟨#[]⟩), 1, 16) := by kernel_rfl
theorem info_i : (Try.prog.info? 3).map (fun i => (i.zero, i.size, i.bytes)) = some (some (.int .i64 0), 1, 8) := by kernel_rfl
theorem info_de : (Try.prog.info? 68).map (fun i => (i.zero, i.size, i.bytes)) = some (some (.agg #[.int .i64 0, .string ⟨#[]⟩]), 2, 24) := by kernel_rfl
theorem info_re : (Try.prog.info? 72).map (fun i => (i.zero, i.size, i.bytes)) = some (some (.agg #[.int .i64 0, .string ⟨#[]⟩]), 2, 24) := by kernel_rfl
/-! Some blocks are kept. -/
structure Keeps (keep : Nat → Prop) (w w' : World) : Prop where
  low : Below 0 w w'
  size : w.heap.size ≤ w'.heap.size
  block : ∀ k, keep k → w'.heap[k]? = w.heap[k]?
theorem Keeps.refl (keep : Nat → Prop) (w : World) : Keeps keep w w := ⟨Below.refl _ _, Nat.le_refl _, fun _ _ => rfl⟩
theorem Keeps.trans {keep : Nat → Prop} {w'' : World} (h : Keeps keep w w') (k : Keeps keep w' w'') : Keeps keep w w'' :=
  ⟨h.low.trans k.low, Nat.le_trans h.size k.size, fun i hi => (k.block i hi).trans (h.block i hi)⟩
theorem Keeps.of_below {keep : Nat → Prop} {B : Nat} (h : Below B w w') (hk : ∀ k, keep k → k < B) : Keeps keep w w' :=
  ⟨h.mono (Nat.zero_le _), h.size, fun k hkk => h.block k (hk k hkk)⟩
theorem Keeps.drewN {keep : Nat → Prop} (h : Keeps keep w w') (n : Nat) : Keeps keep w (w'.drewN n) := ⟨below_drewN h.low n, h.size, h.block⟩
end Go.Proofs.Ytjdlpcokjcmapaa
