/- Merges: longer lists. -/
import Derived.Test.YtlfjlkmikmajaaaPzf
import Derived.Maps.OwnOps
namespace Go.Proofs.Ytlfjlkmikmajaaa
open Go.RowKit Go.Maps
variable {w w' : World}
set_option maxRecDepth 100000

theorem bool_inv {H : Type} {P : Program} {e : TypeId} (he : P.underlying e = some .bool) {v : Value} {z : DataW H × List MemPlace} (h : plainElem P e v = some z) : ∃ x, v = .bool x ∧ z.1 = .lit (.bool x) := by
  unfold plainElem at h
  rw [he] at h
  cases v <;> simp at h
  subst h
  exact ⟨_, rfl, rfl⟩
theorem keyedI : Keyed Try.prog 3 := Maps.int_keyed Try.underlying3
theorem keyI (x : Int) (h : (Lit.int .i64 x).wf = true) : keyOf Try.prog 3 (.int .i64 x) = some (.int .i64 x) := by
  unfold keyOf
  simp only [Try.underlying3]
  simp [mapKey, Try.underlying3, h]
theorem wf_off {x : Nat} (h : x ≤ 1000) : (Lit.int .i64 (x : Int)).wf = true := by
  have e1 : IntKind.i64.min = -9223372036854775808 := by decide
  have e2 : IntKind.i64.max = 9223372036854775807 := by decide
  simp [Lit.wf, e1, e2]; omega
/-- The map at b tells the ends of the first k parts. -/
def IsEnd (b n k : Nat) (P : List ByteArray) (w : World) : Prop :=
  ∃ D : DataW Unit, w.ownsMap Try.prog 3 (plainElem Try.prog 4) b n D ∧ ∀ i, i < k → D.atKey (.int .i64 (offB P (i + 1) : Nat)) (.lit (.bool false)) = .lit (.bool true)
theorem IsEnd.keep {b n k : Nat} {P : List ByteArray} (h : IsEnd b n k P w) (hb : w'.heap[b]? = w.heap[b]?) : IsEnd b n k P w' := by
  obtain ⟨D, ⟨es, clock, h1, h2⟩, h3⟩ := h
  exact ⟨D, ⟨es, clock, hb.trans h1, h2⟩, h3⟩
theorem IsEnd.lt {b n k : Nat} {P : List ByteArray} (h : IsEnd b n k P w) : b < w.heap.size := by
  obtain ⟨D, h1, _⟩ := h
  exact h1.lt
theorem IsEnd.new (P : List ByteArray) (w : World) : IsEnd w.heap.size 0 0 P (w.alloc (.map #[] 0)) := ⟨.map [], World.ownsMap_made w _ _ _, fun i hi => absurd hi (Nat.not_lt_zero i)⟩
theorem IsEnd.put {b n k : Nat} {P : List ByteArray} (h : IsEnd b n k P w) (hn : n < 100000) (hk : offB P (k + 1) ≤ 1000) :
    ∃ w', (Instr.mapUpdate 42 (.map (some b)) (.int .i64 (offB P (k + 1) : Nat)) (.bool true)).run Try.prog w = .ok () w' ∧ IsEnd b (n + 1) (k + 1) P w' ∧ w.mapTurned w' b := by
  obtain ⟨D, h1, h2⟩ := h
  obtain ⟨w', hrun, ho, ht⟩ := h1.store keyedI Try.underlying42 (by unfold maxLen; omega) (keyI _ (wf_off hk)) (plainElem_bool Try.underlying4 true)
  refine ⟨w', hrun, ⟨_, ho, fun i hi => ?_⟩, ht⟩
  have hm : IsMap D := h1.isMap
  by_cases e : offB P (i + 1) = offB P (k + 1)
  · rw [e, atKey_put_same hm (by trivial)]
  · rw [atKey_put_other (fun hk => e (by injection hk with _ hk; omega))]
    have : i ≠ k := fun h => e (by rw [h])
    exact h2 i (by omega)
theorem IsEnd.look {b n k : Nat} {P : List ByteArray} {x : Nat} (h : IsEnd b n k P w) (hx : ∃ i, i < k ∧ x = offB P (i + 1)) (hk : x ≤ 1000) (hz : (zeroValue 4).run Try.prog w = .ok (.bool false) w) :
    (Instr.lookup 42 (.map (some b)) (.int .i64 (x : Int)) false).run Try.prog w = .ok (.bool true) w := by
  obtain ⟨D, h1, h2⟩ := h
  obtain ⟨i, hi, rfl⟩ := hx
  obtain ⟨v, ps, hrun, hv⟩ := h1.lookup keyedI Try.underlying42 hz (plainElem_bool Try.underlying4 false) (keyI _ (wf_off hk))
  obtain ⟨x, rfl, hx⟩ := bool_inv Try.underlying4 hv
  rw [h2 i hi] at hx
  injection hx with hx; injection hx with hx
  rw [hrun, ← hx]
theorem front2 (o : Option Addr) (l : List PairB) (cap : Nat) (w : World) (hl : l.length ≤ maxLen) (hi : InAt w o l) :
    Calls Try.prog 14 #[.slice o l.length cap] w fun e w' => ∃ o1 c1 b, e = .returned (.tuple #[.slice o1 (l.take 60).length c1, b]) ∧ w'.ownsRow w.heap.size 32 2 (.slice o1 (l.take 60).length c1) (l.take 60).length (flatP (l.take 60)) ∧ Below w.heap.size w w' := by
  refine (pairs_any o l cap w hl hi).mono ?_
  first | rintro e w2 ⟨a, b, rfl, h1, h2, hb⟩ | rintro e w2 a b rfl h1 h2 hb
  obtain ⟨o1, c1, rfl, p1⟩ := own_pairs h1
  exact ⟨o1, c1, b, rfl, h1, hb⟩
theorem pr_of {B : Nat} {o : Option Addr} {c : Nat} {l : List PairB} (h : w.ownsRow B 32 2 (.slice o l.length c) l.length (flatP l)) : PrAt w 32 o l := by
  obtain ⟨o1, c1, e, p1⟩ := own_pairs h
  injection e with e1 e2 e3
  rw [e1]; exact p1
end Go.Proofs.Ytlfjlkmikmajaaa
