/- Vocabularies: what the law of words there and back needs: appends of pairs, signs, Asked. -/
import Derived.Test.YtdpfpdpaamjefaaDoorV3
import Derived.Test.YtdpfpdpaamjefaaDoorV4
import Derived.Test.YtdpfpdpaamjefaaDoorV9
import Derived.Test.YtdpfpdpaamjefaaDoorVaa
import Derived.Test.YtdpfpdpaamjefaaDoorPzf
import Derived.Test.YtdpfpdpaamjefaaDoorVba
namespace Go.Proofs.YtdpfpdpaamjefaaDoor
open Go.RowKit Go.Shelf Go.Maps
variable {w w' : World}

theorem own_bytes {B n : Nat} {v : Value} {L : List UInt8} (h : w.ownsRow B 5 1 v n (Lib.byteCells L)) (hL : L.length = n) (h0 : 0 < n) :
    ∃ g cap, v = .slice (some ⟨g, 0, none⟩) n cap ∧ ∀ W : World, W.heap[g]? = w.heap[g]? → (convert 24 9 (.slice (some ⟨g, 0, none⟩) n cap)).run Tryd.prog W = .ok (.string ⟨L.toArray⟩) W := by
  rcases h.2 with ⟨_, h1⟩ | ⟨g, cap, cur, hv, _, hg, _, _, _, ht⟩
  · omega
  · refine ⟨g, cap, hv, fun W hW => ?_⟩
    have hs : (⟨L.toArray⟩ : ByteArray) = strOfNums (L.map fun b => (b.toNat : Int)) := by
      apply ByteArray.ext
      apply Array.ext'
      show L = _
      simp [strOfNums, List.map_map]
      conv => lhs; rw [← List.map_id L]
      refine List.map_congr_left (fun b _ => ?_)
      exact UInt8.toNat_inj.1 (by simp)
    rw [hs]
    refine run_convert_bytes_arg (P := Tryd.prog) _ 24 5 Tryd.underlying24 Tryd.underlying5 g 0 n cap (L.map fun b => (b.toNat : Int)) (by simp [hL]) (fun i hi => ?_) 9 Tryd.underlying9
    rw [cell_of_row (hW.trans hg)]
    have h3 : (Lib.byteCells L)[i]? = some (.int .u8 ((L[i]'(by omega)).toNat : Int)) := by
      unfold Lib.byteCells
      rw [List.getElem?_map, List.getElem?_eq_getElem (by omega)]; rfl
    rw [← ht, List.getElem?_take, if_pos (by omega), Array.getElem?_toList] at h3
    rw [Nat.zero_add, h3]
    congr 3
    rw [List.getD_eq_getElem?_getD, List.getElem?_map, List.getElem?_eq_getElem (by omega)]
    rfl
/-- What comes up is wanted. -/
theorem ready_yes {P : Program} {ops : Array Oper} {Q : Exit → Act → World → Prop} {md : Region.Mode} {S : World → Prop} {fuel : Nat} {listed : Array Bool} {a : Act} {w : World} {i : Nat} {o : Oper} {rs : List Nat} (ho : ops[i]? = some o)
    (hw : Region.wanted o (yielded ops a.tmps) = true)
    (h : ∀ K' : Act → World → Prop, Shut (∀ a w, S w → (S w → wpAnyH P md ops Q S fuel (listed.setIfInBounds i true) a w) → K' a w) → Oper.wp P o a w K' Q)
    (hs : AllReadyH P md ops Q S fuel listed a w rs) : AllReadyH P md ops Q S fuel listed a w (i :: rs) :=
  AllReadyH.cons ho (fun K hK => by rw [if_pos hw]; exact h K hK) hs
theorem wp_app_pairs {w : World} {o : Oper} {a : Act} {K : Act → World → Prop} {Q : Exit → Act → World → Prop} (s x : Operand)
    (ho : o.op = .call { callee := .builtin .append, args := #[s, x], argTypes := #[25, 25] }) (base base2 : Nat) (v v2 : Value) (l m : List PairB)
    (hs : a.eval s = v) (hown : w.ownsRow base 31 2 v l.length (flatP l)) (hx : a.eval x = v2) (hown2 : w.ownsRow base2 31 2 v2 m.length (flatP m))
    (hlm : l.length + m.length ≤ 1000) (hbase : base ≤ w.heap.size)
    (h : ∀ v' w', w'.ownsRow base 31 2 v' (l ++ m).length (flatP (l ++ m)) → w.grownBy w' v.ownBlock → K (a.put o.dst v') w') : o.wp Tryd.prog a w K Q := by
  obtain ⟨i1, hi1, hz0, hz1, hz2⟩ := info_parts info_mp
  rcases hown2.2 with ⟨h1, h2⟩ | ⟨g, cap, cur, h1, _, hg, hn, hc, hz, ht⟩
  · have hm : m = [] := List.eq_nil_of_length_eq_zero h2
    subst hm
    have hrun := run_append_owned_none (P := Tryd.prog) (w := w) base 25 o.type 31 i1 2 Tryd.underlying25 hi1 v l.length (flatP l) hown
    unfold Oper.wp
    simp [execOp, ho, resolve, invoke, builtin, hs, hx, h1, hrun, Result.andThen]
    exact h v w (by rw [List.append_nil]; exact hown) (World.grownBy.refl _ _)
  · have hl0 : (flatP m).length = m.length * 2 := flatP_length m
    have hnews : ∀ (j : Nat) (u : Value), (flatP m)[j]? = some u → w.cell? ((⟨g, 0, none⟩ : Addr).add j) = some u := fun j u hj => by
      rw [addr_at, cell_of_row hg]
      rw [← ht, List.getElem?_take] at hj
      split at hj
      · rw [Array.getElem?_toList] at hj; exact hj
      · cases hj
    obtain ⟨v', w', hr, h2, h3, _⟩ := run_append_own_at (P := Tryd.prog) w base 25 o.type 31 i1 (.agg #[.string ⟨#[]⟩, .string ⟨#[]⟩]) 2 32 Tryd.underlying25 hi1 hz0 hz1 hz2 rfl (by decide) v l.length (flatP l) hown ⟨g, 0, none⟩ m.length cap (flatP m) hl0 hnews flatP_one (by unfold maxLen; omega) (by omega) hbase
    unfold Oper.wp execOp
    simp only [ho, resolve, invoke, builtin, Sem.run_bind, Sem.run_pure, Result.andThen_ok, List.map_toArray, List.map_cons, List.map_nil, hs, hx, h1, hr]
    exact h v' w' (by rw [List.length_append, flatP_append]; exact h2) h3
/-- A list of one pair, written out. -/
theorem lit_one (w : World) (p : PairB) : (w.alloc (.cells #[.string p.1, .string p.2] 31)).ownsRow w.heap.size 31 2 (.slice (some ⟨w.heap.size, 0, none⟩) 1 1) [p].length (flatP [p]) :=
  ⟨rfl, .inr ⟨w.heap.size, 1, _, rfl, Nat.le_refl _, World.alloc_heap_new w _, Nat.le_refl _, by unfold maxLen; omega, rfl, rfl⟩⟩
theorem lit_none (w : World) : (w.alloc (.cells #[] 31)).ownsRow w.heap.size 31 2 (.slice (some ⟨w.heap.size, 0, none⟩) 0 0) ([] : List PairB).length (flatP []) :=
  ⟨rfl, .inr ⟨w.heap.size, 0, _, rfl, Nat.le_refl _, World.alloc_heap_new w _, Nat.le_refl _, Nat.zero_le _, rfl, rfl⟩⟩
/-- A sign made of a byte. -/
def sgn (c : UInt8) : UInt8 := UInt8.ofNat (33 + c.toNat % 94)
theorem sgn_nat (c : UInt8) : (sgn c).toNat = 33 + c.toNat % 94 := by
  unfold sgn
  have : c.toNat % 94 < 94 := Nat.mod_lt _ (by decide)
  simp; omega
def wordL (s : ByteArray) (k : Nat) : List UInt8 := (s.data.toList.take k).map sgn
theorem wordL_len {s : ByteArray} {k : Nat} (h : k ≤ s.size) : (wordL s k).length = k := by
  unfold wordL
  rw [List.length_map, List.length_take, size_len]; omega
theorem wordL_snoc {s : ByteArray} {k : Nat} (h : k < s.size) : wordL s (k + 1) = wordL s k ++ [sgn s[k]] := by
  unfold wordL
  have e : s.data.toList[k]? = some s[k] := by
    rw [List.getElem?_eq_getElem (by rw [size_len]; exact h)]; rfl
  rw [List.take_add_one, e, Option.toList_some, List.map_append]; rfl
theorem wordL_sg {s : ByteArray} {k : Nat} : ∀ c ∈ wordL s k, 33 ≤ (c.toNat : Int) ∧ (c.toNat : Int) ≤ 126 := fun c hc => by
  unfold wordL at hc
  rw [List.mem_map] at hc
  obtain ⟨d, _, rfl⟩ := hc
  have := sgn_nat d
  have := Nat.mod_lt d.toNat (show 94 > 0 by decide)
  omega
def BcS (s : ByteArray) (w1 : World) (v i : Value) (wr : World) : Prop :=
  ∃ k : Nat, k ≤ s.size ∧ k ≤ 500 ∧ i = .int .i64 k ∧ wr.ownsRow w1.heap.size 5 1 v k (Lib.byteCells (wordL s k)) ∧ (k = 0 → v = .slice none 0 0) ∧ Below w1.heap.size w1 wr
def GcS (na : Nat) (w2 : World) (v i : Value) (wr : World) : Prop :=
  ∃ (k : Nat) (G : List PairB), k ≤ na ∧ G.length ≤ k ∧ i = .int .i64 k ∧ (∀ q ∈ G, GdP q) ∧ wr.ownsRow w2.heap.size 31 2 v G.length (flatP G) ∧ Below w2.heap.size w2 wr
theorem pr_blk {B : Nat} {t : TypeId} {o : Option Addr} {n c s : Nat} {xs : List Value} (h : w.ownsRow B t s (.slice o n c) n xs) : ∀ g, o = some ⟨g, 0, none⟩ → g < w.heap.size := fun g hg => by
  subst hg
  exact own_lt_blk h g rfl
set_option maxHeartbeats 1000000 in
set_option maxRecDepth 100000 in
/-- '(*vocab.Index).Asked'. -/
theorem Asked_any (b : Nat) (L : List EntB) (x : Int) (w : World) (hx : (Lit.int .i64 x).wf = true) (h : IxBuilt b L x w) :
    Calls Tryd.prog 12 #[.pointer (some ⟨b, 0, none⟩)] w fun e w' => e = .returned (.int .i64 x) ∧ w' = w := by
  obtain ⟨m1, m2, hr, _⟩ := h
  have c6 := (ix_cells hr).2.2.2.2.2.1
  clear hr
  go_enter Tryd.func12, Tryd.ntmps12
  go_wp2_with (go_at_call 24; refine (load_any ⟨b, 6, none⟩ x _ c6).mono ?_; rintro e w' ⟨rfl, rfl⟩)
  go_ret
  exact ⟨rfl, rfl⟩
end Go.Proofs.YtdpfpdpaamjefaaDoor
