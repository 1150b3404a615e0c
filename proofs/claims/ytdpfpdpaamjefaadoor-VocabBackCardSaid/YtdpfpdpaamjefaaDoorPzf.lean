/- Merges: one row of pairs behind another. -/
import Derived.Test.YtdpfpdpaamjefaaDoorPza
import Derived.Laws.AppendOwnNone
namespace Go.Proofs.YtdpfpdpaamjefaaDoor
open Go.RowKit
variable {w w' : World}

theorem flatP_append (l m : List PairB) : flatP (l ++ m) = flatP l ++ flatP m := by unfold flatP; rw [List.flatMap_append]
theorem flatP_one {m : List PairB} : ∀ u ∈ flatP m, u.oneCell' = true := by
  intro u hu
  unfold flatP at hu
  obtain ⟨p, _, hp⟩ := List.mem_flatMap.1 hu
  simp at hp
  rcases hp with rfl | rfl <;> rfl
theorem wpList_app_pairs {ops : Array Oper} {rest : List Oper} {o : Oper} {a : Act} {Q : Exit → Act → World → Prop} (hgd : o.guard = none) (s x : Operand)
    (ho : o.op = .call { callee := .builtin .append, args := #[s, x], argTypes := #[25, 25] }) (base base2 : Nat) (v v2 : Value) (l m : List PairB)
    (hs : a.eval s = v) (hown : w.ownsRow base 31 2 v l.length (flatP l)) (hx : a.eval x = v2) (hown2 : w.ownsRow base2 31 2 v2 m.length (flatP m))
    (hlm : l.length + m.length ≤ 1000) (hbase : base ≤ w.heap.size)
    (h : ∀ v' w', w'.ownsRow base 31 2 v' (l ++ m).length (flatP (l ++ m)) → w.grownBy w' v.ownBlock → wpList Tryd.prog ops Q rest (a.put o.dst v') w') : wpList Tryd.prog ops Q (o :: rest) a w := by
  obtain ⟨i1, hi1, hz0, hz1, hz2⟩ := info_parts info_mp
  rcases hown2.2 with ⟨h1, h2⟩ | ⟨g, cap, cur, h1, _, hg, hn, hc, hz, ht⟩
  · have hm : m = [] := List.eq_nil_of_length_eq_zero h2
    subst hm
    refine wpList_append_own_none hgd s x 25 ho base 31 i1 2 Tryd.underlying25 hi1 v l.length (flatP l) hs hown (hx.trans h1) (h v w (by rw [List.append_nil]; exact hown) ?_)
    exact World.grownBy.refl _ _
  · refine wpList_append_own w hgd s x 25 ho base 31 i1 (.agg #[.string ⟨#[]⟩, .string ⟨#[]⟩]) 2 32 Tryd.underlying25 hi1 hz0 hz1 hz2 rfl (by decide) v l.length (flatP l) hs hown ⟨g, 0, none⟩ m.length cap (flatP m) (hx.trans h1) (flatP_length m) (fun j u hj => ?_) flatP_one (by unfold maxLen; omega) (by omega) hbase (fun v' w' k1 k2 _ => h v' w' (by rw [List.length_append, flatP_append]; exact k1) k2)
    rw [addr_at, cell_of_row hg]
    rw [← ht, List.getElem?_take] at hj
    split at hj
    · rw [Array.getElem?_toList] at hj; exact hj
    · cases hj
end Go.Proofs.YtdpfpdpaamjefaaDoor
