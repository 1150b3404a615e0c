/- Wal's laws: outside, tame. -/
import Derived.Test.YtbpaiiljhdohfaaDoorWq
import Derived.Deep.AppendLies
import Derived.Deep.RegionLaw
namespace Go.Proofs.YtbpaiiljhdohfaaDoor
open Go.RowKit
variable {B n g gd gc cd cc l f m t : Nat} {vw vk : Value} {S : DS} {w : World}

/-- What lies outside, the first k sectors. -/
def outK (f z : Nat) (cur : List ByteArray) : Nat → ByteArray
  | 0 => ⟨#[]⟩
  | k + 1 => if k < f ∨ f + z ≤ k then outK f z cur k ++ (cur.getD k ⟨#[]⟩).extract 0 8 else outK f z cur k
theorem outK_size (f z : Nat) (cur : List ByteArray) : ∀ k, (outK f z cur k).size ≤ 8 * k
  | 0 => Nat.le_refl _
  | k + 1 => by
    have := outK_size f z cur k
    show (if _ then _ else _ : ByteArray).size ≤ _
    split
    · rw [ByteArray.size_append, ByteArray.size_extract]; omega
    · omega
theorem outK_congr (f z : Nat) (a b : List ByteArray) : ∀ k, (∀ j, j < k → (j < f ∨ f + z ≤ j) → a[j]? = b[j]?) → outK f z a k = outK f z b k
  | 0, _ => rfl
  | k + 1, h => by
    have e := outK_congr f z a b k (fun j hj => h j (by omega))
    show (if _ then _ else _ : ByteArray) = if _ then _ else _
    rw [e]
    by_cases hc : k < f ∨ f + z ≤ k
    · rw [if_pos hc, if_pos hc, List.getD_eq_getElem?_getD, List.getD_eq_getElem?_getD, h k (by omega) hc]
    · rw [if_neg hc, if_neg hc]
end Go.Proofs.YtbpaiiljhdohfaaDoor
