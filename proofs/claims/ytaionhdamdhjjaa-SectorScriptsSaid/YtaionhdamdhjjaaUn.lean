/- Sector: a disk through any script: the law for all arguments. -/
import Derived.Test.YtaionhdamdhjjaaUm
namespace Go.Proofs.Ytaionhdamdhjjaa
open Go.RowKit

theorem scripts_any (n0 : Int) (a : Option Addr) (len cap : Nat) (zs : List ActD) (w : World) (hz : IsActs4 w a len zs) (hl : len ≤ 9223372036854775807) :
    Calls Try.prog 3 #[.int .i64 n0, .slice a len cap] w fun e w' => e = .returned (.bool true) ∧ Below w.heap.size w w' := by
  by_cases hb : n0 < 1 ∨ 4096 < n0
  · exact scripts_bad n0 a len cap w hb
  · by_cases h12 : 12 < n0
    · exact scripts_good n0 (n0 % 8 + 1).toNat a len cap zs w hz hl (by omega) (by omega) (.inl ⟨h12, by omega, by omega⟩)
    · exact scripts_good n0 n0.toNat a len cap zs w hz hl (by omega) (by omega) (.inr (by omega))
end Go.Proofs.Ytaionhdamdhjjaa
