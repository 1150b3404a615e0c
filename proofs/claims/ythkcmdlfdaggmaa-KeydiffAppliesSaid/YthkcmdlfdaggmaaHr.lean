/- Keyed lists: the law of changes. -/
import Derived.Test.YthkcmdlfdaggmaaHq
set_option linter.unusedVariables false
set_option linter.unusedSimpArgs false
namespace Go.Proofs.Ythkcmdlfdaggmaa
open Go.RowKit
variable {w w' : World}

theorem ch_prefix {ks : List ByteArray} {U V : ByteArray → SdB} {i : Nat} {s : ByteArray} (h : ks[i]? = some s) (hd : U s ≠ V s) : (chK ks U V)[(chK (ks.take i) U V).length]? = some (s, U s, V s) := by
  have e : ks = ks.take (i + 1) ++ ks.drop (i + 1) := (List.take_append_drop _ _).symm
  have h1 : chK ks U V = chK (ks.take (i + 1)) U V ++ chK (ks.drop (i + 1)) U V := by
    conv => lhs; rw [e]
    unfold chK; rw [List.filter_append, List.map_append]
  rw [h1, ch_snoc h, if_pos (by simpa using hd), List.append_assoc, List.getElem?_append_right (Nat.le_refl _), Nat.sub_self]
  rfl
theorem under_rs : Try.prog.underlying 37 = some (.struct (Try.prog.fieldsOf 37)) := by kernel_rfl
theorem held_rs : Try.prog.stoodInHeld 37 = false := by kernel_rfl
theorem run_eq_rs (u v : SdB) (w : World) : (binOp .eql 37 (sdV u) (sdV v)).run Try.prog w = .ok (.bool (decide (u = v))) w := by
  rw [run_eql_struct, run_equalIn_agg _ _ _ _ _ under_rs held_rs, ← sd_eq_bool]
  cases h : (u.1.toList == v.1.toList) <;> simp [Op.eqFields, Program.fieldsOf, Try.underlying37, part, go_sem, Try.underlying9, Try.underlying4, h] <;> (try (by_cases h2 : u.2 = v.2 <;> simp [h2]))
theorem under_cg : Try.prog.underlying 41 = some (.struct (Try.prog.fieldsOf 41)) := by kernel_rfl
theorem held_cg : Try.prog.stoodInHeld 41 = false := by kernel_rfl
theorem run_ne_cg (p : ChB) (w : World) : (binOp .neq 41 (chV p) (chV p)).run Try.prog w = .ok (.bool false) w := by
  rw [run_neq_struct, run_equalIn_agg _ _ _ _ _ under_cg held_cg]
  simp [Op.eqFields, Program.fieldsOf, Try.underlying41, Try.underlying39, part, go_sem, Try.underlying9, Try.underlying4]
end Go.Proofs.Ythkcmdlfdaggmaa
