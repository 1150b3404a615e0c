/- Merges: Split against the plain one. -/
import Derived.Test.YtlfjlkmikmajaaaPza
namespace Go.Proofs.Ytlfjlkmikmajaaa
open Go.RowKit
variable {w w' : World}

theorem InAt.below {o : Option Addr} {l : List PairB} (h : InAt w o l) (hb : Below w.heap.size w w') : InAt w' o l := fun k p hp => by
  obtain ⟨b, i, rfl, c0, c1⟩ := h k p hp
  have hlt : b < w.heap.size := World.block_lt_of_cell? w _ c0
  exact ⟨b, i, rfl, (hb.cell (p := ⟨b, i + k * 2, none⟩) hlt).trans c0, (hb.cell (p := ⟨b, i + k * 2 + 1, none⟩) hlt).trans c1⟩
theorem take_sm {l : List PairB} (h : ∀ q ∈ l, SmP q) (n : Nat) : ∀ q ∈ l.take n, SmP q := fun q hq => h q (List.mem_of_mem_take hq)
theorem splitN_le (l : List PairB) : ∀ (k : Nat) (P : List ByteArray), (splitN k l P).length ≤ P.length
  | 0, P => Nat.le_refl _
  | k + 1, P => by
    unfold splitN
    split
    · exact Nat.le_refl _
    · exact Nat.le_trans (splitN_le l k _) (mergeL_le _ _ P)
theorem splitP_le (l : List PairB) (s : ByteArray) : (splitP l s).length ≤ 4096 := by
  unfold splitP
  split
  · simp
  · have := splitN_le l s.size (bytesB s)
    rw [bytesB_length] at this
    unfold splitB
    omega
/-- What the law sees of its arguments. -/
theorem front_any (o : Option Addr) (l : List PairB) (cap : Nat) (w : World) (hl : l.length ≤ maxLen) (hi : InAt w o l) :
    Calls Try.prog 14 #[.slice o l.length cap] w fun e w' => ∃ o1 c1 o2 c2, e = .returned (.tuple #[.slice o1 (l.take 60).length c1, .slice o2 (l.take 60).length c2]) ∧ PrAt w' 32 o1 (l.take 60) ∧ PrAt w' 31 o2 (l.take 60) ∧ Below w.heap.size w w' := by
  refine (pairs_any o l cap w hl hi).mono ?_
  first | rintro e w2 ⟨a, b, rfl, h1, h2, hb⟩ | rintro e w2 a b rfl h1 h2 hb
  obtain ⟨o1, c1, rfl, p1⟩ := own_pairs h1
  obtain ⟨o2, c2, rfl, p2⟩ := own_pairs h2
  exact ⟨o1, c1, o2, c2, rfl, p1, p2, hb⟩
theorem run_mkb (n : Nat) (hn : n ≤ 100000) (w : World) : (Instr.makeSlice 35 (.int .i64 n) (.int .i64 n)).run Try.prog w = .ok (.slice (some ⟨w.heap.size, 0, none⟩) n n) (w.alloc (.cells (madeCells #[.int .u8 0] n) 5)) := by
  obtain ⟨i0, hi, hz0, hz1, hz2⟩ := info_parts (show (Try.prog.info? 5).map (fun i => (i.zero, i.size, i.bytes)) = some (some (.int .u8 0), 1, 1) by kernel_rfl)
  have := run_make (P := Try.prog) w 35 5 i0 (.int .u8 0) Try.underlying35 hi hz0 .i64 .i64 n n (by omega) (by omega) (by rw [hz2]; show (1 : Int) * _ ≤ _; omega) (by omega)
  rw [hz1] at this
  simp only [Int.toNat_natCast, Nat.mul_one] at this
  exact this
theorem made_zeros (n : Nat) : madeCells #[.int .u8 0] n = ((List.replicate n (0 : Int)).map (Value.int .u8)).toArray := by
  apply Array.ext'
  rw [toList_madeCells_one, List.map_replicate]
theorem conv_zeros (n : Nat) (w : World) : (convert 35 9 (.slice (some ⟨w.heap.size, 0, none⟩) n n)).run Try.prog (w.alloc (.cells (madeCells #[.int .u8 0] n) 5)) = .ok (.string (strOfNums (List.replicate n 0))) (w.alloc (.cells (madeCells #[.int .u8 0] n) 5)) := by
  rw [made_zeros]
  refine run_convert_bytes_arg (P := Try.prog) _ 35 5 Try.underlying35 Try.underlying5 w.heap.size 0 n n (List.replicate n 0) (by simp) (fun i hi => ?_) 9 Try.underlying9
  rw [cell_of_row (World.alloc_heap_new w _)]
  simp only [Nat.zero_add]
  rw [List.getElem?_toArray, List.getElem?_map, List.getElem?_replicate, if_pos hi]
  simp [List.getD, hi]
end Go.Proofs.Ytlfjlkmikmajaaa
