/- Merges: Split against the plain one. -/
import Derived.Test.YtpfmcehjbeijaaaPza
import Derived.Test.YtpfmcehjbeijaaaPq
namespace Go.Proofs.Ytpfmcehjbeijaaa
open Go.RowKit
variable {w w' : World}

theorem InAt.below {o : Option Addr} {l : List PairB} (h : InAt w o l) (hb : Below w.heap.size w w') : InAt w' o l := fun k p hp => by
  obtain ⟨b, i, rfl, c0, c1⟩ := h k p hp
  have hlt : b < w.heap.size := World.block_lt_of_cell? w _ c0
  exact ⟨b, i, rfl, (hb.cell (p := ⟨b, i + k * 2, none⟩) hlt).trans c0, (hb.cell (p := ⟨b, i + k * 2 + 1, none⟩) hlt).trans c1⟩
theorem take_sm {l : List PairB} (h : ∀ q ∈ l, SmP q) (n : Nat) : ∀ q ∈ l.take n, SmP q := fun q hq => h q (List.mem_of_mem_take hq)
theorem splitN_le (l : List PairB) : ∀ (k : Nat) (P : List ByteArray), (splitN k l P).length ≤ P.length
  | 0, P => Nat.le_refl _
  | k + 1, P => by
    unfold splitN
    split
    · exact Nat.le_refl _
    · exact Nat.le_trans (splitN_le l k _) (mergeL_le _ _ P)
theorem splitP_le (l : List PairB) (s : ByteArray) : (splitP l s).length ≤ 4096 := by
  unfold splitP
  split
  · simp
  · have := splitN_le l s.size (bytesB s)
    rw [bytesB_length] at this
    unfold splitB
    omega
/-- What the law sees of its arguments. -/
theorem front_any (o : Option Addr) (l : List PairB) (cap : Nat) (w : World) (hl : l.length ≤ maxLen) (hi : InAt w o l) :
    Calls Try.prog 16 #[.slice o l.length cap] w fun e w' => ∃ o1 c1 o2 c2, e = .returned (.tuple #[.slice o1 (l.take 60).length c1, .slice o2 (l.take 60).length c2]) ∧ PrAt w' 38 o1 (l.take 60) ∧ PrAt w' 37 o2 (l.take 60) ∧ Below w.heap.size w w' := by
  refine (pairs_any o l cap w hl hi).mono ?_
  first | rintro e w2 ⟨a, b, rfl, h1, h2, hb⟩ | rintro e w2 a b rfl h1 h2 hb
  obtain ⟨o1, c1, rfl, p1⟩ := own_pairs h1
  obtain ⟨o2, c2, rfl, p2⟩ := own_pairs h2
  exact ⟨o1, c1, o2, c2, rfl, p1, p2, hb⟩
theorem run_mkb (n : Nat) (hn : n ≤ 100000) (w : World) : (Instr.makeSlice 41 (.int .i64 n) (.int .i64 n)).run Try.prog w = .ok (.slice (some ⟨w.heap.size, 0, none⟩) n n) (w.alloc (.cells (madeCells #[.int .u8 0] n) 5)) := by
  obtain ⟨i0, hi, hz0, hz1, hz2⟩ := info_parts (show (Try.prog.info? 5).map (fun i => (i.zero, i.size, i.bytes)) = some (some (.int .u8 0), 1, 1) by kernel_rfl)
  have := run_make (P := Try.prog) w 41 5 i0 (.int .u8 0) Try.underlying41 hi hz0 .i64 .i64 n n (by omega) (by omega) (by rw [hz2]; show (1 : Int) * _ ≤ _; omega) (by omega)
  rw [hz1] at this
  simp only [Int.toNat_natCast, Nat.mul_one] at this
  exact this
theorem made_zeros (n : Nat) : madeCells #[.int .u8 0] n = ((List.replicate n (0 : Int)).map (Value.int .u8)).toArray := by
  apply Array.ext'
  rw [toList_madeCells_one, List.map_replicate]
theorem conv_zeros (n : Nat) (w : World) : (convert 41 9 (.slice (some ⟨w.heap.size, 0, none⟩) n n)).run Try.prog (w.alloc (.cells (madeCells #[.int .u8 0] n) 5)) = .ok (.string (strOfNums (List.replicate n 0))) (w.alloc (.cells (madeCells #[.int .u8 0] n) 5)) := by
  rw [made_zeros]
  refine run_convert_bytes_arg (P := Try.prog) _ 41 5 Try.underlying41 Try.underlying5 w.heap.size 0 n n (List.replicate n 0) (by simp) (fun i hi => ?_) 9 Try.underlying9
  rw [cell_of_row (World.alloc_heap_new w _)]
  simp only [Nat.zero_add]
  rw [List.getElem?_toArray, List.getElem?_map, List.getElem?_replicate, if_pos hi]
  simp [List.getD, hi]
set_option maxHeartbeats 1000000 in
set_option maxRecDepth 100000 in
theorem LSplit_any (o : Option Addr) (l : List PairB) (cap : Nat) (s : ByteArray) (w : World) (hl : l.length ≤ maxLen) (hi : InAt w o l) (hok : ∀ q ∈ l, SmP q) (hs : s.size ≤ maxLen) :
    Calls Try.prog 7 #[.slice o l.length cap, .string s] w fun e w' => e = .returned (.bool true) ∧ Below w.heap.size w w' := by
  unfold maxLen at hs
  obtain ⟨n, hn⟩ : ∃ n, l.length = n := ⟨_, rfl⟩
  obtain ⟨t, ht⟩ : ∃ t, l.take 60 = t := ⟨_, rfl⟩
  have ht60 : t.length ≤ 60 := by rw [← ht, List.length_take]; omega
  have hokt : ∀ q ∈ t, OkP q := by rw [← ht]; exact fun q hq => (take_sm hok 60 q hq).ok
  have HF := Lib.hid (fun W (hW : Below w.heap.size w W) => ht ▸ hn ▸ front_any o l cap W hl (hi.below hW))
  have HO := Lib.hid hokt
  clear hi hok hokt hl ht
  rw [hn]
  go_enter Try.func7, Try.ntmps7
  go_wp2_with (go_at_call 12; refine (speaks_any w).mono ?_)
  first | rintro e w1 ⟨rfl, hb1⟩ | rintro e w1 rfl hb1
  have HB1 := Lib.hid hb1
  clear hb1
  by_cases h : 300 < s.size
  · have hq : (s.extract 0 300).size = 300 := by rw [ByteArray.size_extract]; omega
    go_wp2_with (go_at_call 16; refine (HF.out _ HB1.out).mono ?_)
    first | rintro e w2 ⟨o1, c1, o2, c2, rfl, p1, p2, hb2⟩ | rintro e w2 o1 c1 o2 c2 rfl p1 p2 hb2
    have HB2 := Lib.hid (HB1.out.trans (hb2.mono HB1.out.size)); have HP1 := Lib.hid p1; have HP2 := Lib.hid p2
    clear p1 p2 hb2
    go_wp2_with (go_at_call 22; refine (Split_any o1 t c1 (s.extract 0 300) w2 (by omega) HP1.out HO.out).mono ?_)
    first | rintro e w3 ⟨o3, c3, rfl, s3, hb3⟩ | rintro e w3 o3 c3 rfl s3 hb3
    have HS3 := Lib.hid s3; have HB3 := Lib.hid (HB2.out.trans (hb3.mono HB2.out.size)); have HQ3 := Lib.hid (HP2.out.below hb3); have HR3 := Lib.hid (HP1.out.below hb3)
    clear s3 hb3
    have HRS := Lib.hid (RSplit_any o2 t c2 (s.extract 0 300) w3 (by omega) HQ3.out (by unfold maxLen; omega))
    go_wp2_with (go_at_call 23; refine HRS.out.mono ?_)
    first | rintro e w4 ⟨o4, c4, rfl, s4, hb4⟩ | rintro e w4 o4 c4 rfl s4 hb4
    have HS4 := Lib.hid s4; have HB4 := Lib.hid (HB3.out.trans (hb4.mono HB3.out.size)); have HT4 := Lib.hid (HS3.out.below hb4); have HR4 := Lib.hid (HR3.out.below hb4)
    clear s4 hb4
    go_wp2_with (go_at_call 21; refine (same_any o3 o4 c3 c4 _ w4 (Nat.le_trans (splitP_le t (s.extract 0 300)) (by decide)) HT4.out HS4.out).mono ?_)
    first | rintro e w5 ⟨rfl, hb5⟩ | rintro e w5 rfl hb5
    have HB5 := Lib.hid (HB4.out.trans (hb5.mono HB4.out.size)); have HR5 := Lib.hid (HR4.out.below hb5)
    clear hb5
    have hmk : (Instr.makeSlice 41 (.int .i64 4097) (.int .i64 4097)).run Try.prog w5 = .ok (.slice (some ⟨w5.heap.size, 0, none⟩) 4097 4097) (w5.alloc (.cells (madeCells #[.int .u8 0] 4097) 5)) := run_mkb 4097 (by decide) w5
    obtain ⟨z, hcv, hz⟩ : ∃ z : ByteArray, (convert 41 9 (.slice (some ⟨w5.heap.size, 0, none⟩) 4097 4097)).run Try.prog (w5.alloc (.cells (madeCells #[.int .u8 0] 4097) 5)) = .ok (.string z) (w5.alloc (.cells (madeCells #[.int .u8 0] 4097) 5)) ∧ z.size = 4097 := ⟨_, conv_zeros 4097 w5, by rw [strOfNums_size, List.length_replicate]⟩
    have HA := Lib.hid ((Below.refl w5.heap.size w5).alloc (Nat.le_refl _) (.cells (madeCells #[.int .u8 0] 4097) 5))
    have HR6 := Lib.hid (HR5.out.below HA.out)
    go_wp2_with (go_at_call 22; refine (Split_any o1 t c1 _ _ (by omega) HR6.out HO.out).mono ?_)
    first | rintro e w6 ⟨o6, c6, rfl, s6, hb6⟩ | rintro e w6 o6 c6 rfl s6 hb6
    rw [show splitP t z = [] by unfold splitP; rw [if_pos (by omega)]]
    have HB6 := Lib.hid (HB5.out.trans ((HA.out.trans (hb6.mono HA.out.size)).mono HB5.out.size))
    clear hb6 s6 hmk hcv hz
    simp only [List.length_nil]
    go_wp2_with fail
    go_ret
    exact ⟨rfl, HB6.out⟩
  · go_wp2_with (go_at_call 16; refine (HF.out _ HB1.out).mono ?_)
    first | rintro e w2 ⟨o1, c1, o2, c2, rfl, p1, p2, hb2⟩ | rintro e w2 o1 c1 o2 c2 rfl p1 p2 hb2
    have HB2 := Lib.hid (HB1.out.trans (hb2.mono HB1.out.size)); have HP1 := Lib.hid p1; have HP2 := Lib.hid p2
    clear p1 p2 hb2
    go_wp2_with (go_at_call 22; refine (Split_any o1 t c1 s w2 (by omega) HP1.out HO.out).mono ?_)
    first | rintro e w3 ⟨o3, c3, rfl, s3, hb3⟩ | rintro e w3 o3 c3 rfl s3 hb3
    have HS3 := Lib.hid s3; have HB3 := Lib.hid (HB2.out.trans (hb3.mono HB2.out.size)); have HQ3 := Lib.hid (HP2.out.below hb3); have HR3 := Lib.hid (HP1.out.below hb3)
    clear s3 hb3
    have HRS := Lib.hid (RSplit_any o2 t c2 s w3 (by omega) HQ3.out (by unfold maxLen; omega))
    go_wp2_with (go_at_call 23; refine HRS.out.mono ?_)
    first | rintro e w4 ⟨o4, c4, rfl, s4, hb4⟩ | rintro e w4 o4 c4 rfl s4 hb4
    have HS4 := Lib.hid s4; have HB4 := Lib.hid (HB3.out.trans (hb4.mono HB3.out.size)); have HT4 := Lib.hid (HS3.out.below hb4); have HR4 := Lib.hid (HR3.out.below hb4)
    clear s4 hb4
    go_wp2_with (go_at_call 21; refine (same_any o3 o4 c3 c4 _ w4 (Nat.le_trans (splitP_le t s) (by decide)) HT4.out HS4.out).mono ?_)
    first | rintro e w5 ⟨rfl, hb5⟩ | rintro e w5 rfl hb5
    have HB5 := Lib.hid (HB4.out.trans (hb5.mono HB4.out.size)); have HR5 := Lib.hid (HR4.out.below hb5)
    clear hb5
    have hmk : (Instr.makeSlice 41 (.int .i64 4097) (.int .i64 4097)).run Try.prog w5 = .ok (.slice (some ⟨w5.heap.size, 0, none⟩) 4097 4097) (w5.alloc (.cells (madeCells #[.int .u8 0] 4097) 5)) := run_mkb 4097 (by decide) w5
    obtain ⟨z, hcv, hz⟩ : ∃ z : ByteArray, (convert 41 9 (.slice (some ⟨w5.heap.size, 0, none⟩) 4097 4097)).run Try.prog (w5.alloc (.cells (madeCells #[.int .u8 0] 4097) 5)) = .ok (.string z) (w5.alloc (.cells (madeCells #[.int .u8 0] 4097) 5)) ∧ z.size = 4097 := ⟨_, conv_zeros 4097 w5, by rw [strOfNums_size, List.length_replicate]⟩
    have HA := Lib.hid ((Below.refl w5.heap.size w5).alloc (Nat.le_refl _) (.cells (madeCells #[.int .u8 0] 4097) 5))
    have HR6 := Lib.hid (HR5.out.below HA.out)
    go_wp2_with (go_at_call 22; refine (Split_any o1 t c1 _ _ (by omega) HR6.out HO.out).mono ?_)
    first | rintro e w6 ⟨o6, c6, rfl, s6, hb6⟩ | rintro e w6 o6 c6 rfl s6 hb6
    rw [show splitP t z = [] by unfold splitP; rw [if_pos (by omega)]]
    have HB6 := Lib.hid (HB5.out.trans ((HA.out.trans (hb6.mono HA.out.size)).mono HB5.out.size))
    clear hb6 s6 hmk hcv hz
    simp only [List.length_nil]
    go_wp2_with fail
    go_ret
    exact ⟨rfl, HB6.out⟩
end Go.Proofs.Ytpfmcehjbeijaaa
