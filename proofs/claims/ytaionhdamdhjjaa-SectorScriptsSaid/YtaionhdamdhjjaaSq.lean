/- Sector: slices.Repeat of one string; New. -/
import Derived.Test.YtaionhdamdhjjaaSp
namespace Go.Proofs.Ytaionhdamdhjjaa
open Go.RowKit
variable {B n g gd gc cd cc : Nat} {vw vk : Value} {S : DS} {w : World}

theorem step_copy_eq {P : Program} {w : World} {ops : Array Oper} {o : Oper} {a : Act} {K : Act → World → Prop} {Q : Exit → Act → World → Prop} {E : Prop} (hgd : o.guard = none) (d s : Operand) (t t' : TypeId)
    (ho : o.op = .call { callee := .builtin .copy, args := #[d, s], argTypes := #[t, t'] }) (vd vs : Value) (hd : a.eval d = vd) (hs : a.eval s = vs) (r : Value) (w2 : World)
    (hrun : ∀ ty, (Builtin.copy_ #[t, t'] ty #[vd, vs]).run P w = .ok r w2) (h : K (a.put o.dst r) w2) :
    if Region.wanted o (yielded ops a.tmps) = true then Oper.wp P o a w K Q else E := by
  have hw : Region.wanted o (yielded ops a.tmps) = true := by simp [Region.wanted, hgd]
  rw [if_pos hw]
  unfold Oper.wp execOp
  simp only [ho, resolve, invoke, builtin, Sem.run_bind, Sem.run_pure, Result.andThen_ok, List.map_toArray, List.map_cons, List.map_nil, hd, hs, hrun]
  exact h
def RepS (n g : Nat) (s : ByteArray) (w : World) (i : Value) (wr : World) : Prop :=
  ∃ (m : Nat) (cur : Array Value), 1 ≤ m ∧ m ≤ n ∧ i = .int .i64 m ∧ wr.heap[g]? = some (.cells cur 9 (0, 0)) ∧ cur.size = n ∧ (∀ j, j < m → cur[j]? = some (.string s)) ∧ Below w.heap.size w wr
theorem info_str : (Try.prog.info? 9).map (fun i => (i.zero, i.size, i.bytes)) = some (some (.string ⟨#[]⟩), 1, 16) := by kernel_rfl
theorem rep_row (cur : Array Value) (m c n : Nat) (s : ByteArray) (hz : cur.size = n) (hc : ∀ j, j < m → cur[j]? = some (.string s)) (hmc : m + c ≤ n) :
    (cur.toList.take m ++ List.replicate c (Value.string s) ++ cur.toList.drop (m + c)).toArray.size = n ∧ ∀ j, j < m + c → (cur.toList.take m ++ List.replicate c (Value.string s) ++ cur.toList.drop (m + c)).toArray[j]? = some (.string s) := by
  have hl : cur.toList.length = n := by rw [Array.length_toList, hz]
  refine ⟨?_, fun j hj => ?_⟩
  · simp only [List.size_toArray, List.length_append, List.length_take, List.length_drop, List.length_replicate, hl]; omega
  · rw [List.getElem?_toArray, List.getElem?_append_left (by simp only [List.length_append, List.length_take, List.length_replicate, hl]; omega)]
    by_cases h : j < m
    · rw [List.getElem?_append_left (by rw [List.length_take, hl]; omega), List.getElem?_take, if_pos h, Array.getElem?_toList]; exact hc j h
    · rw [List.getElem?_append_right (by rw [List.length_take, hl]; omega), List.length_take, hl, List.getElem?_replicate, if_pos (by omega)]
theorem rep_start {w1 : World} {xs : List Value} (b cx : Nat) (s : ByteArray) (hn : 1 ≤ n) (hb : w.cell? ⟨b, 0, none⟩ = some (.string s)) (hown : w1.ownsRow w.heap.size 9 1 (.slice (some ⟨w.heap.size, 0, none⟩) n n) n xs) (hgrow : w.grownBy w1 none) :
    ∃ w2, (∀ ty, (Builtin.copy_ #[36, 36] ty #[.slice (some ⟨w.heap.size, 0, none⟩) n n, .slice (some ⟨b, 0, none⟩) 1 cx]).run Try.prog w1 = .ok (.int .i64 1) w2) ∧ ∃ cur, w2.heap[w.heap.size]? = some (.cells cur 9 (0, 0)) ∧ cur.size = n ∧ (∀ j, j < 1 → cur[j]? = some (.string s)) ∧ Below w.heap.size w w2 := by
  rcases hown.2 with ⟨h1, _⟩ | ⟨g, cap, cur, h1, _, hg, _, _, hz, _⟩
  · cases h1
  · cases h1
    have hlt := World.block_lt_of_cell? w _ hb
    have hb1 : w1.cell? ⟨b, 0, none⟩ = some (.string s) := (World.cell?_of_block (a := ⟨b, 0, none⟩) (hgrow.block b hlt (by simp))).trans hb
    have hrun : ∀ ty, _ := fun ty => run_copy_row (P := Try.prog) w1 36 36 ty 9 w.heap.size 0 n n ⟨b, 0, none⟩ 1 cx cur 9 (List.replicate 1 (Value.string s)) Try.underlying36 str_size hg (by show 1 = min 1 n; omega) (fun j v hv => by
      rw [List.getElem?_replicate] at hv
      split at hv
      · injection hv with hv; subst hv
        rw [addr_at, show j = 0 by omega]; exact hb1
      · cases hv) (by show 0 + 1 ≤ cur.size; omega) (by intro v hv; rw [List.eq_of_mem_replicate hv]; rfl)
    have hr := rep_row cur 0 1 n s (by omega) (fun j hj => by omega) (by omega)
    exact ⟨_, fun ty => hrun ty, _, setRow_heap w1 w.heap.size cur _ _ _ hg, hr.1, hr.2, below_setRow ⟨hgrow.os, hgrow.tape, hgrow.output, hgrow.size, fun k hk => hgrow.block k hk (by simp)⟩ (Nat.le_refl _) _⟩
theorem rep_more {wr : World} {cur : Array Value} (g m c : Nat) (s : ByteArray) (hg : wr.heap[g]? = some (.cells cur 9 (0, 0))) (hz : cur.size = n) (hc : ∀ j, j < m → cur[j]? = some (.string s)) (hm : m < n) (hcm : c = min m (n - m)) (hgw : w.heap.size ≤ g) (hB : Below w.heap.size w wr) :
    ∃ w2, (∀ ty, (Builtin.copy_ #[36, 36] ty #[.slice (some ⟨g, m, none⟩) (n - m) (n - m), .slice (some ⟨g, 0, none⟩) m n]).run Try.prog wr = .ok (.int .i64 c) w2) ∧ ∃ cur2, w2.heap[g]? = some (.cells cur2 9 (0, 0)) ∧ cur2.size = n ∧ (∀ j, j < m + c → cur2[j]? = some (.string s)) ∧ Below w.heap.size w w2 := by
  have hlen : (List.replicate c (Value.string s)).length = c := List.length_replicate ..
  have hrun : ∀ ty, _ := fun ty => run_copy_row (P := Try.prog) wr 36 36 ty 9 g m (n - m) (n - m) ⟨g, 0, none⟩ m n cur 9 (List.replicate c (Value.string s)) Try.underlying36 str_size hg (by rw [hlen, hcm]) (fun j v hv => by
      rw [List.getElem?_replicate] at hv
      split at hv
      · injection hv with hv; subst hv
        rw [addr_at]
        unfold World.cell?
        simp only [hg]
        exact hc j (by omega)
      · cases hv) (by rw [hlen]; omega) (by intro v hv; rw [List.eq_of_mem_replicate hv]; rfl)
  rw [hlen] at hrun
  have hr := rep_row cur m c n s hz hc (by omega)
  exact ⟨_, fun ty => hrun ty, _, setRow_heap wr g cur _ _ _ hg, hr.1, hr.2, below_setRow hB hgw _⟩
set_option maxHeartbeats 1000000 in
set_option maxRecDepth 100000 in
theorem Repeat_one (b cx : Nat) (s : ByteArray) (hn : 1 ≤ n) (hn2 : n ≤ 4096) (hb : w.cell? ⟨b, 0, none⟩ = some (.string s)) :
    Calls Try.prog 22 #[.slice (some ⟨b, 0, none⟩) 1 cx, .int .i64 n] w fun e w' => ∃ g cur, e = .returned (.slice (some ⟨g, 0, none⟩) n n) ∧ w.heap.size ≤ g ∧ w'.heap[g]? = some (.cells cur 9 (0, 0)) ∧ cur.size = n ∧ (∀ j, j < n → cur[j]? = some (.string s)) ∧ Below w.heap.size w w' := by
  have hnu : IntKind.u64.wrap (n : Int) = n := by
    show (n : Int) % 18446744073709551616 = n
    omega
  have hm := Try.bits_Mul 1 n (by omega) (by omega) w
  rw [show 1 * n / 18446744073709551616 = 0 by omega, show 1 * n % 18446744073709551616 = n by omega] at hm
  have hn3 : (n : Int) ≤ 4096 := by omega
  have hn4 : (1 : Int) ≤ n := by omega
  have hlt := World.block_lt_of_cell? w _ hb
  obtain ⟨i0, hi0, hz0, hs0, hy0⟩ := info_parts info_str
  have HM := Lib.hid hm; have HBC := Lib.hid hb
  clear hm hb
  go_enter Try.func22, Try.ntmps22
  have hb2 : i0.bytes * n ≤ 281474976710656 := by rw [hy0]; omega
  have hb3 : n ≤ maxLen := by unfold maxLen; omega
  go_wp2_with (first | (go_at_call 44; refine HM.out.mono ?_; rintro e w' ⟨rfl, rfl⟩) | (refine wpList_make_full _ rfl _ _ 36 rfl w'.heap.size 9 i0 _ 1 Try.underlying36 hi0 hz0 hs0 .i64 .i64 n n n rfl rfl rfl rfl hb2 hb3 (Nat.le_refl _) ?_; intro w1 hown hgrow; obtain ⟨w2, hcp, cur, q1, q2, q3, q4⟩ := rep_start b cx s hn HBC.out hown hgrow; have Q1 := Lib.hid q1; have Q2 := Lib.hid q2; have Q3 := Lib.hid q3; have Q4 := Lib.hid q4; clear q1 q2 q3 q4 hown hgrow) | simp only [hcp])
  have HS0 : Hid (RepS n w'.heap.size s w' (.int .i64 1) w2) := Lib.hid ⟨1, cur, Nat.le_refl _, hn, rfl, Q1.out, Q2.out, Q3.out, Q4.out⟩
  clear hcp Q1 Q2 Q3 Q4
  go_loopw [8] (fun i wr => RepS n w'.heap.size s w' i wr) (fun i _ => n - (intOf i).toNat)
  case atStart => exact HS0.out
  case round =>
    obtain ⟨m, cur, hm1, hmn, rfl, hg, hz, hc, hB⟩ := hrel
    by_cases hlt2 : m < n
    · obtain ⟨c, hcm⟩ : ∃ c, c = min m (n - m) := ⟨_, rfl⟩
      obtain ⟨w3, hcp, cur2, q1, q2, q3, q4⟩ := rep_more (wr := wr.drew) w'.heap.size m c s hg hz hc hlt2 hcm (Nat.le_refl _) hB.drew
      have hmi : (m : Int) < n := by omega
      have hci : (c : Int) ≤ 4096 := by omega
      have hm9 : (m : Int) ≤ 4096 := by omega
      have hne : ¬ n = m := by omega
      have hsub : IntKind.i64.wrap ((n : Int) - m) = ((n - m : Nat) : Int) := by rw [IntWalk.i64_in _ (by omega)]; omega
      have HWC : Hid (IntKind.i64.wrap ((m : Int) + c) = (m : Int) + c) := Lib.hid (IntWalk.i64_in _ (by omega))
      have hend : Hid (RepS n w'.heap.size s w' (.int .i64 (IntKind.i64.wrap ((m : Int) + c))) w3) := Lib.hid ⟨m + c, cur2, by omega, by omega, by rw [HWC.out, Int.natCast_add], q1, q2, q3, q4⟩
      have HC1 : Hid (1 ≤ c) := Lib.hid (by omega)
      clear hg hz hc hB q1 q2 q3 q4 hcm
      go_wp2_with fail
      go_region_law (refine step_copy_eq rfl (.tmp 41) (.tmp 44) 36 36 rfl _ _ (by simp [Act.eval, Act.put]) (by simp [Act.eval, Act.put]) _ w3 hcp ?_)
      all_goals go_wp2_with fail
      all_goals
        refine ⟨?_, ?_⟩
        · iterate 14 (apply Exists.intro)
          exact ⟨hend.out, rfl⟩
        · show n - (intOf (.int .i64 (IntKind.i64.wrap ((m : Int) + c)))).toNat < n - (intOf (.int .i64 (m : Int))).toNat
          rw [HWC.out]
          have := HC1.out
          simp [intOf]; omega
    · obtain rfl : m = n := by omega
      have HG := Lib.hid hg; have HZ := Lib.hid hz; have HC := Lib.hid hc; have HB2 := Lib.hid hB
      clear hg hz hc hB
      go_wp2_with fail
      go_ret
      exact ⟨w'.heap.size, cur, rfl, Nat.le_refl _, HG.out, HZ.out, HC.out, HB2.out⟩
end Go.Proofs.Ytaionhdamdhjjaa
