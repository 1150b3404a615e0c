/- Put. -/
import Derived.Test.YtodmomhilpheiaaDoorQi
namespace Go.Proofs.YtodmomhilpheiaaDoor
open Go.RowKit

theorem ba_empty (s : ByteArray) (h : s.size = 0) : s.toList.isEmpty = true := by
  rw [ByteArray.toList_eq, List.isEmpty_iff_length_eq_zero]; simpa using h
theorem ba_some (s : ByteArray) (h : 0 < s.size) : s.toList.isEmpty = false := by
  cases hc : s.toList.isEmpty
  · rfl
  · rw [ByteArray.toList_eq, List.isEmpty_iff_length_eq_zero] at hc
    have : s.size = 0 := by simpa using hc
    omega
theorem atI_list (s : ByteArray) (n : Nat) (hn : n ≤ s.size) : List.take n (s.data.toList.map fun x => Value.int .u8 (x.toNat : Int)) = ((List.range n).map (atI s)).map (Value.int .u8) := by
  have hs : s.size = s.data.size := rfl
  apply List.ext_getElem
  · simp; omega
  · intro i h1 h2
    have hi : i < s.data.size := by simp at h1; omega
    simp [atI, Array.getElem?_eq_getElem hi]

/-- copy of a text's beginning into the block from place o on. -/
theorem run_copy_at (b o n : Nat) (f blk : Nat → Int) (m : Int) (w : World) (hH : HashAt b f blk m w) (s : ByteArray) (hn : n = min s.size (64 - o)) (ho : o < 64) (dT sT ty elem : TypeId)
    (hu : Tryd.prog.underlying dT = some (.slice elem)) (hz : ∀ w, (Go.sizeOf elem).run Tryd.prog w = .ok 1 w) :
    (Builtin.copy_ #[dT, sT] ty #[.slice (some ⟨b, 8 + o, none⟩) (64 - o) (64 - o), .string s]).run Tryd.prog w = .ok (.int .i64 n) (w.setCells b (8 + o) (((List.range n).map (atI s)).map (Value.int .u8))) := by
  have hl : (((List.range n).map (atI s)).map (Value.int .u8)).length = n := by simp
  have hst := run_storeCells_cells (P := Tryd.prog) b (8 + o) (((List.range n).map (atI s)).map (Value.int .u8)) 0 w (by
    intro j hj
    rw [hl] at hj
    rw [Nat.add_zero, Nat.add_assoc, hH.byte (o + j) (by omega)]; rfl) (by
    intro j hj
    exact hH.free _) (by
    intro v hv
    obtain ⟨x, _, rfl⟩ := List.mem_map.1 hv
    rfl)
  have hmin : Nat.min s.size (64 - o) = n := hn.symm
  have hx := atI_list s n (by omega)
  simp [Builtin.copy_, run_underlying hu, Builtin.lenOf, Builtin.firstCells, hz, hmin]
  rw [hx, hst]
  simp [Result.andThen]
  rfl
theorem size_u8 : ∀ w, (Go.sizeOf 5).run Tryd.prog w = .ok 1 w := fun w => by kernel_rfl

theorem at_extract (r : ByteArray) (n i : Nat) (h : i < r.size - n) : atI (r.extract n r.size) i = atI r (n + i) := by
  have h2 : n + i < r.data.size := by have : r.size = r.data.size := rfl; omega
  unfold atI
  rw [ByteArray.data_extract, Array.getElem?_extract]
  rw [if_pos (by have : r.size = r.data.size := rfl; omega)]
theorem put_next {blk D : Nat → Int} {q o n : Nat} {r : ByteArray} (hB : Bytes8 blk) (hBD : ∀ i, i < q % 64 → blk i = D (64 * (q / 64) + i)) (ho : q % 64 = o) (hn : n = min r.size (64 - o)) (hr : ∀ i, i < r.size → atI r i = D (q + i)) :
    Bytes8 (putF blk o ((List.range n).map (atI r))) ∧ ∀ i, i < o + n → putF blk o ((List.range n).map (atI r)) i = D (64 * (q / 64) + i) := by
  have hv : ∀ j, j < n → ((List.range n).map (atI r)).getD j 0 = atI r j := fun j hj => by simp [List.getD_eq_getElem?_getD, hj]
  refine ⟨fun i => ?_, fun i hi => ?_⟩
  · unfold putF
    rw [List.length_map, List.length_range]
    split
    · rw [hv _ (by omega)]; exact atI_rng _ _
    · exact hB i
  · unfold putF
    rw [List.length_map, List.length_range]
    by_cases h : o ≤ i
    · rw [if_pos ⟨h, hi⟩, hv _ (by omega), hr _ (by omega)]; congr 1; omega
    · rw [if_neg (by omega)]; exact hBD i (by omega)

def strLen (v : Value) : Nat := match v with | .string r => r.size | _ => 0
def PutSlot (b : Nat) (D : Nat → Int) (M : Nat) (w : World) (v : Value) (wr : World) : Prop :=
  ∃ (r : ByteArray) (q : Nat), v = .string r ∧ q + r.size = M ∧ (∀ i, i < r.size → atI r i = D (q + i)) ∧ Begun b D q wr ∧ w.grownBy wr (some b)

set_option maxHeartbeats 2000000 in
set_option maxRecDepth 100000 in
theorem Put_any (b : Nat) (D : Nat → Int) (m : Nat) (s : ByteArray) (w : World) (hP : HasP b D m w) (hs : ∀ i, i < s.size → atI s i = D (m + i)) (hD : Bytes8 D) (hV : VarsAt w) (hb : 1 < b) (hm : m + s.size < 1152921504606846976) :
    Calls Tryd.prog 10 #[.pointer (some ⟨b, 0, none⟩), .string s] w fun e w' => e = .returned (.tuple #[]) ∧ Begun b D (m + s.size) w' ∧ w.grownBy w' (some b) := by
  have HP := Lib.hid hP; have HS := Lib.hid hs; have HD := Lib.hid hD; have HV := Lib.hid hV; have HM := Lib.hid hm
  obtain ⟨M, hMe⟩ : ∃ M, m + s.size = M := ⟨_, rfl⟩
  rw [hMe]
  have HME := Lib.hid hMe
  clear hP hs hD hV hm hMe
  go_enter Tryd.func10, Tryd.ntmps10
  go_wp2_with fail
  refine (begin_any b D m w HP.out HV.out hb).mono ?_
  rintro e w1 ⟨rfl, h1, g1⟩
  have H1 := Lib.hid h1; have G1 := Lib.hid g1
  clear h1 g1
  go_wp2_with fail
  go_loopw [1] (fun v wr => PutSlot b D M w v wr) (fun v _ => strLen v)
  case atStart => exact ⟨s, m, rfl, HME.out, HS.out, H1.out, G1.out⟩
  case round =>
    obtain ⟨r, q, rfl, hq, hr, hB, hG⟩ := hrel
    have hqM : q + r.size < 1152921504606846976 := by have := HM.out; have := HME.out; omega
    obtain ⟨blk, hH, hB8, hBD⟩ := hB
    by_cases h0 : r.size = 0
    · have he := ba_empty r h0
      have hqe : q = M := by omega
      subst hqe
      have HB : Hid (Begun b D q wr) := Lib.hid ⟨blk, hH, hB8, hBD⟩
      have HG := Lib.hid hG
      clear hH hB8 hBD hG hr hq
      go_wp2_with fail
      go_end0
      exact ⟨rfl, HB.out, HG.out⟩
    · have he := ba_some r (by omega)
      have hl := hH.len
      obtain ⟨o, hoe⟩ : ∃ o, q % 64 = o := ⟨_, rfl⟩
      have ho : o < 64 := by omega
      have hoi : (q : Int) % 64 = o := by omega
      have htm : (q : Int).tmod 64 = o := by rw [Int.tmod_eq_emod_of_nonneg (by omega)]; exact hoi
      obtain ⟨n, hn⟩ : ∃ n, n = min r.size (64 - o) := ⟨_, rfl⟩
      obtain ⟨w2, hcp, h2, g2⟩ : ∃ w2, (Builtin.copy_ #[44, 9] 3 #[.slice (some ⟨b, 8 + o, none⟩) (64 - o) (64 - o), .string r]).run Tryd.prog wr.drew = .ok (.int .i64 n) w2 ∧ HashAt b (stF D (q / 64)) (putF blk o ((List.range n).map (atI r))) q w2 ∧ w.grownBy w2 (some b) :=
        ⟨_, run_copy_at b o n _ _ _ wr.drew hH.drew r hn ho 44 9 3 5 Tryd.underlying44 size_u8, HashAt.puts ((List.range n).map (atI r)) o _ _ hH.drew (by simp; omega), kept_sets _ _ _ (kept_drew hG)⟩
      have hl2 := h2.len
      have hz2 := h2.free 72
      have hn1 : n ≤ r.size := by omega
      have hx := put_next (blk := blk) hB8 hBD hoe hn hr
      have hsz : (r.extract n r.size).size = r.size - n := by simp
      have hat := at_extract r n
      have nq : q + n < 1152921504606846976 := by omega
      have nqi : (q : Int) + n < 1152921504606846976 := by omega
      have nq0 : 0 ≤ (q : Int) + n := by omega
      have n0 : 0 ≤ (n : Int) := by omega
      have nn : n < 1152921504606846976 := by omega
      have nni : (n : Int) < 1152921504606846976 := by omega
      have o0 : 0 ≤ (o : Int) := by omega
      have o64 : (o : Int) ≤ 64 := by omega
      have on : ¬ 64 = o := by omega
      by_cases hfull : r.size < 64 - o
      · have hne : n = r.size := by omega
        have htm2 : ((q : Int) + n).tmod 64 = o + n := by rw [Int.tmod_eq_emod_of_nonneg (by omega)]; omega
        have hzz : ((o : Int) + n == 0) = false := by rw [beq_eq_false_iff_ne]; omega
        have hend : Hid (PutSlot b D M w (.string (r.extract n r.size)) (w2.setCell ⟨b, 72, none⟩ (.int .u64 ((q : Int) + n))) ∧ strLen (.string (r.extract n r.size)) < strLen (.string r)) := Lib.hid ⟨⟨_, q + n, rfl, by rw [hsz]; omega, fun i hi => by rw [hat i (by rw [hsz] at hi; omega), hr _ (by rw [hsz] at hi; omega), Nat.add_assoc],
          ⟨_, by rw [show (q + n) / 64 = q / 64 by omega, show ((q + n : Nat) : Int) = (q : Int) + n by omega]; exact h2.setN _, hx.1, fun i hi => by rw [show (q + n) / 64 = q / 64 by omega]; exact hx.2 i (by omega)⟩, kept_set g2 72 _⟩, by show (r.extract n r.size).size < r.size; omega⟩
        clear hx hr hq hBD hB8 hG h2 g2 hH hoe hn hoi hsz hat hne hfull
        go_wp2_with fail
        refine wp_region_still_tail 10 (by kernel_rfl) (by kernel_rfl) ?_
        change wpStill _ _ (World.drew _) _ _ _
        simp only [List.take_succ_cons, List.take_zero, List.drop_succ_cons, List.drop_zero]
        repeat still_step
        try refine wpStill_nil ?_
        change wpList _ _ _ _ _ (World.drew _)
        go_wp2_with fail
        exact hend.out
      · have hne : o + n = 64 := by omega
        have htm2 : ((q : Int) + n).tmod 64 = 0 := by rw [Int.tmod_eq_emod_of_nonneg (by omega)]; omega
        have h3 : Hid (HashAt b (stF D (q / 64)) (fun i => D (64 * (q / 64) + i)) ((q : Int) + n) (w2.setCell ⟨b, 72, none⟩ (.int .u64 ((q : Int) + n)))) := Lib.hid (hash_congr (h2.setN _) (fun _ _ => rfl) (fun i hi => hx.2 i (by omega)))
        have g3 := Lib.hid (kept_set g2 72 (.int .u64 ((q : Int) + n)))
        have hend : Hid (∀ W, HashAt b (stF D (q / 64 + 1)) (fun i => D (64 * (q / 64) + i)) ((q : Int) + n) W → w.grownBy W (some b) → PutSlot b D M w (.string (r.extract n r.size)) W ∧ strLen (.string (r.extract n r.size)) < strLen (.string r)) := Lib.hid (fun W hW gW => ⟨⟨_, q + n, rfl, by rw [hsz]; omega, fun i hi => by rw [hat i (by rw [hsz] at hi; omega), hr _ (by rw [hsz] at hi; omega), Nat.add_assoc],
          ⟨_, by rw [show (q + n) / 64 = q / 64 + 1 by omega, show ((q + n : Nat) : Int) = (q : Int) + n by omega]; exact hW, fun i => HD.out _, fun i hi => absurd hi (by omega)⟩, gW⟩, by show (r.extract n r.size).size < r.size; omega⟩)
        clear hx hr hq hBD hB8 hG h2 g2 hH hoe hn hoi hsz hat hne hfull
        go_wp2_with fail
        refine wp_region_still_tail 10 (by kernel_rfl) (by kernel_rfl) ?_
        change wpStill _ _ (World.drew _) _ _ _
        simp only [List.take_succ_cons, List.take_zero, List.drop_succ_cons, List.drop_zero]
        repeat still_step
        try refine wpStill_nil ?_
        change wpList _ _ _ _ _ (World.drew _)
        go_wp2_with fail
        refine (mix_ok b _ _ _ _ h3.out (HV.out.kept g3.out hb) (fun i => HD.out _) (stOf_ok _ (stF_rng _ _))).mono ?_
        rintro e w4 ⟨rfl, h4, g4⟩
        have HE := Lib.hid (hend.out w4 h4 (kept_trans g3.out g4))
        clear h4 g4
        go_wp2_with fail
        exact HE.out
end Go.Proofs.YtodmomhilpheiaaDoor
