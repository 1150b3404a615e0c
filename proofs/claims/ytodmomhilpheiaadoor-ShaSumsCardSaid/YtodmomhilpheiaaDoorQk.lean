/- Hasher.Sum, Sum. -/
import Derived.Test.YtodmomhilpheiaaDoorQj
namespace Go.Proofs.YtodmomhilpheiaaDoor
open Go.RowKit

theorem HasP.copy {b : Nat} {D : Nat → Int} {m : Nat} {w : World} (h : HasP b D m w) : ∃ f blk, HashAt b f blk m w ∧ ∀ b' w', HashAt b' f blk m w' → HasP b' D m w' := by
  rcases h with ⟨rfl, f, blk, h1, h2⟩ | ⟨h0, blk, h1, h2, h3⟩
  · exact ⟨f, blk, h1, fun b' w' h => Or.inl ⟨rfl, f, blk, h, h2⟩⟩
  · exact ⟨_, blk, h1, fun b' w' h => Or.inr ⟨h0, blk, h, h2, h3⟩⟩
def hZero : Array Value := hcells (fun _ => 0) (fun _ => 0) 0
theorem hasher_zero : (∀ w, (zeroValue 30).run Tryd.prog w = .ok (.agg hZero) w) ∧ (Tryd.prog.info? 30).map (·.size) = some 73 := zero_of_info (by kernel_rfl)
theorem hcells_one (f blk : Nat → Int) (n : Int) : (hcells f blk n).all (·.oneCell') = true := by
  unfold hcells
  simp [Value.oneCell']

set_option maxHeartbeats 2000000 in
set_option maxRecDepth 100000 in
theorem HSum_any (b : Nat) (D : Nat → Int) (m : Nat) (w : World) (hP : HasP b D m w) (hD : Bytes8 D) (hV : VarsAt w) (hm : m < 1152921504606846976) :
    Calls Tryd.prog 11 #[.pointer (some ⟨b, 0, none⟩)] w fun e w' => e = .returned (.string (shaB D m)) ∧ Below w.heap.size w w' := by
  obtain ⟨f, blk, hH, hcopy⟩ := hP.copy
  have hh : w.heap[b]? = some (.cells (hcells f blk m) 30 (0, 0)) := hH
  have hbw := hH.lt
  obtain ⟨A, hA⟩ : ∃ A, hcells f blk m = A := ⟨_, rfl⟩
  obtain ⟨Z, hZ⟩ : ∃ Z, hZero = Z := ⟨_, rfl⟩
  have hzv := hasher_zero.1
  have hsz : (Tryd.prog.info? 30).map (·.size) = some A.size := by rw [← hA, hcells_len]; exact hasher_zero.2
  have hone : A.all (·.oneCell') = true := by rw [← hA]; exact hcells_one _ _ _
  have hAZ : Z.size = A.size := by rw [← hA, ← hZ, hcells_len]; exact hcells_len _ _ _
  rw [hA] at hh
  rw [hZ] at hzv
  obtain ⟨F, hF⟩ : ∃ F, stF (padF D m) (nblk m) = F := ⟨_, rfl⟩
  have hr : ∀ i, 0 ≤ F i ∧ F i < 4294967296 := by rw [← hF]; exact stF_rng _ _
  have hfin : shaB D m = strOfNums ((List.range 32).map (beF F)) := by unfold shaB shaI; rw [hF]
  rw [hfin]
  have HF := Lib.hid hF; have HR := Lib.hid hr
  clear hF hr hfin
  have h1b : 1 < w.heap.size := hV.2.2
  have hnew : HasP w.heap.size D m ((w.alloc (.cells Z 30)).setRow w.heap.size A) := hcopy _ _ (by
    rw [World.setRow_alloc_new, hA.symm]; exact heap_alloc_last _ _)
  have hbel : Below w.heap.size w ((w.alloc (.cells Z 30)).setRow w.heap.size A) := by
    rw [World.setRow_alloc_new]; exact (Below.refl _ _).alloc (Nat.le_refl _) _
  have hlast : (w.alloc (.cells Z 30)).heap[w.heap.size]? = some (.cells Z 30 (0, 0)) := heap_alloc_last _ _
  have HN := Lib.hid hnew; have HBL := Lib.hid hbel; have HL := Lib.hid hlast; have HH := Lib.hid hh; have HS := Lib.hid hsz; have HO := Lib.hid hone; have HAZ := Lib.hid hAZ; have HD := Lib.hid hD; have HV := Lib.hid hV; have HM := Lib.hid hm
  clear hnew hbel hlast hh hsz hone hAZ hD hV hm hP hH hcopy hA hZ
  go_enter Tryd.func11, Tryd.ntmps11
  go_wp2_with (first | (refine wpList_load_row rfl 30 _ rfl b rfl 30 A (0, 0) _ HH.out Tryd.underlying30 rfl HS.out ?_) | (refine wpList_store_row rfl 30 _ _ rfl w.heap.size A rfl rfl 30 Z HL.out HS.out HAZ.out HO.out ?_))
  have HV1 := Lib.hid (HV.out.below HBL.out)
  obtain ⟨w1, hw1⟩ : ∃ w1, (w.alloc (.cells Z 30)).setRow w.heap.size A = w1 := ⟨_, rfl⟩
  rw [hw1] at HN HBL HV1
  rw [hw1]
  clear hw1 HL HH
  refine (begin_any w.heap.size D m w1 HN.out HV1.out h1b).mono ?_
  rintro e w2 ⟨rfl, h2, g2⟩
  have hs1 := HBL.out.size
  have B2 := Lib.hid (HBL.out.grown g2 hs1 (fun k hk => by injection hk with hk; omega))
  have hs2 := B2.out.size
  have HV2 := Lib.hid (HV.out.below B2.out)
  have H2 := Lib.hid h2
  clear h2 g2
  go_wp2_with fail
  refine (end_any w.heap.size D m w2 H2.out HD.out HV2.out h1b HM.out).mono ?_
  rintro e w3 ⟨rfl, ⟨blk3, h3⟩, g3⟩
  have B3 := Lib.hid (B2.out.grown g3 hs2 (fun k hk => by injection hk with hk; omega))
  rw [HF.out] at h3
  have c0 := h3.cell 0 (by omega); have c1 := h3.cell 1 (by omega); have c2 := h3.cell 2 (by omega); have c3 := h3.cell 3 (by omega)
  have c4 := h3.cell 4 (by omega); have c5 := h3.cell 5 (by omega); have c6 := h3.cell 6 (by omega); have c7 := h3.cell 7 (by omega)
  clear h3 g3 H2
  go_wp2_with fail
  refine (bigEndian_any F w3 HR.out).mono ?_
  rintro e w4 ⟨rfl, h4⟩
  have B4 := Lib.hid (B3.out.trans (h4.mono B3.out.size))
  clear h4
  go_wp2_with fail
  go_ret
  exact ⟨rfl, B4.out⟩

theorem VarsAt.alloc {w : World} (h : VarsAt w) (o : Obj) : VarsAt (w.alloc o) := h.below ((Below.refl _ _).alloc (Nat.le_refl _) _)

/-- What the parts are, one behind the other: the text's first t bytes end where part i begins. -/
def PartsAt (D : Nat → Int) (ps : List ByteArray) : Nat → Prop
  | m => match ps with
    | [] => True
    | s :: r => (∀ i, i < s.size → atI s i = D (m + i)) ∧ PartsAt D r (m + s.size)
def partsLen (ps : List ByteArray) : Nat := (ps.map (·.size)).sum

theorem partsLen_step (ps : List ByteArray) (k : Nat) (h : k < ps.length) : partsLen (ps.take (k + 1)) = partsLen (ps.take k) + ps[k].size := by
  unfold partsLen
  rw [List.take_add_one, List.getElem?_eq_getElem h, List.map_append, List.sum_append]
  simp
theorem partsLen_le (ps : List ByteArray) (k : Nat) : partsLen (ps.take k) ≤ partsLen ps := by
  have : partsLen (ps.take k ++ ps.drop k) = partsLen (ps.take k) + partsLen (ps.drop k) := by unfold partsLen; rw [List.map_append, List.sum_append]
  rw [List.take_append_drop] at this
  omega

def SumSlot (D : Nat → Int) (ps : List ByteArray) (w : World) (i : Value) (wr : World) : Prop :=
  ∃ k : Nat, k ≤ ps.length ∧ i = .int .i64 k ∧ HasP w.heap.size D (partsLen (ps.take k)) wr ∧ Below w.heap.size w wr ∧ PartsAt D (ps.drop k) (partsLen (ps.take k))

set_option maxHeartbeats 2000000 in
set_option maxRecDepth 100000 in
theorem Sum_any (a : Addr) (cap : Nat) (ps : List ByteArray) (D : Nat → Int) (w : World) (hcell : ∀ i (h : i < ps.length), w.cell? (a.add i) = some (.string ps[i])) (hb : a.block < w.heap.size) (hps : PartsAt D ps 0) (hD : Bytes8 D) (hV : VarsAt w) (hm : partsLen ps < 1152921504606846976) (hl : ps.length < 1152921504606846976) :
    Calls Tryd.prog 12 #[.slice (some a) ps.length cap] w fun e w' => e = .returned (.string (shaB D (partsLen ps))) ∧ Below w.heap.size w w' := by
  have hzv := hasher_zero.1
  obtain ⟨Z, hZ⟩ : ∃ Z, hZero = Z := ⟨_, rfl⟩
  rw [hZ] at hzv
  have h0 : HasP w.heap.size D 0 (w.alloc (.cells Z 30)) := Or.inl ⟨rfl, fun _ => 0, fun _ => 0, by rw [← hZ]; exact heap_alloc_last _ _, fun _ => ⟨Int.le_refl 0, by show (0 : Int) < 256; decide⟩⟩
  have H0 := Lib.hid h0; have HC := Lib.hid hcell; have HP := Lib.hid hps; have HD := Lib.hid hD; have HV := Lib.hid hV; have HM := Lib.hid hm
  have h1b : 1 < w.heap.size := hV.2.2
  obtain ⟨n, hn⟩ : ∃ n, ps.length = n := ⟨_, rfl⟩
  rw [hn] at hl
  rw [hn]
  have HN := Lib.hid hn
  have hli : (n : Int) < 1152921504606846976 := by omega
  clear h0 hcell hps hD hV hm hZ hn
  go_enter Tryd.func12, Tryd.ntmps12
  go_wp2_with fail
  go_loopw [8] (fun i wr => SumSlot D ps w i wr) (fun i _ => n - (intOf i).toNat)
  case atStart => exact ⟨0, by omega, rfl, H0.out, (Below.refl _ _).alloc (Nat.le_refl _) _, HP.out⟩
  case round =>
    obtain ⟨k, hk, rfl, hh, hB, hp⟩ := hrel
    rw [HN.out] at hk
    have HH := Lib.hid hh; have HB := Lib.hid hB; have HPP := Lib.hid hp
    clear hh hB hp
    by_cases hlt : k < n
    · have hlti : (k : Int) < n := by omega
      have hc := (HB.out.cell (p := a.add k) (by show (a.add k).block < _; unfold Addr.add; split <;> exact hb)).trans (HC.out k (by rw [HN.out]; exact hlt))
      have hkp : k < ps.length := by rw [HN.out]; exact hlt
      have hpp := HPP.out
      rw [List.drop_eq_getElem_cons hkp] at hpp
      obtain ⟨hs, hp2⟩ := hpp
      have hst := partsLen_step ps k hkp
      have hle := partsLen_le ps (k + 1)
      have HS := Lib.hid hs; have HP2 := Lib.hid hp2; have HST := Lib.hid hst; have HLE := Lib.hid hle
      clear hs hp2 hst hle
      go_wp2_with fail
      refine (Put_any w.heap.size D _ _ wr HH.out HS.out HD.out (HV.out.below HB.out) h1b (by have := HM.out; have := HLE.out; rw [HST.out] at this; omega)).mono ?_
      rintro e w2 ⟨rfl, h2, g2⟩
      have hend : Hid (SumSlot D ps w (.int .i64 ((k : Int) + 1)) w2) := Lib.hid ⟨k + 1, by omega, by rw [Int.natCast_succ], by rw [HST.out]; exact h2.hasP, HB.out.grown g2 HB.out.size (fun k hk => by injection hk with hk; omega), by rw [HST.out]; exact HP2.out⟩
      clear h2 g2
      go_wp2_with fail
      exact ⟨hend.out, by simp [intOf]; omega⟩
    · obtain rfl : k = n := by omega
      have hfull : ps.take k = ps := List.take_of_length_le (by rw [HN.out]; exact Nat.le_refl _)
      rw [hfull] at HH
      go_wp2_with fail
      refine (HSum_any w.heap.size D _ wr HH.out HD.out (HV.out.below HB.out) HM.out).mono ?_
      rintro e w2 ⟨rfl, h2⟩
      have H2 := Lib.hid (HB.out.trans (h2.mono HB.out.size))
      clear h2
      go_wp2_with fail
      go_ret
      exact ⟨rfl, H2.out⟩

set_option maxHeartbeats 2000000 in
set_option maxRecDepth 100000 in
theorem Sum_none (D : Nat → Int) (cap : Nat) (w : World) (hD : Bytes8 D) (hV : VarsAt w) :
    Calls Tryd.prog 12 #[.slice none 0 cap] w fun e w' => e = .returned (.string (shaB D 0)) ∧ Below w.heap.size w w' := by
  have hzv := hasher_zero.1
  obtain ⟨Z, hZ⟩ : ∃ Z, hZero = Z := ⟨_, rfl⟩
  rw [hZ] at hzv
  have h0 : HasP w.heap.size D 0 (w.alloc (.cells Z 30)) := Or.inl ⟨rfl, fun _ => 0, fun _ => 0, by rw [← hZ]; exact heap_alloc_last _ _, fun _ => ⟨Int.le_refl 0, by show (0 : Int) < 256; decide⟩⟩
  have H0 := Lib.hid h0; have HD := Lib.hid hD; have HV := Lib.hid hV
  have HB : Hid (Below w.heap.size w (w.alloc (.cells Z 30))) := Lib.hid ((Below.refl _ _).alloc (Nat.le_refl _) _)
  clear h0 hD hV hZ
  go_enter Tryd.func12, Tryd.ntmps12
  go_wp2_with fail
  refine wp_loop_rounds 1 ?_
  rw [rounds_succ]
  go_wp2_with fail
  refine (HSum_any w.heap.size D _ _ H0.out HD.out (HV.out.below HB.out) (by decide)).mono ?_
  rintro e w2 ⟨rfl, h2⟩
  have H2 := Lib.hid (HB.out.trans (h2.mono HB.out.size))
  clear h2
  go_wp2_with fail
  go_ret
  exact ⟨rfl, H2.out⟩
end Go.Proofs.YtodmomhilpheiaaDoor
