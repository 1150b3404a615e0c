/- Vocabularies: Decode. -/
import Derived.Test.YtdpfpdpaamjefaaDoorY9
import Derived.Test.YtdpfpdpaamjefaaDoorS2
namespace Go.Proofs.YtdpfpdpaamjefaaDoor
open Go.RowKit Go.Shelf Go.Maps
variable {w w' : World}

/-- A row of numbers, from a block's first place on. -/
def InK (w : World) (o : Option Addr) (l : List Int) : Prop :=
  ∀ (k : Nat) (z : Int), l[k]? = some z → ∃ g : Nat, o = some ⟨g, 0, none⟩ ∧ g < w.heap.size ∧ w.cell? ⟨g, k, none⟩ = some (.int .i64 z)
def lkI (L : List EntB) (i : Int) : Option EntB := lookE (fun e : EntB => (e.1 : Int)) L i
def allI (L : List EntB) (l : List Int) : Bool := l.all fun i => (lkI L i).isSome
def tokI (L : List EntB) (i : Int) : List UInt8 := match lkI L i with
  | some q => q.2.data.toList
  | none => []
def decT (L : List EntB) (l : List Int) : List UInt8 := l.flatMap (tokI L)
theorem tokI_len {L : List EntB} (h : ∀ e ∈ L, e.2.size ≤ 64) (i : Int) : (tokI L i).length ≤ 64 := by
  unfold tokI
  cases hl : lkI L i with
  | none => simp
  | some q =>
    have hq : q ∈ L := List.mem_of_find?_eq_some hl
    have := h q hq
    simp only
    rw [size_len]; exact this
theorem decT_len {L : List EntB} (h : ∀ e ∈ L, e.2.size ≤ 64) : ∀ l : List Int, (decT L l).length ≤ 64 * l.length
  | [] => Nat.le_refl _
  | i :: l => by
    have h1 := tokI_len h i
    have h2 := decT_len h l
    unfold decT at h2 ⊢
    rw [List.flatMap_cons, List.length_append, List.length_cons]; omega
theorem decT_snoc (L : List EntB) (l : List Int) (i : Int) : decT L (l ++ [i]) = decT L l ++ tokI L i := by unfold decT; rw [List.flatMap_append]; simp
/-- What Decode ends with. -/
def DcEnd (L : List EntB) (l : List Int) (e : Ending) : Prop :=
  if allI L l = true then e = .returned (.tuple #[.string ⟨(decT L l).toArray⟩, .bool true]) else e = .returned (.tuple #[.string ⟨#[]⟩, .bool false])
def DcS (b B n : Nat) (L : List EntB) (l : List Int) (x : Int) (w1 : World) (i : Value) (wr : World) : Prop :=
  ∃ k : Nat, k ≤ n ∧ i = .int .i64 k ∧ allI L (l.take k) = true ∧ Lib.IsBuilderF 80 5 B B (Lib.byteCells (decT L (l.take k))) wr ∧ Below B w1 wr
set_option maxHeartbeats 4000000 in
set_option maxRecDepth 100000 in
theorem Decode_any (b : Nat) (L : List EntB) (x : Int) (o : Option Addr) (l : List Int) (cap : Nat) (w : World) (h0 : 0 ≤ x) (h1 : x ≤ 100000) (hL : OkL L) (hL2 : ∀ e ∈ L, e.2.size ≤ 64) (hl : l.length ≤ 4000) (hwf : ∀ z ∈ l, (Lit.int .i64 z).wf = true) (hp : InK w o l)
    (hpb : ∀ g, o = some ⟨g, 0, none⟩ → 0 < l.length → g ≠ b) (h : IxSt b L x w) :
    Calls Tryd.prog 11 #[.pointer (some ⟨b, 0, none⟩), .slice o l.length cap] w fun e w' => DcEnd L l e ∧ IxBuilt b L (x + 1) w' ∧ FrM b w w' := by
  have HA := Lib.hid (ask_any b L x w h0 h1 hL h)
  obtain ⟨n, hn⟩ : ∃ n, l.length = n := ⟨_, rfl⟩
  rw [hn] at hl hpb ⊢
  have HN := Lib.hid hn; have HWF := Lib.hid hwf; have HP := Lib.hid hp; have HPB := Lib.hid hpb
  clear h hp hpb hwf hn
  go_enter Tryd.func11, Tryd.ntmps11
  go_wp2_with (go_at_call 19; refine HA.out.mono ?_)
  first | rintro e w1 ⟨rfl, hi1, hf1⟩ | rintro e w1 rfl hi1 hf1
  have HI1 := Lib.hid hi1; have HF1 := Lib.hid hf1
  have HP1 : Hid (InK w1 o l) := Lib.hid (fun k z hz => by
    obtain ⟨g, e1, e2, e3⟩ := HP.out k z hz
    exact ⟨g, e1, Nat.lt_of_lt_of_le e2 hf1.size, (World.cell?_of_block (a := ⟨g, k, none⟩) (hf1.block g e2 (HPB.out g e1 (by have := (List.getElem?_eq_some_iff.1 hz).1; rw [HN.out] at this; omega)))).trans e3⟩)
  clear hi1 hf1
  have H0 : Hid (DcS b w1.heap.size n L l (x + 1) w1 (.int .i64 0) (w1.alloc (.cells #[.pointer none, .slice none 0 0] 80))) := Lib.hid ⟨0, Nat.zero_le _, rfl, rfl, Lib.IsBuilderF.of (Lib.fresh_isBuilder 80 5 w1), (Below.refl _ _).alloc (Nat.le_refl _) _⟩
  go_wp2_with fail
  go_loopw [17] (fun i wr => DcS b w1.heap.size n L l (x + 1) w1 i wr) (fun i _ => n - (intOf i).toNat)
  case atStart => exact H0.out
  case round =>
    obtain ⟨k, hk, rfl, hall, hbd, hbl⟩ := hrel
    have HALL := Lib.hid hall; have HBD := Lib.hid hbd; have HBL := Lib.hid hbl
    clear hall hbd hbl H0
    by_cases hlt : k < n
    · obtain ⟨z, hz⟩ : ∃ z, l[k]? = some z := ⟨_, List.getElem?_eq_getElem (by rw [HN.out]; exact hlt)⟩
      obtain ⟨g, rfl, hg1, hg2⟩ := HP1.out k z hz
      have d0 : wr.cell? ⟨g, k, none⟩ = some (.int .i64 z) := (World.cell?_of_block (a := ⟨g, k, none⟩) (HBL.out.block g hg1)).trans hg2
      have HKB := Lib.hid (keyI (HWF.out z (List.mem_of_getElem? hz)))
      obtain ⟨m1, m2, hr, _, ⟨D, hD, hD2⟩, hne1, hne2⟩ := HI1.out.below HBL.out
      have c5 := (ix_cells hr).2.2.2.2.1
      have HD := Lib.hid hD
      obtain ⟨hh, hat⟩ := hD2 z
      have hki : (k : Int) < n := by omega
      have htk : l.take (k + 1) = l.take k ++ [z] := by rw [List.take_add_one, hz]; rfl
      cases hlk : lookE (fun e : EntB => (e.1 : Int)) L z with
      | none =>
        rw [hlk] at hh
        have HH := Lib.hid hh
        have hno : allI L l = false := by
          unfold allI
          rw [List.all_eq_false]
          exact ⟨z, List.mem_of_getElem? hz, by unfold lkI; rw [hlk]; simp⟩
        have HNO := Lib.hid hno
        clear hr hD hD2 hh hat hlk hno hz htk hg1 hg2
        go_wp2_with (at_lookup; refine wpList_lookup_own_ok _ rfl _ _ 68 rfl 3 55 keyedI Tryd.underlying68 entElem (zero_ve _) entZ [] zero_el m2 L.length D rfl HD.out _ (.int .i64 z) rfl HKB.out ?_; intro v ps hv; rw [HH.out]; obtain ⟨vi, vs, rfl⟩ := entElem_any hv; clear hv)
        go_quiet (fail)
        rename_i nq
        have hba := ((Below.refl wr.heap.size wr).alloc (Nat.le_refl _) (.cells #[.int .i64 vi, .string vs] 55))
        have HB2 : Hid (Below w1.heap.size w1 ((wr.alloc (.cells #[.int .i64 vi, .string vs] 55)).drewN nq)) := Lib.hid (below_drewN (HBL.out.trans (hba.mono HBL.out.size)) nq)
        generalize (wr.alloc (.cells #[.int .i64 vi, .string vs] 55)).drewN nq = wd at HB2 ⊢
        go_wp2_with fail
        refine bodyPost_ret (v := .tuple #[.string ⟨#[]⟩, .bool false]) (by simp [results, Tryd.results11, go_sem]) rfl ⟨?_, HI1.out.below HB2.out, HF1.out.trans (FrM.of_below HB2.out)⟩
        unfold DcEnd
        rw [HNO.out, if_neg (by decide)]
      | some q =>
        rw [hlk] at hh
        have HH := Lib.hid hh; have HAT := Lib.hid (hat q hlk)
        have hall2 : allI L (l.take (k + 1)) = true := by
          have h1 := HALL.out
          rw [htk]
          unfold allI at h1 ⊢
          rw [List.all_append, h1]
          simp [lkI, hlk]
        have hqz : q.2.size ≤ 64 := hL2 q (List.mem_of_find?_eq_some hlk)
        have hdt : decT L (l.take (k + 1)) = decT L (l.take k) ++ q.2.data.toList := by
          rw [htk, decT_snoc]
          unfold tokI lkI
          rw [hlk]
        have hdl : (decT L (l.take k)).length ≤ 64 * k := Nat.le_trans (decT_len hL2 _) (by rw [List.length_take]; omega)
        obtain ⟨D0, hD0⟩ : ∃ D0, decT L (l.take k) = D0 := ⟨_, rfl⟩
        rw [hD0] at HBD hdt hdl
        have HALL2 := Lib.hid hall2; have HDT := Lib.hid hdt
        have hba := (Below.refl wr.heap.size wr).alloc (Nat.le_refl _) (.cells #[.int .i64 (q.1 : Nat), .string q.2] 55)
        have hrw := World.alloc_heap_new wr (.cells #[.int .i64 (q.1 : Nat), .string q.2] 55)
        have HBA : Hid (Below w1.heap.size w1 (wr.alloc (.cells #[.int .i64 (q.1 : Nat), .string q.2] 55))) := Lib.hid (HBL.out.trans (hba.mono HBL.out.size))
        have HBD2 := Lib.hid (bldF_below HBD.out hba)
        have HLN : Hid (∀ (y : Nat), Calls Tryd.prog 21 #[.pointer (some ⟨w1.heap.size, 0, none⟩)] ((wr.alloc (.cells #[.int .i64 (q.1 : Nat), .string q.2] 55)).drewN y) fun e w' => e = .returned (.int .i64 D0.length) ∧ ∃ m, w' = (wr.alloc (.cells #[.int .i64 (q.1 : Nat), .string q.2] 55)).drewN m) := Lib.hid (fun y => by
          have := Tryd.Builder_Len_f w1.heap.size w1.heap.size (Lib.byteCells D0) ((wr.alloc (.cells #[.int .i64 (q.1 : Nat), .string q.2] 55)).drewN y) (bldF_below HBD2.out (below_drewN (Below.refl _ _) y))
          rw [Lib.byteCells_length] at this
          exact this.mono fun e w' ⟨a, b⟩ => ⟨a, y, b⟩)
        have hb0 := cell_of_row (j := 0) hrw
        have hb1 := cell_of_row (j := 1) hrw
        clear hr hD hD2 hh hat hlk hz htk hg1 hg2 hall2 hdt hD0
        have hdli : (D0.length : Int) ≤ 256000 := by omega
        have hqzi : (q.2.size : Int) ≤ 64 := by omega
        go_wp2_with (at_lookup; refine wpList_lookup_own_ok _ rfl _ _ 68 rfl 3 55 keyedI Tryd.underlying68 entElem (zero_ve _) entZ [] zero_el m2 L.length D rfl HD.out _ (.int .i64 z) rfl HKB.out ?_; intro v ps hv; rw [HAT.out] at hv; rw [HH.out]; obtain rfl := entElem_ent hv; clear hv)
        go_quiet ((go_at_call 21; exact HLN.out _))
        rename_i nq
        have HBD3 := Lib.hid (bldF_below HBD2.out (below_drewN (Below.refl _ _) nq))
        have HB3 := Lib.hid (below_drewN HBA.out nq)
        have hb1d : ((wr.alloc (.cells #[.int .i64 (q.1 : Nat), .string q.2] 55)).drewN nq).cell? ⟨wr.heap.size, 1, none⟩ = some (.string q.2) := hb1
        clear hb0 hb1
        generalize (wr.alloc (.cells #[.int .i64 (q.1 : Nat), .string q.2] 55)).drewN nq = wd at HBD3 HB3 hb1d ⊢
        go_wp2_with fail
        refine (write_f w1.heap.size w1.heap.size _ q.2 wd HBD3.out (by rw [Lib.byteCells_length]; omega) HB3.out.size).mono ?_
        rintro e w4 ⟨rfl, h4, b4⟩
        have HEND : Hid (DcS b w1.heap.size n L l (x + 1) w1 (.int .i64 ((k : Int) + 1)) w4) := Lib.hid ⟨k + 1, by omega, by rw [Int.natCast_succ], HALL2.out, by
          rw [HDT.out]
          have e : Lib.byteCells (D0 ++ q.2.data.toList) = Lib.byteCells D0 ++ Lib.strCells q.2 := by simp [Lib.byteCells, Lib.strCells]
          rw [e]; exact h4, HB3.out.trans b4⟩
        clear h4 b4 hb1d
        go_wp2_with fail
        go_roundw
        case rel => first | exact HEND.out | ((repeat (apply Exists.intro)); exact ⟨HEND.out, rfl⟩)
        case measure => first | (simp [intOf]; done) | (simp [intOf]; omega)
    · have hkn : k = n := by omega
      subst hkn
      have hki : ¬ (k : Int) < k := by omega
      have htl : l.take k = l := List.take_of_length_le (by rw [HN.out]; exact Nat.le_refl _)
      rw [htl] at HALL HBD
      clear htl
      go_wp2_with fail
      refine (Tryd.Builder_String_any_f w1.heap.size w1.heap.size (decT L l) wr HBD.out HBL.out.size).mono ?_
      rintro e w7 ⟨rfl, h7, b7⟩
      have HB7 := Lib.hid (HBL.out.trans b7)
      clear h7 b7
      go_wp2_with fail
      refine bodyPost_ret (v := .tuple #[.string ⟨(decT L l).toArray⟩, .bool true]) (by simp [results, Tryd.results11, go_sem]) rfl ⟨?_, HI1.out.below HB7.out, HF1.out.trans (FrM.of_below HB7.out)⟩
      unfold DcEnd
      rw [HALL.out, if_pos rfl]
end Go.Proofs.YtdpfpdpaamjefaaDoor
