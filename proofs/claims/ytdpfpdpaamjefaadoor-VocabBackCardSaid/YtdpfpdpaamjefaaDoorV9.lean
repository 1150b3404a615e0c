/- Vocabularies: Encode. -/
import Derived.Test.YtdpfpdpaamjefaaDoorY9
import Derived.Test.YtdpfpdpaamjefaaDoorY5
import Derived.Laws.MakeOwn
namespace Go.Proofs.YtdpfpdpaamjefaaDoor
open Go.RowKit Go.Shelf Go.Maps
variable {w w' : World}

/-- The number of a token; -1. -/
def idE (L : List EntB) (s : ByteArray) : Int := match lookE (fun e : EntB => e.2) L s with
  | some q => (q.1 : Nat)
  | none => -1
def allE (L : List EntB) (P : List ByteArray) : Bool := P.all fun s => (lookE (fun e : EntB => e.2) L s).isSome
/-- A row of numbers that was made by a call. -/
def IdRow (g n : Nat) (w : World) (f : Nat → Int) (k : Nat) : Prop := ∃ cur, w.heap[g]? = some (.cells cur 3 (0, 0)) ∧ cur.size = n ∧ ∀ j : Nat, j < k → cur[j]? = some (.int .i64 (f j))
theorem IdRow.set {g n k : Nat} {f : Nat → Int} (h : IdRow g n w f k) (hk : k < n) {v : Int} (hv : v = f k) : IdRow g n (w.setCell ⟨g, k, none⟩ (.int .i64 v)) f (k + 1) := by
  obtain ⟨cur, h1, h2, h3⟩ := h
  refine ⟨_, heap_set _ h1, by simp [h2], fun j hj => ?_⟩
  by_cases e : k = j
  · subst e; rw [Array.getElem?_setIfInBounds_self_of_lt (by omega), hv]
  · rw [Array.getElem?_setIfInBounds_ne e]; exact h3 j (by omega)
theorem IdRow.keep {g n k : Nat} {f : Nat → Int} (h : IdRow g n w f k) (hb : w'.heap[g]? = w.heap[g]?) : IdRow g n w' f k := by
  obtain ⟨cur, h1, h2, h3⟩ := h
  exact ⟨cur, hb.trans h1, h2, h3⟩
theorem IdRow.lt {g n k : Nat} {f : Nat → Int} (h : IdRow g n w f k) : g < w.heap.size := by
  obtain ⟨cur, h1, _⟩ := h
  exact lt_of_some h1
theorem run_mk9 (n : Nat) (hn : n ≤ 100000) (w : World) : (Instr.makeSlice 37 (.int .i64 n) (.int .i64 n)).run Tryd.prog w = .ok (.slice (some ⟨w.heap.size, 0, none⟩) n n) (w.alloc (.cells (madeCells #[.int .i64 0] n) 3)) := by
  obtain ⟨i0, hi, hz0, hz1, hz2⟩ := info_parts (show (Tryd.prog.info? 3).map (fun i => (i.zero, i.size, i.bytes)) = some (some (.int .i64 0), 1, 8) by kernel_rfl)
  have := run_make (P := Tryd.prog) w 37 3 i0 (.int .i64 0) Tryd.underlying37 hi hz0 .i64 .i64 n n (by omega) (by omega) (by rw [hz2]; show (8 : Int) * _ ≤ _; omega) (by omega)
  rw [hz1] at this
  simp only [Int.toNat_natCast, Nat.mul_one] at this
  exact this
def EcS (b g n : Nat) (L : List EntB) (P : List ByteArray) (x : Int) (w2 : World) (i : Value) (wr : World) : Prop :=
  ∃ k : Nat, k ≤ n ∧ i = .int .i64 k ∧ allE L (P.take k) = true ∧ IdRow g n wr (fun j => idE L (P.getD j ⟨#[]⟩)) k ∧ IxBuilt b L x wr ∧ (∀ j, j < w2.heap.size → j ≠ g → wr.heap[j]? = w2.heap[j]?) ∧ w2.heap.size ≤ wr.heap.size ∧ Below 0 w2 wr
/-- What Encode ends with. -/
def EcEnd (L : List EntB) (P : List ByteArray) (n B : Nat) (e : Ending) (w' : World) : Prop :=
  if allE L P = true then ∃ g, e = .returned (.tuple #[.slice (some ⟨g, 0, none⟩) n n, .bool true]) ∧ B ≤ g ∧ IdRow g n w' (fun j => idE L (P.getD j ⟨#[]⟩)) n else e = .returned (.tuple #[.slice none 0 0, .bool false])
set_option maxHeartbeats 4000000 in
set_option maxRecDepth 100000 in
theorem Encode_any (b : Nat) (L : List EntB) (x : Int) (o : Option Addr) (l : List PairB) (cap : Nat) (word : ByteArray) (w : World) (h0 : 0 ≤ x) (h1 : x ≤ 100000) (hL : OkL L) (hl : l.length ≤ 100000) (hp : PrAt w 31 o l) (hok : ∀ p ∈ l, OkP p) (hws : word.size ≤ 4096)
    (hpb : ∀ g, o = some ⟨g, 0, none⟩ → g ≠ b) (hsz : ∀ s ∈ splitP l word, s.size ≤ maxLen) (hne : splitP l word = [] → word.size = 0) (hlen : (splitP l word).length ≤ 4096) (h : IxSt b L x w) :
    Calls Tryd.prog 10 #[.pointer (some ⟨b, 0, none⟩), .slice o l.length cap, .string word] w fun e w' => EcEnd L (splitP l word) (splitP l word).length w.heap.size e w' ∧ IxBuilt b L (x + 1) w' ∧ FrM b w w' := by
  have hbl := h.lt
  have HA := Lib.hid (ask_any b L x w h0 h1 hL h)
  obtain ⟨nl, hnl⟩ : ∃ n, l.length = n := ⟨_, rfl⟩
  have HSP := Lib.hid (fun (W : World) (hW : FrM b w W) => Split_any o l cap word W hl (hp.same (fun g cur ho hg => hW.block g (lt_of_some hg) (hpb g ho))) hok)
  obtain ⟨P, hP⟩ : ∃ P, splitP l word = P := ⟨_, rfl⟩
  rw [hP] at HSP hsz hne hlen ⊢
  obtain ⟨n, hn⟩ : ∃ n, P.length = n := ⟨_, rfl⟩
  rw [hn] at hlen HSP ⊢
  rw [hnl] at HSP ⊢
  have HN := Lib.hid hn; have HSZ := Lib.hid hsz; have HNE := Lib.hid hne
  have hmk := fun W => run_mk9 n (by omega) W
  clear h hp hok hpb hP hsz hne hn hnl
  go_enter Tryd.func10, Tryd.ntmps10
  go_wp2_with (go_at_call 19; refine HA.out.mono ?_)
  first | rintro e w1 ⟨rfl, hi1, hf1⟩ | rintro e w1 rfl hi1 hf1
  have HI1 := Lib.hid hi1; have HF1 := Lib.hid hf1
  clear hi1 hf1
  go_wp2_with (go_at_call 20; refine (HSP.out w1 HF1.out).mono ?_)
  first | rintro e w2 ⟨o2, c2, rfl, hst, hb2⟩ | rintro e w2 o2 c2 rfl hst hb2
  have HST := Lib.hid hst; have HI2 := Lib.hid (HI1.out.below hb2)
  have HF2 : Hid (FrM b w w2) := Lib.hid (HF1.out.trans (FrM.of_below hb2))
  clear hst hb2
  have HW3 : Hid (Below w2.heap.size w2 (w2.alloc (.cells (madeCells #[.int .i64 0] n) 3))) := Lib.hid ((Below.refl _ _).alloc (Nat.le_refl _) _)
  have HR3 : Hid (IdRow w2.heap.size n (w2.alloc (.cells (madeCells #[.int .i64 0] n) 3)) (fun j => idE L (P.getD j ⟨#[]⟩)) 0) := Lib.hid ⟨_, World.alloc_heap_new w2 _, size_madeCells _ _, fun j hj => absurd hj (Nat.not_lt_zero _)⟩
  have hword : n = 0 → word = ⟨#[]⟩ := fun e => by
    have : word.size = 0 := HNE.out (List.eq_nil_of_length_eq_zero (HN.out.trans e))
    exact ByteArray.ext (Array.eq_empty_of_size_eq_zero this)
  by_cases hn0 : n = 0
  · have hw0 := hword hn0
    subst hn0
    subst hw0
    have hmk0 : ∀ W, (Instr.makeSlice 37 (.int .i64 0) (.int .i64 0)).run Tryd.prog W = .ok (.slice (some ⟨W.heap.size, 0, none⟩) 0 0) (W.alloc (.cells (madeCells #[.int .i64 0] 0) 3)) := fun W => hmk W
    have hP0 : P = [] := List.eq_nil_of_length_eq_zero HN.out
    subst hP0
    have HFIN : Hid (IxBuilt b L (x + 1) (w2.alloc (.cells (madeCells #[.int .i64 0] 0) 3)) ∧ FrM b w (w2.alloc (.cells (madeCells #[.int .i64 0] 0) 3)) ∧ w.heap.size ≤ w2.heap.size) := Lib.hid ⟨HI2.out.below HW3.out, HF2.out.trans (FrM.of_below HW3.out), HF2.out.size⟩
    generalize hW3 : w2.alloc (.cells (madeCells #[.int .i64 0] 0) 3) = W3 at HW3 HR3 HFIN
    clear hmk hword
    go_wp2_with fail
    go_loopw [33] (fun i wr => i = .int .i64 0 ∧ wr = W3) (fun i _ => 0)
    case atStart => exact ⟨rfl, rfl⟩
    case round =>
      obtain ⟨rfl, rfl⟩ := hrel
      go_wp2_with fail
      refine bodyPost_ret (v := .tuple #[.slice (some ⟨w2.heap.size, 0, none⟩) 0 0, .bool true]) (by simp [results, Tryd.results10, go_sem]) rfl ⟨?_, HFIN.out.1, HFIN.out.2.1⟩
      unfold EcEnd
      rw [if_pos (show allE L [] = true from rfl)]
      exact ⟨_, rfl, HFIN.out.2.2, HR3.out⟩
  · clear hword
    have hn1 : ¬ (n : Int) = 0 := by omega
    have H0 : Hid (EcS b w2.heap.size n L P (x + 1) w2 (.int .i64 0) (w2.alloc (.cells (madeCells #[.int .i64 0] n) 3))) := Lib.hid ⟨0, Nat.zero_le _, rfl, rfl, HR3.out, HI2.out.below HW3.out, fun j hj _ => HW3.out.block j hj, HW3.out.size, HW3.out.mono (Nat.zero_le _)⟩
    generalize hW3 : w2.alloc (.cells (madeCells #[.int .i64 0] n) 3) = W3 at HW3 HR3 H0
    have hni : (n : Int) ≤ 4096 := by omega
    go_wp2_with fail
    clear hW3 hmk HR3 HW3
    go_loopw [33] (fun i wr => Hid (EcS b w2.heap.size n L P (x + 1) w2 i wr)) (fun i _ => n - (intOf i).toNat)
    case atStart => exact H0
    case round =>
      obtain ⟨k, hk, rfl, hall, hrow, hix, hkp, hsz, hlo⟩ := hrel.out
      clear hrel
      have HALL := Lib.hid hall; have HROW := Lib.hid hrow; have HIX := Lib.hid hix; have HKP := Lib.hid hkp; have HSZ2 := Lib.hid hsz; have HLO := Lib.hid hlo
      by_cases hlt : k < n
      · obtain ⟨s, hs⟩ : ∃ s, P[k]? = some s := ⟨_, List.getElem?_eq_getElem (by rw [HN.out]; exact hlt)⟩
        obtain ⟨g2, rfl, d0, hgl⟩ := HST.out.cell hs
        have hg2 : g2 ≠ w2.heap.size := by omega
        have d1 : wr.cell? ⟨g2, k, none⟩ = some (.string s) := (World.cell?_of_block (a := ⟨g2, k, none⟩) (hkp g2 hgl hg2)).trans d0
        have hss : s.size ≤ maxLen := HSZ.out s (List.mem_of_getElem? hs)
        have HKB := Lib.hid (keyS hss)
        obtain ⟨m1, m2, hr, ⟨D, hD, hD2⟩, hi2, hne1, hne2⟩ := hix
        have c4 := (ix_cells hr).2.2.2.1
        have HD := Lib.hid hD
        obtain ⟨hh, hat⟩ := hD2 s
        have hki : (k : Int) < n := by omega
        have htk : P.take (k + 1) = P.take k ++ [s] := by rw [List.take_add_one, hs]; rfl
        have hgd : P.getD k ⟨#[]⟩ = s := by rw [List.getD_eq_getElem?_getD, hs]; rfl
        cases hlk : lookE (fun e : EntB => e.2) L s with
        | none =>
          rw [hlk] at hh
          have HH := Lib.hid hh
          have hno : allE L P = false := by
            unfold allE
            rw [List.all_eq_false]
            exact ⟨s, List.mem_of_getElem? hs, by rw [hlk]; simp⟩
          have HNO := Lib.hid hno
          clear hall hrow hkp hsz hlo hr hD hD2 hi2 hh hat hlk hno hs htk hgd d0 hgl
          go_wp2_with (at_lookup; refine wpList_lookup_own_ok _ rfl _ _ 67 rfl 9 55 keyedS Tryd.underlying67 entElem (zero_ve _) entZ [] zero_el m1 L.length D rfl HD.out _ (.string s.data.toList) rfl HKB.out ?_; intro v ps hv; rw [HH.out]; obtain ⟨vi, vs, rfl⟩ := entElem_any hv; clear hv)
          have hba := (Below.refl wr.heap.size wr).alloc (Nat.le_refl _) (.cells #[.int .i64 vi, .string vs] 55)
          have hfw : FrM b w wr := ⟨HF2.out.low.trans HLO.out, Nat.le_trans HF2.out.size HSZ2.out, fun j hj hjb => (HKP.out j (by have := HF2.out.size; omega) (by have := HF2.out.size; omega)).trans (HF2.out.block j hj hjb)⟩
          refine bodyPost_ret (v := .tuple #[.slice none 0 0, .bool false]) (by simp [results, Tryd.results10, go_sem]) rfl ⟨?_, HIX.out.below hba, hfw.trans (FrM.of_below hba)⟩
          unfold EcEnd
          rw [HNO.out, if_neg (by decide)]
        | some q =>
          rw [hlk] at hh
          have HH := Lib.hid hh; have HAT := Lib.hid (hat q hlk)
          have hall2 : allE L (P.take (k + 1)) = true := by
            rw [htk]
            unfold allE at hall ⊢
            rw [List.all_append, hall]
            simp [hlk]
          have hid2 : ((q.1 : Nat) : Int) = idE L (P.getD k ⟨#[]⟩) := by
            rw [hgd]; unfold idE; rw [hlk]
          have HALL2 := Lib.hid hall2; have HID2 := Lib.hid hid2
          obtain ⟨cur, hc1, hc2, _⟩ := hrow
          have hck : ∃ v, wr.cell? ⟨w2.heap.size, k, none⟩ = some v := ⟨_, by rw [cell_of_row hc1]; exact Array.getElem?_eq_getElem (by omega)⟩
          obtain ⟨vk, hck⟩ := hck
          have hba := (Below.refl wr.heap.size wr).alloc (Nat.le_refl _) (.cells #[.int .i64 (q.1 : Nat), .string q.2] 55)
          have hw2l : w2.heap.size < wr.heap.size := lt_of_some hc1
          have hck2 : (wr.alloc (.cells #[.int .i64 (q.1 : Nat), .string q.2] 55)).cell? ⟨w2.heap.size, k, none⟩ = some vk := Lib.cell?_alloc_some _ hck
          have hfk2 : (wr.alloc (.cells #[.int .i64 (q.1 : Nat), .string q.2] 55)).frozen? ⟨w2.heap.size, k, none⟩ = false := by
            have e := (hba.block w2.heap.size hw2l).trans hc1
            simp [World.frozen?, e]
          have HBA := Lib.hid hba
          clear hall hkp hsz hlo hr hD hD2 hi2 hh hat hlk hs htk hgd d0 hgl hall2 hid2 hc1 hc2
          go_wp2_with (at_lookup; refine wpList_lookup_own_ok _ rfl _ _ 67 rfl 9 55 keyedS Tryd.underlying67 entElem (zero_ve _) entZ [] zero_el m1 L.length D rfl HD.out _ (.string s.data.toList) rfl HKB.out ?_; intro v ps hv; rw [HAT.out] at hv; rw [HH.out]; obtain rfl := entElem_ent hv; clear hv)
          have hb2 : b ≠ w2.heap.size := fun e => by have := HF2.out.size; omega
          have hk' : ∀ j, j ≠ w2.heap.size → (wr.setCell ⟨w2.heap.size, k, none⟩ (.int .i64 (q.1 : Nat))).heap[j]? = wr.heap[j]? := fun j hj => Below.heap_setCell _ _ _ j hj
          have hIV : IxBuilt b L (x + 1) (wr.setCell ⟨w2.heap.size, k, none⟩ (.int .i64 (q.1 : Nat))) := by
            obtain ⟨z1, z2, y1, y2, y3, y4, y5⟩ := HI2.out
            have hz1 := y2.lt; have hz2 := y3.lt
            have hzr : wr.heap[b]? = w2.heap[b]? := HKP.out b (by have := HF2.out.size; omega) hb2
            obtain ⟨n1, n2, r1, r2, r3, r4, r5⟩ := HIX.out
            have r1' := r1
            rw [hzr, y1] at r1'
            injection r1' with r1'
            injection r1' with r1'
            simp only [ixRow, Array.mk.injEq, List.cons.injEq, Value.map.injEq, Option.some.injEq, true_and, and_true] at r1'
            obtain ⟨q1, q2⟩ := r1'
            exact ⟨n1, n2, (hk' b hb2).trans r1, r2.keep (hk' _ (by omega)), r3.keep (hk' _ (by omega)), r4, r5⟩
          have hbv := (Below.refl (wr.setCell ⟨w2.heap.size, k, none⟩ (.int .i64 (q.1 : Nat))).heap.size (wr.setCell ⟨w2.heap.size, k, none⟩ (.int .i64 (q.1 : Nat)))).alloc (Nat.le_refl _) (.cells #[.int .i64 (q.1 : Nat), .string q.2] 55)
          have hvs : (wr.setCell ⟨w2.heap.size, k, none⟩ (.int .i64 (q.1 : Nat))).heap.size = wr.heap.size := by simp
          have hEND : EcS b w2.heap.size n L P (x + 1) w2 (.int .i64 ((k : Int) + 1)) ((wr.setCell ⟨w2.heap.size, k, none⟩ (.int .i64 (q.1 : Nat))).alloc (.cells #[.int .i64 (q.1 : Nat), .string q.2] 55)) := by
            refine ⟨k + 1, by omega, by rw [Int.natCast_succ], HALL2.out, (HROW.out.set hlt HID2.out).keep (hbv.block _ (by rw [hvs]; exact hw2l)), hIV.below hbv, fun j hj hjg => ?_, ?_, ?_⟩
            · exact (hbv.block j (by rw [hvs]; have := HSZ2.out; omega)).trans ((hk' j hjg).trans (HKP.out j hj hjg))
            · have := HSZ2.out; have := hbv.size; omega
            · exact (HLO.out.setCell (p := ⟨w2.heap.size, k, none⟩) (Nat.zero_le _) _).trans (hbv.mono (Nat.zero_le _))
          go_roundw
          case rel => first | exact Lib.hid hEND | ((repeat (apply Exists.intro)); exact ⟨Lib.hid hEND, rfl⟩)
          case measure => first | (simp [intOf]; done) | (simp [intOf]; omega)
      · have hkn : k = n := by omega
        subst hkn
        have hki : ¬ (k : Int) < k := by omega
        have hfw : FrM b w wr := ⟨HF2.out.low.trans HLO.out, Nat.le_trans HF2.out.size HSZ2.out, fun j hj hjb => (HKP.out j (by have := HF2.out.size; omega) (by have := HF2.out.size; omega)).trans (HF2.out.block j hj hjb)⟩
        have HFW := Lib.hid hfw
        have hall3 : allE L P = true := by rw [List.take_of_length_le (by rw [HN.out]; exact Nat.le_refl _)] at hall; exact hall
        have HALL3 := Lib.hid hall3
        clear hall hrow hix hkp hsz hlo hfw hall3
        go_wp2_with fail
        refine bodyPost_ret (v := .tuple #[.slice (some ⟨w2.heap.size, 0, none⟩) k k, .bool true]) (by simp [results, Tryd.results10, go_sem]) rfl ⟨?_, HIX.out, HFW.out⟩
        unfold EcEnd
        rw [HALL3.out, if_pos rfl]
        exact ⟨_, rfl, HF2.out.size, HROW.out⟩
end Go.Proofs.YtdpfpdpaamjefaaDoor
