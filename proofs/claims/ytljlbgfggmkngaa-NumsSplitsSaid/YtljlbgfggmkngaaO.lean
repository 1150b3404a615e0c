/- NumsSplits: what its walk comes to: true, for every list of texts and every int. -/
import Derived.Test.YtljlbgfggmkngaaM
import Derived.Deep.QuietTactic
import Derived.BigQuiet
namespace Go.Proofs.Ytljlbgfggmkngaa
open Go.RowKit

/-- What a walk is told of a list of texts that came in. -/
def IsStrs (w : World) (a : Option Addr) (len cap : Nat) (zs : List ByteArray) : Prop :=
  (a = none ∧ len = 0 ∧ cap = 0 ∧ zs = []) ∨
  ∃ x, a = some x ∧ zs.length = len ∧ len ≤ maxLen ∧ (∀ i, i < len → w.cell? (x.add i) = some (.string (zs.getD i ByteArray.empty)))

theorem cell_lt {w : World} {a : Addr} {v : Value} (h : w.cell? a = some v) : a.block < w.heap.size := by
  rcases Nat.lt_or_ge a.block w.heap.size with h' | h'
  · exact h'
  · unfold World.cell? at h
    simp [Array.getElem?_eq_none h'] at h
theorem strs_of {w : World} {x : Addr} {l c : Nat} {ss : List ByteArray} {b : Bool} (hl : l ≤ c) (hm : c ≤ maxLen) (hz : ss.length = (if b then c else l)) (hcell : ∀ i, i < ss.length → w.cell? (x.add i) = some (.string (ss.getD i ByteArray.empty))) : IsStrs w (some x) l c (ss.take l) := by
  have hle : l ≤ ss.length := by rw [hz]; split <;> omega
  refine .inr ⟨x, rfl, by rw [List.length_take]; omega, by omega, fun i hi => ?_⟩
  rw [hcell i (by omega)]
  simp [List.getD, List.getElem?_take_of_lt hi]

def Small (zs : List ByteArray) (k : Nat) : Prop := k ≤ 201 ∧ ∀ i, i < k → (zs.getD i ByteArray.empty).size ≤ 3000
def SumSlot (zs : List ByteArray) (len : Nat) (s i : Value) : Prop := ∃ (k : Nat) (x : Int), k ≤ len ∧ i = .int .i64 k ∧ s = .int .i64 x ∧ 0 ≤ x ∧ x ≤ 3000 * k ∧ Small zs k

def offs (zs : List ByteArray) (j : Nat) : Nat := (joinL (zs.take j)).length
theorem offs_zero (zs : List ByteArray) : offs zs 0 = 0 := rfl
theorem offs_succ (zs : List ByteArray) (j : Nat) (h : j < zs.length) : offs zs (j + 1) = offs zs j + (encL zs[j]).length := by
  unfold offs; rw [joinL_take zs j h, List.length_append]
theorem offs_all (zs : List ByteArray) : offs zs zs.length = (joinL zs).length := by unfold offs; rw [List.take_length]
theorem offs_le (zs : List ByteArray) (j : Nat) : offs zs j ≤ (joinL zs).length := by
  have e : joinL zs = joinL (zs.take j) ++ joinL (zs.drop j) := by rw [← joinL_app, List.take_append_drop]
  unfold offs; rw [e]; simp
theorem take_offs (zs : List ByteArray) (j : Nat) : (joinL zs).take (offs zs j) = joinL (zs.take j) := by
  have e : joinL zs = joinL (zs.take j) ++ joinL (zs.drop j) := by rw [← joinL_app, List.take_append_drop]
  unfold offs; conv => lhs; rw [e]
  rw [List.take_left]
theorem take_offs_more (zs : List ByteArray) (j d : Nat) (h : j < zs.length) (hd : d ≤ (encL zs[j]).length) : (joinL zs).take (offs zs j + d) = joinL (zs.take j) ++ (encL zs[j]).take d := by
  have e : joinL zs = joinL (zs.take (j + 1)) ++ joinL (zs.drop (j + 1)) := by rw [← joinL_app, List.take_append_drop]
  rw [e, joinL_take zs j h, List.append_assoc]
  unfold offs
  rw [List.take_append, List.take_of_length_le (by omega), Nat.add_sub_cancel_left, List.take_append_of_le_length hd]

theorem cut_split (zs : List ByteArray) (c j : Nat) (hz : ∀ t ∈ zs, t.size ≤ 262144) (hc : c ≤ (joinL zs).length) (hj : j ≤ zs.length) (h0 : j = 0 ∨ offs zs (j - 1) < c) (hx : j = zs.length ∨ c ≤ offs zs j) :
    (offs zs j = c ∧ splitI (mkB ((joinL zs).take c)) = (zs.take j, 0)) ∨ (offs zs j ≠ c ∧ splitI (mkB ((joinL zs).take c)) = ([], 3)) := by
  have hle : c ≤ offs zs j := by
    rcases hx with h | h
    · rw [h, offs_all]; exact hc
    · exact h
  by_cases he : offs zs j = c
  · refine .inl ⟨he, ?_⟩
    rw [← he, take_offs]
    exact split_whole _ (fun t ht => hz t (List.mem_of_mem_take ht))
  · refine .inr ⟨he, ?_⟩
    have hj0 : j ≠ 0 := by intro h; rw [h, offs_zero] at hle he; omega
    obtain ⟨i, rfl⟩ : ∃ i, j = i + 1 := ⟨j - 1, by omega⟩
    have hi : i < zs.length := by omega
    have h1 : offs zs i < c := by rcases h0 with h | h; · omega
                                  · simpa using h
    have h2 := offs_succ zs i hi
    have e : c = offs zs i + (c - offs zs i) := by omega
    rw [e, take_offs_more zs i _ hi (by omega)]
    exact split_part _ _ _ (fun t ht => hz t (List.mem_of_mem_take ht)) (hz _ (List.getElem_mem hi)) (by omega) (by omega)

theorem small_mem (zs : List ByteArray) (k : Nat) (hl : zs.length = k) (h : Small zs k) : ∀ t ∈ zs, t.size ≤ 3000 := by
  intro t ht
  obtain ⟨i, hi, rfl⟩ := List.getElem_of_mem ht
  have := h.2 i (by omega)
  simpa [List.getD, List.getElem?_eq_getElem hi] using this
theorem small_sum (zs : List ByteArray) (h : ∀ t ∈ zs, t.size ≤ 3000) : (joinL zs).length ≤ 3006 * zs.length := by
  induction zs with
  | nil => simp [joinL]
  | cons t zs ih =>
    have h1 := ih (fun t ht => h t (by simp [ht]))
    have h2 := h t (by simp)
    have h3 := encL_length t
    have h4 := len_put (t.size : Int)
    have h5 : folI t.size ≤ 5 := by rcases fol_cases (t.size : Int) with h | h | h | h | h | h <;> omega
    rw [joinL, List.length_append, List.length_cons]; omega

theorem cut_any (cut : Int) (m : Nat) (hm : m ≤ 700000) : ∃ c : Nat, (wrap64 (wrap64 (cut.tmod ((m : Int) + 1) + m) + 1)).tmod ((m : Int) + 1) = (c : Int) ∧ c ≤ m := by
  have h1 := Int.tmod_lt_of_pos cut (show (0 : Int) < (m : Int) + 1 by omega)
  have h2 : -((m : Int) + 1) < cut.tmod ((m : Int) + 1) := by
    have := Int.lt_tmod_of_pos cut (show (0 : Int) < (m : Int) + 1 by omega)
    omega
  obtain ⟨r, hr⟩ : ∃ r, cut.tmod ((m : Int) + 1) = r := ⟨_, rfl⟩
  rw [hr] at h1 h2 ⊢
  have e1 : wrap64 (r + m) = r + m := by unfold wrap64; omega
  have e2 : wrap64 (r + m + 1) = r + m + 1 := by unfold wrap64; omega
  rw [e1, e2]
  have e3 : (r + m + 1).tmod ((m : Int) + 1) = (r + m + 1) % ((m : Int) + 1) := Int.tmod_eq_emod_of_nonneg (by omega)
  have h3 := Int.emod_nonneg (r + m + 1) (show ((m : Int) + 1) ≠ 0 by omega)
  have h4 := Int.emod_lt_of_pos (r + m + 1) (show (0 : Int) < (m : Int) + 1 by omega)
  exact ⟨((r + m + 1) % ((m : Int) + 1)).toNat, by rw [e3]; omega, by omega⟩

def EqSlot (k : Nat) (w4 : World) (i : Value) (wr : World) : Prop := ∃ j : Nat, j ≤ k ∧ i = .int .i64 j ∧ Below w4.heap.size w4 wr
def CutSlot (zs : List ByteArray) (k c : Nat) (w4 : World) (a n : Value) (wr : World) : Prop :=
  ∃ j : Nat, j ≤ k ∧ n = .int .i64 j ∧ a = .int .i64 (offs zs j) ∧ (j = 0 ∨ offs zs (j - 1) < c) ∧ Below w4.heap.size w4 wr ∧ w4.heap.size ≤ wr.heap.size

set_option maxHeartbeats 4000000 in
set_option maxRecDepth 100000 in
theorem splits_some (x : Addr) (len cap : Nat) (cut : Int) (zs : List ByteArray) (w : World) (hl : zs.length = len) (hm : len ≤ maxLen) (hc : ∀ i, i < len → w.cell? (x.add i) = some (.string (zs.getD i ByteArray.empty))) (_c0 : -9223372036854775808 ≤ cut) (_c1 : cut ≤ 9223372036854775807) :
    Calls Try.prog 6 #[.slice (some x) len cap, .int .i64 cut] w fun e w' => e = .returned (.bool true) ∧ Below w.heap.size w w' := by
  unfold maxLen at hm
  have HL := Lib.hid hl; have HC := Lib.hid hc
  have HBK : Hid (∀ i, i < len → (x.add i).block < w.heap.size) := Lib.hid (fun i hi => cell_lt (hc i hi))
  clear hl hc
  go_enter Try.func6, Try.ntmps6
  go_wp2_with fail
  refine (speaks_any _).mono ?_
  rintro e w1 ⟨rfl, hw1⟩
  have hz1 := hw1.size
  go_wp2_with fail
  go_loop [5, 6] (fun s i => SumSlot zs len s i) (fun _ i => len - (intOf i).toNat)
  case atStart => exact ⟨0, 0, Nat.zero_le _, rfl, rfl, by omega, by omega, by omega, fun i h => by omega⟩
  case round =>
    obtain ⟨k, y, hk, rfl, rfl, hy0, hy1, hS⟩ := hrel
    have HS := Lib.hid hS
    have hk201 := hS.1
    clear hS
    by_cases hlt : k < len
    · have hcell : w1.cell? (x.add k) = some (.string (zs.getD k ByteArray.empty)) := (hw1.cell (p := x.add k) (HBK.out k hlt)).trans (HC.out k hlt)
      obtain ⟨s, hs⟩ : ∃ s, zs.getD k ByteArray.empty = s := ⟨_, rfl⟩
      rw [hs] at hcell
      have Hs := Lib.hid hs
      clear hs
      by_cases hbig : 200 < k ∨ 3000 < s.size
      · by_cases hk2 : 200 < k
        · have hk3 : (200 : Int) < (k : Int) := by omega
          go_wp2_with fail
          go_ret
          exact ⟨rfl, hw1⟩
        · have hk3 : (k : Int) ≤ 200 := by omega
          have hs3 : (3000 : Int) < (s.size : Int) := by omega
          go_wp2_with fail
          go_ret
          exact ⟨rfl, hw1⟩
      · have hk3 : (k : Int) ≤ 200 := by omega
        have hs3 : (s.size : Int) ≤ 3000 := by omega
        have hstep : Hid (Small zs (k + 1)) := Lib.hid ⟨by omega, fun i hi => by
          by_cases h : i = k
          · rw [h, Hs.out]; omega
          · exact HS.out.2 i (by omega)⟩
        go_wp2_with fail
        go_round
        case rel => exact ⟨k + 1, _, by omega, by go_num, rfl, by omega, by omega, hstep.out⟩
        case measure => simp [intOf]; omega
    · obtain rfl : k = len := by omega
      clear hlt hk
      obtain ⟨i0, hi, hz0, hz1', hz2⟩ := info_parts strInfo
      have hmem := small_mem zs k HL.out HS.out
      have hsum := small_sum zs hmem
      rw [HL.out] at hsum
      have HM := Lib.hid hmem; have HU := Lib.hid hsum
      have hown0 : (w1.alloc (.cells #[] 9)).ownsRow w.heap.size 9 1 (.slice (some ⟨w1.heap.size, 0, none⟩) 0 0) 0 [] := by
        refine ⟨rfl, .inr ⟨w1.heap.size, 0, #[], rfl, hz1, ?_, Nat.le_refl _, Nat.zero_le _, rfl, rfl⟩⟩
        show (w1.heap.push _)[w1.heap.size]? = _
        simp
      have HO := Lib.hid hown0
      clear hmem hsum hown0
      go_wp2_with (at_builtin; refine wpList_append_own _ rfl _ _ 36 rfl w.heap.size 9 i0 (.string ⟨#[]⟩) 1 16 Try.underlying36 hi hz0 hz1' hz2 rfl (by decide) _ _ _ rfl HO.out x k cap (zs.map Value.string) rfl ?cl ?c1 ?c2 ?c3 ?c4 ?c5 ?_)
      case cl => exact HL.out
      case c1 =>
        intro j u hj
        have hjl : j < zs.length := by
          rcases Nat.lt_or_ge j zs.length with h | h
          · exact h
          · rw [List.getElem?_eq_none (by simpa using h)] at hj; cases hj
        have h1 : (w1.alloc (.cells #[] 9)).cell? (x.add j) = w.cell? (x.add j) := ((hw1.alloc hz1 _).cell (p := x.add j) (HBK.out j (by rw [← HL.out]; exact hjl)))
        rw [h1, HC.out j (by rw [← HL.out]; exact hjl)]
        simp [List.getElem?_eq_getElem hjl] at hj
        simp [List.getElem?_eq_getElem hjl, hj]
      case c2 => intro u _; rfl
      case c3 => unfold maxLen; omega
      case c4 => omega
      case c5 => omega
      intro v1 w2 hown1 hgrow1 _
      have hw2 : Below w.heap.size w w2 := (hw1.alloc hz1 _).grown hgrow1 (by simp; omega) (fun g hg => by simp [Value.ownBlock] at hg; omega)
      have hz2' := hw2.size
      have HO1 : Hid (w2.ownsRow w.heap.size 9 1 v1 zs.length (zs.map Value.string)) := Lib.hid (by rw [HL.out]; exact hown1)
      clear hown1 hgrow1
      go_wp2_with fail
      refine (join_own w.heap.size v1 zs (mkB (joinL zs)) _ HO1.out (by have := HU.out; omega) rfl).mono ?_
      rintro e w3 ⟨rfl, hw3⟩
      obtain ⟨s1, hs1⟩ : ∃ s1, mkB (joinL zs) = s1 := ⟨_, rfl⟩
      rw [hs1]
      have hsz1 : s1.size = (joinL zs).length := by rw [← hs1, mkB_size]
      have hsz2 : s1.size ≤ 700000 := by have := HU.out; omega
      have hsp : splitI s1 = (zs, 0) := by rw [← hs1]; exact split_whole zs (fun t ht => by have := HM.out t ht; omega)
      have HS1 := Lib.hid hs1; have HSZ := Lib.hid hsz1; have HSP := Lib.hid hsp
      clear hs1 hsz1 hsp
      go_wp2_with fail
      refine (split_any s1 _ (by omega)).mono ?_
      rintro e w4 ⟨v2, he, hown2, hw4⟩
      rw [HSP.out] at he hown2
      subst he
      have hall : Below w.heap.size w w4 := bel_trans (bel_trans hw2 hw3) hw4
      have hz4 := hall.size
      obtain ⟨a2, cap2, rfl⟩ : ∃ a2 cap2, v2 = .slice a2 zs.length cap2 := by
        rcases hown2.2 with ⟨hv, h0⟩ | ⟨g, cap, cur, hv, _⟩
        · exact ⟨none, 0, by rw [hv, h0]⟩
        · exact ⟨_, _, hv⟩
      have HO2 := Lib.hid hown2
      have HA := Lib.hid hall
      clear hown2 hw2 hw3 hw4 hall
      rw [HL.out]
      go_wp2_with fail
      go_loopw [10] (fun i wr => EqSlot k w4 i wr) (fun i _ => k - (intOf i).toNat)
      case atStart => exact ⟨0, Nat.zero_le _, rfl, Below.refl _ _⟩
      case round =>
        obtain ⟨j, hj, rfl, hB⟩ := hrel
        have HB := Lib.hid hB
        clear hB
        by_cases hjk : j < k
        · have hjl : j < zs.length := by rw [HL.out]; exact hjk
          obtain ⟨s, hs⟩ : ∃ s, zs.getD j ByteArray.empty = s := ⟨_, rfl⟩
          have hs' : zs[j] = s := by rw [← hs]; simp [List.getD, List.getElem?_eq_getElem hjl]
          have hcl : wr.cell? (x.add j) = some (.string s) := by
            rw [HB.out.cell (p := x.add j) (Nat.lt_of_lt_of_le (HBK.out j hjk) hz4), HA.out.cell (p := x.add j) (HBK.out j hjk), HC.out j hjk, hs]
          obtain ⟨g2, rfl⟩ : ∃ g2, a2 = some ⟨g2, 0, none⟩ := by
            rcases HO2.out.2 with ⟨_, h0⟩ | ⟨g, cap', cur, hv, _⟩
            · omega
            · injection hv with h1 _ _; exact ⟨g, h1⟩
          have hg2 : wr.cell? ⟨g2, j, none⟩ = some (.string s) := by
            have h1 := HO2.out.cells (g := g2) rfl j (.string s) (by rw [List.getElem?_map, List.getElem?_eq_getElem hjl, hs']; rfl)
            rw [addr_add] at h1
            have h2 : g2 < w4.heap.size := by
              rcases HO2.out.2 with ⟨hv, _⟩ | ⟨g, cap', cur, hv, _, hg, _⟩
              · cases hv
              · injection hv with h1 _ _; injection h1 with h1; injection h1 with h1 _ _; subst h1; exact lt_of_some hg
            rw [HB.out.cell (p := ⟨g2, j, none⟩) h2, h1]
          clear hs hs'
          go_wp2_with fail
          go_quiet (fail)
          go_wp2_with fail
          have hst : Hid (EqSlot k w4 (.int .i64 ((j + 1 : Nat) : Int)) (wr.drewN nq)) := Lib.hid ⟨j + 1, by omega, rfl, below_drewN HB.out nq⟩
          refine ⟨by simpa using hst.out, by simp [intOf]; omega⟩
        · obtain rfl : j = k := by omega
          clear hjk hj
          obtain ⟨c, hcut, hcs⟩ := cut_any cut s1.size hsz2
          have hw5 := HB.out.size
          go_wp2_with fail
          go_loopw [11, 12] (fun a n w' => CutSlot zs j c w4 a n w') (fun _ n _ => j - (intOf n).toNat)
          case atStart => exact ⟨0, Nat.zero_le _, rfl, rfl, .inl rfl, HB.out, hw5⟩
          case round =>
            obtain ⟨i, hij, rfl, rfl, h0, hB6, hz6⟩ := hrel
            have HB6 := Lib.hid hB6; have H0 := Lib.hid h0
            clear hB6 h0
            have hof : offs zs i ≤ s1.size := by rw [HSZ.out]; exact offs_le zs i
            by_cases hgo : i < j ∧ offs zs i < c
            · obtain ⟨hi1, hi2⟩ := hgo
              have hi3 : (i : Int) < (j : Int) := by omega
              have hi4 : ((offs zs i : Nat) : Int) < (c : Int) := by omega
              have hjl : i < zs.length := by rw [HL.out]; exact hi1
              obtain ⟨s, hs⟩ : ∃ s, zs.getD i ByteArray.empty = s := ⟨_, rfl⟩
              have hs' : zs[i] = s := by rw [← hs]; simp [List.getD, List.getElem?_eq_getElem hjl]
              have hsz3 : s.size ≤ 3000 := by rw [← hs']; exact HM.out _ (List.getElem_mem hjl)
              have hcl : wr.cell? (x.add i) = some (.string s) := by
                rw [HB6.out.cell (p := x.add i) (Nat.lt_of_lt_of_le (HBK.out i hi1) hz4), HA.out.cell (p := x.add i) (HBK.out i hi1), HC.out i hi1, hs]
              have hon : Hid (offs zs (i + 1) = offs zs i + (encL s).length) := Lib.hid (by rw [offs_succ zs i hjl, hs'])
              have hon2 : offs zs (i + 1) ≤ s1.size := by rw [HSZ.out]; exact offs_le zs (i + 1)
              obtain ⟨p, hp⟩ : ∃ p, mkB (joinL [s]) = p := ⟨_, rfl⟩
              have hpz : p.size = (encL s).length := by rw [← hp, mkB_size]; simp [joinL]
              have HPZ := Lib.hid hpz; have HP := Lib.hid hp
              have hpl : p.size ≤ 700000 := by rw [hpz]; have := hon.out; omega
              clear hs hs' hp hpz
              go_wp2_with fail
              refine (join_one s p wr (by omega) HP.out).mono ?_
              rintro e w6 ⟨rfl, hw6⟩
              have hst : Hid (CutSlot zs j c w4 (.int .i64 ((offs zs i : Nat) + (p.size : Nat) : Int)) (.int .i64 ((i : Int) + 1)) w6) := Lib.hid ⟨i + 1, by omega, by go_num, by rw [hon.out, HPZ.out]; go_num, .inr (by simpa using hi2), HB6.out.trans (hw6.mono hz6), by have := hw6.size; omega⟩
              clear hw6
              go_wp2_with fail
              exact ⟨by simpa using hst.out, by simp [intOf]; omega⟩
            · have hx : i = j ∨ c ≤ offs zs i := by omega
              have hcs2 : c ≤ (joinL zs).length := by rw [← HSZ.out]; exact hcs
              have hfin := cut_split zs c i (fun t ht => by have := HM.out t ht; omega) hcs2 (by rw [HL.out]; exact hij) H0.out (by rw [HL.out]; exact hx)
              have hex : s1.extract 0 c = mkB ((joinL zs).take c) := by rw [← HS1.out]; apply ba_ext; rw [ext_list, mkB_data, mkB_data]; simp
              rw [← hex] at hfin
              have hc3 : (c : Int) ≤ (s1.size : Int) := by omega
              obtain ⟨q, hq⟩ : ∃ q, s1.extract 0 c = q := ⟨_, rfl⟩
              rw [hq] at hfin
              have hsl : ∀ W, (Instr.slice 9 (.string s1) none (some (.int .i64 c)) none).run Try.prog W = .ok (.string q) W := fun W => by rw [← hq]; exact run_slice_string_h W _ s1 Try.underlying9 .i64 c (by omega) (by omega)
              have hqz : q.size ≤ 700000 := by rw [← hq, ByteArray.size_extract]; omega
              have hlen : (zs.take i).length = i := by rw [List.length_take, HL.out]; omega
              have HN := Lib.hid hlen
              have HX := Lib.hid hx
              clear hx hcs2 hex hq hlen
              rcases hfin with ⟨he, hsp⟩ | ⟨he, hsp⟩
              · have hne : (((offs zs i : Nat) : Int) != (c : Int)) = false := by rw [he]; simp
                have HSQ := Lib.hid hsp
                have hge : (c : Int) ≤ ((offs zs i : Nat) : Int) := by omega
                clear he hsp hgo
                by_cases hij2 : i < j
                all_goals
                  go_wp2_with fail
                  refine (split_any q _ (by omega)).mono ?_
                  rintro e w7 ⟨v3, he3, hown3, hw7⟩
                  rw [HSQ.out] at he3 hown3
                  subst he3
                  obtain ⟨a3, cap3, rfl⟩ : ∃ a3 cap3, v3 = .slice a3 i cap3 := by
                    rcases hown3.2 with ⟨hv, h0⟩ | ⟨g, cap', cur, hv, _⟩
                    · have h0' : (zs.take i).length = 0 := h0
                      have hn := HN.out
                      exact ⟨none, 0, by rw [hv, show i = 0 by omega]⟩
                    · exact ⟨_, _, by rw [hv, HN.out]⟩
                  clear hown3
                  go_wp2_with fail
                  go_ret
                  exact ⟨by simp, HA.out.trans ((HB6.out.trans (hw7.mono hz6)).mono hz4)⟩
              · have hne : (((offs zs i : Nat) : Int) != (c : Int)) = true := by rw [bne_iff_ne]; omega
                have HSQ := Lib.hid hsp
                clear he hsp
                have hdone : i = j ∨ (c : Int) ≤ ((offs zs i : Nat) : Int) := by have := HX.out; omega
                have HD := Lib.hid hdone
                clear hdone hgo
                by_cases hij2 : i < j
                · have hge : (c : Int) ≤ ((offs zs i : Nat) : Int) := by have := HD.out; omega
                  go_wp2_with fail
                  refine (split_any q _ (by omega)).mono ?_
                  rintro e w7 ⟨v3, he3, hown3, hw7⟩
                  rw [HSQ.out] at he3 hown3
                  subst he3
                  obtain ⟨a3, cap3, rfl⟩ : ∃ a3 cap3, v3 = .slice a3 0 cap3 := by
                    rcases hown3.2 with ⟨hv, h0⟩ | ⟨g, cap', cur, hv, _⟩
                    · exact ⟨_, _, hv⟩
                    · exact ⟨_, _, hv⟩
                  clear hown3
                  go_wp2_with fail
                  go_ret
                  exact ⟨by simp, HA.out.trans ((HB6.out.trans (hw7.mono hz6)).mono hz4)⟩
                · go_wp2_with fail
                  refine (split_any q _ (by omega)).mono ?_
                  rintro e w7 ⟨v3, he3, hown3, hw7⟩
                  rw [HSQ.out] at he3 hown3
                  subst he3
                  obtain ⟨a3, cap3, rfl⟩ : ∃ a3 cap3, v3 = .slice a3 0 cap3 := by
                    rcases hown3.2 with ⟨hv, h0⟩ | ⟨g, cap', cur, hv, _⟩
                    · exact ⟨_, _, hv⟩
                    · exact ⟨_, _, hv⟩
                  clear hown3
                  go_wp2_with fail
                  go_ret
                  exact ⟨by simp, HA.out.trans ((HB6.out.trans (hw7.mono hz6)).mono hz4)⟩

set_option maxHeartbeats 2000000 in
set_option maxRecDepth 100000 in
theorem splits_none (cut : Int) (w : World) (_c0 : -9223372036854775808 ≤ cut) (_c1 : cut ≤ 9223372036854775807) :
    Calls Try.prog 6 #[.slice none 0 0, .int .i64 cut] w fun e w' => e = .returned (.bool true) ∧ Below w.heap.size w w' := by
  go_enter Try.func6, Try.ntmps6
  go_wp2_with fail
  refine (speaks_any _).mono ?_
  rintro e w1 ⟨rfl, hw1⟩
  have hz1 := hw1.size
  go_wp2_with fail
  refine wp_loop_rounds 1 ?_
  rw [rounds_succ]
  go_wp2_with fail
  have hown0 : (w1.alloc (.cells #[] 9)).ownsRow w.heap.size 9 1 (.slice (some ⟨w1.heap.size, 0, none⟩) 0 0) 0 [] := by
    refine ⟨rfl, .inr ⟨w1.heap.size, 0, #[], rfl, hz1, ?_, Nat.le_refl _, Nat.zero_le _, rfl, rfl⟩⟩
    show (w1.heap.push _)[w1.heap.size]? = _
    simp
  obtain ⟨s1, hs1⟩ : ∃ s1, mkB (joinL []) = s1 := ⟨_, rfl⟩
  have hz : s1.size = 0 := by rw [← hs1]; rfl
  have hsp : splitI s1 = ([], 0) := by rw [← hs1]; rfl
  have HS1 := Lib.hid hs1; have HSP := Lib.hid hsp; have HO := Lib.hid hown0; have HZ := Lib.hid hz
  have hzz : s1.size ≤ 700000 := by omega
  clear hs1 hsp hown0 hz
  refine (join_own w.heap.size _ [] s1 _ HO.out (by decide) HS1.out).mono ?_
  rintro e w3 ⟨rfl, hw3⟩
  go_wp2_with fail
  refine (split_any s1 _ (by omega)).mono ?_
  rintro e w4 ⟨v2, he, hown2, hw4⟩
  rw [HSP.out] at he hown2
  subst he
  have hall : Below w.heap.size w w4 := bel_trans (bel_trans (bel_trans hw1 (bel_alloc (bel_refl _) _)) hw3) hw4
  have HA := Lib.hid hall
  obtain ⟨a2, cap2, rfl⟩ : ∃ a2 cap2, v2 = .slice a2 0 cap2 := by
    rcases hown2.2 with ⟨hv, h0⟩ | ⟨g, cap, cur, hv, _⟩
    · exact ⟨_, _, hv⟩
    · exact ⟨_, _, hv⟩
  clear hown2 hw3 hw4 hall
  obtain ⟨c, hcut, hcs⟩ := cut_any cut s1.size hzz
  obtain rfl : c = 0 := by have := HZ.out; omega
  have hex : s1.extract 0 0 = s1 := by apply ba_ext; rw [ext_list]; have : s1.data.toList = [] := List.eq_nil_of_length_eq_zero (by simpa using HZ.out); rw [this]; rfl
  have hsl : ∀ W, (Instr.slice 9 (.string s1) none (some (.int .i64 0)) none).run Try.prog W = .ok (.string s1) W := fun W => by
    have := run_slice_string_h (P := Try.prog) W _ s1 Try.underlying9 .i64 0 (by omega) (by omega)
    rw [this]; show Result.ok (Value.string (s1.extract 0 0)) W = _; rw [hex]
  clear hex hcs
  go_wp2_with fail
  refine wp_loop_rounds 1 ?_
  rw [rounds_succ]
  go_wp2_with fail
  refine wp_loop_rounds 1 ?_
  rw [rounds_succ]
  go_wp2_with fail
  refine (split_any s1 _ (by omega)).mono ?_
  rintro e w7 ⟨v3, he3, hown3, hw7⟩
  rw [HSP.out] at he3 hown3
  subst he3
  obtain ⟨a3, cap3, rfl⟩ : ∃ a3 cap3, v3 = .slice a3 0 cap3 := by
    rcases hown3.2 with ⟨hv, h0⟩ | ⟨g, cap', cur, hv, _⟩
    · exact ⟨_, _, hv⟩
    · exact ⟨_, _, hv⟩
  clear hown3
  go_wp2_with fail
  go_ret
  exact ⟨by simp, bel_trans HA.out hw7⟩

theorem splits_any (a : Option Addr) (len cap : Nat) (cut : Int) (zs : List ByteArray) (w : World) (h : IsStrs w a len cap zs) (wc : (Lit.int .i64 cut).wf = true) :
    Calls Try.prog 6 #[.slice a len cap, .int .i64 cut] w fun e w' => e = .returned (.bool true) ∧ Below w.heap.size w w' := by
  have hc : -9223372036854775808 ≤ cut ∧ cut ≤ 9223372036854775807 := by
    have h2 := wc
    simp only [Lit.wf, IntKind.min, IntKind.max, IntKind.signed, IntKind.bits] at h2
    simp at h2
    omega
  rcases h with ⟨rfl, rfl, rfl, rfl⟩ | ⟨x, rfl, hl, hm, hcell⟩
  · exact splits_none cut w hc.1 hc.2
  · exact splits_some x len cap cut zs w hl hm hcell hc.1 hc.2
end Go.Proofs.Ytljlbgfggmkngaa
