/- Merges: a list with too many lines: the law. -/
import Derived.Test.YtlfjlkmikmajaaaRm
import Derived.Test.YtlfjlkmikmajaaaRc
import Derived.Test.YtlfjlkmikmajaaaPy
import Derived.Laws.MakeOwn
import Derived.Deep.AppendLies
namespace Go.Proofs.Ytlfjlkmikmajaaa
open Go.RowKit
variable {w w' : World}

def MnS (w : World) (n : Nat) (v i : Value) (wr : World) : Prop :=
  ∃ k : Nat, k ≤ n ∧ i = .int .i64 k ∧ wr.ownsRow w.heap.size 5 1 v (6 * k) (Lib.byteCells (showM (manyL k))) ∧ Below w.heap.size w wr
theorem i64_and15 (n : Int) : bits .and .i64 n 15 = n % 16 := by
  have h15 : (BitVec.ofInt 64 15).toNat = 2 ^ 4 - 1 := by decide
  have key : (BitVec.ofInt 64 n &&& BitVec.ofInt 64 15).toNat = (n % ((2 ^ 64 : Nat) : Int)).toNat % 2 ^ 4 := by
    rw [BitVec.toNat_and, BitVec.toNat_ofInt, h15, Nat.and_two_pow_sub_one_eq_mod]
  show IntKind.i64.wrap ((BitVec.ofInt 64 n &&& BitVec.ofInt 64 15).toNat : Nat) = n % 16
  rw [key, IntKind.wrap_i64]
  omega
theorem many_n (x : Int) : ∃ n : Nat, wrap64 (4090 + bits BinOp.and IntKind.i64 x 15) = (n : Int) ∧ 4090 ≤ n ∧ n ≤ 4105 := by
  rw [i64_and15, IntWalk.wrap64_in (4090 + x % 16) (by omega)]
  exact ⟨(4090 + x % 16).toNat, by omega, by omega, by omega⟩
theorem mem6 {a b : Int} : ∀ u ∈ [Value.int .u8 97, .int .u8 a, .int .u8 b, .int .u8 32, .int .u8 98, .int .u8 10], u.oneCell' = true := by
  intro u hu
  simp only [List.mem_cons, List.not_mem_nil, or_false] at hu
  rcases hu with rfl | rfl | rfl | rfl | rfl | rfl <;> rfl
theorem own_bytes {B n : Nat} {v : Value} {L : List UInt8} (h : w.ownsRow B 5 1 v n (Lib.byteCells L)) (hL : L.length = n) (h0 : 0 < n) :
    ∃ g cap, v = .slice (some ⟨g, 0, none⟩) n cap ∧ ∀ W : World, W.heap[g]? = w.heap[g]? → (convert 35 9 (.slice (some ⟨g, 0, none⟩) n cap)).run Try.prog W = .ok (.string ⟨L.toArray⟩) W := by
  rcases h.2 with ⟨_, h1⟩ | ⟨g, cap, cur, hv, _, hg, _, _, _, ht⟩
  · omega
  · refine ⟨g, cap, hv, fun W hW => ?_⟩
    have hs : (⟨L.toArray⟩ : ByteArray) = strOfNums (L.map fun b => (b.toNat : Int)) := by
      apply ByteArray.ext
      apply Array.ext'
      show L = _
      simp [strOfNums, List.map_map]
      conv => lhs; rw [← List.map_id L]
      refine List.map_congr_left (fun b _ => ?_)
      exact UInt8.toNat_inj.1 (by simp)
    rw [hs]
    refine run_convert_bytes_arg (P := Try.prog) _ 35 5 Try.underlying35 Try.underlying5 g 0 n cap (L.map fun b => (b.toNat : Int)) (by simp [hL]) (fun i hi => ?_) 9 Try.underlying9
    rw [cell_of_row (hW.trans hg)]
    have h3 : (Lib.byteCells L)[i]? = some (.int .u8 ((L[i]'(by omega)).toNat : Int)) := by
      unfold Lib.byteCells
      rw [List.getElem?_map, List.getElem?_eq_getElem (by omega)]; rfl
    rw [← ht, List.getElem?_take, if_pos (by omega), Array.getElem?_toList] at h3
    rw [Nat.zero_add, h3]
    congr 3
    rw [List.getD_eq_getElem?_getD, List.getElem?_map, List.getElem?_eq_getElem (by omega)]
    rfl
theorem line_cells (k : Nat) (hk : k < 4200) : Lib.byteCells (lineI k) = [.int .u8 97, .int .u8 (33 + (k : Int) % 90), .int .u8 (33 + (k : Int) / 90), .int .u8 32, .int .u8 98, .int .u8 10] := by
  have h1 := toN (33 + k % 90) (by omega)
  have h2 := toN (33 + k / 90) (by omega)
  unfold lineI Lib.byteCells
  simp only [List.map_cons, List.map_nil]
  rw [h1, h2]
  have e1 : ((33 + k % 90 : Nat) : Int) = 33 + (k : Int) % 90 := by omega
  have e2 : ((33 + k / 90 : Nat) : Int) = 33 + (k : Int) / 90 := by omega
  rw [e1, e2]
  rfl
set_option maxHeartbeats 2000000 in
set_option maxRecDepth 100000 in
theorem LMany_any (x : Int) (wrong : Bool) (w : World) (hx : (Lit.int .i64 x).wf = true) :
    Calls Try.prog 4 #[.int .i64 x, .bool wrong] w fun e w' => e = .returned (.bool true) ∧ Below w.heap.size w w' := by
  obtain ⟨i1, hi1, hz0, hz1, hz2⟩ := info_parts byteInfo
  have HI1 := Lib.hid hi1; have HZ0 := Lib.hid hz0; have HZ1 := Lib.hid hz1; have HZ2 := Lib.hid hz2
  go_enter Try.func4, Try.ntmps4
  go_wp2_with (go_at_call 10; refine (speaks_any w).mono ?_)
  first | rintro e w1 ⟨rfl, hb1⟩ | rintro e w1 rfl hb1
  have HB1 := Lib.hid hb1
  have hmk : (Instr.makeSlice 35 (.int .i64 0) (.int .i64 30000)).run Try.prog w1 = .ok (.slice (some ⟨w1.heap.size, 0, none⟩) 0 30000) (w1.alloc (.cells (madeCells #[.int .u8 0] 30000) 5)) := by
    have := run_make (P := Try.prog) w1 35 5 i1 (.int .u8 0) Try.underlying35 hi1 hz0 .i64 .i64 0 30000 (by omega) (by omega) (by rw [hz2]; omega) (by omega)
    rw [hz1] at this
    exact this
  clear hb1 hi1 hz0 hz1 hz2
  obtain ⟨n, hn, hn1, hn2⟩ := many_n x
  obtain ⟨Z, hZ⟩ : ∃ Z, madeCells #[.int .u8 0] 30000 = Z := ⟨_, rfl⟩
  rw [hZ] at hmk
  have hZs : Z.size = 30000 * 1 := by rw [← hZ]; simp [madeCells]
  have H0 : Hid ((w1.alloc (.cells Z 5)).ownsRow w1.heap.size 5 1 (.slice (some ⟨w1.heap.size, 0, none⟩) 0 30000) 0 []) := Lib.hid (World.ownsRow_made w1 Z 30000 (Nat.le_refl _) (by unfold maxLen; omega) hZs)
  have HBA := Lib.hid ((Below.refl w1.heap.size w1).alloc (Nat.le_refl _) (.cells Z 5))
  clear hZ hZs
  go_wp2_with fail
  try simp only [hn]
  go_loopw [5, 6] (fun v i wr => MnS w1 n v i wr) (fun _ i _ => n - (intOf i).toNat)
  case atStart => exact ⟨0, Nat.zero_le _, rfl, H0.out, HBA.out⟩
  case round =>
    obtain ⟨k, hk, rfl, hrow, hb⟩ := hrel
    have HROW := Lib.hid hrow; have HB := Lib.hid hb
    clear hrow hb H0 HBA hmk
    by_cases hlt : k < n
    · have hki : (k : Int) < n := by omega
      have hk5 : (k : Int) ≤ 4105 := by omega
      have HLC := Lib.hid (line_cells k (by omega))
      have HSH : Hid (Lib.byteCells (showM (manyL (k + 1))) = Lib.byteCells (showM (manyL k)) ++ Lib.byteCells (lineI k)) := Lib.hid (by rw [show_manyS, byteCells_app])
      go_wp2_with (at_builtin; refine wpList_append_own _ rfl _ _ 35 rfl w1.heap.size 5 i1 (.int .u8 0) 1 1 Try.underlying35 HI1.out HZ0.out HZ1.out HZ2.out rfl (by decide) _ _ _ rfl (HROW.out.alloc _) ⟨wr.heap.size, 0, none⟩ 6 6 [.int .u8 97, .int .u8 (33 + (k : Int) % 90), .int .u8 (33 + (k : Int) / 90), .int .u8 32, .int .u8 98, .int .u8 10] rfl rfl (World.news_of_block (World.alloc_heap_new _ _)) mem6 (by unfold maxLen; omega) (by omega) (by have := HB.out.size; simp; omega) ?_; intro v' w2 hown hgrow _)
      have HEND : Hid (MnS w1 n v' (.int .i64 ((k : Int) + 1)) w2) := Lib.hid ⟨k + 1, by omega, by rw [Int.natCast_succ], by rw [HSH.out, HLC.out]; exact hown, (HB.out.alloc HB.out.size _).grown hgrow (by have := HB.out.size; simp; omega) (own_base HROW.out)⟩
      clear hown hgrow
      go_wp2_with fail
      go_roundw
      case rel => first | exact HEND.out | ((repeat (apply Exists.intro)); exact ⟨HEND.out, rfl⟩)
      case measure => simp [intOf]; omega
    · have hkn : k = n := by omega
      subst hkn
      cases wrong with
      | false =>
        obtain ⟨g, cap, hv, hcv⟩ := own_bytes HROW.out (show_many_len k) (by omega)
        subst hv
        obtain ⟨T, hT⟩ : ∃ T : ByteArray, (⟨(showM (manyL k)).toArray⟩ : ByteArray) = T := ⟨_, rfl⟩
        have hcv1 := hcv wr rfl
        rw [hT] at hcv1
        have hTd : T.data.toList = manyT k false := by rw [← hT]; unfold manyT; simp
        have hTs : T.size ≤ 30000 := by rw [← size_len, hTd]; unfold manyT; rw [List.length_append, show_many_len]; simp; omega
        have hPT := many_parse (by omega) hTd
        clear hcv hT
        by_cases hbig : 4096 < k
        · have hres : parseM T = ([], 4097, 6) := by rw [hPT]; unfold manyR; rw [if_pos (.inl hbig)]
          have HP : Hid (Calls Try.prog 11 #[.string T] wr fun e w' => ∃ v, e = .returned (.tuple #[v, .int .i64 (4097), .int .i64 6]) ∧ w'.ownsRow wr.heap.size 32 2 v 0 (flatP ([])) ∧ Below wr.heap.size wr w') := Lib.hid (by have := Parse_any T wr (by unfold maxLen; omega); rw [hres] at this; exact this)
          clear hres hPT
          have hbi : (4096 : Int) < k := by omega
          go_wp2_with (go_at_call 11; refine HP.out.mono ?_)
          first | rintro e w3 v3 rfl ho hb3 | rintro e w3 ⟨v3, rfl, ho, hb3⟩
          have HB3 := Lib.hid (HB.out.trans (hb3.mono HB.out.size))
          obtain ⟨o3, c3, rfl⟩ : ∃ o3 c3, v3 = .slice o3 0 c3 := by
            rcases ho.2 with ⟨h1, h2⟩ | ⟨g, c, cur, h1, _⟩
            · exact ⟨none, 0, by rw [h1, h2]⟩
            · exact ⟨_, c, h1⟩
          clear ho hb3 HP
          go_wp2_with fail
          go_ret
          exact ⟨ret_bool (by first | rfl | (simp; done) | (simp; omega)), HB1.out.trans (HB3.out.mono HB1.out.size)⟩
        · have hres : parseM T = (manyL k, 0, 0) := by rw [hPT]; unfold manyR; rw [if_neg (by simp; omega)]; rfl
          have HP : Hid (Calls Try.prog 11 #[.string T] wr fun e w' => ∃ v, e = .returned (.tuple #[v, .int .i64 (0), .int .i64 0]) ∧ w'.ownsRow wr.heap.size 32 2 v k (flatP (manyL k)) ∧ Below wr.heap.size wr w') := Lib.hid (by have := Parse_any T wr (by unfold maxLen; omega); rw [hres] at this; rw [manyL_len] at this; exact this)
          clear hres hPT
          have hbi : ¬ (4096 : Int) < k := by omega
          go_wp2_with (go_at_call 11; refine HP.out.mono ?_)
          first | rintro e w3 v3 rfl ho hb3 | rintro e w3 ⟨v3, rfl, ho, hb3⟩
          have HB3 := Lib.hid (HB.out.trans (hb3.mono HB.out.size))
          obtain ⟨o3, c3, rfl⟩ : ∃ o3 c3, v3 = .slice o3 k c3 := by
            rcases ho.2 with ⟨h1, h2⟩ | ⟨g, c, cur, h1, _⟩
            · exact ⟨none, 0, by rw [h1, h2]⟩
            · exact ⟨_, c, h1⟩
          clear ho hb3 HP
          go_wp2_with fail
          go_ret
          exact ⟨ret_bool (by first | rfl | (simp; done) | (simp; omega)), HB1.out.trans (HB3.out.mono HB1.out.size)⟩
      | true =>
        have HAP : Hid (Lib.byteCells (showM (manyL k)) ++ Lib.strCells ⟨#[120, 10]⟩ = Lib.byteCells (manyT k true)) := Lib.hid (by rw [strCells_eq, ← byteCells_app]; rfl)
        go_wp2_with (at_builtin; refine Lib.wpList_append_own_string _ rfl _ _ 35 9 rfl w1.heap.size 5 i1 Try.underlying35 Try.underlying9 HI1.out HZ0.out HZ1.out HZ2.out _ _ _ rfl HROW.out ⟨#[120, 10]⟩ rfl (by show 6 * k + 2 ≤ _; unfold maxLen; omega) (by show 6 * k + 2 ≤ _; omega) HB.out.size ?_; intro v' w2 hown hgrow _; rw [HAP.out] at hown; have HB2 := Lib.hid (HB.out.grown hgrow HB.out.size (own_base HROW.out)); obtain ⟨g, cap, hv, hcv⟩ := own_bytes hown (by unfold manyT; rw [List.length_append, show_many_len]; rfl) (by show 0 < 6 * k + 2; omega); subst hv; obtain ⟨T, hT⟩ : ∃ T : ByteArray, (⟨(manyT k true).toArray⟩ : ByteArray) = T := ⟨_, rfl⟩; have hcv1 : (convert 35 9 (.slice (some ⟨g, 0, none⟩) (6 * k + 2) cap)).run Try.prog w2 = .ok (.string ⟨(manyT k true).toArray⟩) w2 := hcv w2 rfl; rw [hT] at hcv1; have hTd : T.data.toList = manyT k true := (by rw [← hT]); have hTs : T.size ≤ 30000 := (by rw [← size_len, hTd]; unfold manyT; rw [List.length_append, show_many_len]; simp; omega); have hPT := many_parse (by omega) hTd; clear hcv hT hown hgrow)
        by_cases hbig : 4096 < k
        · have hres : parseM T = ([], 4097, 6) := by rw [hPT]; unfold manyR; rw [if_pos (.inl hbig)]
          have HP : Hid (Calls Try.prog 11 #[.string T] w2 fun e w' => ∃ v, e = .returned (.tuple #[v, .int .i64 (4097), .int .i64 6]) ∧ w'.ownsRow w2.heap.size 32 2 v 0 (flatP ([])) ∧ Below w2.heap.size w2 w') := Lib.hid (by have := Parse_any T w2 (by unfold maxLen; omega); rw [hres] at this; exact this)
          clear hres hPT
          have hbi : (4096 : Int) < k := by omega
          go_wp2_with (go_at_call 11; refine HP.out.mono ?_)
          first | rintro e w3 v3 rfl ho hb3 | rintro e w3 ⟨v3, rfl, ho, hb3⟩
          have HB3 := Lib.hid (HB2.out.trans (hb3.mono HB2.out.size))
          obtain ⟨o3, c3, rfl⟩ : ∃ o3 c3, v3 = .slice o3 0 c3 := by
            rcases ho.2 with ⟨h1, h2⟩ | ⟨g, c, cur, h1, _⟩
            · exact ⟨none, 0, by rw [h1, h2]⟩
            · exact ⟨_, c, h1⟩
          clear ho hb3 HP
          go_wp2_with fail
          go_ret
          exact ⟨ret_bool (by first | rfl | (simp; done) | (simp; omega)), HB1.out.trans (HB3.out.mono HB1.out.size)⟩
        · by_cases heq : k = 4096
          · have hres : parseM T = ([], 4097, 6) := by rw [hPT]; unfold manyR; rw [if_pos (.inr ⟨rfl, heq⟩)]
            have HP : Hid (Calls Try.prog 11 #[.string T] w2 fun e w' => ∃ v, e = .returned (.tuple #[v, .int .i64 (4097), .int .i64 6]) ∧ w'.ownsRow w2.heap.size 32 2 v 0 (flatP ([])) ∧ Below w2.heap.size w2 w') := Lib.hid (by have := Parse_any T w2 (by unfold maxLen; omega); rw [hres] at this; exact this)
            clear hres hPT
            subst heq
            go_wp2_with (go_at_call 11; refine HP.out.mono ?_)
            first | rintro e w3 v3 rfl ho hb3 | rintro e w3 ⟨v3, rfl, ho, hb3⟩
            have HB3 := Lib.hid (HB2.out.trans (hb3.mono HB2.out.size))
            obtain ⟨o3, c3, rfl⟩ : ∃ o3 c3, v3 = .slice o3 0 c3 := by
              rcases ho.2 with ⟨h1, h2⟩ | ⟨g, c, cur, h1, _⟩
              · exact ⟨none, 0, by rw [h1, h2]⟩
              · exact ⟨_, c, h1⟩
            clear ho hb3 HP
            go_wp2_with fail
            go_ret
            exact ⟨ret_bool (by first | rfl | (simp; done) | (simp; omega)), HB1.out.trans (HB3.out.mono HB1.out.size)⟩
          · have hres : parseM T = ([], (k : Int) + 1, 2) := by rw [hPT]; unfold manyR; rw [if_neg (by simp; omega), if_pos rfl]
            have HP : Hid (Calls Try.prog 11 #[.string T] w2 fun e w' => ∃ v, e = .returned (.tuple #[v, .int .i64 ((k : Int) + 1), .int .i64 2]) ∧ w'.ownsRow w2.heap.size 32 2 v 0 (flatP ([])) ∧ Below w2.heap.size w2 w') := Lib.hid (by have := Parse_any T w2 (by unfold maxLen; omega); rw [hres] at this; exact this)
            clear hres hPT
            have hbi : ¬ (4096 : Int) < k := by omega
            have heq2 : ¬ (k : Int) = 4096 := by omega
            go_wp2_with (go_at_call 11; refine HP.out.mono ?_)
            first | rintro e w3 v3 rfl ho hb3 | rintro e w3 ⟨v3, rfl, ho, hb3⟩
            have HB3 := Lib.hid (HB2.out.trans (hb3.mono HB2.out.size))
            obtain ⟨o3, c3, rfl⟩ : ∃ o3 c3, v3 = .slice o3 0 c3 := by
              rcases ho.2 with ⟨h1, h2⟩ | ⟨g, c, cur, h1, _⟩
              · exact ⟨none, 0, by rw [h1, h2]⟩
              · exact ⟨_, c, h1⟩
            clear ho hb3 HP
            go_wp2_with fail
            all_goals try (exfalso; rename_i hx; rcases hx with hx | hx <;> first | omega | (rw [beq_iff_eq] at hx; omega))
            all_goals try (exfalso; rename_i hx; simp at hx; omega)
            go_ret
            exact ⟨ret_bool (by first | rfl | (simp; done) | (simp; omega)), HB1.out.trans (HB3.out.mono HB1.out.size)⟩
end Go.Proofs.Ytlfjlkmikmajaaa
