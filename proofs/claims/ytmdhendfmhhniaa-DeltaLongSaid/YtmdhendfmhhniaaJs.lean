/- Deltas: DeltaLong. -/
import Derived.Test.YtmdhendfmhhniaaJq
import Derived.Laws.BytesString
namespace Go.Proofs.Ytmdhendfmhhniaa
open Go.RowKit
variable {w w' : World}

theorem fold_zero : ∀ (c : Nat) (l : List UInt8), (List.replicate c (0 : Int)).foldl (fun r n => r.push (UInt8.ofNat n.toNat)) (⟨l.toArray⟩ : ByteArray) = ⟨(l ++ List.replicate c (0 : UInt8)).toArray⟩
  | 0, l => by simp
  | c + 1, l => by
    rw [List.replicate_succ, List.foldl_cons]
    have e : (⟨l.toArray⟩ : ByteArray).push (UInt8.ofNat (0 : Int).toNat) = ⟨(l ++ [0]).toArray⟩ := by
      show ByteArray.mk (l.toArray.push _) = _
      simp
    rw [e, fold_zero c]
    simp [List.replicate_succ]
theorem info_u8 : (Try.prog.info? 5).map (fun i => (i.zero, i.size, i.bytes)) = some (some (.int .u8 0), 1, 1) := by kernel_rfl
theorem conv_zero (g c : Nat) (w : World) (xs : List Value) (hown : w.ownsRow 0 5 1 (.slice (some ⟨g, 0, none⟩) c c) c xs) (hx : ∀ j, j < c → xs[j]? = some (.int .u8 0)) :
    (convert 36 9 (.slice (some ⟨g, 0, none⟩) c c)).run Try.prog w = .ok (.string ⟨(List.replicate c (0 : UInt8)).toArray⟩) w := by
  rw [run_convert_bytes_string w _ _ _ _ _ _ Try.underlying36 Try.underlying5 Try.underlying9]
  have hl := run_loadCells_list (P := Try.prog) w ⟨g, 0, none⟩ ((List.replicate c (0 : Int)).map (Value.int .u8)) (fun j v hv => by
    rw [List.getElem?_map, List.getElem?_replicate] at hv
    split at hv
    · injection hv with hv; subst hv
      exact hown.cells (g := g) rfl j _ (hx j (by assumption))
    · cases hv)
  rw [List.length_map, List.length_replicate] at hl
  rw [run_bytesToString w _ _ _ (List.replicate c (0 : Int)) hl]
  have := fold_zero c []
  rw [List.nil_append] at this
  exact congrArg (fun b => Result.ok (Value.string b) w) this
theorem and_seven (x : Int) : bits .and .i64 x 7 = x % 8 := by
  have h1 : (BitVec.ofInt 64 7).toNat = 2 ^ 3 - 1 := by decide
  have key : (BitVec.ofInt 64 x &&& BitVec.ofInt 64 7).toNat = (x % ((2 ^ 64 : Nat) : Int)).toNat % 2 ^ 3 := by
    rw [BitVec.toNat_and, BitVec.toNat_ofInt, h1, Nat.and_two_pow_sub_one_eq_mod]
  show IntKind.i64.wrap ((BitVec.ofInt 64 x &&& BitVec.ofInt 64 7).toNat : Nat) = _
  rw [key, IntKind.wrap_i64]
  omega
set_option maxHeartbeats 2000000 in
set_option maxRecDepth 100000 in
theorem LLong (a : Int) (w : World) (_ : (Lit.int .i64 a).wf = true) (hm : MaxAt w) :
    Calls Try.prog 6 #[.int .i64 a] w fun e w' => e = .returned (.bool true) ∧ Below w.heap.size w w' := by

  have HS := Lib.hid (speaks_any w hm)
  have hand := and_seven a
  obtain ⟨r, hr⟩ : ∃ r, a % 8 = r := ⟨_, rfl⟩
  rw [hr] at hand
  have hr0 : 0 ≤ r := by omega
  have hr7 : r ≤ 7 := by omega
  obtain ⟨c, hc⟩ : ∃ c : Nat, 262204 + r = (c : Int) := ⟨(262204 + r).toNat, by omega⟩
  have hc1 : 262204 ≤ c := by omega
  have hc2 : c ≤ 262211 := by omega
  obtain ⟨i0, hi0, hz0, hs0, hy0⟩ := info_parts info_u8
  have hb2 : i0.bytes * c ≤ 281474976710656 := by rw [hy0]; omega
  have hb3 : c ≤ maxLen := by unfold maxLen; omega
  obtain ⟨Z, hZ⟩ : ∃ Z : ByteArray, (⟨(List.replicate c (0 : UInt8)).toArray⟩ : ByteArray) = Z := ⟨_, rfl⟩
  have hzs : Z.size = c := by rw [← hZ]; show (List.replicate c (0 : UInt8)).toArray.size = c; simp
  have HZZ := Lib.hid hZ; have HZS := Lib.hid hzs
  have HMA := Lib.hid hm
  have hci : (c : Int) ≤ 262211 := by omega
  have hc0 : 0 ≤ (c : Int) := by omega
  clear hm hr hZ hzs
  go_enter Try.func6, Try.ntmps6
  go_wp2_with (first
    | (go_at_call 8; refine HS.out.mono ?_; rintro e w1 ⟨rfl, hb1⟩; have HB1 := Lib.hid hb1; clear hb1)
    | (refine wpList_make_full _ rfl _ _ 36 rfl w1.heap.size 5 i0 _ 1 Try.underlying36 hi0 hz0 hs0 .i64 .i64 c c c rfl rfl rfl rfl hb2 hb3 (Nat.le_refl _) ?_; intro w2 hown hgrow; have hcv := conv_zero w1.heap.size c w2 _ ⟨hown.1, hown.2.imp id (fun ⟨g, cap, cur, h1, _, h2⟩ => ⟨g, cap, cur, h1, Nat.zero_le _, h2⟩)⟩ (fun j hj => by simp [madeCells, Value.cells, hj, Nat.mod_one]); rw [HZZ.out] at hcv; have HB2 : Hid (Below w.heap.size w w2) := Lib.hid (HB1.out.grown hgrow HB1.out.size (fun k hk => by cases hk)); clear hown hgrow))
  by_cases hl : 262208 < c
  · have hli : (262208 : Int) < c := by omega
    have hlb : decide ((262208 : Int) < c) = true := decide_eq_true hli
    have H1 := Lib.hid (fun W => Make_long Z ⟨#[]⟩ W (by have := HZS.out; omega) (by decide) (.inl (by have := HZS.out; omega)))
    have H2 := Lib.hid (fun W => Make_long ⟨#[]⟩ Z W (by decide) (by have := HZS.out; omega) (.inr (by have := HZS.out; omega)))
    refine (H1.out _).mono ?_
    rintro e w3 ⟨rfl, hw3⟩
    subst hw3
    go_wp2_with fail
    refine (H2.out _).mono ?_
    rintro e w4 ⟨rfl, hw4⟩
    subst hw4
    go_wp2_with fail
    go_ret
    exact ⟨rfl, HB2.out⟩
  · have hli : ¬ (262208 : Int) < c := by omega
    have hlb : decide ((262208 : Int) < c) = false := decide_eq_false hli
    have H1 := Lib.hid (fun W hW => Make_any Z ⟨#[]⟩ W (by have := HZS.out; omega) (by decide) hW)
    have H2 := Lib.hid (fun W hW => Make_any ⟨#[]⟩ Z W (by decide) (by have := HZS.out; omega) hW)
    refine (H1.out _ (HMA.out.below HB2.out)).mono ?_
    rintro e w3 ⟨D, rfl, hD, hb3'⟩
    have hD0 := ba_some D (made_pos hD)
    have HB3 := Lib.hid (HB2.out.trans (hb3'.mono HB2.out.size))
    clear hD hb3'
    go_wp2_with fail
    refine (H2.out _ (HMA.out.below HB3.out)).mono ?_
    rintro e w4 ⟨E, rfl, hE, hb4⟩
    have hE0 := ba_some E (made_pos hE)
    have HB4 := Lib.hid (HB3.out.trans (hb4.mono HB3.out.size))
    clear hE hb4
    go_wp2_with fail
    go_ret
    exact ⟨rfl, HB4.out⟩
end Go.Proofs.Ytmdhendfmhhniaa
