/- The document's disk: Full. -/
import Derived.Test.YtaionhdamdhjjaaUa
import Derived.Laws.BytesString
namespace Go.Proofs.Ytaionhdamdhjjaa
open Go.RowKit

theorem repeat_zero : ∀ c, Lib.repeatL [0] c = List.replicate c (0 : UInt8)
  | 0 => rfl
  | c + 1 => by show [0] ++ Lib.repeatL [0] c = _; rw [repeat_zero c]; rfl
theorem fold_zero : ∀ (c : Nat) (l : List UInt8), (List.replicate c (0 : Int)).foldl (fun r n => r.push (UInt8.ofNat n.toNat)) (⟨l.toArray⟩ : ByteArray) = ⟨(l ++ List.replicate c (0 : UInt8)).toArray⟩
  | 0, l => by simp
  | c + 1, l => by
    rw [List.replicate_succ, List.foldl_cons]
    have e : (⟨l.toArray⟩ : ByteArray).push (UInt8.ofNat (0 : Int).toNat) = ⟨(l ++ [0]).toArray⟩ := by
      show ByteArray.mk (l.toArray.push _) = _
      simp
    rw [e, fold_zero c]
    simp [List.replicate_succ]
theorem info_u8 : (Try.prog.info? 5).map (fun i => (i.zero, i.size, i.bytes)) = some (some (.int .u8 0), 1, 1) := by kernel_rfl
theorem conv_zero (g c : Nat) (w : World) (xs : List Value) (hown : w.ownsRow 0 5 1 (.slice (some ⟨g, 0, none⟩) c c) c xs) (hx : ∀ j, j < c → xs[j]? = some (.int .u8 0)) :
    (convert 89 9 (.slice (some ⟨g, 0, none⟩) c c)).run Try.prog w = .ok (.string ⟨(List.replicate c (0 : UInt8)).toArray⟩) w := by
  rw [run_convert_bytes_string w _ _ _ _ _ _ Try.underlying89 Try.underlying5 Try.underlying9]
  have hl := run_loadCells_list (P := Try.prog) w ⟨g, 0, none⟩ ((List.replicate c (0 : Int)).map (Value.int .u8)) (fun j v hv => by
    rw [List.getElem?_map, List.getElem?_replicate] at hv
    split at hv
    · injection hv with hv; subst hv
      exact hown.cells (g := g) rfl j _ (hx j (by assumption))
    · cases hv)
  rw [List.length_map, List.length_replicate] at hl
  rw [run_bytesToString w _ _ _ (List.replicate c (0 : Int)) hl]
  have := fold_zero c []
  rw [List.nil_append] at this
  exact congrArg (fun b => Result.ok (Value.string b) w) this
set_option maxRecDepth 100000 in
theorem Full_any (s : ByteArray) (w : World) (hs : s.size ≤ 512) :
    Calls Try.prog 25 #[.string s] w fun e w' => e = .returned (.string (padB s)) ∧ Below w.heap.size w w' := by
  obtain ⟨i0, hi0, hz0, hs0, hy0⟩ := info_parts info_u8
  by_cases h : s.size < 512
  · obtain ⟨c, hc⟩ : ∃ c, 512 - s.size = c := ⟨_, rfl⟩
    have hsi : (s.size : Int) < 512 := by omega
    have hw : IntKind.i64.wrap (512 - (s.size : Int)) = (c : Int) := by rw [IntWalk.i64_in _ (by omega)]; omega
    have hb2 : i0.bytes * c ≤ 281474976710656 := by rw [hy0]; omega
    have hb3 : c ≤ maxLen := by unfold maxLen; omega
    obtain ⟨Z, hZ⟩ : ∃ Z : ByteArray, (⟨(List.replicate c (0 : UInt8)).toArray⟩ : ByteArray) = Z := ⟨_, rfl⟩
    have hp : padB s = s ++ Z := by unfold padB; rw [hc, repeat_zero, hZ]
    have hpz : (s ++ Z).size = 512 := by rw [← hp]; exact padB_size s hs
    have hpi : ¬ ((s.size : Int) + (Z.size : Int) < 512) := by rw [ByteArray.size_append] at hpz; omega
    have hno : ¬ 9223372036854775807 < s.size + Z.size := by
      have : Z.size = c := by rw [← hZ]; show (List.replicate c (0 : UInt8)).toArray.size = c; simp
      omega
    have HP := Lib.hid hp; have HPZ := Lib.hid hpz; have HZZ := Lib.hid hZ
    clear hp hc hpz hZ
    go_enter Try.func25, Try.ntmps25
    go_wp2_with fail
    refine wp_loop_rounds 2 ?_
    rw [rounds_succ]
    go_wp2_with (refine wpList_make_full _ rfl _ _ 89 rfl w.heap.size 5 i0 _ 1 Try.underlying89 hi0 hz0 hs0 .i64 .i64 c c c rfl rfl rfl rfl hb2 hb3 (Nat.le_refl _) ?_; intro w1 hown hgrow; have hcv := conv_zero w.heap.size c w1 _ ⟨hown.1, hown.2.imp id (fun ⟨g, cap, cur, h1, _, h2⟩ => ⟨g, cap, cur, h1, Nat.zero_le _, h2⟩)⟩ (fun j hj => by simp [madeCells, Value.cells, hj, Nat.mod_one]); rw [HZZ.out] at hcv; have HG := Lib.hid hgrow; clear hown hgrow)
    rw [rounds_succ]
    go_wp2_with fail
    go_ret
    exact ⟨by rw [HP.out]; rfl, ⟨HG.out.os, HG.out.tape, HG.out.output, HG.out.size, fun k hk => HG.out.block k hk (by simp)⟩⟩
  · have hsz : s.size = 512 := by omega
    have hsi : (s.size : Int) = 512 := by omega
    have hp : padB s = s := by
      unfold padB; rw [hsz]
      show s ++ ⟨#[]⟩ = s
      exact ByteArray.append_empty
    rw [hp]
    go_enter Try.func25, Try.ntmps25
    go_wp2_with fail
    refine wp_loop_rounds 1 ?_
    rw [rounds_succ]
    go_wp2_with fail
    go_ret
    exact ⟨rfl, Below.refl _ _⟩
end Go.Proofs.Ytaionhdamdhjjaa
