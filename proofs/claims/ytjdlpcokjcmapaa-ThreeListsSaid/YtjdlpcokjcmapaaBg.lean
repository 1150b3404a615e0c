/- Three lists: slices.Grow, slices.Concat. -/
import Derived.Test.YtjdlpcokjcmapaaBf
import Derived.Lib.AppendZeros
set_option linter.unusedVariables false
set_option linter.unusedSimpArgs false
namespace Go.Proofs.Ytjdlpcokjcmapaa
open Go.RowKit Go.Maps Go.WideShapes
variable {w w' : World}

theorem info_int : Try.prog.underlying 3 = some (.int .i64) := Try.underlying3
set_option maxHeartbeats 1000000 in
set_option maxRecDepth 100000 in
theorem Grow_any (n : Nat) (w : World) (hn : n ≤ 4000000) :
    Calls Try.prog 42 #[.slice none 0 0, .int .i64 n] w fun e w' => ∃ v, e = .returned v ∧ w'.ownsRow w.heap.size 9 1 v 0 [] ∧ Below w.heap.size w w' := by
  have hn0 : ¬ ((n : Int) < 0) := by omega
  have hww : IntKind.i64.wrap (n : Int) = n := by rw [IntWalk.i64_in _ (by omega)]
  by_cases h0 : 0 < n
  · obtain ⟨i0, hi0, hz0, hs0, hy0⟩ := info_parts info_s
    have hr := Lib.run_append_nil_zeros (P := Try.prog) w 22 3 22 9 i0 _ .i64 .i64 Try.underlying22 Try.underlying3 hi0 hz0 n h0 (by omega) (by omega) (by rw [hy0]; omega)
    have hcap := grownCap_ge w n 0 9
    have hcm := grownCap_le_maxLen w n 0 9 (by unfold maxLen; omega)
    obtain ⟨cp, hcp⟩ : ∃ c, grownCap w n 0 9 = c := ⟨_, rfl⟩
    rw [hcp] at hr hcap hcm
    have HR := Lib.hid hr
    have HZ : Hid ((Builtin.zeroCells (Value.string ⟨#[]⟩).cells n ++ Builtin.zeroCells (Value.string ⟨#[]⟩).cells (cp - n)).size = cp * 1) := Lib.hid (by
      have h1 : ∀ k, (Builtin.zeroCells (Value.string ⟨#[]⟩).cells k).size = k := fun k => by
        unfold Builtin.zeroCells; simp [Value.cells]
      rw [Array.size_append, h1, h1]; omega)
    have HCM := Lib.hid hcm
    have h0i : (0 : Int) < n := by omega
    clear hr hi0 hz0 hs0 hy0 hcp hcm
    go_enter Try.func42, Try.ntmps42
    go_wp2_with (at_builtin; refine Lib.wpList_append_run _ rfl _ _ _ _ rfl _ _ rfl rfl _ _ HR.out ?_)
    go_ret
    refine ⟨_, rfl, World.ownsRow_made w.drew _ cp (Nat.le_refl _) HCM.out HZ.out, ?_⟩
    exact (Below.refl w.heap.size w).drew.alloc (Nat.le_refl _) _
  · obtain rfl : n = 0 := by omega
    go_enter Try.func42, Try.ntmps42
    go_wp2_with fail
    go_ret
    exact ⟨_, rfl, World.ownsRow_nil _ _ _ _, Below.refl _ _⟩
theorem run_app0 {B n : Nat} {v : Value} {xs : List Value} (ty : TypeId) (o : Option Addr) (c : Nat) (h : w.ownsRow B 9 1 v n xs) :
    (Builtin.append_ #[22, 22] ty #[v, .slice o 0 c]).run Try.prog w = .ok v w := by
  obtain ⟨i0, hi0, hz0, hs0, hy0⟩ := info_parts info_s
  rcases h.2 with ⟨rfl, rfl⟩ | ⟨g, cap, cur, rfl, hB, hg, hc, hm, _, _⟩
  · cases o <;> simp [Builtin.append_, run_underlying Try.underlying22, sizeOf, typeInfo, hi0, Builtin.lenOf, Builtin.firstCells, hs0, storeCells, loadCells, loadCellsFrom]
  · cases o <;> simp [Builtin.append_, run_underlying Try.underlying22, sizeOf, typeInfo, hi0, Builtin.lenOf, Builtin.firstCells, hs0, storeCells, loadCells, loadCellsFrom, hc]
abbrev LsB := Option Addr × List ByteArray × Nat
def catL (L : List LsB) : List ByteArray := L.flatMap fun p => p.2.1
theorem cat_snoc (L : List LsB) (p : LsB) : catL (L ++ [p]) = catL L ++ p.2.1 := by unfold catL; rw [List.flatMap_append]; simp
theorem cat_take {L : List LsB} {k : Nat} {p : LsB} (h : L[k]? = some p) : catL (L.take (k + 1)) = catL (L.take k) ++ p.2.1 := by rw [take_get h, cat_snoc]
theorem cat_le (L : List LsB) (k : Nat) : (catL (L.take k)).length ≤ (catL L).length := by
  conv => rhs; rw [← List.take_append_drop k L]
  unfold catL; rw [List.flatMap_append, List.length_append]; omega
theorem app_row {B n : Nat} {v : Value} {xs : List Value} {o : Option Addr} {l : List ByteArray} (c : Nat) (h : w.ownsRow B 9 1 v n xs) (ht : TxAt w o l) (hn : n ≤ 4000000) (hl : l.length ≤ 4000000) (hB : B ≤ w.heap.size) :
    ∃ v' w', (∀ ty, (Builtin.append_ #[22, 22] ty #[v, .slice o l.length c]).run Try.prog w = .ok v' w') ∧ w'.ownsRow B 9 1 v' (n + l.length) (xs ++ strV l) ∧ w.grownBy w' v.ownBlock ∧ (v'.ownBlock = v.ownBlock ∨ v'.ownBlock = some w.heap.size) := by
  by_cases h0 : 0 < l.length
  · obtain ⟨i0, hi0, hz0, hs0, hy0⟩ := info_parts info_s
    obtain ⟨_, b, i, rfl, _⟩ := ht 0 h0
    have hr : ∀ ty, ∃ v' w', (Builtin.append_ #[22, 22] ty #[v, .slice (some ⟨b, i, none⟩) l.length c]).run Try.prog w = .ok v' w' ∧ w'.ownsRow B 9 1 v' (n + l.length) (xs ++ strV l) ∧ w.grownBy w' v.ownBlock ∧ (v'.ownBlock = v.ownBlock ∨ v'.ownBlock = some w.heap.size) := fun ty => by
      obtain ⟨v', w', h1, h2, h3, _, h5⟩ := run_append_own_at (P := Try.prog) w B 22 ty 9 i0 _ 1 16 Try.underlying22 hi0 hz0 hs0 hy0 rfl (by decide) v n xs h ⟨b, i, none⟩ l.length c (strV l) (by simp) (fun j u hu => by
        rw [List.getElem?_map] at hu
        obtain ⟨x, hx, rfl⟩ := Option.map_eq_some_iff.1 hu
        obtain ⟨_, b', i', ho, hc⟩ := tx_at ht hx
        injection ho with ho; injection ho with h1 h2; subst h1 h2
        rw [Addr.add_mid]; exact hc) (by intro u hu; obtain ⟨x, _, rfl⟩ := List.mem_map.1 hu; rfl) (by unfold maxLen; omega) (by omega) hB
      exact ⟨v', w', h1, h2, h3, h5⟩
    obtain ⟨v', w', h1, h2, h3, h4⟩ := hr 22
    exact ⟨v', w', fun ty => by rw [← h1]; rfl, h2, h3, h4⟩
  · have hz : l = [] := List.length_eq_zero_iff.1 (by omega)
    subst hz
    refine ⟨v, w, fun ty => run_app0 ty o c h, by simpa using h, grown_refl _ _, Or.inl rfl⟩
def CnS (L : List LsB) (w0 : World) (v i : Value) (wr : World) : Prop :=
  ∃ k : Nat, k ≤ L.length ∧ i = .int .i64 k ∧ wr.ownsRow w0.heap.size 9 1 v (catL (L.take k)).length (strV (catL (L.take k))) ∧ Below w0.heap.size w0 wr
set_option maxHeartbeats 4000000 in
set_option maxRecDepth 100000 in
theorem Concat_any (o : Option Addr) (L : List LsB) (c : Nat) (w : World) (hl : L.length ≤ 1000) (hs : (catL L).length ≤ 3000000) (h : LsAt w o L) :
    Calls Try.prog 34 #[.slice o L.length c] w fun e w' => ∃ v, e = .returned v ∧ w'.ownsRow w.heap.size 9 1 v (catL L).length (strV (catL L)) ∧ Below w.heap.size w w' := by
  obtain ⟨n, hn⟩ : ∃ n, L.length = n := ⟨_, rfl⟩
  have HN := Lib.hid hn; have HL := Lib.hid h
  rw [hn] at hl ⊢
  have HC := Lib.hid (cat_le L)
  have HS := Lib.hid hs
  clear hn h
  go_enter Try.func34, Try.ntmps34
  go_wp2_with fail
  go_loopw [3, 11] (fun s i wr => ∃ k : Nat, k ≤ n ∧ i = .int .i64 k ∧ s = .int .i64 ((catL (L.take k)).length : Nat) ∧ wr = w) (fun _ i _ => n - (intOf i).toNat)
  case atStart => exact ⟨0, Nat.zero_le _, rfl, rfl, rfl⟩
  case round =>
    obtain ⟨k, hk, rfl, rfl, hw⟩ := hrel
    have hw2 := hw.symm
    subst hw2
    have hck := HC.out k
    obtain ⟨m, hm⟩ : ∃ m, (catL (L.take k)).length = m := ⟨_, rfl⟩
    have HM := Lib.hid hm
    rw [hm] at hck ⊢
    clear hm
    by_cases hlt : k < n
    · obtain ⟨p, hp⟩ : ∃ p, L[k]? = some p := ⟨_, List.getElem?_eq_getElem (by rw [HN.out]; omega)⟩
      obtain ⟨_, _, b0, ho, c0⟩ := HL.out k p hp
      subst ho
      have hcn := cat_take hp
      obtain ⟨op, q, cq⟩ := p
      dsimp only at c0 hcn
      obtain ⟨j, hj⟩ : ∃ j, q.length = j := ⟨_, rfl⟩
      have hck2 := HC.out (k + 1)
      rw [hcn, List.length_append, hj, HM.out] at hck2
      have HCN : Hid ((catL (L.take (k + 1))).length = m + j) := Lib.hid (by rw [hcn, List.length_append, hj, HM.out])
      rw [hj] at c0
      have hw1 : IntKind.i64.wrap ((m : Int) + j) = ((m + j : Nat) : Int) := by rw [IntWalk.i64_in _ (by omega)]; omega
      have hnn : ¬ (((m + j : Nat) : Int) < 0) := by omega
      obtain ⟨mj, hmj⟩ : ∃ x, m + j = x := ⟨_, rfl⟩
      rw [hmj] at hw1 hnn HCN
      clear hp hcn hj hck2 hmj
      go_wp2_with fail
      go_roundw
      case rel => exact ⟨k + 1, hlt, by go_num, by rw [HCN.out], by first | trivial | rfl⟩
      case measure => simp [intOf]; omega
    · obtain rfl : k = n := by omega
      have hme : m = (catL L).length := by rw [← HM.out, List.take_of_length_le (by rw [HN.out]; exact Nat.le_refl _)]
      have HG := Lib.hid (Grow_any m w (by omega))
      clear hme hlt hck
      go_wp2_with (go_at_call 42; refine HG.out.mono ?_; rintro e w2 ⟨v2, rfl, hrow, hb⟩; have HROW := Lib.hid hrow; have HB := Lib.hid hb; clear hrow hb HG)
      go_loopw [6, 27] (fun v i wr => CnS L w v i wr) (fun _ i _ => k - (intOf i).toNat)
      case atStart => exact ⟨0, Nat.zero_le _, rfl, HROW.out, HB.out⟩
      case round =>
        obtain ⟨t, ht, rfl, hrow, hb⟩ := hrel
        rw [HN.out] at ht
        have HBB := Lib.hid hb
        have hct := HC.out t
        by_cases hlt : t < k
        · obtain ⟨p, hp⟩ : ∃ p, L[t]? = some p := ⟨_, List.getElem?_eq_getElem (by rw [HN.out]; omega)⟩
          obtain ⟨hpl, htx, b0, ho, c0⟩ := (HL.out.below HBB.out) t p hp
          subst ho
          have hcn := cat_take hp
          obtain ⟨op, q, cq⟩ := p
          dsimp only at c0 hcn hpl htx
          have hs3 := HS.out
          obtain ⟨v', w', h1, h2, h3, _⟩ := app_row cq hrow htx (by omega) (by omega) hb.size
          have HR := Lib.hid h1
          have HT : Hid (w'.ownsRow w.heap.size 9 1 v' (catL (L.take (t + 1))).length (strV (catL (L.take (t + 1))))) := Lib.hid (by
            rw [hcn, List.length_append]
            have e : strV (catL (L.take t) ++ q) = strV (catL (L.take t)) ++ strV q := by unfold strV; rw [List.map_append]
            rw [e]; exact h2)
          have HBN := Lib.hid (hb.grown h3 hb.size (own_base hrow))
          have hki : (t : Int) < k := by omega
          clear h1 h2 h3 hrow hb hcn hp hct htx
          go_wp2_with (at_builtin; refine Lib.wpList_append_run _ rfl _ _ _ _ rfl _ _ rfl rfl _ _ (HR.out _) ?_)
          go_roundw
          case rel => exact ⟨t + 1, by rw [HN.out]; exact hlt, by go_num, HT.out, HBN.out⟩
          case measure => simp [intOf]; omega
        · obtain rfl : t = k := by omega
          have HF : Hid (wr.ownsRow w.heap.size 9 1 u6 (catL L).length (strV (catL L))) := Lib.hid (by
            rw [List.take_of_length_le (by rw [HN.out]; exact Nat.le_refl _)] at hrow; exact hrow)
          clear hrow hb hct
          go_wp2_with fail
          go_ret
          exact ⟨_, rfl, HF.out, HBB.out⟩
end Go.Proofs.Ytjdlpcokjcmapaa
