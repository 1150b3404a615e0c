/- Keyed lists: the list of a map's sides. -/
import Derived.Test.YthkcmdlfdaggmaaHf
set_option linter.unusedVariables false
set_option linter.unusedSimpArgs false
namespace Go.Proofs.Ythkcmdlfdaggmaa
open Go.RowKit Go.Maps Go.WideShapes
variable {w w' : World}

theorem own_lower {w : World} {B B' n s : Nat} {v : Value} {xs : List Value} {e : TypeId} (h : w.ownsRow B e s v n xs) (hb : B' ≤ B) : w.ownsRow B' e s v n xs := by
  refine ⟨h.1, ?_⟩
  rcases h.2 with hv | ⟨g, cap, cur, hv, hB, r⟩
  · exact .inl hv
  · exact .inr ⟨g, cap, cur, hv, Nat.le_trans hb hB, r⟩
theorem item_snoc {ks : List ByteArray} {U : ByteArray → SdB} {k : Nat} {s : ByteArray} (h : ks[k]? = some s) : itemK (ks.take (k + 1)) U = itemK (ks.take k) U ++ (if (U s).2 = true then [(s, (U s).1)] else []) := by
  rw [take_get h]; unfold itemK
  rw [List.filter_append, List.map_append]
  congr 1
  by_cases hs : (U s).2 = true
  · rw [if_pos hs]; simp [hs]
  · rw [if_neg hs]; simp [hs]
theorem item_len (ks : List ByteArray) (U : ByteArray → SdB) : (itemK ks U).length ≤ ks.length := by unfold itemK; rw [List.length_map]; exact List.length_filter_le _ _
theorem tx_get {o : Option Addr} {l : List ByteArray} (h : TxAt w o l) {k : Nat} {s : ByteArray} (hs : l[k]? = some s) : s.size ≤ maxLen ∧ ∃ b i, o = some ⟨b, i, none⟩ ∧ w.cell? ⟨b, i + k, none⟩ = some (.string s) := by
  have := h k (List.getElem?_eq_some_iff.1 hs).1
  have e : itB l k = s := by unfold itB; rw [List.getD_eq_getElem?_getD, hs]; rfl
  rw [e] at this; exact this
def ItS (KS : List ByteArray) (U : ByteArray → SdB) (w2 : World) (v i : Value) (wr : World) : Prop :=
  ∃ k : Nat, k ≤ KS.length ∧ i = .int .i64 k ∧ wr.ownsRow w2.heap.size 51 2 v (itemK (KS.take k) U).length (flatK (itemK (KS.take k) U)) ∧ Below w2.heap.size w2 wr
set_option maxHeartbeats 4000000 in
set_option maxRecDepth 100000 in
theorem items_any (m nn : Nat) (ks : List ByteArray) (U : ByteArray → SdB) (w : World) (hl : ks.length ≤ 1000000) (hz : ∀ s ∈ ks, s.size ≤ maxLen) (h : IsSd m nn ks U w) :
    Calls Try.prog 28 #[.map (some m)] w fun e w' => ∃ v, e = .returned v ∧ w'.ownsRow w.heap.size 51 2 v (itemK (keyL ks) U).length (flatK (itemK (keyL ks) U)) ∧ Below w.heap.size w w' := by
  have hb0 : Below w.heap.size w (w.alloc (.cells #[.map (some m)] 61)) := (Below.refl _ w).alloc (Nat.le_refl _) _
  have hK := keys_any (some ⟨w.heap.size, 0, none⟩) [(m, nn, ks, U)] 1 (w.alloc (.cells #[.map (some m)] 61)) (by simp) (fun k p hk => by
    match k, hk with
    | 0, hk =>
      simp at hk; subst hk
      exact ⟨h.below hb0, hl, hz, _, rfl, cell_of_row (World.alloc_heap_new w _)⟩)
  rw [show mpKs [(m, nn, ks, U)] = ks by simp [mpKs]] at hK
  have HK := Lib.hid hK; have HB0 := Lib.hid hb0; have HM := Lib.hid h
  have HZ : Hid (∀ s ∈ keyL ks, s.size ≤ maxLen) := Lib.hid fun s hs => hz s ((mem_keyL ks s).1 hs)
  have hkl : (keyL ks).length ≤ 1000000 := Nat.le_trans (keyL_len ks) hl
  obtain ⟨KS, hKS⟩ : ∃ KS, keyL ks = KS := ⟨_, rfl⟩
  rw [hKS] at HK HZ hkl ⊢
  clear hK hb0 h hz hKS hl
  obtain ⟨i1, hi1, hz0, hz1, hz2⟩ := info_parts info_ki
  have HI1 := Lib.hid hi1; have HZ0 := Lib.hid hz0; have HZ1 := Lib.hid hz1; have HZ2 := Lib.hid hz2
  clear hi1 hz0 hz1 hz2
  go_enter Try.func28, Try.ntmps28
  go_wp2_with (go_at_call 20; refine HK.out.mono ?_)
  first | rintro e w2 ⟨v, rfl, hr, hb⟩ | rintro e w2 v rfl hr hb
  obtain ⟨a, c1, rfl, htx, _⟩ := own_texts hr HZ.out
  have HT := Lib.hid htx; have HB2 := Lib.hid (HB0.out.trans (hb.mono HB0.out.size))
  have HM2 := Lib.hid ((HM.out.below HB0.out).below hb)
  obtain ⟨n, hn⟩ : ∃ n, KS.length = n := ⟨_, rfl⟩
  have HN := Lib.hid hn
  rw [hn] at hkl ⊢
  have H0 : Hid (ItS KS U w2 (.slice none 0 0) (.int .i64 0) w2) := Lib.hid ⟨0, Nat.zero_le _, rfl, World.ownsRow_nil _ _ _ _, Below.refl _ _⟩
  clear hr hb htx hn HK HB0 HM
  go_wp2_with fail
  go_loopw [3, 11] (fun v i wr => ItS KS U w2 v i wr) (fun _ i _ => n - (intOf i).toNat)
  case atStart => exact H0.out
  case round =>
    obtain ⟨k, hk, rfl, hrow, hb⟩ := hrel
    rw [HN.out] at hk
    have HROW := Lib.hid hrow; have HB := Lib.hid hb
    clear hrow hb H0
    by_cases hlt : k < n
    · obtain ⟨s, hs⟩ : ∃ s, KS[k]? = some s := ⟨_, List.getElem?_eq_getElem (by rw [HN.out]; omega)⟩
      obtain ⟨hss, b0, i0, ho, c0⟩ := tx_get (HT.out.below HB.out) hs
      subst ho
      have HIT := Lib.hid (item_snoc (U := U) hs)
      have hlk := (HM2.out.below HB.out).look hss
      obtain ⟨u, hu⟩ : ∃ u, U s = u := ⟨_, rfl⟩
      rw [hu] at hlk HIT
      obtain ⟨x, t⟩ := u
      have hilen : (itemK (KS.take k) U).length ≤ 1000000 := Nat.le_trans (item_len _ _) (by rw [List.length_take]; omega)
      obtain ⟨L, hL⟩ : ∃ L, itemK (KS.take k) U = L := ⟨_, rfl⟩
      rw [hL] at HROW HIT hilen
      dsimp only at HIT hlk
      clear hu hs hss hL
      have HR2 := Lib.hid (own_below HROW.out ((Below.refl wr.heap.size wr).alloc (Nat.le_refl _) (.cells #[.string x, .bool t] 39)))
      have HB3 := Lib.hid (HB.out.alloc HB.out.size (.cells #[.string x, .bool t] 39))
      cases t with
      | true =>
        have HIT2 : Hid (itemK (KS.take (k + 1)) U = L ++ [(s, x)]) := Lib.hid (by rw [HIT.out, if_pos rfl])
        clear HIT
        go_wp2_with (at_builtin; (refine wpList_append_own _ rfl _ _ 24 rfl w2.heap.size 51 i1 (.agg #[.string ⟨#[]⟩, .string ⟨#[]⟩]) 2 32 Try.underlying24 HI1.out HZ0.out HZ1.out HZ2.out rfl (by decide) _ _ _ rfl (HR2.out.alloc _) ⟨wr.heap.size + 1, 0, none⟩ 1 1 [.string s, .string x] rfl rfl (by simpa using cell_two_new (wr.alloc (.cells #[.string x, .bool true] 39)) 51 (.string s) (.string x)) two_memK (by unfold maxLen; omega) (by omega) (by have := HB.out.size; simp; omega) ?_); intro v' w4 hown hgrow _; have HO4 := Lib.hid hown; have HG4 := Lib.hid hgrow; clear hown hgrow)
        go_roundw
        case rel => exact ⟨k + 1, by rw [HN.out]; exact hlt, by go_num, by rw [HIT2.out, List.length_append, flatK_snoc]; exact HO4.out, (HB3.out.alloc HB3.out.size _).grown HG4.out (by have := HB3.out.size; simp at this ⊢; omega) (fun j hj => (HR2.out.lt j hj).1)⟩
        case measure => simp [intOf]; omega
      | false =>
        have HIT2 : Hid (itemK (KS.take (k + 1)) U = L) := Lib.hid (by rw [HIT.out, if_neg (by decide), List.append_nil])
        clear HIT
        go_wp2_with fail
        go_roundw
        case rel => exact ⟨k + 1, by rw [HN.out]; exact hlt, by go_num, by rw [HIT2.out]; exact HR2.out, HB3.out⟩
        case measure => simp [intOf]; omega
    · obtain rfl : k = n := by omega
      have HF : Hid (KS.take k = KS) := Lib.hid (List.take_of_length_le (by rw [HN.out]; exact Nat.le_refl _))
      go_wp2_with fail
      go_ret
      refine ⟨_, rfl, ?_, HB2.out.trans (HB.out.mono HB2.out.size)⟩
      have h := HROW.out
      rw [HF.out] at h
      exact own_lower h HB2.out.size
end Go.Proofs.Ythkcmdlfdaggmaa
