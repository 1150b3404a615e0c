/- Deltas: DeltaParts. -/
import Derived.Test.YtmdhendfmhhniaaJn
namespace Go.Proofs.Ytmdhendfmhhniaa
open Go.RowKit
variable {w w' : World}

theorem tmod_rng (a : Int) (m : Nat) (hm : 0 < m) : -(m : Int) < a.tmod m ∧ a.tmod m < m := by
  have h1 := Int.tmod_lt_of_pos a (show (0 : Int) < m by omega)
  have h2 : -(m : Int) < a.tmod m := by
    rcases Int.le_total 0 a with h | h
    · have := Int.tmod_nonneg (m : Int) h; omega
    · have e : a.tmod m = -((-a).tmod m) := by rw [Int.neg_tmod, Int.neg_neg]
      have := Int.tmod_lt_of_pos (-a) (show (0 : Int) < m by omega)
      omega
  exact ⟨h2, h1⟩
/-- A part of a base is found in it. -/
theorem part_found (base : ByteArray) (f n : Nat) (h : f + n ≤ base.size) : 0 ≤ Lib.index base.data.toList (base.extract f (f + n)).data.toList := by
  have hge := Lib.index_ge base.data.toList (base.extract f (f + n)).data.toList
  rcases Decidable.em (Lib.index base.data.toList (base.extract f (f + n)).data.toList = -1) with e | e
  · exfalso
    have key : ∀ (l sub : List UInt8) (k : Nat), k ≤ l.length → sub <+: l.drop k → Lib.index l sub ≠ -1 := by
      intro l
      induction l with
      | nil =>
        intro sub k hk hp
        have : sub = [] := by simpa using hp
        subst this; unfold Lib.index; decide
      | cons b l ih =>
        intro sub k hk hp
        unfold Lib.index
        split
        · decide
        · rename_i hne
          cases k with
          | zero => exact absurd (List.isPrefixOf_iff_prefix.2 (by simpa using hp)) hne
          | succ k =>
            have := ih sub k (by simpa using hk) (by simpa using hp)
            have hge := Lib.index_ge l sub
            split
            · rename_i h2; exact absurd (by simpa using h2) this
            · omega
    refine key _ _ f (by rw [dl_len]; omega) ?_ e
    rw [ext_list, show f + n - f = n by omega]
    exact List.take_prefix _ _
  · omega
theorem made_part {base target D : ByteArray} (h : MadeD base target D) (hi : 0 ≤ Lib.index base.data.toList target.data.toList) : D.size ≤ 25 := by
  obtain ⟨L, rfl, _, _, _, h3⟩ := h
  have h1 := putL_len base.size; have h2 := putL_len target.size; have := h3 hi
  rw [mkB_size, List.length_append, List.length_append]; omega
theorem ext_whole (s : ByteArray) : s.extract 0 (0 + s.size) = s := by
  apply ba_ext
  rw [ext_list, List.drop_zero, List.take_of_length_le (by rw [dl_len]; omega)]
set_option maxHeartbeats 2000000 in
set_option maxRecDepth 100000 in
theorem LParts (base : ByteArray) (a b : Int) (w : World) (hbs : base.size ≤ maxLen) (_ : (Lit.int .i64 a).wf = true) (_ : (Lit.int .i64 b).wf = true) (hm : MaxAt w) :
    Calls Try.prog 5 #[.string base, .int .i64 a, .int .i64 b] w fun e w' => e = .returned (.bool true) ∧ Below w.heap.size w w' := by
  have HS := Lib.hid (speaks_any w hm)
  unfold maxLen at hbs

  by_cases h1 : 5000 < base.size
  · have h1i : (5000 : Int) < base.size := by omega
    clear hm
    go_enter Try.func5, Try.ntmps5
    go_wp2_with (go_at_call 8; refine HS.out.mono ?_; rintro e w1 ⟨rfl, hb1⟩; have HB1 := Lib.hid hb1; clear hb1)
    go_ret
    exact ⟨rfl, HB1.out⟩
  by_cases h2 : base.size < 64
  · have h1i : ¬ (5000 : Int) < base.size := by omega
    have h2i : (base.size : Int) < 64 := by omega
    clear hm
    go_enter Try.func5, Try.ntmps5
    go_wp2_with (go_at_call 8; refine HS.out.mono ?_; rintro e w1 ⟨rfl, hb1⟩; have HB1 := Lib.hid hb1; clear hb1)
    go_ret
    exact ⟨rfl, HB1.out⟩
  have h1i : ¬ (5000 : Int) < base.size := by omega
  have h2i : ¬ (base.size : Int) < 64 := by omega
  have hbi : (base.size : Int) ≤ 5000 := by omega
  obtain ⟨m, hmm⟩ : ∃ m, base.size - 63 = m := ⟨_, rfl⟩
  have hm0 : 0 < m := by omega
  have e0 : (base.size : Int) - 63 = (m : Int) := by omega
  obtain ⟨r, hr⟩ : ∃ r, a.tmod (m : Int) = r := ⟨_, rfl⟩
  have hrr := tmod_rng a m hm0
  rw [hr] at hrr
  obtain ⟨f, hf⟩ : ∃ f : Nat, (r + (base.size : Int) - 63).tmod (m : Int) = (f : Int) := ⟨((r + (base.size : Int) - 63).tmod (m : Int)).toNat, by
    have := Int.tmod_nonneg (a := r + (base.size : Int) - 63) (m : Int) (by omega); omega⟩
  have hfm : f < m := by
    have := tmod_rng (r + (base.size : Int) - 63) m hm0
    rw [hf] at this; omega
  obtain ⟨k, hk⟩ : ∃ k, m - f = k := ⟨_, rfl⟩
  have hk0 : 0 < k := by omega
  have e1 : (m : Int) - (f : Int) = (k : Int) := by omega
  obtain ⟨s, hs⟩ : ∃ s, b.tmod (k : Int) = s := ⟨_, rfl⟩
  have hss := tmod_rng b k hk0
  rw [hs] at hss
  obtain ⟨t, ht⟩ : ∃ t : Nat, (s + (base.size : Int) - 63 - (f : Int)).tmod (k : Int) = (t : Int) := ⟨((s + (base.size : Int) - 63 - (f : Int)).tmod (k : Int)).toNat, by
    have := Int.tmod_nonneg (a := s + (base.size : Int) - 63 - (f : Int)) (k : Int) (by omega); omega⟩
  have htk : t < k := by
    have := tmod_rng (s + (base.size : Int) - 63 - (f : Int)) k hk0
    rw [ht] at this; omega
  obtain ⟨n, hn⟩ : ∃ n, 64 + t = n := ⟨_, rfl⟩
  have e2 : 64 + (t : Int) = (n : Int) := by omega
  obtain ⟨fn, hfn⟩ : ∃ x, f + n = x := ⟨_, rfl⟩
  have e3 : (f : Int) + (n : Int) = (fn : Int) := by omega
  have hfnb : fn ≤ base.size := by omega
  have hfnbi : (fn : Int) ≤ base.size := by omega
  have hffn : (f : Int) ≤ (fn : Int) := by omega
  have hf0 : 0 ≤ (f : Int) := by omega
  obtain ⟨p, hp⟩ : ∃ p, base.extract f fn = p := ⟨_, rfl⟩
  have hps : p.size ≤ 5000 := by rw [← hp, ByteArray.size_extract]; omega
  have hpi : 0 ≤ Lib.index base.data.toList p.data.toList := by rw [← hp, ← hfn]; exact part_found base f n (by omega)
  have hbb : 0 ≤ Lib.index base.data.toList base.data.toList := by
    have := part_found base 0 base.size (by omega)
    rw [ext_whole] at this; exact this
  have HM1 := Lib.hid (fun W hW => Make_any base p W (by omega) (by omega) hW)
  have HM2 := Lib.hid (fun W hW => Make_any base base W (by omega) (by omega) hW)
  have HMA := Lib.hid hm
  have HPI := Lib.hid hpi; have HBB := Lib.hid hbb
  have hm0i : ¬ (m : Int) = 0 := by omega
  have hk0i : ¬ (k : Int) = 0 := by omega
  have hmb : ((m : Int) == 0) = false := beq_eq_false_iff_ne.2 hm0i
  have hkb : ((k : Int) == 0) = false := beq_eq_false_iff_ne.2 hk0i
  have hmN : ¬ m = 0 := by omega
  have hkN : ¬ k = 0 := by omega
  have hr1 : -5000 ≤ r := by omega
  have hr2 : r ≤ 5000 := by omega
  have hs1 : -5000 ≤ s := by omega
  have hs2 : s ≤ 5000 := by omega
  have hfi : (f : Int) ≤ 5000 := by omega
  have hti : (t : Int) ≤ 5000 := by omega
  have hni : (n : Int) ≤ 5100 := by omega
  clear hm hmm hrr hfm hk hss htk hn hfn hpi hbb hm0 hk0
  go_enter Try.func5, Try.ntmps5
  go_wp2_with (go_at_call 8; refine HS.out.mono ?_; rintro e w1 ⟨rfl, hb1⟩; have HB1 := Lib.hid hb1; clear hb1)
  refine (HM1.out _ (HMA.out.below HB1.out)).mono ?_
  rintro e w2 ⟨D, rfl, hD, hb2⟩
  have HB2 := Lib.hid (HB1.out.trans (hb2.mono HB1.out.size))
  have hD25 := made_part hD HPI.out
  have hD32 : (D.size : Int) ≤ 32 := by omega
  have hap := appD_made hD (by omega) (by omega)
  have HA := Lib.hid (fun W => Apply_any base D W (by unfold maxLen; omega) (by omega))
  rw [hap] at HA
  clear hb2 hap hD hD25
  go_wp2_with fail
  refine (HA.out _).mono ?_
  rintro e w3 ⟨rfl, hb3⟩
  have HB3 := Lib.hid (HB2.out.trans (hb3.mono HB2.out.size))
  clear hb3
  go_wp2_with fail
  refine (HM2.out _ (HMA.out.below HB3.out)).mono ?_
  rintro e w4 ⟨E, rfl, hE, hb4⟩
  have HB4 := Lib.hid (HB3.out.trans (hb4.mono HB3.out.size))
  have hE25 := made_part hE HBB.out
  have hE32 : (E.size : Int) ≤ 32 := by omega
  clear hb4 hE hE25
  go_wp2_with fail
  go_ret
  exact ⟨rfl, HB4.out⟩
end Go.Proofs.Ytmdhendfmhhniaa
