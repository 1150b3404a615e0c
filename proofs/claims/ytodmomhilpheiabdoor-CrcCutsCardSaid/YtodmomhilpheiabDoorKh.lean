/- The contract of the document's Next: it is crc.Next's. -/
import Derived.Test.YtodmomhilpheiabDoorKg
namespace Go.Proofs.YtodmomhilpheiabDoor
open Go.RowKit

theorem cons_tail (s : ByteArray) (h : 0 < s.size) : s.data.toList = s[0] :: (s.extract 1 s.size).data.toList := by
  have h' : 0 < s.data.toList.length := by simpa using h
  rw [ext_list]
  rw [List.take_of_length_le (by simp)]
  have := List.drop_eq_getElem_cons h'
  rw [List.drop_zero] at this
  exact this
theorem next_head (s t : ByteArray) (n : Int) (h : 0 < s.size) (hn : nextI (s.extract 1 s.size) = (t, n, 0)) : headL s[0] t = s.data.toList.take (1 + n).toNat ∧ ((encL t).length : Int) = n ∧ t.size ≤ 262144 := by
  obtain ⟨m, k, hg, hm0, hm1, hk, hks, ht, hnk⟩ := next_parts _ _ _ hn
  have he := next_enc _ _ _ hn
  have hb := getI_bytes _ m k hg
  obtain ⟨s', hs'⟩ : ∃ s', s.extract 1 s.size = s' := ⟨_, rfl⟩
  rw [hs'] at hks ht he hb
  have htz : (t.size : Int) = m := by rw [ht]; simp only [ByteArray.size_extract]; omega
  have hl : ((encL t).length : Int) = n := by
    rw [encL_length, htz]
    have : (strOfNums (putI m)).size = (s'.extract 0 k.toNat).size := by rw [hb]
    rw [strOfNums_size, ByteArray.size_extract] at this
    omega
  refine ⟨?_, hl, by omega⟩
  rw [cons_tail s h, hs', he, show (1 + n).toNat = n.toNat + 1 by omega, List.take_succ_cons, List.take_append_of_le_length (by omega), List.take_of_length_le (by omega)]
  rfl
theorem beq_lists (a b : ByteArray) : (a.toList == b.toList) = decide (a.data.toList = b.data.toList) := by
  rw [ByteArray.toList_eq, ByteArray.toList_eq]
  by_cases h : a.data.toList = b.data.toList
  · rw [decide_eq_true h, h]; simp
  · rw [decide_eq_false h]; rw [beq_eq_false_iff_ne]; exact h
theorem frame_cmp (s t : ByteArray) (n : Int) (h : 0 < s.size) (hn : nextI (s.extract 1 s.size) = (t, n, 0)) (hs : n + 5 ≤ (s.size : Int)) :
    ((s.extract 0 (mkB (frL s[0] t)).size).toList == (mkB (frL s[0] t)).toList) = ((s.extract (1 + n).toNat (1 + n + 4).toNat).toList == (leB (crcL (s.data.toList.take (1 + n).toNat))).toList) := by
  obtain ⟨h1, h2, h3⟩ := next_head s t n h hn
  have hz : (mkB (frL s[0] t)).size = (1 + n).toNat + 4 := by rw [mkB_size, frL_len]; omega
  rw [beq_lists, beq_lists, mkB_data]
  apply decide_eq_decide.2
  rw [ext_list, ext_list, hz, List.drop_zero, Nat.sub_zero]
  unfold frL
  rw [h1]
  unfold sumL
  rw [show (1 + n + 4).toNat - (1 + n).toNat = 4 by omega]
  have e : s.data.toList.take ((1 + n).toNat + 4) = s.data.toList.take (1 + n).toNat ++ (s.data.toList.drop (1 + n).toNat).take 4 := List.take_add
  rw [e]
  exact List.append_right_inj _

set_option maxHeartbeats 1000000 in
set_option maxRecDepth 100000 in
theorem RNext_none (s : ByteArray) (w : World) (h : s.size = 0) :
    Calls Tryd.prog 14 #[.string s] w (NextIs 0 ⟨#[]⟩ 0 9 w) := by
  have he := ba_empty s h
  clear h
  go_enter Tryd.func14, Tryd.ntmps14
  go_wp2_with fail
  refine bodyPost_ret (results_tmp4 rfl _ _ _) rfl ?_
  exact ⟨rfl, Below.refl _ _⟩

set_option maxHeartbeats 1000000 in
set_option maxRecDepth 100000 in
theorem RNext_err (s t : ByteArray) (n er : Int) (w : World) (h : 0 < s.size) (hm : s.size ≤ maxLen) (hn : nextI (s.extract 1 s.size) = (t, n, er)) (her : er ≠ 0) :
    Calls Tryd.prog 14 #[.string s] w (NextIs 0 ⟨#[]⟩ 0 er w) := by
  have he := ba_some s h
  have hne : (er != 0) = true := by rw [bne_iff_ne]; exact her
  unfold maxLen at hm
  have HN := Lib.hid hn
  clear hn her
  go_enter Tryd.func14, Tryd.ntmps14
  go_wp2_with fail
  refine (rnext_vars _ t n er _ (by rw [ByteArray.size_extract]; unfold maxLen; omega) HN.out).mono ?_
  rintro e w1 ⟨rfl, hw1⟩
  go_wp2_with fail
  refine bodyPost_ret (results_tmp4 rfl _ _ _) rfl ?_
  exact ⟨rfl, hw1⟩

set_option maxHeartbeats 2000000 in
set_option maxRecDepth 100000 in
theorem RNext_zero (s t : ByteArray) (n : Int) (w : World) (h : 0 < s.size) (hm : s.size ≤ maxLen) (hn : nextI (s.extract 1 s.size) = (t, n, 0)) :
    Calls Tryd.prog 14 #[.string s] w (NextIs (nextF s).1 (nextF s).2.1 (nextF s).2.2.1 (nextF s).2.2.2 w) := by
  have he := ba_some s h
  have hh := next_head s t n h hn
  have hcmp := frame_cmp s t n h hn
  unfold nextF
  rw [hn]
  dsimp only
  rw [if_neg (by omega), if_neg (by decide)]
  obtain ⟨W, hW⟩ : ∃ W, mkB (frL s[0] t) = W := ⟨_, rfl⟩
  have hwz : (W.size : Int) = n + 5 := by rw [← hW, mkB_size, frL_len]; omega
  rw [hW] at hcmp
  unfold maxLen at hm
  have n0 : 0 ≤ n := by omega
  have HN := Lib.hid hn; have HH := Lib.hid hh; have HW := Lib.hid hW; have HC := Lib.hid hcmp
  have hb0 := byt_zero s h
  rw [hb0]
  by_cases h2 : (s.size : Int) < n + 5
  · rw [if_pos h2]
    have h2' : (s.size : Int) < (W.size : Int) := by omega
    clear hn hh hW hcmp hb0 hwz
    go_enter Tryd.func14, Tryd.ntmps14
    go_wp2_with fail
    refine (rnext_vars _ t n 0 _ (by rw [ByteArray.size_extract]; unfold maxLen; omega) HN.out).mono ?_
    rintro e w1 ⟨rfl, hw1⟩
    go_wp2_with fail
    refine (RFrame_any s[0] _ rfl t w1 HH.out.2.2).mono ?_
    rintro e w2 ⟨rfl, hw2⟩
    rw [HW.out]
    go_wp2_with fail
    refine bodyPost_ret (results_tmp4 rfl _ _ _) rfl ?_
    exact ⟨rfl, hw1.trans (hw2.mono hw1.size)⟩
  · rw [if_neg h2]
    have h2' : (W.size : Int) ≤ (s.size : Int) := by omega
    have n9 : n + 5 ≤ 9223372036854775807 := by omega
    have hc := HC.out (by omega)
    obtain ⟨q, hq⟩ : ∃ q, ((s.extract 0 W.size).toList == W.toList) = q := ⟨_, rfl⟩
    rw [← hc, hq]
    clear hn hh hW hcmp hb0 hwz hc
    cases q
    · rw [if_neg (by decide)]
      go_enter Tryd.func14, Tryd.ntmps14
      go_wp2_with fail
      refine (rnext_vars _ t n 0 _ (by rw [ByteArray.size_extract]; unfold maxLen; omega) HN.out).mono ?_
      rintro e w1 ⟨rfl, hw1⟩
      go_wp2_with fail
      refine (RFrame_any s[0] _ rfl t w1 HH.out.2.2).mono ?_
      rintro e w2 ⟨rfl, hw2⟩
      rw [HW.out]
      go_wp2_with fail
      refine bodyPost_ret (results_tmp4 rfl _ _ _) rfl ?_
      exact ⟨rfl, hw1.trans (hw2.mono hw1.size)⟩
    · rw [if_pos rfl]
      go_enter Tryd.func14, Tryd.ntmps14
      go_wp2_with fail
      refine (rnext_vars _ t n 0 _ (by rw [ByteArray.size_extract]; unfold maxLen; omega) HN.out).mono ?_
      rintro e w1 ⟨rfl, hw1⟩
      go_wp2_with fail
      refine (RFrame_any s[0] _ rfl t w1 HH.out.2.2).mono ?_
      rintro e w2 ⟨rfl, hw2⟩
      rw [HW.out]
      go_wp2_with fail
      refine bodyPost_ret (results_tmp4 rfl _ _ _) rfl ?_
      exact ⟨rfl, hw1.trans (hw2.mono hw1.size)⟩

theorem RNext_any (s : ByteArray) (w : World) (hm : s.size ≤ maxLen) :
    Calls Tryd.prog 14 #[.string s] w (NextIs (nextF s).1 (nextF s).2.1 (nextF s).2.2.1 (nextF s).2.2.2 w) := by
  obtain ⟨t, n, er, hn⟩ : ∃ t n er, nextI (s.extract 1 s.size) = (t, n, er) := ⟨_, _, _, rfl⟩
  by_cases h0 : s.size = 0
  · have e : nextF s = (0, ⟨#[]⟩, 0, 9) := by unfold nextF; rw [if_pos h0]
    rw [e]; exact RNext_none s w h0
  by_cases h1 : er = 0
  · subst h1; exact RNext_zero s t n w (by omega) hm hn
  · have e : nextF s = (0, ⟨#[]⟩, 0, er) := by unfold nextF; rw [if_neg h0, hn]; exact if_pos h1
    rw [e]; exact RNext_err s t n er w (by omega) hm hn h1
end Go.Proofs.YtodmomhilpheiabDoor
