/- The contract of the document's Next: it is crc.Next's. -/
import Derived.Test.YtaionhdamdhjjabDoorKg
namespace Go.Proofs.YtaionhdamdhjjabDoor
open Go.RowKit

theorem cons_tail (s : ByteArray) (h : 0 < s.size) : s.data.toList = s[0] :: (s.extract 1 s.size).data.toList := by
  have h' : 0 < s.data.toList.length := by simpa using h
  rw [ext_list]
  rw [List.take_of_length_le (by simp)]
  have := List.drop_eq_getElem_cons h'
  rw [List.drop_zero] at this
  exact this
theorem next_head (s t : ByteArray) (n : Int) (h : 0 < s.size) (hn : nextI (s.extract 1 s.size) = (t, n, 0)) : headL s[0] t = s.data.toList.take (1 + n).toNat ∧ ((encL t).length : Int) = n ∧ t.size ≤ 262144 := by
  obtain ⟨m, k, hg, hm0, hm1, hk, hks, ht, hnk⟩ := next_parts _ _ _ hn
  have he := next_enc _ _ _ hn
  have hb := getI_bytes _ m k hg
  obtain ⟨s', hs'⟩ : ∃ s', s.extract 1 s.size = s' := ⟨_, rfl⟩
  rw [hs'] at hks ht he hb
  have htz : (t.size : Int) = m := by rw [ht]; simp only [ByteArray.size_extract]; omega
  have hl : ((encL t).length : Int) = n := by
    rw [encL_length, htz]
    have : (strOfNums (putI m)).size = (s'.extract 0 k.toNat).size := by rw [hb]
    rw [strOfNums_size, ByteArray.size_extract] at this
    omega
  refine ⟨?_, hl, by omega⟩
  rw [cons_tail s h, hs', he, show (1 + n).toNat = n.toNat + 1 by omega, List.take_succ_cons, List.take_append_of_le_length (by omega), List.take_of_length_le (by omega)]
  rfl
theorem beq_lists (a b : ByteArray) : (a.toList == b.toList) = decide (a.data.toList = b.data.toList) := by
  rw [ByteArray.toList_eq, ByteArray.toList_eq]
  by_cases h : a.data.toList = b.data.toList
  · rw [decide_eq_true h, h]; simp
  · rw [decide_eq_false h]; rw [beq_eq_false_iff_ne]; exact h
theorem frame_cmp (s t : ByteArray) (n : Int) (h : 0 < s.size) (hn : nextI (s.extract 1 s.size) = (t, n, 0)) (hs : n + 5 ≤ (s.size : Int)) :
    ((s.extract 0 (mkB (frL s[0] t)).size).toList == (mkB (frL s[0] t)).toList) = ((s.extract (1 + n).toNat (1 + n + 4).toNat).toList == (leB (crcL (s.data.toList.take (1 + n).toNat))).toList) := by
  obtain ⟨h1, h2, h3⟩ := next_head s t n h hn
  have hz : (mkB (frL s[0] t)).size = (1 + n).toNat + 4 := by rw [mkB_size, frL_len]; omega
  rw [beq_lists, beq_lists, mkB_data]
  apply decide_eq_decide.2
  rw [ext_list, ext_list, hz, List.drop_zero, Nat.sub_zero]
  unfold frL
  rw [h1]
  unfold sumL
  rw [show (1 + n + 4).toNat - (1 + n).toNat = 4 by omega]
  have e : s.data.toList.take ((1 + n).toNat + 4) = s.data.toList.take (1 + n).toNat ++ (s.data.toList.drop (1 + n).toNat).take 4 := List.take_add
  rw [e]
  exact List.append_right_inj _

end Go.Proofs.YtaionhdamdhjjabDoor
