/- Plain facts on frames one behind the other, cut off anywhere. -/
import Derived.Test.YtaionhdamdhjjabDoorKi
namespace Go.Proofs.YtaionhdamdhjjabDoor
open Go.RowKit

def FL : Nat → List ByteArray → List UInt8
  | _, [] => []
  | i, s :: r => frL (UInt8.ofNat i) s ++ FL (i + 1) r
theorem FL_app : ∀ (a b : List ByteArray) (i : Nat), FL i (a ++ b) = FL i a ++ FL (i + a.length) b
  | [], b, i => rfl
  | s :: a, b, i => by
    show frL (UInt8.ofNat i) s ++ FL (i + 1) (a ++ b) = _
    rw [FL_app a b (i + 1), List.length_cons, show i + 1 + a.length = i + (a.length + 1) by omega]
    show _ = (frL (UInt8.ofNat i) s ++ FL (i + 1) a) ++ _
    rw [List.append_assoc]
def offs (zs : List ByteArray) (j : Nat) : Nat := (FL 0 (zs.take j)).length
theorem offs_zero (zs : List ByteArray) : offs zs 0 = 0 := rfl
theorem FL_snoc (zs : List ByteArray) (k : Nat) (h : k < zs.length) : FL 0 (zs.take (k + 1)) = FL 0 (zs.take k) ++ frL (UInt8.ofNat k) zs[k] := by
  rw [List.take_succ_eq_append_getElem h, FL_app, List.length_take, Nat.zero_add, show min k zs.length = k by omega]
  show _ ++ (frL (UInt8.ofNat k) zs[k] ++ []) = _
  rw [List.append_nil]
theorem offs_succ (zs : List ByteArray) (k : Nat) (h : k < zs.length) : offs zs (k + 1) = offs zs k + (frL (UInt8.ofNat k) zs[k]).length := by
  unfold offs; rw [FL_snoc zs k h, List.length_append]
theorem offs_le (zs : List ByteArray) (i : Nat) (_h : i ≤ zs.length) : offs zs i ≤ (FL 0 zs).length := by
  have e : FL 0 zs = FL 0 (zs.take i) ++ FL (0 + (zs.take i).length) (zs.drop i) := by rw [← FL_app, List.take_append_drop]
  unfold offs; rw [e, List.length_append]; omega
theorem offs_mono (zs : List ByteArray) (i j : Nat) (h : i ≤ j) : offs zs i ≤ offs zs j := by
  have e : FL 0 (zs.take j) = FL 0 ((zs.take j).take i) ++ FL (0 + ((zs.take j).take i).length) ((zs.take j).drop i) := by rw [← FL_app, List.take_append_drop]
  unfold offs
  rw [e, List.length_append, List.take_take, Nat.min_eq_left h]
  omega
theorem offs_all (zs : List ByteArray) : offs zs zs.length = (FL 0 zs).length := by unfold offs; rw [List.take_length]
theorem FL_drop (zs : List ByteArray) (i : Nat) (h : i ≤ zs.length) : (FL 0 zs).drop (offs zs i) = FL i (zs.drop i) := by
  have e : FL 0 zs = FL 0 (zs.take i) ++ FL (0 + (zs.take i).length) (zs.drop i) := by rw [← FL_app, List.take_append_drop]
  conv => lhs; rw [e]
  unfold offs
  rw [List.drop_left, List.length_take, Nat.zero_add, show min i zs.length = i by omega]
theorem FL_at (zs : List ByteArray) (i : Nat) (h : i < zs.length) : FL i (zs.drop i) = frL (UInt8.ofNat i) zs[i] ++ FL (i + 1) (zs.drop (i + 1)) := by
  rw [List.drop_eq_getElem_cons h]; rfl

theorem nextF_nil : nextF (mkB []) = (0, ⟨#[]⟩, 0, 9) := by unfold nextF; rw [if_pos (by rfl)]
theorem nextI_nil : nextI (mkB []) = (⟨#[]⟩, 0, 3) := by
  unfold nextI getI
  rw [if_pos (show (mkB []).size = 0 from rfl)]
  rfl
theorem nextF_cut (k : UInt8) (t : ByteArray) (c : Nat) (ht : t.size ≤ 262144) (h0 : 0 < c) (h1 : c < (frL k t).length) : nextF (mkB ((frL k t).take c)) = (0, ⟨#[]⟩, 0, 3) := by
  rw [frL_len] at h1
  have hl : frL k t = k :: (encL t ++ sumL (headL k t)) := by unfold frL headL; simp
  obtain ⟨d, rfl⟩ : ∃ d, c = d + 1 := ⟨c - 1, by omega⟩
  have hz : (mkB ((frL k t).take (d + 1))).size = d + 1 := by rw [mkB_size, List.length_take, frL_len]; omega
  have he : (mkB ((frL k t).take (d + 1))).extract 1 (mkB ((frL k t).take (d + 1))).size = mkB ((encL t ++ sumL (headL k t)).take d) := by
    rw [mkB_drop _ 1 (by rw [List.length_take, frL_len]; omega), hl, List.take_succ_cons]; rfl
  unfold nextF
  rw [he, if_neg (by rw [hz]; omega)]
  by_cases h2 : d = 0
  · subst h2
    rw [List.take_zero, nextI_nil]
    exact if_pos (by decide)
  · by_cases h3 : d < (encL t).length
    · rw [List.take_append_of_le_length (by omega), next_of_cut t d ht (by omega) h3]
      exact if_pos (by decide)
    · have e : (encL t ++ sumL (headL k t)).take d = encL t ++ (sumL (headL k t)).take (d - (encL t).length) := by
        rw [List.take_append, List.take_of_length_le (by omega)]
      rw [e, next_of_enc t _ ht]
      dsimp only
      rw [if_neg (by decide), if_pos (by rw [hz]; omega)]

/-- What the walk over frames that were cut off comes to. -/
theorem whole_cut (zs : List ByteArray) (c j : Nat) (hz : ∀ i (h : i < zs.length), zs[i].size ≤ 262144) (hc : c ≤ (FL 0 zs).length) (hj : j ≤ zs.length) (h0 : offs zs j ≤ c) (hx : j = zs.length ∨ c < offs zs (j + 1)) :
    wholeI (mkB ((FL 0 zs).take c)) = (offs zs j, j) ∧ (nextF (mkB (((FL 0 zs).take c).drop (offs zs j)))).2.2.2 = (if offs zs j = c then 9 else 3) := by
  have hsz : (mkB ((FL 0 zs).take c)).size = c := by rw [mkB_size, List.length_take]; omega
  have hmono : ∀ i, i ≤ j → offs zs i ≤ offs zs j := by
    exact fun i hi => offs_mono zs i j hi
  have hcut : ∀ i, i ≤ zs.length → offs zs i ≤ c → (mkB ((FL 0 zs).take c)).extract (offs zs i) (mkB ((FL 0 zs).take c)).size = mkB ((FL i (zs.drop i)).take (c - offs zs i)) := by
    intro i hi hci
    rw [mkB_drop _ _ (by rw [List.length_take]; omega), List.drop_take, FL_drop zs i hi]
  have hW : ∀ i, i ≤ j → WholeAt (mkB ((FL 0 zs).take c)) (offs zs i) i := by
    intro i
    induction i with
    | zero => intro _; exact whole_start _
    | succ i ih =>
      intro hi
      have hi' : i < zs.length := by omega
      have hs := offs_succ zs i hi'
      have hm := hmono (i + 1) hi
      have hn : nextF ((mkB ((FL 0 zs).take c)).extract (offs zs i) (mkB ((FL 0 zs).take c)).size) = (((UInt8.ofNat i).toNat : Int), zs[i], ((frL (UInt8.ofNat i) zs[i]).length : Int), 0) := by
        rw [hcut i (by omega) (by omega), FL_at zs i hi', List.take_append, List.take_of_length_le (by omega)]
        exact nextF_frame _ _ _ (hz i hi')
      have := (whole_next _ _ _ (ih (by omega)) _ _ _ hn).1
      rw [hs]
      simpa using this
  have hend : nextF ((mkB ((FL 0 zs).take c)).extract (offs zs j) (mkB ((FL 0 zs).take c)).size) = (0, ⟨#[]⟩, 0, if offs zs j = c then 9 else 3) := by
    rw [hcut j hj h0]
    by_cases he : offs zs j = c
    · rw [if_pos he, he, Nat.sub_self, List.take_zero]; exact nextF_nil
    · rw [if_neg he]
      have hjl : j < zs.length := by
        rcases hx with h | h
        · rw [h, offs_all] at h0 he; omega
        · rcases Nat.lt_or_ge j zs.length with h' | h'
          · exact h'
          · have : j = zs.length := by omega
            rw [this, offs_all] at h0 he; omega
      have hs := offs_succ zs j hjl
      have hlt : c < offs zs (j + 1) := by
        rcases hx with h | h
        · omega
        · exact h
      rw [FL_at zs j hjl, List.take_append_of_le_length (by omega)]
      exact nextF_cut _ _ _ (hz j hjl) (by omega) (by omega)
  refine ⟨whole_end _ _ _ (hW j (Nat.le_refl _)) _ _ _ _ hend (by split <;> decide), ?_⟩
  rw [mkB_drop _ _ (by rw [List.length_take]; omega)] at hend
  rw [hend]
end Go.Proofs.YtaionhdamdhjjabDoor
