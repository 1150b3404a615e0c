/- Plain facts on a text of which up to four bytes in a row are changed. -/
import Derived.Test.YtodmomhilpheiabDoorKl
import Derived.Lib.ConvBytes
namespace Go.Proofs.YtodmomhilpheiabDoor
open Go.RowKit

def xw (L : List UInt8) (a : Nat) (y : Nat → UInt8) : Nat → List UInt8
  | 0 => []
  | j + 1 => xw L a y j ++ [L.getD (a + j) 0 ^^^ y j]
def rotL (L : List UInt8) (a : Nat) (y : Nat → UInt8) (j : Nat) : List UInt8 := L.take a ++ xw L a y j ++ L.drop (a + j)
def chg (y : Nat → UInt8) : Nat → Bool
  | 0 => false
  | j + 1 => chg y j || (y j != 0)
theorem xw_len (L : List UInt8) (a : Nat) (y : Nat → UInt8) : ∀ j, (xw L a y j).length = j
  | 0 => rfl
  | j + 1 => by unfold xw; rw [List.length_append, xw_len L a y j]; rfl
theorem rotL_zero (L : List UInt8) (a : Nat) (y : Nat → UInt8) : rotL L a y 0 = L := by
  unfold rotL xw; rw [List.append_nil, Nat.add_zero, List.take_append_drop]
theorem rotL_len (L : List UInt8) (a : Nat) (y : Nat → UInt8) (j : Nat) (h : a + j ≤ L.length) : (rotL L a y j).length = L.length := by
  unfold rotL; rw [List.length_append, List.length_append, xw_len, List.length_take, List.length_drop]; omega
theorem rotL_at (L : List UInt8) (a : Nat) (y : Nat → UInt8) (j : Nat) (h : a + j < L.length) : (rotL L a y j)[a + j]? = some (L.getD (a + j) 0) := by
  unfold rotL
  have hl : (L.take a ++ xw L a y j).length = a + j := by rw [List.length_append, xw_len, List.length_take]; omega
  rw [List.getElem?_append_right (by omega), hl, Nat.sub_self, List.getElem?_drop, Nat.add_zero, List.getElem?_eq_getElem h]
  simp [List.getD, List.getElem?_eq_getElem h]
theorem rotL_set (L : List UInt8) (a : Nat) (y : Nat → UInt8) (j : Nat) (h : a + j < L.length) : (rotL L a y j).set (a + j) (L.getD (a + j) 0 ^^^ y j) = rotL L a y (j + 1) := by
  have hl : (L.take a ++ xw L a y j).length = a + j := by rw [List.length_append, xw_len, List.length_take]; omega
  unfold rotL
  rw [List.set_append_right _ _ (by omega), hl, Nat.sub_self, List.drop_eq_getElem_cons h, List.set_cons_zero]
  show _ = L.take a ++ (xw L a y j ++ [L.getD (a + j) 0 ^^^ y j]) ++ L.drop (a + (j + 1))
  simp [List.append_assoc, Nat.add_assoc]
theorem xor_back (a b : UInt8) (h : a ^^^ b = a) : b = 0 := by
  have := congrArg (a ^^^ ·) h
  simpa [← UInt8.xor_assoc] using this
theorem xw_same (L : List UInt8) (a : Nat) (y : Nat → UInt8) : ∀ j, a + j ≤ L.length → (chg y j = false ↔ xw L a y j = (L.drop a).take j)
  | 0, _ => by simp [chg, xw]
  | j + 1, h => by
    have ih := xw_same L a y j (by omega)
    have hj : j < (L.drop a).length := by rw [List.length_drop]; omega
    have hg : (L.drop a)[j] = L.getD (a + j) 0 := by
      rw [List.getElem_drop]; simp [List.getD, List.getElem?_eq_getElem (show a + j < L.length by omega)]
    unfold chg xw
    rw [List.take_succ_eq_append_getElem hj, Bool.or_eq_false_iff, ih, hg]
    constructor
    · rintro ⟨h1, h2⟩
      have : y j = 0 := by simpa using h2
      rw [h1, this]; simp
    · intro e
      obtain ⟨e1, e2⟩ := List.append_inj e (by rw [xw_len, List.length_take]; omega)
      refine ⟨e1, ?_⟩
      have e3 : L.getD (a + j) 0 ^^^ y j = L.getD (a + j) 0 := by injection e2
      rw [xor_back _ _ e3]; rfl
theorem rot_split (L : List UInt8) (a j : Nat) (_h : a + j ≤ L.length) : L = L.take a ++ (L.drop a).take j ++ L.drop (a + j) := by
  have h1 : (L.drop a).take j ++ (L.drop a).drop j = L.drop a := List.take_append_drop _ _
  have h2 : (L.drop a).drop j = L.drop (a + j) := List.drop_drop
  rw [h2] at h1
  exact ((congrArg (L.take a ++ ·) h1).trans (List.take_append_drop a L)).symm.trans (List.append_assoc _ _ _).symm

/-- How many bytes stand ahead of a frame's body. -/
def headN (body : ByteArray) : Nat := 1 + (putI body.size).length
theorem headL_eq (k : UInt8) (body : ByteArray) : headL k body = (k :: (strOfNums (putI body.size)).data.toList) ++ body.data.toList := by unfold headL encL; rw [List.cons_append]
theorem head_len (k : UInt8) (body : ByteArray) : (k :: (strOfNums (putI body.size)).data.toList).length = headN body := by
  unfold headN; simp [strOfNums]; omega
theorem frL_size (k : UInt8) (body : ByteArray) : (frL k body).length = headN body + body.size + 4 := by
  rw [frL_len, encL_length]; unfold headN; omega
theorem rot_frame (k : UInt8) (body : ByteArray) (L' : List UInt8) (hl : L'.length = (frL k body).length) (ht : L'.take (headN body) = (frL k body).take (headN body)) :
    ∃ (body' : ByteArray) (c : List UInt8), body'.size = body.size ∧ c.length = 4 ∧ L' = headL k body' ++ c := by
  have hlen := frL_size k body
  refine ⟨mkB ((L'.drop (headN body)).take body.size), L'.drop (headN body + body.size), ?_, ?_, ?_⟩
  · rw [mkB_size, List.length_take, List.length_drop]; omega
  · rw [List.length_drop]; omega
  · have hz : (mkB ((L'.drop (headN body)).take body.size)).size = body.size := by rw [mkB_size, List.length_take, List.length_drop]; omega
    have hf : (frL k body).take (headN body) = k :: (strOfNums (putI body.size)).data.toList := by
      unfold frL
      rw [headL_eq, List.append_assoc, ← head_len k body, List.take_left]
    rw [headL_eq, hz, mkB_data, ← hf, ← ht, ← List.drop_drop, List.append_assoc, List.take_append_drop, List.take_append_drop]

theorem rot_next (k : UInt8) (body : ByteArray) (hb : body.size ≤ 262144) (a J : Nat) (y : Nat → UInt8) (ha : headN body ≤ a) (hJ : J ≤ 4) (haJ : a + J ≤ (frL k body).length) :
    (chg y J = false → nextF (mkB (rotL (frL k body) a y J)) = ((k.toNat : Int), body, ((frL k body).length : Int), 0)) ∧ (chg y J = true → nextF (mkB (rotL (frL k body) a y J)) = (0, ⟨#[]⟩, 0, 5)) := by
  have hsp := rot_split (frL k body) a J haJ
  constructor
  · intro h
    have hx := (xw_same (frL k body) a y J haJ).1 h
    have e : rotL (frL k body) a y J = frL k body := by
      unfold rotL; rw [hx, ← hsp]
    rw [e]
    have := nextF_frame k body [] hb
    rw [List.append_nil] at this
    exact this
  · intro h
    have hlr := rotL_len (frL k body) a y J haJ
    have ht : (rotL (frL k body) a y J).take (headN body) = (frL k body).take (headN body) := by
      unfold rotL
      rw [List.append_assoc, List.take_append_of_le_length (by rw [List.length_take]; omega), List.take_take, Nat.min_eq_left ha]
    obtain ⟨body', c, h1, h2, h3⟩ := rot_frame k body _ hlr ht
    rw [h3, nextF_sum k body' c (by omega) h2]
    rw [if_neg]
    intro hs
    have hne : ¬ chg y J = false := by rw [h]; decide
    apply hne
    rw [xw_same (frL k body) a y J haJ]
    exact (burst (headL k body) (sumL (headL k body)) (headL k body') c _ _ _ _ rfl h2 hsp (h3.symm.trans rfl) (by rw [xw_len, List.length_take, List.length_drop]; omega) (by rw [List.length_take]; omega) hs).symm

theorem xor8 (a b : UInt8) : bits .xor .u8 (a.toNat : Int) (b.toNat : Int) = ((a ^^^ b).toNat : Int) := by
  have e : ∀ x : UInt8, BitVec.ofInt 8 (x.toNat : Int) = x.toBitVec := fun x => by
    apply BitVec.eq_of_toNat_eq
    have := x.toNat_lt
    rw [BitVec.ofInt_natCast, BitVec.toNat_ofNat]
    show x.toNat % 2 ^ 8 = x.toNat
    omega
  show IntKind.u8.wrap ((BitVec.ofInt 8 (a.toNat : Int) ^^^ BitVec.ofInt 8 (b.toNat : Int)).toNat : Int) = _
  rw [e, e]
  have h : (a.toBitVec ^^^ b.toBitVec).toNat = (a ^^^ b).toNat := rfl
  rw [h]
  have := (a ^^^ b).toNat_lt
  exact IntWalk.u8_in _ (by omega)
end Go.Proofs.YtodmomhilpheiabDoor
