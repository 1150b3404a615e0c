/- Deltas, plain: a delta that is made gives its target. -/
import Derived.Test.YtmdhendfmhhniaaJl
namespace Go.Proofs.Ytmdhendfmhhniaa
open Go.RowKit

theorem mkB_drop (l : List UInt8) (k : Nat) : (mkB l).extract k (mkB l).size = mkB (l.drop k) := by
  apply ba_ext
  rw [ext_list, mkB_data, mkB_data, mkB_size, List.take_of_length_le (by rw [List.length_drop]; exact Nat.le_refl _)]
theorem mkB_cut (l : List UInt8) (a b : Nat) : (mkB l).extract a b = mkB ((l.drop a).take (b - a)) := by
  apply ba_ext
  rw [ext_list, mkB_data, mkB_data]
theorem byt_cons (x : UInt8) (l : List UInt8) : byt (mkB (x :: l)) 0 = (x.toNat : Int) := by
  unfold byt mkB; rfl
theorem getI_putL (n : Nat) (r : List UInt8) (h : n ≤ 1099511627776) : getI (mkB (putL n ++ r)) = ((n : Int), ((putL n).length : Int), 0) := by
  have e : mkB (putL n ++ r) = strOfNums (putI n) ++ mkB r := by rw [mkB_app]; unfold putL; rw [mkB_list]
  have hl : ((putL n).length : Int) = folI n + 1 := by
    have := putI_size n
    have e2 := dl_len (strOfNums (putI n))
    unfold putL; omega
  rw [e, getI_put n (mkB r) (by omega) (by omega), hl]
theorem drop_app (a b : List UInt8) : (a ++ b).drop a.length = b := by rw [List.drop_append_of_le_length (Nat.le_refl _), List.drop_length]; rfl
theorem insD_new (base t : ByteArray) (r : List UInt8) (h0 : 0 < t.size) (h1 : t.size ≤ 1000000) : insD base (mkB (addL t ++ r)) = (t, ((addL t).length : Int), 0) := by
  have ea : addL t = 0 :: (putL t.size ++ t.data.toList) := by unfold addL; rw [if_neg (by omega)]; rfl
  have e : addL t ++ r = 0 :: (putL t.size ++ (t.data.toList ++ r)) := by rw [ea]; simp
  have hs : (mkB (addL t ++ r)).extract 1 (mkB (addL t ++ r)).size = mkB (putL t.size ++ (t.data.toList ++ r)) := by rw [mkB_drop, e]; rfl
  have hg := getI_putL t.size (t.data.toList ++ r) (by omega)
  have hk := putL_len t.size
  have hok := addD_ok hg (by omega) (by rw [mkB_size, List.length_append, List.length_append, dl_len]; omega)
  have hx : (mkB (putL t.size ++ (t.data.toList ++ r))).extract ((putL t.size).length : Int).toNat (((putL t.size).length : Int) + (t.size : Int)).toNat = t := by
    rw [show (((putL t.size).length : Int)).toNat = (putL t.size).length from Int.toNat_natCast _, show (((putL t.size).length : Int) + (t.size : Int)).toNat = (putL t.size).length + t.size by omega, mkB_cut, drop_app, show (putL t.size).length + t.size - (putL t.size).length = t.size by omega]
    apply ba_ext
    rw [mkB_data, List.take_append_of_le_length (by rw [dl_len]; exact Nat.le_refl _), List.take_of_length_le (by rw [dl_len]; exact Nat.le_refl _)]
  rw [hx] at hok
  have hlen : 1 + (((putL t.size).length : Int) + (t.size : Int)) = ((addL t).length : Int) := by rw [ea, List.length_cons, List.length_append, dl_len]; omega
  rw [insD_a (by rw [e, byt_cons]; rfl) ((congrArg addD hs).trans hok), hlen]
theorem insD_old (base : ByteArray) (a n : Nat) (r : List UInt8) (h0 : 0 < n) (h1 : a + n ≤ base.size) (hb : base.size ≤ 1000000) : insD base (mkB (copL a n ++ r)) = (base.extract a (a + n), ((copL a n).length : Int), 0) := by
  have e : copL a n ++ r = 1 :: (putL a ++ (putL n ++ r)) := by unfold copL; simp
  have hs : (mkB (copL a n ++ r)).extract 1 (mkB (copL a n ++ r)).size = mkB (putL a ++ (putL n ++ r)) := by rw [mkB_drop, e]; rfl
  have hg := getI_putL a (putL n ++ r) (by omega)
  have hg2 : getI ((mkB (putL a ++ (putL n ++ r))).extract (((putL a).length : Int)).toNat (mkB (putL a ++ (putL n ++ r))).size) = ((n : Int), ((putL n).length : Int), 0) := by
    rw [show (((putL a).length : Int)).toNat = (putL a).length from Int.toNat_natCast _, mkB_drop, drop_app]
    exact getI_putL n r (by omega)
  have hok := copD_ok (base := base) hg hg2 (by omega)
  rw [show ((a : Int)).toNat = a from Int.toNat_natCast _, show ((a : Int) + (n : Int)).toNat = a + n by omega] at hok
  have hlen : 1 + (((putL a).length : Int) + ((putL n).length : Int)) = ((copL a n).length : Int) := by unfold copL; rw [List.length_cons, List.length_append]; omega
  rw [insD_c (by rw [e, byt_cons]; rfl) ((congrArg (copD base) hs).trans hok), hlen]
theorem insD_ins {base : ByteArray} {i : Ins} (r : List UInt8) (h : insOk base i) (hb : base.size ≤ 1000000) : insD base (mkB (insB i ++ r)) = (mkB (insO base i), ((insB i).length : Int), 0) := by
  cases i with
  | new t => rw [show insB (.new t) = addL t from rfl, show insO base (.new t) = t.data.toList from rfl, mkB_list]; exact insD_new base t r h.1 h.2
  | old a n =>
    rw [show insB (.old a n) = copL a n from rfl, insD_old base a n r h.1 h.2 hb]
    congr 1
    apply ba_ext
    rw [ext_list, mkB_data, show a + n - a = n by omega]; rfl
theorem insB_pos {base : ByteArray} {i : Ins} (h : insOk base i) : 0 < (insB i).length := by
  cases i with
  | new t => show 0 < (addL t).length; unfold addL; rw [if_neg (by have := h.1; omega)]; simp
  | old a n => show 0 < (copL a n).length; unfold copL; simp
theorem rest_ins {base : ByteArray} {tg : Int} (hb : base.size ≤ 1000000) : ∀ (L : List Ins) (r : List UInt8) (out : List UInt8), okI base L → (out.length : Int) + ((outsI base L).length : Int) ≤ tg → restD base tg (mkB (bytesI L ++ r)) out = restD base tg (mkB r) (out ++ outsI base L)
  | [], r, out, _, _ => by
    show restD base tg (mkB ([] ++ r)) out = restD base tg (mkB r) (out ++ [])
    rw [List.nil_append, List.append_nil]
  | i :: L, r, out, h, hl => by
    have e1 : bytesI (i :: L) = insB i ++ bytesI L := rfl
    have e2 : outsI base (i :: L) = insO base i ++ outsI base L := rfl
    have hi := h i (by simp)
    rw [e2, List.length_append] at hl
    have hp := insB_pos hi
    rw [e1, e2, List.append_assoc, restD_more base tg out (by rw [mkB_size, List.length_append]; omega) (insD_ins _ hi hb) (by rw [mkB_size]; omega),
      show (((insB i).length : Int)).toNat = (insB i).length from Int.toNat_natCast _, mkB_drop, drop_app, mkB_data,
      rest_ins hb L r (out ++ insO base i) (fun j hj => h j (by simp [hj])) (by rw [List.length_append]; omega), List.append_assoc]
theorem sizD_put (a b : Nat) (r : List UInt8) (ha : a ≤ 262208) (hb : b ≤ 262208) : sizD (mkB (putL a ++ putL b ++ r)) = ((a : Int), (b : Int), ((putL a).length : Int) + ((putL b).length : Int), 0) := by
  have hg := getI_putL a (putL b ++ r) (by omega)
  have hg2 : getI ((mkB (putL a ++ (putL b ++ r))).extract (((putL a).length : Int)).toNat (mkB (putL a ++ (putL b ++ r))).size) = ((b : Int), ((putL b).length : Int), 0) := by
    rw [show (((putL a).length : Int)).toNat = (putL a).length from Int.toNat_natCast _, mkB_drop, drop_app]
    exact getI_putL b r (by omega)
  rw [List.append_assoc]
  unfold sizD
  rw [hg]
  dsimp only
  rw [hg2]
  dsimp only
  rw [if_neg (fun h => h rfl), if_neg (fun h => h rfl), if_neg (by omega)]
theorem appD_made {base target D : ByteArray} (h : MadeD base target D) (hb : base.size ≤ 262208) (ht : target.size ≤ 262208) : appD base D = (target, 0) := by
  obtain ⟨L, rfl, hok, hout, _, _⟩ := h
  unfold appD
  rw [sizD_put _ _ _ hb ht]
  dsimp only
  rw [if_neg (fun h => h rfl), if_neg (fun h => h rfl)]
  have e : (mkB (putL base.size ++ putL target.size ++ bytesI L)).extract (((putL base.size).length : Int) + ((putL target.size).length : Int)).toNat (mkB (putL base.size ++ putL target.size ++ bytesI L)).size = mkB (bytesI L) := by
    rw [show (((putL base.size).length : Int) + ((putL target.size).length : Int)).toNat = (putL base.size ++ putL target.size).length by rw [List.length_append]; omega, mkB_drop, drop_app]
  have e2 : bytesI L = bytesI L ++ [] := by rw [List.append_nil]
  rw [e, e2, rest_ins (by omega) L [] [] hok (by rw [hout, dl_len]; simp), hout, List.nil_append, restD_end base _ _ (by rw [mkB_size]; rfl), if_neg (by rw [dl_len]; omega), mkB_list]
end Go.Proofs.Ytmdhendfmhhniaa
