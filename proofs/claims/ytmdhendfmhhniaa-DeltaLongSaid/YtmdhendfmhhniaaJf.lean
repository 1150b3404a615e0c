/- Deltas: instructions as they are written; the windows of a base. -/
import Derived.Test.YtmdhendfmhhniaaJe
import Derived.Maps.OwnSet
import Derived.DeepKeys4
namespace Go.Proofs.Ytmdhendfmhhniaa
open Go.RowKit Go.Maps Go.WideShapes
variable {w w' : World}

def putL (n : Nat) : List UInt8 := (strOfNums (putI n)).data.toList
theorem putL_len (n : Nat) : 1 ≤ (putL n).length ∧ (putL n).length ≤ 6 := by
  have h1 := putI_size n
  have h2 := fol_cases (n : Int)
  unfold putL
  have e : (strOfNums (putI n)).data.toList.length = (strOfNums (putI n)).size := by simp
  omega
/-- New bytes as an instruction. -/
def addL (t : ByteArray) : List UInt8 := if t.size = 0 then [] else 0 :: encL t
/-- Bytes of the base as one. -/
def copL (a n : Nat) : List UInt8 := 1 :: (putL a ++ putL n)
theorem encL_put (s : ByteArray) : encL s = putL s.size ++ s.data.toList := rfl
theorem dl_len (s : ByteArray) : s.data.toList.length = s.size := by simp
theorem encL_le2 (s : ByteArray) : s.size < (encL s).length ∧ (encL s).length ≤ s.size + 6 := by
  rw [encL_put, List.length_append, dl_len]
  have := putL_len s.size
  omega
theorem join_one (body : ByteArray) (w : World) (hs : body.size ≤ 1099511627000) :
    Calls Try.prog 29 #[.slice (some ⟨w.heap.size, 0, none⟩) 1 1] (w.alloc (.cells #[.string body] 9)) fun e w' => e = .returned (.string (mkB (encL body))) ∧ Below w.heap.size w w' := by
  have hj : joinL [body] = encL body := by show encL body ++ [] = _; rw [List.append_nil]
  have hl := (encL_le2 body).2
  refine (join_any w.heap.size 1 1 [body] _ rfl (by decide) (by simp) (fun i hi => ?_) (by rw [hj]; omega)).mono ?_
  · obtain rfl : i = 0 := by omega
    have e : (w.alloc (.cells #[.string body] 9)).heap[w.heap.size]? = some (.cells #[.string body] 9 (0, 0)) := by
      show (w.heap.push _)[w.heap.size]? = _
      simp
    unfold World.cell?
    simp only [e]
    rfl
  · rintro e w' ⟨rfl, h⟩
    rw [hj]
    exact ⟨rfl, ((Below.refl w.heap.size w).alloc (Nat.le_refl _) _).trans (h.mono (by simp))⟩
set_option maxHeartbeats 1000000 in
set_option maxRecDepth 100000 in
theorem add_any (t : ByteArray) (w : World) (hs : t.size ≤ 1000000) :
    Calls Try.prog 21 #[.string t] w fun e w' => e = .returned (.string (mkB (addL t))) ∧ Below w.heap.size w w' := by
  rcases Nat.eq_zero_or_pos t.size with h0 | h0
  · have HA : Hid (mkB (addL t) = ⟨#[]⟩) := Lib.hid (by unfold addL; rw [if_pos h0]; rfl)
    have hemp := ba_empty t h0
    clear h0
    go_enter Try.func21, Try.ntmps21
    go_wp2_with fail
    rw [HA.out]
    exact bodyPost_ret (v := .string ⟨#[]⟩) (by simp [results, Try.results21, go_sem]) rfl ⟨rfl, Below.refl _ _⟩
  · have hemp := ba_some t h0
    have hl := encL_le2 t
    have HJ := Lib.hid (fun W => join_one t W (by omega))
    obtain ⟨j, hj⟩ : ∃ j, mkB (encL t) = j := ⟨_, rfl⟩
    have hjs : j.size ≤ 1000006 := by rw [← hj, mkB_size]; omega
    have HA : Hid ((⟨#[0]⟩ : ByteArray) ++ j = mkB (addL t)) := Lib.hid (by
      rw [← hj]; unfold addL; rw [if_neg (by omega)]
      exact (mkB_app [0] (encL t)).symm)
    rw [hj] at HJ
    have hcat : ¬ 9223372036854775807 < (⟨#[0]⟩ : ByteArray).size + j.size := by show ¬ _ < 1 + j.size; omega
    clear hl hj h0
    go_enter Try.func21, Try.ntmps21
    go_wp2_with (go_at_call 29; refine (HJ.out _).mono ?_; rintro e w1 ⟨rfl, hb1⟩; have HB1 := Lib.hid hb1; clear hb1)
    rw [← HA.out]
    exact bodyPost_ret (v := .string ((⟨#[0]⟩ : ByteArray) ++ j)) (by simp [results, Try.results21, go_sem]) rfl ⟨rfl, HB1.out⟩
set_option maxHeartbeats 1000000 in
set_option maxRecDepth 100000 in
theorem copy_any (a n : Nat) (w : World) (ha : a ≤ 1099511627776) (hn : n ≤ 1099511627776) :
    Calls Try.prog 31 #[.int .i64 a, .int .i64 n] w fun e w' => e = .returned (.string (mkB (copL a n))) ∧ Below w.heap.size w w' := by
  obtain ⟨p, hp⟩ : ∃ p, strOfNums (putI a) = p := ⟨_, rfl⟩
  obtain ⟨q, hq⟩ : ∃ q, strOfNums (putI n) = q := ⟨_, rfl⟩
  have hpl := putL_len a
  have hql := putL_len n
  have hps : p.size ≤ 6 := by rw [← hp]; have := dl_len (strOfNums (putI a)); unfold putL at hpl; omega
  have hqs : q.size ≤ 6 := by rw [← hq]; have := dl_len (strOfNums (putI n)); unfold putL at hql; omega
  have HP := Lib.hid (fun W => put_nat a p W (by omega) (by omega) hp)
  have HQ := Lib.hid (fun W => put_nat n q W (by omega) (by omega) hq)
  have HA : Hid ((⟨#[1]⟩ : ByteArray) ++ p ++ q = mkB (copL a n)) := Lib.hid (by
    apply ba_ext
    rw [mkB_data]
    unfold copL putL
    rw [hp, hq]
    simp)
  have h1 : ¬ 9223372036854775807 < (⟨#[1]⟩ : ByteArray).size + p.size := by show ¬ _ < 1 + p.size; omega
  obtain ⟨r, hr⟩ : ∃ r, (⟨#[1]⟩ : ByteArray) ++ p = r := ⟨_, rfl⟩
  have hrs : r.size ≤ 7 := by rw [← hr, ByteArray.size_append]; show 1 + p.size ≤ 7; omega
  have h2 : ¬ 9223372036854775807 < r.size + q.size := by omega
  have h2' : ¬ 9223372036854775807 < ((⟨#[1]⟩ : ByteArray) ++ p).size + q.size := by rw [hr]; exact h2
  clear hp hq hpl hql hr
  by_cases hpq : True
  · go_enter Try.func31, Try.ntmps31
    go_wp2_with (first
      | (go_at_call 14; refine (HP.out _).mono ?_; rintro e w1 ⟨rfl, hb1⟩; have HB1 := Lib.hid hb1; clear hb1 HP)
      | (go_at_call 14; refine (HQ.out _).mono ?_; rintro e w2 ⟨rfl, hb2⟩; have HB2 := Lib.hid (HB1.out.trans (hb2.mono HB1.out.size)); clear hb2))
    rw [← HA.out]
    exact bodyPost_ret (v := .string ((⟨#[1]⟩ : ByteArray) ++ p ++ q)) (by simp [results, Try.results31, go_sem]) rfl ⟨rfl, HB2.out⟩
  · exact absurd trivial hpq
end Go.Proofs.Ytmdhendfmhhniaa
