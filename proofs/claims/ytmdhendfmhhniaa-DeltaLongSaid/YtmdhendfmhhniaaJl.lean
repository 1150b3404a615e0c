/- Deltas: Make. -/
import Derived.Test.YtmdhendfmhhniaaJk
namespace Go.Proofs.Ytmdhendfmhhniaa
open Go.RowKit
variable {w w' : World}

/-- A delta from a base to a target. -/
def MadeD (base target D : ByteArray) : Prop :=
  ∃ L : List Ins, D = mkB (putL base.size ++ putL target.size ++ bytesI L) ∧ okI base L ∧ outsI base L = target.data.toList ∧ (bytesI L).length ≤ (addL target).length ∧ (0 ≤ Lib.index base.data.toList target.data.toList → (bytesI L).length ≤ 13)
theorem copL_len (a n : Nat) : (copL a n).length ≤ 13 := by
  have := putL_len a; have := putL_len n
  unfold copL; rw [List.length_cons, List.length_append]; omega
theorem comp_pick {base target : ByteArray} {B : List UInt8} (h : CompOk base target B) (ht : target.size ≤ 1000000) :
    ∃ L : List Ins, (if B.length < (addL target).length then B else addL target) = bytesI L ∧ okI base L ∧ outsI base L = target.data.toList ∧ (bytesI L).length ≤ (addL target).length ∧ (0 ≤ Lib.index base.data.toList target.data.toList → (bytesI L).length ≤ 13) := by
  by_cases hl : B.length < (addL target).length
  · rw [if_pos hl]
    rcases h with ⟨k, hk, rfl⟩ | ⟨hk, L, rfl, h1, h2⟩
    · have hat := index_at hk
      have h0 : 0 < target.size := by
        rcases Nat.eq_zero_or_pos target.size with h0 | h0
        · unfold addL at hl; rw [if_pos h0] at hl; simp at hl
        · exact h0
      have e : bytesI [.old k target.size] = copL k target.size := by unfold bytesI; simp [insB]
      refine ⟨[.old k target.size], e.symm, fun i hi => ?_, ?_, ?_, fun _ => ?_⟩
      · rw [List.mem_singleton.1 hi]; exact ⟨h0, hat.1⟩
      · unfold outsI; simp only [List.flatMap_cons, List.flatMap_nil, List.append_nil, insO]; exact hat.2
      · rw [e]; omega
      · rw [e]; exact copL_len _ _
    · exact ⟨L, rfl, h1, h2, by omega, fun h => by omega⟩
  · rw [if_neg hl]
    refine ⟨newI target, (newI_bytes target).symm, newI_ok base target ht, newI_outs base target, by rw [newI_bytes]; exact Nat.le_refl _, fun h0 => ?_⟩
    rw [newI_bytes]
    rcases h with ⟨k, hk, rfl⟩ | ⟨hk, _⟩
    · have := copL_len k target.size; omega
    · omega
theorem comp_len {base target : ByteArray} {B : List UInt8} (h : CompOk base target B) (ht : target.size ≤ 1000000) : B.length ≤ 15000013 := by
  rcases h with ⟨k, hk, rfl⟩ | ⟨hk, L, rfl, h1, h2⟩
  · have := copL_len k target.size; omega
  · have := bytesI_le h1
    rw [h2, dl_len] at this; omega
theorem addL_len (t : ByteArray) : (addL t).length ≤ t.size + 7 := by
  have := encL_le2 t
  unfold addL; split
  · exact Nat.zero_le _
  · rw [List.length_cons]; omega
def longD (base target : ByteArray) : Prop := 262208 < base.size ∨ 262208 < target.size
set_option maxHeartbeats 2000000 in
set_option maxRecDepth 100000 in
theorem Make_long (base target : ByteArray) (w : World) (hbs : base.size ≤ maxLen) (hts : target.size ≤ maxLen) (hl : longD base target) :
    Calls Try.prog 13 #[.string base, .string target] w fun e w' => e = .returned (.string ⟨#[]⟩) ∧ w' = w := by
  unfold maxLen at hbs hts
  by_cases h1 : 262208 < base.size
  · have h1i : (262208 : Int) < base.size := by omega
    clear hl
    go_enter Try.func13, Try.ntmps13
    go_wp2_with fail
    go_ret
    exact ⟨rfl, rfl⟩
  · have h1i : ¬ (262208 : Int) < base.size := by omega
    have h2i : (262208 : Int) < target.size := by rcases hl with h | h <;> omega
    clear hl
    go_enter Try.func13, Try.ntmps13
    go_wp2_with fail
    go_ret
    exact ⟨rfl, rfl⟩
set_option maxHeartbeats 2000000 in
set_option maxRecDepth 100000 in
theorem Make_any (base target : ByteArray) (w : World) (hbs : base.size ≤ 262208) (hts : target.size ≤ 262208) (hm : MaxAt w) :
    Calls Try.prog 13 #[.string base, .string target] w fun e w' => ∃ D, e = .returned (.string D) ∧ MadeD base target D ∧ Below w.heap.size w w' := by
  have HA := Lib.hid (fun W => add_any target W (by omega))
  have HCO := Lib.hid (fun W hW => compose_any base target W (by omega) (by omega) hW)
  obtain ⟨p, hp⟩ : ∃ p, strOfNums (putI base.size) = p := ⟨_, rfl⟩
  obtain ⟨q, hq⟩ : ∃ q, strOfNums (putI target.size) = q := ⟨_, rfl⟩
  have hpl := putL_len base.size
  have hql := putL_len target.size
  have hps : p.size ≤ 6 := by rw [← hp]; have := dl_len (strOfNums (putI base.size)); unfold putL at hpl; omega
  have hqs : q.size ≤ 6 := by rw [← hq]; have := dl_len (strOfNums (putI target.size)); unfold putL at hql; omega
  have HP := Lib.hid (fun W => put_nat base.size p W (by omega) (by omega) hp)
  have HQ := Lib.hid (fun W => put_nat target.size q W (by omega) (by omega) hq)
  have HPQ : Hid (∀ B : List UInt8, p ++ q ++ mkB B = mkB (putL base.size ++ putL target.size ++ B)) := Lib.hid (fun B => by
    rw [mkB_app, mkB_app]
    unfold putL
    rw [hp, hq, mkB_list, mkB_list])
  obtain ⟨pq, hpq⟩ : ∃ pq, p ++ q = pq := ⟨_, rfl⟩
  have hpqs : pq.size ≤ 12 := by rw [← hpq, ByteArray.size_append]; omega
  have h1 : ¬ 9223372036854775807 < p.size + q.size := by omega
  have HPQ2 := Lib.hid hpq
  have HM := Lib.hid hm; have HT := Lib.hid hts
  have hal := addL_len target
  obtain ⟨A, hA⟩ : ∃ A, addL target = A := ⟨_, rfl⟩
  rw [hA] at HA hal
  have HAE := Lib.hid hA
  have hb1 : ¬ (262208 : Int) < base.size := by omega
  have hb2 : ¬ (262208 : Int) < target.size := by omega
  have hAs : (mkB A).size = A.length := mkB_size A
  obtain ⟨a, ha⟩ : ∃ a, mkB A = a := ⟨_, rfl⟩
  rw [ha] at HA hAs
  have hAl : a.size ≤ 262220 := by omega
  have HAS := Lib.hid hAs
  have HAA := Lib.hid ha
  clear hp hq hpl hql hm hal hA hAs ha hpq
  go_enter Try.func13, Try.ntmps13
  go_wp2_with fail
  refine (HA.out _).mono ?_
  rintro e w1 ⟨rfl, hw1⟩
  have HB1 := Lib.hid hw1
  clear hw1
  go_wp2_with fail
  refine (HCO.out w1 (HM.out.below HB1.out)).mono ?_
  rintro e w2 ⟨B, rfl, hco, hw2⟩
  have hBl := comp_len hco (by have := HT.out; omega)
  obtain ⟨L, hL, hL2⟩ := comp_pick hco (by have := HT.out; omega)
  rw [HAE.out] at hL hL2
  have hBs : (mkB B).size = B.length := mkB_size B
  obtain ⟨b, hb⟩ : ∃ b, mkB B = b := ⟨_, rfl⟩
  rw [hb] at hBs ⊢
  have HB2 := Lib.hid (HB1.out.trans (hw2.mono HB1.out.size))
  have HMD : Hid (∀ D, D = mkB (putL base.size ++ putL target.size ++ bytesI L) → MadeD base target D) := Lib.hid (fun D hD => ⟨L, hD, by rw [HAE.out]; exact hL2⟩)
  have hbl : b.size ≤ 15000013 := by omega
  have HBB := Lib.hid hb
  by_cases hlt : b.size < a.size
  · have hlti : (b.size : Int) < a.size := by omega
    have HLB : Hid (bytesI L = B) := Lib.hid (by rw [← hL, if_pos (by have := HAS.out; omega)])
    have h2 : ¬ 9223372036854775807 < pq.size + b.size := by omega
    clear hco hL hL2 hBs hb hw2 hBl
    go_wp2_with fail
    refine (HP.out _).mono ?_
    rintro e w3 ⟨rfl, hw3⟩
    have HB3 := Lib.hid (HB2.out.trans (hw3.mono HB2.out.size))
    clear hw3
    go_wp2_with fail
    refine (HQ.out _).mono ?_
    rintro e w4 ⟨rfl, hw4⟩
    have HB4 := Lib.hid (HB3.out.trans (hw4.mono HB3.out.size))
    have hpq := HPQ2.out
    clear hw4
    go_wp2_with fail
    exact bodyPost_ret (v := .string (pq ++ b)) (by simp [results, Try.results13, go_sem]) rfl ⟨pq ++ b, rfl, HMD.out _ (by rw [← HPQ2.out, ← HBB.out, HPQ.out, HLB.out]), HB4.out⟩
  · have hlti : ¬ (b.size : Int) < a.size := by omega
    have HLB : Hid (bytesI L = A) := Lib.hid (by rw [← hL, if_neg (by have := HAS.out; omega)])
    have h2 : ¬ 9223372036854775807 < pq.size + a.size := by omega
    clear hco hL hL2 hBs hb hw2 hBl
    go_wp2_with fail
    refine (HP.out _).mono ?_
    rintro e w3 ⟨rfl, hw3⟩
    have HB3 := Lib.hid (HB2.out.trans (hw3.mono HB2.out.size))
    clear hw3
    go_wp2_with fail
    refine (HQ.out _).mono ?_
    rintro e w4 ⟨rfl, hw4⟩
    have HB4 := Lib.hid (HB3.out.trans (hw4.mono HB3.out.size))
    have hpq := HPQ2.out
    clear hw4
    go_wp2_with fail
    exact bodyPost_ret (v := .string (pq ++ a)) (by simp [results, Try.results13, go_sem]) rfl ⟨pq ++ a, rfl, HMD.out _ (by rw [← HPQ2.out, ← HAA.out, HPQ.out, HLB.out]), HB4.out⟩
end Go.Proofs.Ytmdhendfmhhniaa
