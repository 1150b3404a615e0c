/- Keyed lists: the document's Right and Says; the law's same. -/
import Derived.Test.YthkcmdlfdaggmaaHl
set_option linter.unusedVariables false
set_option linter.unusedSimpArgs false
namespace Go.Proofs.Ythkcmdlfdaggmaa
open Go.RowKit
variable {w w' : World}

set_option maxHeartbeats 4000000 in
set_option maxRecDepth 100000 in
theorem RRight_any (o : Option Addr) (l : List KvB) (c : Nat) (w : World) (hl : l.length ≤ 1000000) (h : KvAt w o l) :
    Calls Try.prog 12 #[.slice o l.length c] w fun e w' => e = .returned (.bool (decide (RightK l))) ∧ ∃ m, w' = w.drewN m := by
  obtain ⟨n, hn⟩ : ∃ n, l.length = n := ⟨_, rfl⟩
  have HN := Lib.hid hn; have HL := Lib.hid h
  rw [hn] at hl ⊢
  clear hn h
  go_enter Try.func12, Try.ntmps12
  go_wp2_with fail
  go_loopw [3] (fun i wr => ∃ k q : Nat, (k + 1 ≤ n ∨ k = 0) ∧ i = .int .i64 k ∧ ascP (ksK l) (k + 1) ∧ wr = w.drewN q) (fun i _ => n - (intOf i).toNat)
  case atStart => exact ⟨0, 0, .inr rfl, rfl, fun j a b hj => by omega, rfl⟩
  case round =>
    obtain ⟨k, q, hk, rfl, hA, rfl⟩ := hrel
    have HA := Lib.hid hA
    clear hA
    by_cases hlt : k + 1 < n
    · obtain ⟨k1, hk1⟩ : ∃ k1, k + 1 = k1 := ⟨_, rfl⟩
      obtain ⟨p, hp⟩ : ∃ p, l[k]? = some p := ⟨_, List.getElem?_eq_getElem (by rw [HN.out]; omega)⟩
      obtain ⟨p2, hp2⟩ : ∃ p, l[k1]? = some p := ⟨_, List.getElem?_eq_getElem (by rw [HN.out]; omega)⟩
      obtain ⟨_, _, b0, i0, ho, c0, c1⟩ := HL.out k p hp
      obtain ⟨_, _, b1, i1, ho1, d0, d1⟩ := HL.out k1 p2 hp2
      rw [ho] at ho1
      injection ho1 with ho1
      injection ho1 with e1 e2 _
      subst e1 e2 ho
      have HKP : Hid ((ksK l)[k]? = some p.1) := Lib.hid (by rw [List.getElem?_map, hp]; rfl)
      have HKQ : Hid ((ksK l)[k + 1]? = some p2.1) := Lib.hid (by rw [List.getElem?_map, hk1, hp2]; rfl)
      obtain ⟨a, x⟩ := p
      obtain ⟨b, y⟩ := p2
      have c0d : (w.drewN q).cell? ⟨b0, i0 + k * 2, none⟩ = some (.string a) := c0
      have d0d : (w.drewN q).cell? ⟨b0, i0 + k1 * 2, none⟩ = some (.string b) := d0
      dsimp only at HKP HKQ
      clear hp hp2 c0 c1 d0 d1
      generalize hwd : w.drewN q = wd at c0d d0d ⊢
      have HWD := Lib.hid hwd
      have hki : (k : Int) < n := by omega
      have hk1i : (k1 : Int) < n := by omega
      have hk10 : (0 : Int) ≤ k1 := by omega
      have hkn : k < n := by omega
      have hk1n : k1 < n := by omega
      have hkk : (k : Int) + 1 = (k1 : Int) := by omega
      have HK1 := Lib.hid hk1
      have hw1 : IntKind.i64.wrap ((k : Int) + 1) = (k1 : Int) := by rw [IntWalk.i64_in _ (by omega)]; omega
      have hww : IntKind.i64.wrap (k1 : Int) = (k1 : Int) := by rw [IntWalk.i64_in _ (by omega)]
      clear hwd hk1 hk
      cases hab : Op.bytesLess a.toList b.toList with
      | true =>
        have HLT : Hid (ltB a b) := Lib.hid hab
        go_wp2_with fail
        go_quiet (fail)
        (first | (have _h : Nat := nq; clear _h) | rename_i nq)
        clear hw1 hww
        go_wp2_with fail
        go_roundw
        case rel => exact ⟨k + 1, q + nq, .inl (by omega), by go_num, fun j u v hj hu hv => by
          by_cases e : j = k
          · subst e
            rw [HKP.out] at hu; rw [HKQ.out] at hv
            injection hu with hu; injection hv with hv
            rw [← hu, ← hv]; exact HLT.out
          · exact HA.out j u v (by omega) hu hv, by rw [← HWD.out, World.drewN_drewN]⟩
        case measure => simp [intOf]; omega
      | false =>
        have HF : Hid (decide (RightK l) = false) := Lib.hid (decide_eq_false fun hr => by
          have := asc_get hr HKP.out HKQ.out
          unfold ltB at this; rw [hab] at this; cases this)
        go_wp2_with fail
        go_quiet (fail)
        (first | (have _h : Nat := nq; clear _h) | rename_i nq)
        clear hw1 hww
        go_wp2_with fail
        go_ret
        exact ⟨by rw [HF.out]; rfl, _, by rw [← HWD.out, World.drewN_drewN]⟩
    · have HT : Hid (decide (RightK l) = true) := Lib.hid (decide_eq_true (ascP_all (fun j a b hj ha hb => HA.out j a b (by have := HN.out; rw [List.length_map] at hj; omega) ha hb)))
      go_wp2_with fail
      go_ret
      exact ⟨by rw [HT.out]; rfl, _, rfl⟩
theorem settled_one (w : World) (A : Obj) : Below w.heap.size w (w.alloc A) := (Below.refl w.heap.size w).alloc (Nat.le_refl _) A
theorem one_cell0 (w : World) (a b : Value) (t : TypeId) : (w.alloc (.cells #[a, b] t)).cell? ⟨w.heap.size, 0, none⟩ = some a := by rw [cell_of_row (World.alloc_heap_new w _)]; rfl
theorem one_cell1 (w : World) (a b : Value) (t : TypeId) : (w.alloc (.cells #[a, b] t)).cell? ⟨w.heap.size, 1, none⟩ = some b := by rw [cell_of_row (World.alloc_heap_new w _)]; rfl
theorem say_app_not {a b : List KvB} {s : ByteArray} (h : s ∉ ksK a) : sayK (a ++ b) s = sayK b s := by
  induction a with
  | nil => rfl
  | cons q a ih =>
    rw [show ksK (q :: a) = q.1 :: ksK a from rfl, List.mem_cons, not_or] at h
    rw [List.cons_append, say_cons, if_neg (fun e => h.1 e.symm), ih h.2]
theorem say_first {l : List KvB} {k : Nat} {p : KvB} {s : ByteArray} (hp : l[k]? = some p) (hs : p.1 = s) (h : s ∉ ksK (l.take k)) : sayK l s = (p.2, true) := by
  have e : l = l.take k ++ p :: l.drop (k + 1) := by
    have := (List.getElem?_eq_some_iff.1 hp).1
    conv => lhs; rw [← List.take_append_drop k l]
    rw [List.drop_eq_getElem_cons this, (List.getElem?_eq_some_iff.1 hp).2]
  rw [e, say_app_not h, say_cons, if_pos hs]
set_option maxHeartbeats 4000000 in
set_option maxRecDepth 100000 in
theorem Says_any (o : Option Addr) (l : List KvB) (c : Nat) (s : ByteArray) (w : World) (hl : l.length ≤ 1000000) (h : KvAt w o l) :
    Calls Try.prog 14 #[.slice o l.length c, .string s] w fun e w' => e = .returned (sdV (sayK l s)) ∧ Below w.heap.size w w' := by
  obtain ⟨n, hn⟩ : ∃ n, l.length = n := ⟨_, rfl⟩
  have hB0 : Below w.heap.size w (w.alloc (.cells #[.string ⟨#[]⟩, .bool false] 37)) := (Below.refl _ w).alloc (Nat.le_refl _) _
  have HN := Lib.hid hn; have HL := Lib.hid (h.below hB0)
  have q0 := cell_of_row (j := 0) (World.alloc_heap_new w (.cells #[.string ⟨#[]⟩, .bool false] 37))
  have q1 := cell_of_row (j := 1) (World.alloc_heap_new w (.cells #[.string ⟨#[]⟩, .bool false] 37))
  have hsz : w.heap.size < (w.alloc (.cells #[.string ⟨#[]⟩, .bool false] 37)).heap.size := by simp
  have HB0 := Lib.hid hB0
  rw [hn] at hl ⊢
  clear hn h hB0 q0 q1 hsz
  go_enter Try.func14, Try.ntmps14
  go_wp2_with fail
  go_loopw [5] (fun i wr => ∃ k : Nat, k ≤ n ∧ i = .int .i64 k ∧ s ∉ ksK (l.take k) ∧ wr = w.alloc (.cells #[.string ⟨#[]⟩, .bool false] 37)) (fun i _ => n - (intOf i).toNat)
  case atStart => exact ⟨0, Nat.zero_le _, rfl, by simp, rfl⟩
  case round =>
    obtain ⟨k, hk, rfl, hA, rfl⟩ := hrel
    have HA := Lib.hid hA
    clear hA
    by_cases hlt : k < n
    · obtain ⟨p, hp⟩ : ∃ p, l[k]? = some p := ⟨_, List.getElem?_eq_getElem (by rw [HN.out]; omega)⟩
      obtain ⟨_, _, b0, i0, ho, c0, c1⟩ := HL.out k p hp
      subst ho
      have HP := Lib.hid hp
      obtain ⟨a, x⟩ := p
      dsimp only at c0 c1
      clear hp
      by_cases ha : a = s
      · subst ha
        have HE : Hid (sayK l a = (x, true)) := Lib.hid (say_first HP.out rfl HA.out)
        go_wp2_with fail
        refine bodyPost_ret (v := sdV (x, true)) ?_ rfl ⟨by rw [HE.out], settled_one w _⟩
        simp [results, Try.results14, go_sem, one_cell0, one_cell1]
      · have hn1 := ba_ne ha
        have hn2 : (a.toList == s.toList) = false := beq_eq_false_iff_ne.2 hn1
        have HNE := Lib.hid ha
        go_wp2_with fail
        go_roundw
        case rel => exact ⟨k + 1, hlt, by go_num, fun hm => by
          rw [take_get HP.out, ksK, List.map_append, List.mem_append] at hm
          rcases hm with hm | hm
          · exact HA.out hm
          · simp at hm; exact HNE.out hm.symm, by first | trivial | rfl⟩
        case measure => simp [intOf]; omega
    · obtain rfl : k = n := by omega
      have HE : Hid (sayK l s = sd0) := Lib.hid (say_not (by have h := HA.out; rw [List.take_of_length_le (by rw [HN.out]; exact Nat.le_refl _)] at h; exact h))
      go_wp2_with fail
      refine bodyPost_ret (v := sdV sd0) ?_ rfl ⟨by rw [HE.out], settled_one w _⟩
      simp [results, Try.results14, go_sem, one_cell0, one_cell1, sd0, noB]
end Go.Proofs.Ythkcmdlfdaggmaa
