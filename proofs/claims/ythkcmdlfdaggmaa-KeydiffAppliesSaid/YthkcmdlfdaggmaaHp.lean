/- Keyed lists: the law's same; that it speaks. -/
import Derived.Test.YthkcmdlfdaggmaaHn
set_option linter.unusedVariables false
set_option linter.unusedSimpArgs false
namespace Go.Proofs.Ythkcmdlfdaggmaa
open Go.RowKit
variable {w w' : World}

theorem under_ri : Try.prog.underlying 50 = some (.struct (Try.prog.fieldsOf 50)) := by kernel_rfl
theorem held_ri : Try.prog.stoodInHeld 50 = false := by kernel_rfl
theorem kv_eq_bool (u v : KvB) : (u.1.toList == v.1.toList && u.2.toList == v.2.toList) = decide (u = v) := by
  obtain ⟨a, s⟩ := u; obtain ⟨b, t⟩ := v
  by_cases h : a = b
  · subst h
    by_cases h2 : s = t
    · subst h2; simp
    · have : ((a, s) : KvB) ≠ (a, t) := fun e => h2 (congrArg Prod.snd e)
      have := ba_ne h2
      simp [h2, this]
  · have h1 := ba_ne h
    have : ((a, s) : KvB) ≠ (b, t) := fun e => h (congrArg Prod.fst e)
    simp [h1, this]
theorem run_ne_ri (u v : KvB) (w : World) : (binOp .neq 50 (.agg #[.string u.1, .string u.2]) (.agg #[.string v.1, .string v.2])).run Try.prog w = .ok (.bool (!decide (u = v))) w := by
  rw [run_neq_struct, run_equalIn_agg _ _ _ _ _ under_ri held_ri, ← kv_eq_bool]
  cases h : (u.1.toList == v.1.toList) <;> simp [Op.eqFields, Program.fieldsOf, Try.underlying50, part, go_sem, Try.underlying9, h] <;> (try (cases h2 : (u.2.toList == v.2.toList) <;> simp_all))
theorem kv_get {o : Option Addr} {l : List KvB} (h : KvAt w o l) {k : Nat} {p : KvB} (hp : l[k]? = some p) : ∃ b i, o = some ⟨b, i, none⟩ ∧ w.cell? ⟨b, i + k * 2, none⟩ = some (.string p.1) ∧ w.cell? ⟨b, i + k * 2 + 1, none⟩ = some (.string p.2) := (h k p hp).2.2
set_option maxHeartbeats 4000000 in
set_option maxRecDepth 100000 in
theorem same_any (oa ob : Option Addr) (a b : List KvB) (ca cb : Nat) (w : World) (hla : a.length ≤ 1000000) (hlb : b.length ≤ 1000000) (ha : KvAt w oa a) (hb : KvAt w ob b) :
    Calls Try.prog 16 #[.slice oa a.length ca, .slice ob b.length cb] w fun e w' => e = .returned (.bool (decide (a = b))) ∧ ∃ q, w' = w.drewN q := by
  obtain ⟨n, hn⟩ : ∃ n, a.length = n := ⟨_, rfl⟩
  obtain ⟨m, hm⟩ : ∃ n, b.length = n := ⟨_, rfl⟩
  have HN := Lib.hid hn; have HM := Lib.hid hm; have HA := Lib.hid ha; have HB := Lib.hid hb
  rw [hn] at hla ⊢
  rw [hm] at hlb ⊢
  clear hn hm ha hb
  by_cases hnm : n = m
  · subst hnm
    go_enter Try.func16, Try.ntmps16
    go_wp2_with fail
    go_loopw [5] (fun i wr => ∃ k q : Nat, k ≤ n ∧ i = .int .i64 k ∧ a.take k = b.take k ∧ wr = w.drewN q) (fun i _ => n - (intOf i).toNat)
    case atStart => exact ⟨0, 0, Nat.zero_le _, rfl, by simp, rfl⟩
    case round =>
      obtain ⟨k, q, hk, rfl, ht, rfl⟩ := hrel
      have HT := Lib.hid ht
      clear ht
      by_cases hlt : k < n
      · obtain ⟨p, hp⟩ : ∃ p, a[k]? = some p := ⟨_, List.getElem?_eq_getElem (by rw [HN.out]; exact hlt)⟩
        obtain ⟨p2, hp2⟩ : ∃ p, b[k]? = some p := ⟨_, List.getElem?_eq_getElem (by rw [HM.out]; exact hlt)⟩
        obtain ⟨b0, i0, ho, c0, c1⟩ := kv_get HA.out hp
        obtain ⟨b1, i1, ho1, d0, d1⟩ := kv_get HB.out hp2
        subst ho ho1
        have HP := Lib.hid hp; have HP2 := Lib.hid hp2
        obtain ⟨x1, x2⟩ := p
        obtain ⟨y1, y2⟩ := p2
        have c0d : (w.drewN q).cell? ⟨b0, i0 + k * 2, none⟩ = some (.string x1) := c0
        have c1d : (w.drewN q).cell? ⟨b0, i0 + k * 2 + 1, none⟩ = some (.string x2) := c1
        have d0d : (w.drewN q).cell? ⟨b1, i1 + k * 2, none⟩ = some (.string y1) := d0
        have d1d : (w.drewN q).cell? ⟨b1, i1 + k * 2 + 1, none⟩ = some (.string y2) := d1
        have hne := run_ne_ri (x1, x2) (y1, y2)
        (try dsimp only at hne)
        have hki : (k : Int) < n := by omega
        clear hp hp2 c0 c1 d0 d1
        generalize hwd : w.drewN q = wd at c0d c1d d0d d1d ⊢
        have HWD := Lib.hid hwd
        clear hwd
        cases hd : (!decide (((x1, x2) : KvB) = (y1, y2))) with
        | false =>
          rw [hd] at hne
          have HEQ : Hid (((x1, x2) : KvB) = (y1, y2)) := Lib.hid (by simpa using hd)
          clear hd
          go_wp2_with fail
          go_quiet (fail)
          (first | (have _h : Nat := nq; clear _h) | rename_i nq)
          go_wp2_with fail
          go_roundw
          case rel => exact ⟨k + 1, q + nq, hlt, by go_num, by rw [take_get HP.out, take_get HP2.out, HT.out, HEQ.out], by rw [← HWD.out, World.drewN_drewN]⟩
          case measure => simp [intOf]; omega
        | true =>
          rw [hd] at hne
          have HF : Hid (decide (a = b) = false) := Lib.hid (decide_eq_false fun e => by
            have h1 := HP.out; rw [e, HP2.out] at h1; injection h1 with h1
            rw [h1] at hd; simp at hd)
          clear hd
          go_wp2_with fail
          go_quiet (fail)
          (first | (have _h : Nat := nq; clear _h) | rename_i nq)
          go_wp2_with fail
          go_ret
          exact ⟨by rw [HF.out]; rfl, _, by rw [← HWD.out, World.drewN_drewN]⟩
      · obtain rfl : k = n := by omega
        have HT2 : Hid (decide (a = b) = true) := Lib.hid (decide_eq_true (by
          have h := HT.out
          rw [List.take_of_length_le (by rw [HN.out]; exact Nat.le_refl _), List.take_of_length_le (by rw [HM.out]; exact Nat.le_refl _)] at h; exact h))
        go_wp2_with fail
        go_ret
        exact ⟨by rw [HT2.out]; rfl, _, rfl⟩
  · have hni : ¬ (n : Int) = m := by omega
    have hnb : (n == m) = false := beq_eq_false_iff_ne.2 hnm
    have hnb2 : ((n : Int) == (m : Int)) = false := beq_eq_false_iff_ne.2 hni
    have HF : Hid (decide (a = b) = false) := Lib.hid (decide_eq_false fun e => hnm (by rw [← HN.out, ← HM.out, e]))
    go_enter Try.func16, Try.ntmps16
    go_wp2_with fail
    go_ret
    exact ⟨by rw [HF.out]; rfl, 0, rfl⟩
def bA : ByteArray := ⟨#[97]⟩
def bB : ByteArray := ⟨#[98]⟩
def b1 : ByteArray := ⟨#[49]⟩
def b2 : ByteArray := ⟨#[50]⟩
def b3 : ByteArray := ⟨#[51]⟩
theorem lt_ab : ltB bA bB := by unfold ltB; rw [ByteArray.toList_eq, ByteArray.toList_eq]; decide
theorem asc_ab : Asc [bA, bB] := List.pairwise_cons.2 ⟨fun s hs => by simp at hs; subst hs; exact lt_ab, by simp [Asc]⟩
theorem sp_ks : ks3 [(bA, b1)] [(bA, b2)] [(bA, b1), (bB, b3)] = [bA, bB] := by
  unfold ks3
  exact (keyL_of_asc asc_ab fun s => by simp).symm
theorem sp_a : settleK (sayK [(bA, b1)] bA) (sayK [(bA, b2)] bA) (sayK [(bA, b1), (bB, b3)] bA) = ((b2, true), true) := by decide
theorem sp_b : settleK (sayK [(bA, b1)] bB) (sayK [(bA, b2)] bB) (sayK [(bA, b1), (bB, b3)] bB) = ((b3, true), true) := by decide
theorem sp_merge : mergeK [(bA, b1)] [(bA, b2)] [(bA, b1), (bB, b3)] = ([(bA, b2), (bB, b3)], [], 0) := by
  have hc : cfs3 [(bA, b1)] [(bA, b2)] [(bA, b1), (bB, b3)] = [] := by
    unfold cfs3 confK okK; rw [sp_ks]
    simp [List.filter_cons, sp_a, sp_b]
  unfold mergeK
  rw [if_neg (fun h => h ⟨by simp [RightK, ksK, Asc], by simp [RightK, ksK, Asc], asc_ab⟩), if_pos hc, sp_ks]
  unfold itemK setU
  simp [List.filter_cons, sp_a, sp_b]
theorem kv_one (W : World) (x y : ByteArray) (t : TypeId) (hx : x.size ≤ maxLen) (hy : y.size ≤ maxLen) : KvAt (W.alloc (.cells #[.string x, .string y] t)) (some ⟨W.heap.size, 0, none⟩) [(x, y)] := fun k p hk => by
  have hg := World.alloc_heap_new W (.cells #[.string x, .string y] t)
  match k, hk with
  | 0, hk => simp at hk; subst hk; exact ⟨hx, hy, _, 0, rfl, by rw [cell_of_row hg]; rfl, by rw [cell_of_row hg]; rfl⟩
theorem kv_two (W : World) (x y z u : ByteArray) (t : TypeId) (hx : x.size ≤ maxLen) (hy : y.size ≤ maxLen) (hz : z.size ≤ maxLen) (hu : u.size ≤ maxLen) : KvAt (W.alloc (.cells #[.string x, .string y, .string z, .string u] t)) (some ⟨W.heap.size, 0, none⟩) [(x, y), (z, u)] := fun k p hk => by
  have hg := World.alloc_heap_new W (.cells #[.string x, .string y, .string z, .string u] t)
  match k, hk with
  | 0, hk => simp at hk; subst hk; exact ⟨hx, hy, _, 0, rfl, by rw [cell_of_row hg]; rfl, by rw [cell_of_row hg]; rfl⟩
  | 1, hk => simp at hk; subst hk; exact ⟨hz, hu, _, 0, rfl, by rw [cell_of_row hg]; rfl, by rw [cell_of_row hg]; rfl⟩
set_option maxHeartbeats 4000000 in
set_option maxRecDepth 100000 in
theorem speaks_any (w : World) : Calls Try.prog 8 #[] w fun e w' => e = .returned (.bool true) ∧ Below w.heap.size w w' := by
  obtain ⟨WA, hWA⟩ : ∃ W, W = w.alloc (.cells #[.string bA, .string b1] 51) := ⟨_, rfl⟩
  obtain ⟨WB, hWB⟩ : ∃ W, W = WA.alloc (.cells #[.string bA, .string b2] 51) := ⟨_, rfl⟩
  obtain ⟨WC, hWC⟩ : ∃ W, W = WB.alloc (.cells #[.string bA, .string b1, .string bB, .string b3] 51) := ⟨_, rfl⟩
  have sA : WA.heap.size = w.heap.size + 1 := by rw [hWA]; simp
  have sB : WB.heap.size = w.heap.size + 2 := by rw [hWB]; simp [sA]
  have bAB : Below WA.heap.size WA WB := by rw [hWB]; exact (Below.refl _ _).alloc (Nat.le_refl _) _
  have bBC : Below WB.heap.size WB WC := by rw [hWC]; exact (Below.refl _ _).alloc (Nat.le_refl _) _
  have bA0 : Below w.heap.size w WA := by rw [hWA]; exact (Below.refl _ _).alloc (Nat.le_refl _) _
  have kA : KvAt WC (some ⟨w.heap.size, 0, none⟩) [(bA, b1)] := by
    have h := kv_one w bA b1 51 (by decide) (by decide)
    rw [← hWA] at h; exact (h.below bAB).below bBC
  have kB : KvAt WC (some ⟨w.heap.size + 1, 0, none⟩) [(bA, b2)] := by
    have h := kv_one WA bA b2 51 (by decide) (by decide)
    rw [← hWB, sA] at h; exact h.below bBC
  have kC : KvAt WC (some ⟨w.heap.size + 2, 0, none⟩) [(bA, b1), (bB, b3)] := by
    have h := kv_two WB bA b1 bB b3 51 (by decide) (by decide) (by decide) (by decide)
    rw [← hWC, sB] at h; exact h
  have hM := Merge_any _ _ _ _ _ _ 1 1 2 WC (by decide) (by decide) (by decide) kA kB kC
  unfold mgEnd at hM
  rw [sp_merge] at hM
  have hBC : Below w.heap.size w WC := bA0.trans ((bAB.mono (by omega)).trans (bBC.mono (by omega)))
  have HM := Lib.hid hM; have HBC := Lib.hid hBC
  rw [hWC, hWB, hWA] at HM
  rw [hWC, hWB, hWA] at HBC
  simp only [bA, bB, b1, b2, b3] at HM HBC
  clear hM hBC kA kB kC bA0 bBC bAB sA sB hWA hWB hWC
  go_enter Try.func8, Try.ntmps8
  go_wp2_with (go_at_call 17; refine HM.out.mono ?_)
  rintro e w1 ⟨v, u, rfl, hv, hu, hb⟩
  have hv2 : w1.ownsRow _ 51 2 v 2 [.string bA, .string b2, .string bB, .string b3] := hv
  obtain ⟨o, cl, rfl, h0 | ⟨g, rfl, _, hg, hc⟩⟩ := own_at hv2
  · cases h0
  have d0 : w1.cell? ⟨g, 1, none⟩ = some (.string ⟨#[50]⟩) := hc 1 _ rfl
  have d1 : w1.cell? ⟨g, 2, none⟩ = some (.string ⟨#[98]⟩) := hc 2 _ rfl
  obtain ⟨o2, c2, rfl⟩ := own_slice hu
  have HB := Lib.hid (HBC.out.trans (hb.mono HBC.out.size))
  clear hv hv2 hu hc hb HM
  go_wp2_with fail
  go_ret
  exact ⟨rfl, HB.out⟩
end Go.Proofs.Ythkcmdlfdaggmaa
