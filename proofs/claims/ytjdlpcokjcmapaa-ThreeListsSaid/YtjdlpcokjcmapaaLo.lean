/- Lists' edits: the document's matrix, reckoned. -/
import Derived.Test.YtjdlpcokjcmapaaLn
set_option linter.unusedVariables false
set_option linter.unusedSimpArgs false
namespace Go.Proofs.Ytjdlpcokjcmapaa
open Go.RowKit
variable {w w' : World}

theorem one_memV {v : Value} (h : v.oneCell' = true) : ∀ u ∈ [v], u.oneCell' = true := by
  intro u hu; simp at hu; subst hu; exact h
def ComO (E : Nat → Nat → Bool) (g : Nat) (R : Nat → Nat) (n m : Nat) (w : World) (i : Value) (wr : World) : Prop :=
  ∃ (p : Nat) (z : Int), p ≤ n ∧ i = .int .i64 z ∧ z + 1 = p ∧ Mat .i64 g R (n + 1) (m + 1) (cmF E n m p m) wr ∧ Below w.heap.size w wr
def ComI (E : Nat → Nat → Bool) (g : Nat) (R : Nat → Nat) (n m p : Nat) (w : World) (j : Value) (wr : World) : Prop :=
  ∃ (q : Nat) (z : Int), q ≤ m ∧ j = .int .i64 z ∧ z + 1 = q ∧ Mat .i64 g R (n + 1) (m + 1) (cmF E n m (p + 1) q) wr ∧ Below w.heap.size w wr
theorem ComI.next {E : Nat → Nat → Bool} {g : Nat} {R : Nat → Nat} {n m i j : Nat} {wr : World} {c : Int} (h : Mat .i64 g R (n + 1) (m + 1) (cmF E n m (i + 1) (j + 1)) wr) (hb : Below w.heap.size w wr) (hi : i < n) (hj : j < m) (hR : w.heap.size ≤ R i) (hc : c = (cmI E n m i j : Nat)) : ComI E g R n m i w (.int .i64 ((j : Int) - 1)) (wr.setCell ⟨R i, j, none⟩ (.int .i64 c)) := by
  subst hc
  refine ⟨j, _, by omega, rfl, by omega, ?_, hb.setCell (p := ⟨R i, j, none⟩) hR _⟩
  exact (h.set (i := i) (j := j) (v := cmI E n m i j) (by omega) (by omega)).congr fun a b _ _ => cmF_next E
theorem ComI.done {E : Nat → Nat → Bool} {g : Nat} {R : Nat → Nat} {n m i : Nat} {wr : World} (h : Mat .i64 g R (n + 1) (m + 1) (cmF E n m (i + 1) 0) wr) (hb : Below w.heap.size w wr) (hi : i < n) : ComO E g R n m w (.int .i64 ((i : Int) - 1)) wr :=
  ⟨i, _, by omega, rfl, by omega, h.congr fun a b _ hb => by rw [cmF_row, if_pos (by omega)], hb⟩
set_option maxHeartbeats 8000000 in
set_option maxRecDepth 100000 in
theorem Common_any (oa ob : Option Addr) (a b : List ByteArray) (ca cb : Nat) (w : World) (hla : a.length ≤ 4096) (hlb : b.length ≤ 4096) (ha : TxAt w oa a) (hb : TxAt w ob b) :
    Calls Try.prog 46 #[.slice oa a.length ca, .slice ob b.length cb] w fun e w' => ∃ g R cap, e = .returned (.slice (some ⟨g, 0, none⟩) (a.length + 1) cap) ∧ Mat .i64 g R (a.length + 1) (b.length + 1) (cmI (eqB a b) a.length b.length) w' ∧ w.heap.size ≤ g ∧ (∀ i, i < a.length + 1 → w.heap.size ≤ R i) ∧ Below w.heap.size w w' := by
  obtain ⟨n, hn⟩ : ∃ n, a.length = n := ⟨_, rfl⟩
  obtain ⟨m, hm⟩ : ∃ n, b.length = n := ⟨_, rfl⟩
  obtain ⟨i1, hi1, hz0, hz1, hz2⟩ := info_parts info_is
  have HI1 := Lib.hid hi1; have HZ0 := Lib.hid hz0; have HZ1 := Lib.hid hz1; have HZ2 := Lib.hid hz2
  have HN := Lib.hid hn; have HM := Lib.hid hm; have HA := Lib.hid ha; have HB := Lib.hid hb
  rw [hn] at hla ⊢
  rw [hm] at hlb ⊢
  clear hi1 hz0 hz1 hz2 hn hm ha hb
  have hmk := fun W => run_mki m (by omega) W
  have H0 : Hid (CbS n m w (.slice none 0 0) (.int .i64 0) w) := Lib.hid ⟨0, [], Nat.zero_le _, rfl, rfl, World.ownsRow_nil _ _ _ _, (fun r hr => by cases hr), List.nodup_nil, Below.refl _ _⟩
  obtain ⟨E, hE⟩ : ∃ E, eqB a b = E := ⟨_, rfl⟩
  have HE := Lib.hid hE
  rw [hE]
  clear hE
  go_enter Try.func46, Try.ntmps46
  go_wp2_with fail
  go_loopw [5, 6] (fun v i wr => CbS n m w v i wr) (fun _ i _ => n + 1 - (intOf i).toNat)
  case atStart => exact H0.out
  case round =>
    obtain ⟨k, Rs, hk, rfl, hl, hrow, hr, hnd, hb⟩ := hrel
    have HL := Lib.hid hl; have HROW := Lib.hid hrow; have HR := Lib.hid hr; have HND := Lib.hid hnd; have HBB := Lib.hid hb
    clear hl hrow hr hnd hb H0
    by_cases hlt : k ≤ n
    · have HR2 := Lib.hid (own_below HROW.out ((Below.refl wr.heap.size wr).alloc (Nat.le_refl _) (.cells (madeCells #[.int .i64 0] (m + 1)) 3)))
      have hlti : (k : Int) ≤ n := by omega
      go_wp2_with (at_builtin; (refine wpList_append_own _ rfl _ _ 84 rfl w.heap.size 52 i1 (.slice none 0 0) 1 24 Try.underlying84 HI1.out HZ0.out HZ1.out HZ2.out rfl (by decide) _ _ _ rfl (HR2.out.alloc _) ⟨wr.heap.size + 1, 0, none⟩ 1 1 [.slice (some ⟨wr.heap.size, 0, none⟩) (m + 1) (m + 1)] rfl rfl (by simpa using cell_one_new (wr.alloc (.cells (madeCells #[.int .i64 0] (m + 1)) 3)) 52 (.slice (some ⟨wr.heap.size, 0, none⟩) (m + 1) (m + 1))) (one_memV rfl) (by unfold maxLen; omega) (by omega) (by have := HBB.out.size; simp; omega) ?_); intro v' w4 hown hgrow _; have HO4 := Lib.hid hown; have HG4 := Lib.hid hgrow; clear hown hgrow)
      go_roundw
      case rel => exact CbS.more (by omega) HL.out HROW.out HR.out HND.out HBB.out HO4.out HG4.out
      case measure => simp [intOf]; omega
    · obtain rfl : k = n + 1 := by omega
      obtain ⟨g, cap, hv, hgB, hM, hRB⟩ := CbS.mat HL.out HROW.out HR.out HND.out
      subst hv
      obtain ⟨R, hR⟩ : ∃ R : Nat → Nat, R = fun i => Rs.getD i 0 := ⟨_, rfl⟩
      have hRB2 : ∀ i, i < n + 1 → w.heap.size ≤ R i := by rw [hR]; exact hRB
      rw [← hR] at hM
      have HRB := Lib.hid hRB2
      have H1 : Hid (ComO E g R n m w (.int .i64 ((n : Int) - 1)) wr) := Lib.hid ⟨n, _, Nat.le_refl _, rfl, by omega, hM.congr (fun i j _ _ => (cmF_start E).symm), HBB.out⟩
      clear hR hRB hRB2 HL HROW HR HND HBB hM hmk
      have hnl : ¬ ((n : Int) + 1 ≤ n) := by omega
      go_wp2_with fail
      obtain ⟨wo, hwo⟩ : ∃ wo, wo = wr := ⟨_, rfl⟩
      subst hwo
      go_loopw [7, 8] (fun i _ wr => ComO E g R n m w i wr) (fun i _ _ => (intOf i + 1).toNat)
      case atStart => exact H1.out
      case round =>
        obtain ⟨p, z, hp, rfl, hz, hM, hb⟩ := hrel
        have HMT := Lib.hid hM; have HBB := Lib.hid hb
        clear hM hb H1
        by_cases hp0 : p = 0
        · obtain rfl : z = -1 := by omega
          subst hp0
          go_wp2_with fail
          go_ret
          exact ⟨g, R, cap, rfl, HMT.out.congr (fun i j _ _ => cmF_at (.inl (Nat.zero_le _))), hgB, HRB.out, HBB.out⟩
        · obtain ⟨i, rfl⟩ : ∃ i, p = i + 1 := ⟨p - 1, by omega⟩
          obtain rfl : z = (i : Int) := by omega
          have hpn : i < n := by omega
          clear hz hp hp0
          go_wp2_with fail
          have H1 : Hid (ComI E g R n m i w (.int .i64 ((m : Int) - 1)) wr) := Lib.hid ⟨m, _, Nat.le_refl _, rfl, by omega, HMT.out, HBB.out⟩
          obtain ⟨wo, hwo⟩ : ∃ wo, wo = wr := ⟨_, rfl⟩
          subst hwo
          clear HMT HBB
          go_loopw [8] (fun j wr => ComI E g R n m i w j wr) (fun j _ => (intOf j + 1).toNat)
          case atStart => exact H1.out
          case round =>
            obtain ⟨q, z, hq, rfl, hz, hM, hb⟩ := hrel
            have HMT := Lib.hid hM; have HBB := Lib.hid hb
            clear hM hb H1
            by_cases hq0 : q = 0
            · obtain rfl : z = -1 := by omega
              subst hq0
              go_wp2_with fail
              go_roundw
              case rel => exact ComI.done HMT.out HBB.out (by omega)
              case measure => first | (simp [intOf]; done) | (simp [intOf]; omega)
            · obtain ⟨j, rfl⟩ : ∃ j, q = j + 1 := ⟨q - 1, by omega⟩
              obtain rfl : z = (j : Int) := by omega
              obtain ⟨_, bx, kx, hox, hcx⟩ := (HA.out.below HBB.out) i (by rw [HN.out]; omega)
              obtain ⟨_, bY, ky, hoy, hcy⟩ := (HB.out.below HBB.out) j (by rw [HM.out]; omega)
              subst hox hoy
              obtain ⟨x, hxv⟩ : ∃ v, itB a i = v := ⟨_, rfl⟩
              obtain ⟨y, hyv⟩ : ∃ v, itB b j = v := ⟨_, rfl⟩
              have hev : E i j = decide (x = y) := by rw [← HE.out]; unfold eqB; rw [hxv, hyv]
              rw [hxv] at hcx
              rw [hyv] at hcy
              have hr0 : wr.cell? ⟨g, i, none⟩ = some (.slice (some ⟨R i, 0, none⟩) (m + 1) (m + 1)) := HMT.out.row i (by omega)
              obtain ⟨i1, hi1e⟩ : ∃ i1 : Nat, i + 1 = i1 := ⟨_, rfl⟩
              obtain ⟨j1, hj1e⟩ : ∃ j1 : Nat, j + 1 = j1 := ⟨_, rfl⟩
              obtain ⟨R1, hR1⟩ : ∃ r, R i1 = r := ⟨_, rfl⟩
              have ei : (i : Int) + 1 = (i1 : Int) := by omega
              have ej : (j : Int) + 1 = (j1 : Int) := by omega
              have hr1 : wr.cell? ⟨g, i1, none⟩ = some (.slice (some ⟨R1, 0, none⟩) (m + 1) (m + 1)) := by rw [← hR1]; exact HMT.out.row i1 (by omega)
              obtain ⟨c11, e11⟩ : ∃ c, cmI E n m (i + 1) (j + 1) = c := ⟨_, rfl⟩
              obtain ⟨c10, e10⟩ : ∃ c, cmI E n m (i + 1) j = c := ⟨_, rfl⟩
              obtain ⟨c01, e01⟩ : ∃ c, cmI E n m i (j + 1) = c := ⟨_, rfl⟩
              obtain ⟨c00, e00⟩ : ∃ c, cmF E n m (i + 1) (j + 1) i j = c := ⟨_, rfl⟩
              have g11 : wr.cell? ⟨R1, j1, none⟩ = some (.int .i64 (c11 : Nat)) := by rw [← e11, ← hR1, ← hi1e, ← hj1e]; have h := HMT.out.cell (i + 1) (j + 1) (by omega) (by omega); rw [cmF_at (.inl (Nat.le_refl _))] at h; exact h
              have g10 : wr.cell? ⟨R1, j, none⟩ = some (.int .i64 (c10 : Nat)) := by rw [← e10, ← hR1, ← hi1e]; have h := HMT.out.cell (i + 1) j (by omega) (by omega); rw [cmF_at (.inl (Nat.le_refl _))] at h; exact h
              have g01 : wr.cell? ⟨R i, j1, none⟩ = some (.int .i64 (c01 : Nat)) := by rw [← e01, ← hj1e]; have h := HMT.out.cell i (j + 1) (by omega) (by omega); rw [cmF_at (.inr ⟨rfl, Nat.le_refl _⟩)] at h; exact h
              have g00 : wr.cell? ⟨R i, j, none⟩ = some (.int .i64 (c00 : Nat)) := by rw [← e00]; exact HMT.out.cell i j (by omega) (by omega)
              have gf : wr.frozen? ⟨R i, j, none⟩ = false := HMT.out.thaw i j (by omega)
              have b11 : c11 ≤ 4096 := by have := cmI_bound E n m (i + 1) (j + 1); omega
              have b10 : c10 ≤ 4096 := by have := cmI_bound E n m (i + 1) j; omega
              have b01 : c01 ≤ 4096 := by have := cmI_bound E n m i (j + 1); omega
              have hj1 : (j : Int) < (m : Int) + 1 := by omega
              have hjj : (j1 : Int) < (m : Int) + 1 := by omega
              have hj2 : (j : Int) ≤ 4096 := by omega
              have hjm : (j : Int) < m := by omega
              have hii : (i1 : Int) < (n : Int) + 1 := by omega
              have hib : (i1 : Int) ≤ 4097 := by omega
              have hjb : (j1 : Int) ≤ 4097 := by omega
              have hi1 : (i : Int) < (n : Int) + 1 := by omega
              have hin3 : (i : Int) < n := by omega
              have hin2 : (i : Int) ≤ 4096 := by omega
              have hQ : j < m := by omega
              have hP : i < n := by omega
              have hRi := HRB.out i (by omega)
              clear hq hz hq0 hxv hyv hi1e hj1e hR1
              by_cases hxy : x = y
              · subst hxy
                have HF : Hid ((1 + (c11 : Int)) = (cmI E n m i j : Nat)) := Lib.hid (by rw [cmI_same hP hQ (by rw [hev]; simp), e11]; omega)
                clear hev e11 e10 e01 e00
                go_wp2_with fail
                go_quiet (fail)
                (first | (have _h : Nat := nq; clear _h) | rename_i nq)
                go_wp2_with fail
                go_region
                all_goals (try go_wp2)
                go_roundw
                case rel => exact ComI.next (HMT.out.drewN _) (below_drewN HBB.out _) hP hQ hRi HF.out
                case measure => first | (simp [intOf]; done) | (simp [intOf]; omega)
              · have hn1 := ba_ne hxy
                have hn2 : (x.toList == y.toList) = false := beq_eq_false_iff_ne.2 hn1
                have HF : Hid (max c10 c01 = cmI E n m i j) := Lib.hid (by rw [cmI_other hP hQ (by rw [hev]; simp [hxy]), e10, e01])
                clear hev e11 e10 e01 e00 hxy
                go_wp2_with fail
                go_quiet (fail)
                (first | (have _h : Nat := nq; clear _h) | rename_i nq)
                generalize nq = nq1
                go_wp2_with fail
                by_cases hcc : c01 < c10
                · have hci : (c01 : Int) < c10 := by omega
                  go_quiet (fail)
                  (first | (have _h : Nat := nq; clear _h) | rename_i nq)
                  generalize nq = nq2
                  go_wp2_with fail
                  go_region
                  all_goals (try go_wp2)
                  go_roundw
                  case rel => exact ComI.next (HMT.out.drewN _) (below_drewN HBB.out _) hP hQ hRi (by rw [← HF.out]; omega)
                  case measure => first | (simp [intOf]; done) | (simp [intOf]; omega)
                · have hci : ¬ (c01 : Int) < c10 := by omega
                  have hcd : decide (c01 < c10) = false := decide_eq_false hcc
                  have hcdi : decide ((c01 : Int) < (c10 : Int)) = false := decide_eq_false hci
                  go_quiet (fail)
                  (first | (have _h : Nat := nq; clear _h) | rename_i nq)
                  generalize nq = nq2
                  go_wp2_with fail
                  go_region
                  all_goals (try go_wp2)
                  go_roundw
                  case rel => exact ComI.next (HMT.out.drewN _) (below_drewN HBB.out _) hP hQ hRi (by rw [← HF.out]; omega)
                  case measure => first | (simp [intOf]; done) | (simp [intOf]; omega)
end Go.Proofs.Ytjdlpcokjcmapaa
