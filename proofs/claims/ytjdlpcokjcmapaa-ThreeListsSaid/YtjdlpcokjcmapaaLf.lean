/- Lists' edits: the program's lengths. -/
import Derived.Test.YtjdlpcokjcmapaaLe
set_option linter.unusedVariables false
set_option linter.unusedSimpArgs false
namespace Go.Proofs.Ytjdlpcokjcmapaa
open Go.RowKit
variable {w w' : World}

/-- Rows from p on are reckoned. -/
def LenO (E : Nat → Nat → Bool) (n m : Nat) (w : World) (i : Value) (wr : World) : Prop :=
  ∃ (p : Nat) (z : Int), p ≤ n ∧ i = .int .i64 z ∧ z + 1 = p ∧ Mat .u16 w.heap.size (fun i => w.heap.size + 1 + i) (n + 1) (m + 1) (cmF E n m p m) wr ∧ Below w.heap.size w wr
def LenI (E : Nat → Nat → Bool) (n m p : Nat) (w : World) (j : Value) (wr : World) : Prop :=
  ∃ (q : Nat) (z : Int), q ≤ m ∧ j = .int .i64 z ∧ z + 1 = q ∧ Mat .u16 w.heap.size (fun i => w.heap.size + 1 + i) (n + 1) (m + 1) (cmF E n m (p + 1) q) wr ∧ Below w.heap.size w wr
theorem BldS.done {n m : Nat} {E : Nat → Nat → Bool} {wr : World} (h : Mat .u16 w.heap.size (fun i => w.heap.size + 1 + i) (n + 1) (m + 1) (fun _ _ => 0) wr) (hb : Below w.heap.size w wr) : LenO E n m w (.int .i64 ((n : Int) - 1)) wr :=
  ⟨n, _, Nat.le_refl _, rfl, by omega, h.congr fun i j _ _ => (cmF_start E).symm, hb⟩
theorem LenI.start {E : Nat → Nat → Bool} {n m i : Nat} {wr : World} (h : Mat .u16 w.heap.size (fun i => w.heap.size + 1 + i) (n + 1) (m + 1) (cmF E n m (i + 1) m) wr) (hb : Below w.heap.size w wr) : LenI E n m i w (.int .i64 ((m : Int) - 1)) wr :=
  ⟨m, _, Nat.le_refl _, rfl, by omega, h, hb⟩
theorem LenI.next {E : Nat → Nat → Bool} {n m i j : Nat} {wr : World} {c : Int} (h : Mat .u16 w.heap.size (fun i => w.heap.size + 1 + i) (n + 1) (m + 1) (cmF E n m (i + 1) (j + 1)) wr) (hb : Below w.heap.size w wr) (hi : i < n) (hj : j < m) (hc : c = (cmI E n m i j : Nat)) : LenI E n m i w (.int .i64 ((j : Int) - 1)) (wr.setCell ⟨w.heap.size + 1 + i, j, none⟩ (.int .u16 c)) := by
  subst hc
  refine ⟨j, _, by omega, rfl, by omega, ?_, hb.setCell (p := ⟨w.heap.size + 1 + i, j, none⟩) (by show w.heap.size ≤ w.heap.size + 1 + i; omega) _⟩
  exact (h.set (i := i) (j := j) (v := cmI E n m i j) (by omega) (by omega)).congr fun a b _ _ => cmF_next E
theorem LenI.done {E : Nat → Nat → Bool} {n m i : Nat} {wr : World} (h : Mat .u16 w.heap.size (fun i => w.heap.size + 1 + i) (n + 1) (m + 1) (cmF E n m (i + 1) 0) wr) (hb : Below w.heap.size w wr) (hi : i < n) : LenO E n m w (.int .i64 ((i : Int) - 1)) wr :=
  ⟨i, _, by omega, rfl, by omega, h.congr fun a b _ hb => by rw [cmF_row, if_pos (by omega)], hb⟩
set_option maxHeartbeats 4000000 in
set_option maxRecDepth 100000 in
theorem lengths_any (ox oy : Option Addr) (xs ys : List Int) (cx cy : Nat) (E : Nat → Nat → Bool) (w : World) (hlx : xs.length ≤ 4096) (hly : ys.length ≤ 4096) (hx : NmAt w ox xs) (hy : NmAt w oy ys) (hE : ∀ i j, i < xs.length → j < ys.length → (xs.getD i 0 == ys.getD j 0) = E i j) :
    Calls Try.prog 45 #[.slice ox xs.length cx, .slice oy ys.length cy] w fun e w' => e = .returned (.slice (some ⟨w.heap.size, 0, none⟩) (xs.length + 1) (xs.length + 1)) ∧ Mat .u16 w.heap.size (fun i => w.heap.size + 1 + i) (xs.length + 1) (ys.length + 1) (cmI E xs.length ys.length) w' ∧ Below w.heap.size w w' := by
  obtain ⟨n, hn⟩ : ∃ n, xs.length = n := ⟨_, rfl⟩
  obtain ⟨m, hm⟩ : ∃ n, ys.length = n := ⟨_, rfl⟩
  have HN := Lib.hid hn; have HM := Lib.hid hm; have HX := Lib.hid hx; have HY := Lib.hid hy
  rw [hn, hm] at hE
  have HE := Lib.hid hE
  rw [hn] at hlx ⊢
  rw [hm] at hly ⊢
  clear hn hm hx hy hE
  have hmk := fun W => run_mk16s n (by omega) W
  have hmk2 := fun W => run_mk16 m (by omega) W
  have H0 := Lib.hid (BldS.start n m w)
  go_enter Try.func45, Try.ntmps45
  go_wp2_with fail
  go_loopw [17] (fun i wr => BldS n m w i wr) (fun i _ => n + 1 - (intOf i).toNat)
  case atStart => exact H0.out
  case round =>
    obtain ⟨k, hk, rfl, hsz, hM, ⟨cur, hg, hcs⟩, hb⟩ := hrel
    have HS := Lib.hid hsz; have HMT := Lib.hid hM; have HG := Lib.hid hg; have HCS := Lib.hid hcs; have HB := Lib.hid hb
    clear hsz hM hg hcs hb H0
    by_cases hlt : k < n + 1
    · obtain ⟨v0, hv0⟩ : ∃ v0, cur[k]? = some v0 := ⟨_, Array.getElem?_eq_getElem (by rw [HCS.out]; exact hlt)⟩
      have hc0 : wr.cell? ⟨w.heap.size, k, none⟩ = some v0 := by rw [cell_of_row HG.out]; exact hv0
      have hf0 : wr.frozen? ⟨w.heap.size, k, none⟩ = false := by simp [World.frozen?, HG.out]
      have hlw := lt_of_some HG.out
      clear hv0
      go_wp2_with fail
      go_roundw
      case rel => exact BldS.more hlt HS.out HMT.out HG.out HCS.out HB.out
      case measure => simp [intOf]; omega
    · obtain rfl : k = n + 1 := by omega
      go_wp2_with fail
      obtain ⟨wo, hwo⟩ : ∃ wo, wo = wr := ⟨_, rfl⟩
      subst hwo
      have H1 := Lib.hid (BldS.done (E := E) HMT.out HB.out)
      clear HS HMT HG HCS HB hmk hmk2
      go_loopw [7, 8, 9, 10] (fun i _ _ _ wr => LenO E n m w i wr) (fun i _ _ _ _ => (intOf i + 1).toNat)
      case atStart => exact H1.out
      case round =>
        obtain ⟨p, z, hp, rfl, hz, hM, hb⟩ := hrel
        have HMT := Lib.hid hM; have HB := Lib.hid hb
        clear hM hb H1
        by_cases hp0 : p = 0
        · obtain rfl : z = -1 := by omega
          subst hp0
          go_wp2_with fail
          go_ret
          exact ⟨rfl, HMT.out.congr fun i j _ _ => cmF_at (.inl (Nat.zero_le _)), HB.out⟩
        · obtain ⟨i, rfl⟩ : ∃ i, p = i + 1 := ⟨p - 1, by omega⟩
          obtain rfl : z = (i : Int) := by omega
          have hin : i < n + 1 := by omega
          have hr0 : wr.cell? ⟨w.heap.size, i, none⟩ = some (.slice (some ⟨w.heap.size + 1 + i, 0, none⟩) (m + 1) (m + 1)) := HMT.out.row i hin
          have hr1 : wr.cell? ⟨w.heap.size, i + 1, none⟩ = some (.slice (some ⟨w.heap.size + 1 + (i + 1), 0, none⟩) (m + 1) (m + 1)) := HMT.out.row (i + 1) (by omega)
          have hii : (i : Int) + 1 < (n : Int) + 1 := by omega
          have hi1 : (i : Int) < (n : Int) + 1 := by omega
          have hin2 : (i : Int) ≤ 4096 := by omega
          clear hp hp0 hz hin
          go_wp2_with fail
          go_quiet (fail)
          rename_i nq
          go_wp2_with fail
          have H1 := Lib.hid (LenI.start (HMT.out.drewN nq) (below_drewN HB.out nq))
          generalize wr.drewN nq = wo at H1 ⊢
          clear HMT HB hr0 hr1
          go_loopw [10] (fun j wr => LenI E n m i w j wr) (fun j _ => (intOf j + 1).toNat)
          case atStart => exact H1.out
          case round =>
            obtain ⟨q, z, hq, rfl, hz, hM, hb⟩ := hrel
            have HMT := Lib.hid hM; have HB := Lib.hid hb
            clear hM hb H1
            by_cases hq0 : q = 0
            · obtain rfl : z = -1 := by omega
              subst hq0
              go_wp2_with fail
              go_roundw
              case rel => exact LenI.done HMT.out HB.out (by omega)
              case measure => first | (simp [intOf]; done) | (simp [intOf]; omega)
            · obtain ⟨j, rfl⟩ : ∃ j, q = j + 1 := ⟨q - 1, by omega⟩
              obtain rfl : z = (j : Int) := by omega
              obtain ⟨bx, kx, hox, hcx⟩ := HX.out i (by rw [HN.out]; omega)
              obtain ⟨bY, ky, hoy, hcy⟩ := HY.out j (by rw [HM.out]; omega)
              subst hox hoy
              obtain ⟨xv, hxv⟩ : ∃ v, xs.getD i 0 = v := ⟨_, rfl⟩
              obtain ⟨yv, hyv⟩ : ∃ v, ys.getD j 0 = v := ⟨_, rfl⟩
              have hev := HE.out i j (by omega) (by omega)
              rw [hxv] at hcx hev
              rw [hyv] at hcy hev
              have hcx2 := (HB.out.cell (p := ⟨bx, kx + i, none⟩) (World.block_lt_of_cell? w _ hcx)).trans hcx
              have hcy2 := (HB.out.cell (p := ⟨bY, ky + j, none⟩) (World.block_lt_of_cell? w _ hcy)).trans hcy
              obtain ⟨c11, e11⟩ : ∃ c, cmI E n m (i + 1) (j + 1) = c := ⟨_, rfl⟩
              obtain ⟨c10, e10⟩ : ∃ c, cmI E n m (i + 1) j = c := ⟨_, rfl⟩
              obtain ⟨c01, e01⟩ : ∃ c, cmI E n m i (j + 1) = c := ⟨_, rfl⟩
              obtain ⟨c00, e00⟩ : ∃ c, cmF E n m (i + 1) (j + 1) i j = c := ⟨_, rfl⟩
              have g11 : wr.cell? ⟨w.heap.size + 1 + (i + 1), j + 1, none⟩ = some (.int .u16 (c11 : Nat)) := by rw [← e11]; have h := HMT.out.cell (i + 1) (j + 1) (by omega) (by omega); rw [cmF_at (.inl (Nat.le_refl _))] at h; exact h
              have g10 : wr.cell? ⟨w.heap.size + 1 + (i + 1), j, none⟩ = some (.int .u16 (c10 : Nat)) := by rw [← e10]; have h := HMT.out.cell (i + 1) j (by omega) (by omega); rw [cmF_at (.inl (Nat.le_refl _))] at h; exact h
              have g01 : wr.cell? ⟨w.heap.size + 1 + i, j + 1, none⟩ = some (.int .u16 (c01 : Nat)) := by rw [← e01]; have h := HMT.out.cell i (j + 1) (by omega) (by omega); rw [cmF_at (.inr ⟨rfl, Nat.le_refl _⟩)] at h; exact h
              have g00 : wr.cell? ⟨w.heap.size + 1 + i, j, none⟩ = some (.int .u16 (c00 : Nat)) := by rw [← e00]; exact HMT.out.cell i j (by omega) (by omega)
              have gf : wr.frozen? ⟨w.heap.size + 1 + i, j, none⟩ = false := HMT.out.thaw i j (by omega)
              have b11 : c11 ≤ 4096 := by have := cmI_bound E n m (i + 1) (j + 1); omega
              have b10 : c10 ≤ 4096 := by have := cmI_bound E n m (i + 1) j; omega
              have b01 : c01 ≤ 4096 := by have := cmI_bound E n m i (j + 1); omega
              have hj1 : (j : Int) < (m : Int) + 1 := by omega
              have hjj : (j : Int) + 1 < (m : Int) + 1 := by omega
              have hj2 : (j : Int) ≤ 4096 := by omega
              have hjm : (j : Int) < m := by omega
              have hin3 : (i : Int) < n := by omega
              have hQ : j < m := by omega
              have hP : i < n := by omega
              clear hq hz hq0 hcx hcy hxv hyv
              cases hE2 : E i j with
              | true =>
                rw [hE2] at hev
                have HF : Hid (((c11 + 1 : Nat) : Int) = (cmI E n m i j : Nat)) := Lib.hid (by rw [cmI_same hP hQ hE2, e11])
                clear hE2 e11 e10 e01 e00
                go_wp2_with fail
                go_quiet (fail)
                rename_i nq
                go_wp2_with fail
                go_roundw
                case rel => exact LenI.next (HMT.out.drewN nq) (below_drewN HB.out nq) hP hQ HF.out
                case measure => simp [intOf]
              | false =>
                rw [hE2] at hev
                have HF : Hid ((max c10 c01 : Nat) = cmI E n m i j) := Lib.hid (by rw [cmI_other hP hQ hE2, e10, e01])
                clear hE2 e11 e10 e01 e00
                go_wp2_with fail
                go_quiet (fail)
                rename_i nq
                go_wp2_with fail
                go_region
                all_goals (try go_wp2)
                go_roundw
                case rel => exact LenI.next (HMT.out.drewN _) (below_drewN HB.out _) hP hQ (by rw [← HF.out]; split <;> omega)
                case measure => simp [intOf]
end Go.Proofs.Ytjdlpcokjcmapaa
