/- Rules: the law of lines. -/
import Derived.Test.YtlfjlkmikmajaaaRk
namespace Go.Proofs.Ytlfjlkmikmajaaa
open Go.RowKit
variable {w w' : World}

def cB (L : List ByteArray) : ByteArray := ⟨(catT L).toArray⟩
theorem cB_size (L : List ByteArray) : (cB L).size = (catT L).length := by show (catT L).toArray.size = _; simp
theorem cB_snoc (L : List ByteArray) (x : ByteArray) : cB (L ++ [x]) = cB L ++ x := by
  apply ByteArray.ext
  apply Array.ext'
  show catT (L ++ [x]) = _
  rw [catT_snoc, ByteArray.data_append, Array.toList_append]
  rfl
theorem catT_take (L : List ByteArray) (i : Nat) : (catT (L.take i)).length ≤ (catT L).length := by
  conv => rhs; rw [← List.take_append_drop i L]
  unfold catT
  rw [List.flatMap_append, List.length_append]; omega
def LnS (w : World) (out : List ByteArray) (t i : Value) (wr : World) : Prop :=
  ∃ k : Nat, k ≤ out.length ∧ i = .int .i64 k ∧ t = .string (cB (out.take k)) ∧ Below w.heap.size w wr
def LkS (w : World) (p : ByteArray) (i : Value) (wr : World) : Prop :=
  ∃ k : Nat, k + 1 ≤ p.size ∧ i = .int .i64 k ∧ Below w.heap.size w wr
set_option maxHeartbeats 2000000 in
set_option maxRecDepth 100000 in
theorem LLines_any (s : ByteArray) (w : World) (hs : s.size ≤ maxLen) :
    Calls Try.prog 7 #[.string s] w fun e w' => e = .returned (.bool true) ∧ Below w.heap.size w w' := by
  unfold maxLen at hs
  go_enter Try.func7, Try.ntmps7
  go_wp2_with (go_at_call 16; refine (speaksR_any w).mono ?_)
  first | rintro e w1 ⟨rfl, hb1⟩ | rintro e w1 rfl hb1
  have HB1 := Lib.hid hb1
  clear hb1
  by_cases h5 : 5000 < s.size
  · go_wp2_with fail
    go_ret
    exact ⟨rfl, HB1.out⟩
  · have h5' : (s.size : Int) ≤ 5000 := by omega
    go_wp2_with (go_at_call 22; refine (LinesT_any s w1 (by omega)).mono ?_)
    first | rintro e w2 ⟨o, cap, out, rfl, hst, hok, hb2⟩ | rintro e w2 o cap out rfl hst hok hb2
    have HST := Lib.hid hst; have HOK := Lib.hid hok; have HB2 := Lib.hid (HB1.out.trans (hb2.mono HB1.out.size))
    have hol := hok.len
    have hcl : (catT out).length = s.size := by rw [hok.cat, List.length_take, size_len]; omega
    have hce : cB out = s := by
      apply ByteArray.ext; apply Array.ext'
      show catT out = _
      rw [hok.cat, List.take_of_length_le (by rw [size_len]; exact Nat.le_refl _)]
    have HCL := Lib.hid hcl; have HCE := Lib.hid hce
    obtain ⟨n, hn⟩ : ∃ n, out.length = n := ⟨_, rfl⟩
    have HN := Lib.hid hn
    rw [hn] at hol ⊢
    have hn5 : n ≤ 5000 := by omega
    clear hst hok hb2 hcl hce hn hol
    go_wp2_with fail
    go_loopw [4, 5] (fun t i wr => LnS w2 out t i wr) (fun _ i _ => n - (intOf i).toNat)
    case atStart => exact ⟨0, Nat.zero_le _, rfl, rfl, Below.refl _ _⟩
    case round =>
      obtain ⟨i, hi, rfl, rfl, hb⟩ := hrel
      rw [HN.out] at hi
      have HB := Lib.hid hb
      clear hb
      by_cases hlt : i < n
      · obtain ⟨p, hp⟩ : ∃ p, out[i]? = some p := ⟨_, List.getElem?_eq_getElem (by rw [HN.out]; exact hlt)⟩
        obtain ⟨g, rfl, d0, _⟩ := (HST.out.below HB.out).cell hp
        have hon := HOK.out.each i p hp
        have hin := HOK.out.inner i p hp
        rw [HN.out] at hin
        obtain ⟨z, hz⟩ : ∃ z, p.size = z + 1 := ⟨p.size - 1, by have := hon.1; omega⟩
        have hnx : cB (out.take (i + 1)) = cB (out.take i) ++ p := by rw [List.take_add_one, hp]; exact cB_snoc _ _
        have hsl : (cB (out.take i)).size + p.size ≤ 5000 := by
          have h1 := catT_take out (i + 1)
          rw [← cB_size, hnx, ByteArray.size_append, HCL.out] at h1
          omega
        have HNX := Lib.hid hnx
        obtain ⟨t, ht⟩ : ∃ t, cB (out.take i) = t := ⟨_, rfl⟩
        rw [ht] at hsl HNX ⊢
        have hno : ¬ 9223372036854775807 < t.size + p.size := by omega
        have e1 : p.toList.isEmpty = false := ba_some p (by omega)
        have e2 : p.toList ≠ [] := fun e => by rw [e] at e1; cases e1
        have HON := Lib.hid hon; have HPI := Lib.hid hp
        clear hp hon ht hnx
        have hz1 : ((p.size : Int) - 1) = (z : Int) := by omega
        have hzl : z < p.size := by omega
        by_cases hl : i + 1 < n
        · have hlast : p[z] = 10 := by
            have := hin hl
            unfold EndsNl at this
            rw [show p.size - 1 = z by omega, List.getElem?_eq_getElem (by rw [size_len]; exact hzl)] at this
            exact Option.some.inj this
          have hlast2 : (p[z].toNat : Int) = 10 := by rw [hlast]; rfl
          have hli : (i : Int) + 1 < n := by omega
          clear hlast hin
          go_wp2_with fail
          go_quiet (fail)
          first | (have _h : Below w2.heap.size w2 (wr.drewN nq) := below_drewN HB.out nq) | rename_i nq
          have HB3 := Lib.hid (below_drewN HB.out nq)
          generalize wr.drewN nq = wd at HB3 ⊢
          go_wp2_with fail
          go_loopw [6] (fun k wq => LkS w2 p k wq) (fun k _ => p.size - (intOf k).toNat)
          case atStart => exact ⟨0, by omega, rfl, HB3.out⟩
          case round =>
            obtain ⟨k, hk, rfl, hb⟩ := hrel
            have HB4 := Lib.hid hb
            clear hb
            obtain ⟨g2, hg2, d2, _⟩ := (HST.out.below HB4.out).cell HPI.out
            obtain rfl : g = g2 := by injection hg2 with h; injection h
            clear hg2
            by_cases hk2 : k + 1 < p.size
            · have hkc : (k : Int) + 1 < p.size := by omega
              have hkl : k < p.size := by omega
              have hne : ¬ (p[k].toNat : Int) = 10 := fun e => HON.out.2 k hk2 p[k] (by rw [List.getElem?_eq_getElem (by rw [size_len]; exact hkl)]; rfl) (UInt8.toNat_inj.1 (by show p[k].toNat = 10; omega))
              go_wp2_with fail
              go_roundw
              case rel => exact ⟨k + 1, by omega, by rw [Int.natCast_succ], HB4.out⟩
              case measure => first | (simp [intOf]; done) | (simp [intOf]; omega)
            · have hkc : ¬ (k : Int) + 1 < p.size := by omega
              go_wp2_with fail
              go_roundw
              case rel => exact ⟨i + 1, by rw [HN.out]; omega, by rw [Int.natCast_succ], by rw [HNX.out], HB4.out⟩
              case measure => first | (simp [intOf]; done) | (simp [intOf]; omega)
        · obtain rfl : n = i + 1 := by omega
          have hlj : ¬ (i : Int) + 1 < ((i + 1 : Nat) : Int) := by omega
          clear hin
          go_wp2_with fail
          go_quiet (fail)
          first | (have _h : Below w2.heap.size w2 (wr.drewN nq) := below_drewN HB.out nq) | rename_i nq
          have HB3 := Lib.hid (below_drewN HB.out nq)
          generalize wr.drewN nq = wd at HB3 ⊢
          go_wp2_with fail
          go_loopw [6] (fun k wq => LkS w2 p k wq) (fun k _ => p.size - (intOf k).toNat)
          case atStart => exact ⟨0, by omega, rfl, HB3.out⟩
          case round =>
            obtain ⟨k, hk, rfl, hb⟩ := hrel
            have HB4 := Lib.hid hb
            clear hb
            obtain ⟨g2, hg2, d2, _⟩ := (HST.out.below HB4.out).cell HPI.out
            obtain rfl : g = g2 := by injection hg2 with h; injection h
            clear hg2
            by_cases hk2 : k + 1 < p.size
            · have hkc : (k : Int) + 1 < p.size := by omega
              have hkl : k < p.size := by omega
              have hne : ¬ (p[k].toNat : Int) = 10 := fun e => HON.out.2 k hk2 p[k] (by rw [List.getElem?_eq_getElem (by rw [size_len]; exact hkl)]; rfl) (UInt8.toNat_inj.1 (by show p[k].toNat = 10; omega))
              go_wp2_with fail
              go_roundw
              case rel => exact ⟨k + 1, by omega, by rw [Int.natCast_succ], HB4.out⟩
              case measure => first | (simp [intOf]; done) | (simp [intOf]; omega)
            · have hkc : ¬ (k : Int) + 1 < p.size := by omega
              go_wp2_with fail
              go_roundw
              case rel => exact ⟨i + 1, by rw [HN.out]; omega, by rw [Int.natCast_succ], by rw [HNX.out], HB4.out⟩
              case measure => first | (simp [intOf]; done) | (simp [intOf]; omega)
      · have hkn : i = n := by omega
        subst hkn
        have HT := Lib.hid (show cB (out.take i) = s by rw [List.take_of_length_le (by rw [HN.out]; exact Nat.le_refl _)]; exact HCE.out)
        rw [HT.out]
        go_wp2_with fail
        go_ret
        exact ⟨ret_bool (by simp), HB2.out.trans (HB.out.mono HB2.out.size)⟩
end Go.Proofs.Ytlfjlkmikmajaaa
