/- Vocabularies: with more pairs a vocabulary goes on as it was: the law. -/
import Derived.Test.YtfcnmehajelgkaaDoorV3
import Derived.Test.YtfcnmehajelgkaaDoorV4
import Derived.Test.YtfcnmehajelgkaaDoorPzf
import Derived.Laws.StructEq
namespace Go.Proofs.YtfcnmehajelgkaaDoor
open Go.RowKit Go.Shelf Go.Maps
variable {w w' : World}

theorem sm_sum {l : List PairB} (h : ∀ q ∈ l, SmP q) : ∀ q ∈ l, q.1.size + q.2.size ≤ maxLen := fun q hq => by
  have h1 := (h q hq).1; have h2 := (h q hq).2; unfold maxLen; omega
theorem take60_sm {l : List PairB} (h : ∀ q ∈ l, SmP q) : ∀ q ∈ l.take 60, SmP q := fun q hq => h q (List.mem_of_mem_take hq)
/-- A list that came in, as the program's pairs. -/
theorem front9 (o : Option Addr) (l : List PairB) (cap : Nat) (w : World) (hl : l.length ≤ maxLen) (hi : InAt w o l) :
    Calls Tryd.prog 9 #[.slice o l.length cap] w fun e w' => ∃ o1 c1 b, e = .returned (.tuple #[.slice o1 (l.take 60).length c1, b]) ∧ w'.ownsRow w.heap.size 48 2 (.slice o1 (l.take 60).length c1) (l.take 60).length (flatP (l.take 60)) ∧ PrAt w' 48 o1 (l.take 60) ∧ Below w.heap.size w w' := by
  refine (pairs9_any o l cap w hl hi).mono ?_
  first | rintro e w2 ⟨a, b, rfl, h1, h2, hb⟩ | rintro e w2 a b rfl h1 h2 hb
  obtain ⟨o1, c1, rfl, p1⟩ := own_pairs h1
  exact ⟨o1, c1, b, rfl, h1, p1, hb⟩
theorem inAt_below {o : Option Addr} {l : List PairB} (h : InAt w o l) (hb : Below w.heap.size w w') : InAt w' o l := fun k p hp => by
  obtain ⟨b, i, rfl, c0, c1⟩ := h k p hp
  have hlt : b < w.heap.size := World.block_lt_of_cell? w _ c0
  exact ⟨b, i, rfl, (hb.cell (p := ⟨b, i + k * 2, none⟩) hlt).trans c0, (hb.cell (p := ⟨b, i + k * 2 + 1, none⟩) hlt).trans c1⟩
def MoS (n : Nat) (w : World) (i : Value) (wr : World) : Prop := ∃ k : Nat, k ≤ n ∧ i = .int .i64 k ∧ Below w.heap.size w wr
set_option maxHeartbeats 4000000 in
set_option maxRecDepth 100000 in
theorem LMore_any (o1 : Option Addr) (l1 : List PairB) (c1 : Nat) (o2 : Option Addr) (l2 : List PairB) (c2 : Nat) (w : World) (h1 : l1.length ≤ maxLen) (i1 : InAt w o1 l1) (s1 : ∀ q ∈ l1, SmP q) (h2 : l2.length ≤ maxLen) (i2 : InAt w o2 l2) (s2 : ∀ q ∈ l2, SmP q) (hw : StrAt w) :
    Calls Tryd.prog 6 #[.slice o1 l1.length c1, .slice o2 l2.length c2] w fun e w' => e = .returned (.bool true) ∧ Below w.heap.size w w' := by
  have HS := Lib.hid (speaks9_any w hw)
  have HI1 := Lib.hid i1; have HI2 := Lib.hid i2; have HS1 := Lib.hid s1; have HS2 := Lib.hid s2
  obtain ⟨n1, hn1⟩ : ∃ n, l1.length = n := ⟨_, rfl⟩
  obtain ⟨n2, hn2⟩ : ∃ n, l2.length = n := ⟨_, rfl⟩
  have HN1 := Lib.hid hn1; have HN2 := Lib.hid hn2
  rw [hn1] at h1 ⊢; rw [hn2] at h2 ⊢
  clear i1 i2 s1 s2 hn1 hn2
  go_enter Tryd.func6, Tryd.ntmps6
  go_wp2_with (go_at_call 8; refine HS.out.mono ?_)
  rintro e w1 ⟨rfl, hb1⟩
  have HF1 := Lib.hid (front9 o1 l1 c1 w1 (by rw [HN1.out]; exact h1) (inAt_below HI1.out hb1))
  rw [HN1.out] at HF1
  have HB1 := Lib.hid hb1
  clear hb1
  go_wp2_with (go_at_call 9; refine HF1.out.mono ?_)
  first | rintro e w2 ⟨oa, ca, va, rfl, ra, pa, hb2⟩ | rintro e w2 oa ca va rfl ra pa hb2
  have HB2 := Lib.hid (HB1.out.trans (hb2.mono HB1.out.size))
  have HF2 := Lib.hid (front9 o2 l2 c2 w2 (by rw [HN2.out]; exact h2) (inAt_below HI2.out HB2.out))
  rw [HN2.out] at HF2
  have hsA := take60_sm HS1.out
  have hlA : (l1.take 60).length ≤ 60 := List.length_take_le _ _
  generalize l1.take 60 = A at ra pa hsA hlA ⊢
  have HRA := Lib.hid ra; have HPA := Lib.hid pa; have HSA := Lib.hid hsA
  clear ra pa hsA hb2 HF1
  go_wp2_with (go_at_call 9; refine HF2.out.mono ?_)
  first | rintro e w3 ⟨ob, cb, vb, rfl, rb, pb, hb3⟩ | rintro e w3 ob cb vb rfl rb pb hb3
  have HB3 := Lib.hid (HB2.out.trans (hb3.mono HB2.out.size))
  have hsB := take60_sm HS2.out
  have hlB : (l2.take 60).length ≤ 60 := List.length_take_le _ _
  have hra3 := own_below HRA.out hb3
  have hpa3 := HPA.out.below hb3
  generalize l2.take 60 = B at rb pb hsB hlB ⊢
  have HRA3 := Lib.hid hra3; have HRB3 := Lib.hid rb; have HSB := Lib.hid hsB
  have HOX := Lib.hid (Of_any oa A ca w3 (by omega) hpa3 (sm_sum HSA.out))
  obtain ⟨na, hna⟩ : ∃ n, A.length = n := ⟨_, rfl⟩
  obtain ⟨nb, hnb⟩ : ∃ n, B.length = n := ⟨_, rfl⟩
  have HNA := Lib.hid hna; have HNB := Lib.hid hnb
  rw [hna] at hlA HOX ⊢
  rw [hnb] at hlB ⊢
  clear rb pb hsB hb3 hra3 hpa3 HF2 hna hnb
  go_wp2_with (go_at_call 12; refine HOX.out.mono ?_)
  first | rintro e w4 ⟨vx, rfl, rx, hb4⟩ | rintro e w4 vx rfl rx hb4
  obtain ⟨ox, cx, rfl, ex⟩ := own_entries rx
  have HB4 := Lib.hid (HB3.out.trans (hb4.mono HB3.out.size))
  have HRA4 := Lib.hid (own_below HRA3.out hb4); have HRB4 := Lib.hid (own_below HRB3.out hb4)
  have HEX := Lib.hid ex
  clear rx hb4 ex HOX
  obtain ⟨X, hX⟩ : ∃ X, ofP A = X := ⟨_, rfl⟩
  have HX := Lib.hid hX
  rw [hX] at HEX ⊢
  obtain ⟨nx, hnx⟩ : ∃ n, X.length = n := ⟨_, rfl⟩
  have HNX := Lib.hid hnx
  have hnx2 : nx ≤ 94 + na := by rw [← hnx, ← hX, ← HNA.out]; exact ofP_len A
  rw [hnx]
  clear hX hnx
  obtain ⟨W5, hW5⟩ : ∃ W5, w4.alloc (.cells #[] 48) = W5 := ⟨_, rfl⟩
  have hb5 : Below w4.heap.size w4 W5 := by rw [← hW5]; exact (Below.refl _ _).alloc (Nat.le_refl _) _
  have HB5 := Lib.hid hb5
  have HO5 : Hid (W5.ownsRow w4.heap.size 48 2 (.slice (some ⟨w4.heap.size, 0, none⟩) 0 0) ([] : List PairB).length (flatP [])) := Lib.hid (by rw [← hW5]; exact World.ownsRow_made w4 #[] 0 (Nat.le_refl _) (Nat.zero_le _) rfl)
  have HRA5 := Lib.hid (own_below HRA4.out hb5); have HRB5 := Lib.hid (own_below HRB4.out hb5)
  rw [HNA.out] at HRA5; rw [HNB.out] at HRB5
  have HRB4n : Hid (w4.ownsRow w2.heap.size 48 2 (.slice ob nb cb) nb (flatP B)) := Lib.hid (by have := HRB4.out; rw [HNB.out] at this; exact this)
  have HAB : Hid (([] ++ A).length + B.length ≤ 1000) := Lib.hid (by rw [List.nil_append, HNA.out, HNB.out]; omega)
  clear hb5
  go_wp2_with (first
    | (at_builtin; refine wpList_app_pairs rfl _ _ rfl w4.heap.size w1.heap.size _ _ [] A rfl HO5.out rfl (by rw [HNA.out]; exact HRA5.out) (by rw [HNA.out]; simp; omega) HB5.out.size ?_; intro v6 w6 hown6 hg6; have HW6 : Hid (Below w4.heap.size w4 w6) := Lib.hid (HB5.out.grown hg6 HB5.out.size (own_base HO5.out)); have HO6 := Lib.hid hown6; clear hown6 hg6)
    | (at_builtin; refine wpList_app_pairs rfl _ _ rfl w4.heap.size w2.heap.size _ _ ([] ++ A) B rfl HO6.out rfl (by rw [HNB.out]; exact own_below HRB4n.out HW6.out) HAB.out HW6.out.size ?_; intro v7 w7 hown7 hg7; have HW7 : Hid (Below w4.heap.size w4 w7) := Lib.hid (HW6.out.grown hg7 HW6.out.size (own_base HO6.out)); have HO7 := Lib.hid hown7; obtain ⟨o7, c7, hv7, hp7⟩ := own_pairs hown7; subst hv7; have HP7 := Lib.hid hp7; clear hown7 hg7 hp7))
  have hp7 := HP7.out
  rw [List.nil_append] at hp7
  have hmo := ofP_more A B
  rw [HX.out] at hmo
  obtain ⟨M, hM, hMl⟩ := hmo
  have HOY := Lib.hid (Of_any o7 (A ++ B) c7 w7 (by rw [List.length_append, HNA.out, HNB.out]; omega) hp7 (fun q hq => by
    rw [List.mem_append] at hq
    rcases hq with hq | hq
    · exact sm_sum HSA.out q hq
    · exact sm_sum HSB.out q hq))
  rw [List.length_append] at HOY
  have hvo := ofP_voc (A ++ B)
  generalize ofP (A ++ B) = Y at HOY hM hvo
  obtain ⟨ny, hny⟩ : ∃ n, Y.length = n := ⟨_, rfl⟩
  have HNY := Lib.hid hny; have HV := Lib.hid hvo; have HM := Lib.hid hM
  have hyx : ny = nx + M.length := by rw [← hny, hM, List.length_append, HNX.out]
  rw [HNB.out] at hMl
  have hy1 : nx ≤ ny := by omega
  have hy2 : ny ≤ nx + nb := by omega
  have HB7 := Lib.hid (HB4.out.trans (HW7.out.mono HB4.out.size)); have HEX7 := Lib.hid (HEX.out.below HW7.out)
  clear hp7 hM hMl hvo hny hyx HB5 HO5 HRA5 HRB5 HRB4n HAB HW6 HO6 HO7 HP7 HRA HPA HRA3 HRB3 HRA4 HRB4 hW5
  refine HOY.out.mono ?_
  first | rintro e w8 ⟨vy, rfl, ry, hb8⟩ | rintro e w8 vy rfl ry hb8
  obtain ⟨oy, cy, rfl, ey⟩ := own_entries ry
  rw [HNY.out]
  have HB8 := Lib.hid (HB7.out.trans (hb8.mono HB7.out.size)); have HEX8 := Lib.hid (HEX7.out.below hb8); have HEY8 := Lib.hid ey
  clear ry hb8 ey HOY
  have hy1i : (nx : Int) ≤ ny := by omega
  have hy2i : (ny : Int) ≤ nx + nb := by omega
  have hnxi : (nx : Int) ≤ 154 := by omega
  have hnbi : (nb : Int) ≤ 60 := by omega
  have hs60 : IntKind.i64.wrap ((nx : Int) + nb) = (nx : Int) + nb := IntWalk.i64_in _ (by omega)
  rw [HNB.out]
  go_wp2_with fail
  have hd1 : decide (ny < nx) = false := decide_eq_false (by omega)
  have hd2 : decide ((nx : Int) + nb < ny) = false := decide_eq_false (by omega)
  simp only [hd1, hd2, Bool.or_self]
  clear hd1 hd2
  go_loopw [11] (fun i wr => MoS ny w8 i wr) (fun i _ => ny - (intOf i).toNat)
  case atStart => exact ⟨0, Nat.zero_le _, rfl, Below.refl _ _⟩
  case round =>
    obtain ⟨k, hk, rfl, hb⟩ := hrel
    have HB := Lib.hid hb
    clear hb hs60
    by_cases hlt : k < ny
    · obtain ⟨p, hp⟩ : ∃ p, Y[k]? = some p := ⟨_, List.getElem?_eq_getElem (by rw [HNY.out]; exact hlt)⟩
      obtain ⟨v1, v2, _⟩ := HV.out k p hp
      obtain ⟨g1, cur1, rfl, _, d0, d1⟩ := (HEY8.out.below HB.out) k p hp
      obtain ⟨p1, p2⟩ := p
      simp only at d0 d1 v1 v2
      subst v1
      have hpz : p2.size ≤ 64 := (goodB_size v2).2
      have HGD : Hid (∀ (W : World) (y : Nat), Calls Tryd.prog 17 #[.string p2] (W.drewN y) fun e w' => e = .returned (.bool true) ∧ ∃ q, w' = W.drewN q) := Lib.hid (fun W y => by
        have := Good_any p2 (W.drewN y) (by unfold maxLen; omega)
        rw [v2] at this
        exact this.mono fun e w' ⟨a, b⟩ => ⟨a, y, b⟩)
      have hpt : Tryd.prog.eqGuardType Tryd.prog.depth 56 = false := by kernel_rfl
      have hst : Tryd.prog.stoodInHeld 56 = false := by kernel_rfl
      have hki : (p1 : Int) < ny := by omega
      by_cases hkx : p1 < nx
      · have hx : X[p1]? = some (p1, p2) := by
          rw [← hp, HM.out, List.getElem?_append_left (by rw [HNX.out]; exact hkx)]
        obtain ⟨g2, cur2, rfl, _, e0, e1⟩ := (HEX8.out.below HB.out) p1 _ hx
        simp only at e0 e1
        have hkxi : (p1 : Int) < nx := by omega
        clear hp hx v2 hpz
        go_wp2_with fail
        go_quiet ((go_at_call 17; exact HGD.out _ _))
        rename_i nq
        have HB9 := Lib.hid (below_drewN HB.out nq)
        generalize wr.drewN nq = wd at HB9 ⊢
        have HEND : Hid (MoS ny w8 (.int .i64 ((p1 : Int) + 1)) wd) := Lib.hid ⟨p1 + 1, by omega, by rw [Int.natCast_succ], HB9.out⟩
        go_wp2_with fail
        go_roundw
        case rel => first | exact HEND.out | ((repeat (apply Exists.intro)); exact ⟨HEND.out, rfl⟩)
        case measure => first | (simp [intOf]; done) | (simp [intOf]; omega)
      · have hkxi : ¬ (p1 : Int) < nx := by omega
        clear hp v2 hpz
        go_wp2_with fail
        go_quiet ((go_at_call 17; exact HGD.out _ _))
        rename_i nq
        have HB9 := Lib.hid (below_drewN HB.out nq)
        generalize wr.drewN nq = wd at HB9 ⊢
        have HEND : Hid (MoS ny w8 (.int .i64 ((p1 : Int) + 1)) wd) := Lib.hid ⟨p1 + 1, by omega, by rw [Int.natCast_succ], HB9.out⟩
        go_wp2_with fail
        go_roundw
        case rel => first | exact HEND.out | ((repeat (apply Exists.intro)); exact ⟨HEND.out, rfl⟩)
        case measure => first | (simp [intOf]; done) | (simp [intOf]; omega)
    · have hkn : k = ny := by omega
      have hki : ¬ (k : Int) < ny := by omega
      go_wp2_with fail
      go_ret
      exact ⟨rfl, HB8.out.trans (HB.out.mono HB8.out.size)⟩
end Go.Proofs.YtfcnmehajelgkaaDoor
