/- TopFramed's walk. -/
import Derived.Test.YtaionhdamdhjjabDoorYc
import Derived.Deep.QuietTactic
import Derived.BigQuiet
namespace Go.Proofs.YtaionhdamdhjjabDoor
open Go.RowKit

theorem cell_lt {w : World} {a : Addr} {v : Value} (h : w.cell? a = some v) : a.block < w.heap.size := by
  rcases Nat.lt_or_ge a.block w.heap.size with h' | h'
  · exact h'
  · unfold World.cell? at h
    simp [Array.getElem?_eq_none h'] at h
set_option maxHeartbeats 8000000 in
set_option maxRecDepth 100000 in
theorem framed_all (a : Option Addr) (len cap : Nat) (zs : List (List ByteArray)) (w : World) (h : IsLS w a len zs) (hl : len ≤ 9223372036854775807) (hV : TopVars w) :
    Calls Tryd.prog 3 #[.slice a len cap] w fun e w' => e = .returned (.bool true) ∧ Below w.heap.size w w' := by
  have HZ := Lib.hid h; have HL := Lib.hid hl; have HV := Lib.hid hV
  clear h hl hV
  obtain ⟨i0, hi, hz0, hz1', hz2⟩ := info_parts Nums.strInfo
  go_enter Tryd.func3, Tryd.ntmps3
  go_wp2_with fail
  refine (reads_any w HV.out).mono ?_
  rintro e w1 ⟨rfl, hw1⟩
  have HW1 := Lib.hid hw1
  clear hw1
  go_wp2_with fail
  go_loopw [3, 4, 5] (fun s n i wr => TaS zs len w s n i wr) (fun _ _ i _ => 20 - (intOf i).toNat)
  case atStart => exact ⟨0, Nat.zero_le _, by omega, rfl, rfl, rfl, by rw [offs_zero]; omega, fun j l h => by omega, HW1.out⟩
  case round =>
    obtain ⟨k, hk, hk20, rfl, rfl, rfl, ho, hfit, hB⟩ := hrel
    have HB := Lib.hid hB; have HFIT := Lib.hid hfit; have HOF := Lib.hid ho
    obtain ⟨S, hSe⟩ : ∃ S, mkB (FL 0 ((txts zs).take k)) = S := ⟨_, rfl⟩
    have hSz : S.size ≤ 21137 * k := by rw [← hSe, mkB_size]; exact ho
    have HSE := Lib.hid hSe
    rw [hSe]
    clear hB hfit hSe ho
    by_cases hgo : k < len ∧ k < 20
    · obtain ⟨h1, h2⟩ := hgo
      have h1i : (k : Int) < (len : Int) := by omega
      have h2i : (k : Int) < 20 := by omega
      obtain ⟨b, o, l, a2, n2, c2, rfl, hb, hzk, hcell0, hst, hn2⟩ := HZ.out.at k h1
      have hcell : wr.cell? ⟨b, o + k, none⟩ = some (.slice a2 n2 c2) := (HB.out.cell (p := ⟨b, o + k, none⟩) hb).trans hcell0
      have HST := Lib.hid (below_st hst HB.out); have HZK := Lib.hid hzk
      have hll := hst.len
      have HLL := Lib.hid hll
      clear hcell0 hst hzk hb hll
      go_wp2_with fail
      go_loop [6] (fun v => TbS l v) (fun v => 30 - (intOf v).toNat)
      case atStart => exact ⟨0, Nat.zero_le _, by omega, rfl, fun j s h => by omega⟩
      case round =>
        obtain ⟨q, hq, hq21, rfl, hqs⟩ := hrel
        have HQ := Lib.hid hqs
        rw [HLL.out] at hq
        clear hqs
        by_cases hq2 : q < n2
        · have hq2i : (q : Int) < (n2 : Int) := by omega
          obtain ⟨s, hs⟩ : ∃ s, l[q]? = some s := ⟨_, List.getElem?_eq_getElem (by rw [HLL.out]; exact hq2)⟩
          obtain ⟨b2, o2, rfl, hb2, hc2⟩ := HST.out.at q s hs
          have HS := Lib.hid hs
          clear hs
          by_cases hbig : 20 < q ∨ 1000 < s.size
          · by_cases hk2 : 20 < q
            · have hk3 : (20 : Int) < (q : Int) := by omega
              go_wp2_with fail
              go_ret
              exact ⟨rfl, HB.out⟩
            · have hk3 : (q : Int) ≤ 20 := by omega
              have hs3 : (1000 : Int) < (s.size : Int) := by omega
              go_wp2_with fail
              go_ret
              exact ⟨rfl, HB.out⟩
          · have hk3 : (q : Int) ≤ 20 := by omega
            have hs3 : (s.size : Int) ≤ 1000 := by omega
            have hstep : Hid (TbS l (.int .i64 ((q : Int) + 1))) := Lib.hid ⟨q + 1, by rw [HLL.out]; omega, by omega, by rw [Int.natCast_succ], fun j t hj ht => by
              by_cases h : j = q
              · subst h; rw [HS.out] at ht; injection ht with ht; subst ht; omega
              · exact HQ.out j t (by omega) ht⟩
            go_wp2_with fail
            exact ⟨hstep.out, by simp [intOf]; omega⟩
        · obtain rfl : q = n2 := by omega
          have hfl : Fit l := fit_of l q (by rw [HLL.out]; exact Nat.le_refl _) hq21 HQ.out
          obtain ⟨hcat, hof2, hfz, hs2⟩ := ta_step zs k l HZK.out hfl HOF.out
          rw [HSE.out] at hcat
          have hjz : (joinL l).length ≤ 21126 := by have := hfl.size; unfold txt at this; rw [mkB_size] at this; exact this
          have HFL := Lib.hid hfl; have HCAT := Lib.hid hcat; have HO2 := Lib.hid hof2; have HFZ := Lib.hid hfz; have HJZ := Lib.hid hjz
          have hown0 : (wr.alloc (.cells #[] 9)).ownsRow w.heap.size 9 1 (.slice (some ⟨wr.heap.size, 0, none⟩) 0 0) 0 [] := by
            refine ⟨rfl, .inr ⟨wr.heap.size, 0, #[], rfl, HB.out.size, ?_, Nat.le_refl _, Nat.zero_le _, rfl, rfl⟩⟩
            show (wr.heap.push _)[wr.heap.size]? = _
            simp
          have hbA : Below wr.heap.size wr (wr.alloc (.cells #[] 9)) := (Below.refl wr.heap.size wr).alloc (Nat.le_refl _) _
          have HBA := Lib.hid hbA
          have hcellA : (wr.alloc (.cells #[] 9)).cell? ⟨b, o + k, none⟩ = some (.slice a2 q c2) := (hbA.cell (p := ⟨b, o + k, none⟩) (cell_lt hcell)).trans hcell
          have HON := Lib.hid hown0
          clear hbA
          clear hfl hcat hof2 hfz hs2 hjz hown0 hq
          rcases HST.out with ⟨rfl, rfl, rfl, rfl⟩ | ⟨b2, o2, rfl, hb2, hll, hc2⟩ | ⟨x2, rfl, rfl, rfl⟩
          · go_wp2_with fail
            have HBW : Hid (Below w.heap.size w (wr.alloc (.cells #[] 9))) := Lib.hid (HB.out.alloc HB.out.size _)
            refine (Nums.join_own w.heap.size _ [] (txt []) _ HON.out (by decide) rfl).mono ?_
            rintro e w3 ⟨rfl, h3⟩
            have H3 := Lib.hid (HBW.out.trans (h3.mono HBW.out.size))
            clear h3
            go_wp2_with fail
            refine (Frame_any (UInt8.ofNat k) k (by rw [UInt8.toNat_ofNat']; omega) (txt []) w3 (by have := HFL.out.size; omega) (HV.out.crc.below H3.out)).mono ?_
            rintro e w4 ⟨rfl, h4⟩
            obtain ⟨G, hG⟩ : ∃ G, mkB (frL (UInt8.ofNat k) (txt [])) = G := ⟨_, rfl⟩
            have hGz : G.size ≤ 21137 := by rw [← hG]; exact HFZ.out
            have n1 : ¬ 9223372036854775807 < S.size + G.size := by omega
            rw [hG] at HCAT
            rw [hG]
            have hend : Hid (TaS zs len w (.string (S ++ G)) (.int .i64 ((k : Int) + 1)) (.int .i64 ((k : Int) + 1)) w4) := Lib.hid ⟨k + 1, by omega, by omega, by rw [Int.natCast_succ], by rw [Int.natCast_succ], by rw [HCAT.out], HO2.out, fun j l' hj hl' => by
                by_cases e : j = k
                · subst e; rw [HZK.out] at hl'; injection hl' with hl'; subst hl'; exact HFL.out
                · exact HFIT.out j l' (by omega) hl', H3.out.trans (h4.mono H3.out.size)⟩
            clear h4 hG
            go_wp2_with fail
            exact ⟨hend.out, by simp [intOf]; omega⟩
          · have HC2 := Lib.hid hc2; have HB2 := Lib.hid hb2
            clear hll hc2 hb2
            go_wp2_with (at_builtin; refine wpList_append_own _ rfl _ _ 24 rfl w.heap.size 9 i0 (.string ⟨#[]⟩) 1 16 Tryd.underlying24 hi hz0 hz1' hz2 rfl (by decide) _ _ _ rfl HON.out ⟨b2, o2, none⟩ q c2 (l.map Value.string) rfl ?cl ?c1 ?c2 ?c3 ?c4 ?c5 ?_)
            case cl => exact HLL.out
            case c1 =>
              intro j u hj
              have e := HC2.out j u hj
              exact (HBA.out.cell (p := ⟨b2, o2 + j, none⟩) HB2.out).trans e
            case c2 => intro u _; rfl
            case c3 => unfold maxLen; omega
            case c4 => omega
            case c5 => have := HB.out.size; simp; omega
            intro v1 w2 hown1 hgrow1 _
            have HBW : Hid (Below w.heap.size w w2) := Lib.hid ((HB.out.alloc HB.out.size _).grown hgrow1 (by have := HB.out.size; simp; omega) (fun g hg => by simp [Value.ownBlock] at hg; have := HB.out.size; omega))
            have HO1 : Hid (w2.ownsRow w.heap.size 9 1 v1 l.length (l.map Value.string)) := Lib.hid (by rw [HLL.out]; simpa using hown1)
            clear hown1 hgrow1
            go_wp2_with fail
            refine (Nums.join_own w.heap.size v1 l (txt l) _ HO1.out (by have := HJZ.out; omega) rfl).mono ?_
            rintro e w3 ⟨rfl, h3⟩
            have H3 := Lib.hid (HBW.out.trans (h3.mono HBW.out.size))
            clear h3
            go_wp2_with fail
            refine (Frame_any (UInt8.ofNat k) k (by rw [UInt8.toNat_ofNat']; omega) (txt l) w3 (by have := HFL.out.size; omega) (HV.out.crc.below H3.out)).mono ?_
            rintro e w4 ⟨rfl, h4⟩
            obtain ⟨G, hG⟩ : ∃ G, mkB (frL (UInt8.ofNat k) (txt l)) = G := ⟨_, rfl⟩
            have hGz : G.size ≤ 21137 := by rw [← hG]; exact HFZ.out
            have n1 : ¬ 9223372036854775807 < S.size + G.size := by omega
            rw [hG] at HCAT
            rw [hG]
            have hend : Hid (TaS zs len w (.string (S ++ G)) (.int .i64 ((k : Int) + 1)) (.int .i64 ((k : Int) + 1)) w4) := Lib.hid ⟨k + 1, by omega, by omega, by rw [Int.natCast_succ], by rw [Int.natCast_succ], by rw [HCAT.out], HO2.out, fun j l' hj hl' => by
                by_cases e : j = k
                · subst e; rw [HZK.out] at hl'; injection hl' with hl'; subst hl'; exact HFL.out
                · exact HFIT.out j l' (by omega) hl', H3.out.trans (h4.mono H3.out.size)⟩
            clear h4 hG
            go_wp2_with fail
            exact ⟨hend.out, by simp [intOf]; omega⟩
          · go_wp2_with (at_builtin; refine wpList_append_own _ rfl _ _ 24 rfl w.heap.size 9 i0 (.string ⟨#[]⟩) 1 16 Tryd.underlying24 hi hz0 hz1' hz2 rfl (by decide) _ _ _ rfl HON.out x2 0 c2 [] rfl ?cl ?c1 ?c2 ?c3 ?c4 ?c5 ?_)
            case c5 => have := HB.out.size; simp; omega
            intro v1 w2 hown1 hgrow1 _
            have HBW : Hid (Below w.heap.size w w2) := Lib.hid ((HB.out.alloc HB.out.size _).grown hgrow1 (by have := HB.out.size; simp; omega) (fun g hg => by simp [Value.ownBlock] at hg; have := HB.out.size; omega))
            have HO1 : Hid (w2.ownsRow w.heap.size 9 1 v1 ([] : List ByteArray).length (([] : List ByteArray).map Value.string)) := Lib.hid (by simpa using hown1)
            clear hown1 hgrow1
            go_wp2_with fail
            refine (Nums.join_own w.heap.size v1 [] (txt []) _ HO1.out (by decide) rfl).mono ?_
            rintro e w3 ⟨rfl, h3⟩
            have H3 := Lib.hid (HBW.out.trans (h3.mono HBW.out.size))
            clear h3
            go_wp2_with fail
            refine (Frame_any (UInt8.ofNat k) k (by rw [UInt8.toNat_ofNat']; omega) (txt []) w3 (by have := HFL.out.size; omega) (HV.out.crc.below H3.out)).mono ?_
            rintro e w4 ⟨rfl, h4⟩
            obtain ⟨G, hG⟩ : ∃ G, mkB (frL (UInt8.ofNat k) (txt [])) = G := ⟨_, rfl⟩
            have hGz : G.size ≤ 21137 := by rw [← hG]; exact HFZ.out
            have n1 : ¬ 9223372036854775807 < S.size + G.size := by omega
            rw [hG] at HCAT
            rw [hG]
            have hend : Hid (TaS zs len w (.string (S ++ G)) (.int .i64 ((k : Int) + 1)) (.int .i64 ((k : Int) + 1)) w4) := Lib.hid ⟨k + 1, by omega, by omega, by rw [Int.natCast_succ], by rw [Int.natCast_succ], by rw [HCAT.out], HO2.out, fun j l' hj hl' => by
                by_cases e : j = k
                · subst e; rw [HZK.out] at hl'; injection hl' with hl'; subst hl'; exact HFL.out
                · exact HFIT.out j l' (by omega) hl', H3.out.trans (h4.mono H3.out.size)⟩
            clear h4 hG
            go_wp2_with fail
            exact ⟨hend.out, by simp [intOf]; omega⟩
    · have hcase : ¬ (k < len) ∨ (k < len ∧ ¬ k < 20) := by omega
      have hFL : S.data.toList = FL 0 ((txts zs).take k) := by rw [← HSE.out, mkB_data]
      have HFL := Lib.hid hFL
      clear hgo hFL
      rcases hcase with hq | ⟨hq1, hq2⟩
      · have hqi : ¬ (k : Int) < (len : Int) := by omega
        clear hq
        go_wp2_with fail
        obtain ⟨m, hm, hm1, hm2, hm3⟩ : ∃ m : Nat, ((S.size : Int) + 511) / 512 = (m : Int) ∧ S.size ≤ 512 * m ∧ 512 * m ≤ S.size + 511 ∧ m ≤ 826 := ⟨(S.size + 511) / 512, by omega, by omega, by omega, by omega⟩
        rw [hm]
        have e1 : ((m : Int) + 1) = ((m + 1 : Nat) : Int) := by omega
        rw [e1]
        have HM1 := Lib.hid hm1; have HM2 := Lib.hid hm2; have HM3 := Lib.hid hm3
        refine (NewD (m + 1) wr (by omega) (by omega)).mono ?_
        rintro e w2 ⟨g, gd, gc, cd, cc, rfl, h2, hb2⟩
        have H2 := Lib.hid (h2.base HB.out.size); have HB2 := Lib.hid (HB.out.trans (hb2.mono HB.out.size))
        clear h2 hb2 hm e1 hm1 hm2
        go_wp2_with fail
        go_loopw [10] (fun i wq => TcS w.heap.size g gd gc cd cc S m w i wq) (fun i _ => m - (intOf i).toNat)
        case atStart => exact ⟨0, _, _, Nat.zero_le _, rfl, by rw [laidS_zero]; exact H2.out, HB2.out⟩
        case round =>
          obtain ⟨j, vw, vk, hj, rfl, hI, hb⟩ := hrel
          have HI := Lib.hid hI; have HBj := Lib.hid hb
          clear hI hb
          by_cases hjm : j < m
          · have hji : (j : Int) < (m : Int) := by omega
            have hbd : 512 * (j : Int) ≤ max (min (512 * (j : Int) + 512) (S.size : Int)) 0 := by have := HM2.out; omega
            have hbd2 : 512 * (j : Int) ≤ min (512 * (j : Int) + 512) (S.size : Int) := by have := HM2.out; omega
            have hch : S.extract (512 * j) (min (512 * (j : Int) + 512) (S.size : Int)).toNat = chunk S j := by unfold chunk; congr 1; omega
            have HCH := Lib.hid hch
            have hwr := laidS_write S (m + 1) j (by omega)
            have HWR := Lib.hid hwr
            clear hch hwr
            go_wp2_with fail
            rw [HCH.out]
            refine (WriteD HI.out (laid_ok S (m + 1) j (by omega) (by omega) (by omega)) j (chunk S j) (by omega) (chunk_size S j)).mono ?_
            rintro e w3 ⟨rfl, vw3, vk3, h3, hv3, f3⟩
            rw [HWR.out] at h3
            rw [HWR.out]
            have hend : Hid (TcS w.heap.size g gd gc cd cc S m w (.int .i64 ((j : Int) + 1)) w3) := Lib.hid ⟨j + 1, vw3, vk3, by omega, by rw [Int.natCast_succ], h3, HBj.out.trans f3.below⟩
            clear h3 hv3 f3
            go_wp2_with fail
            exact ⟨hend.out, by simp [intOf] <;> omega⟩
          · obtain rfl : j = m := by omega
            go_wp2_with (go_at_call 9; refine (SyncD HI.out (laid_ok S (j + 1) j (by omega) (by omega) (by omega))).mono ?_)
            rintro e w3 ⟨rfl, vw3, vk3, h3, hv3, f3⟩
            have H3 := Lib.hid h3; have HB3 := Lib.hid (HBj.out.trans f3.below)
            clear h3 hv3 f3
            have hok : OkS (j + 1) (syncS (laidS S (j + 1) j)).2 := by rw [laid_sync S (j + 1) j (by omega)]; exact ⟨by omega, by omega, by show (0 : Nat) ≤ _; omega, by show (0 : Nat) ≤ _; omega, by show j + 1 ≤ _; omega, Int.le_refl 0, by show (0 : Int) ≤ _; omega⟩
            have HOK := Lib.hid hok
            clear hok
            go_wp2_with (go_at_call 10; refine (CrashD H3.out HOK.out (.slice none 0 0) [] (by decide) (.inl ⟨rfl, _, _, rfl⟩)).mono ?_)
            rintro e w4 ⟨rfl, h4, f4⟩
            have H4 := Lib.hid h4; have HB4 := Lib.hid (HB3.out.trans f4.below)
            clear h4 f4
            go_wp2_with fail
            obtain ⟨wd, hwd⟩ : ∃ wd, wd = w4 := ⟨w4, rfl⟩
            subst hwd
            go_loopw [11, 12] (fun b i wq => TdS S j wd b i wq) (fun _ i _ => j - (intOf i).toNat)
            case atStart => exact ⟨0, Nat.zero_le _, rfl, rfl, rfl⟩
            case round =>
              obtain ⟨i, hi', rfl, rfl, rfl⟩ := hrel
              have hbz := back_size S i
              have HBZ := Lib.hid hbz
              by_cases hij : i < j
              · have hiji : (i : Int) < (j : Int) := by omega
                have hrd := kept_read S (j + 1) j i (by omega) hij
                have hst := back_step S i (by have := HM2.out; omega)
                have hpz := padB_size (chunk S i) (chunk_size S i)
                obtain ⟨P, hP⟩ : ∃ P, padB (chunk S i) = P := ⟨_, rfl⟩
                obtain ⟨Q, hQ⟩ : ∃ Q, backB S i = Q := ⟨_, rfl⟩
                rw [hP] at hrd hst hpz
                rw [hQ] at hst hbz
                rw [hQ]
                have n1 : ¬ 9223372036854775807 < Q.size + P.size := by omega
                have HRD := Lib.hid hrd; have HST := Lib.hid hst
                have hend : Hid (TdS S j wr (.string (Q ++ P)) (.int .i64 ((i : Int) + 1)) wr) := Lib.hid ⟨i + 1, by omega, by rw [Int.natCast_succ], by rw [HST.out], rfl⟩
                clear hrd hst hP hQ
                go_wp2_with (go_at_call 11; refine (ReadD H4.out i).mono ?_)
                rintro e w5 ⟨rfl, rfl⟩
                rw [show readS (j + 1) (i : Int) (crashS [] (syncS (laidS S (j + 1) j)).2) = (P, 0) from HRD.out]
                go_wp2_with fail
                exact ⟨hend.out, by simp [intOf] <;> omega⟩
              · obtain rfl : i = j := by omega
                have hge := back_ge S i HM1.out (by have := HM2.out; omega)
                have hwh := back_whole S i HM1.out
                obtain ⟨Q, hQ⟩ : ∃ Q, backB S i = Q := ⟨_, rfl⟩
                rw [hQ] at hge hwh hbz
                rw [hQ]
                have HWH := Lib.hid hwh
                have hgei : (S.size : Int) ≤ (Q.size : Int) := by omega
                have hwj := whole_js ((txts zs).take k) S HSE.out (tjs_small zs k HFIT.out)
                have hjl : ((txts zs).take k).length = k := by
                  rw [List.length_take]
                  have : (txts zs).length = zs.length := by unfold txts; simp
                  have := HZ.out.1
                  omega
                rw [hjl] at hwj
                have HWJ := Lib.hid hwj; have HJL := Lib.hid hjl
                clear hwh hQ hwj hjl
                go_wp2_with fail
                rw [HWH.out]
                refine (Whole_any S wr (by unfold maxLen; omega) (HV.out.crc.below HB4.out)).mono ?_
                rintro e w5 ⟨rfl, h5⟩
                rw [HWJ.out]
                have HB5 := Lib.hid (HB4.out.trans (h5.mono HB4.out.size))
                clear h5
                go_wp2_with fail
                go_loopw [11, 17] (fun b i wq => TeS ((txts zs).take k) w b i wq) (fun _ i _ => k - (intOf i).toNat)
                case atStart => exact ⟨0, Nat.zero_le _, rfl, by rw [List.drop_zero, HSE.out], HB5.out⟩
                case round =>
                  obtain ⟨q, hq, rfl, rfl, hbq⟩ := hrel
                  rw [HJL.out] at hq
                  have HBq := Lib.hid hbq
                  have hTs := te_size ((txts zs).take k) q (by rw [HJL.out]; exact hq)
                  rw [HSE.out] at hTs
                  obtain ⟨T, hT⟩ : ∃ T, mkB (FL q (((txts zs).take k).drop q)) = T := ⟨_, rfl⟩
                  rw [hT] at hTs
                  rw [hT]
                  have HT := Lib.hid hT
                  clear hbq hT
                  by_cases hqk : q < k
                  · have hqi : (q : Int) < (k : Int) := by omega
                    obtain ⟨b, o, l, a2, n2, c2, rfl, hb, hzq, hcell0, hst, hn2⟩ := HZ.out.at q (by omega)
                    obtain ⟨hql, hjq⟩ := tjs_at zs k q l hzq hqk
                    have hfl := HFIT.out q l hqk hzq
                    obtain ⟨n, hn⟩ : ∃ n, (frL (UInt8.ofNat q) (txt l)).length = n := ⟨_, rfl⟩
                    obtain ⟨hnx, hnT, hext⟩ := te_facts ((txts zs).take k) q hql (by rw [hjq]; have := hfl.size; omega) (by omega) T HT.out
                    rw [hjq, hn] at hnx hnT hext
                    have hsp : Nums.splitI (txt l) = (l, 0) := Nums.split_whole l (fun t ht => by have := hfl.2 t ht; omega)
                    have HNX := Lib.hid hnx; have HEXT := Lib.hid hext; have HFL2 := Lib.hid hfl; have HSP := Lib.hid hsp; have HST := Lib.hid hst; have HC0 := Lib.hid hcell0; have HBB := Lib.hid hb; have HLN := Lib.hid hst.len
                    have hnTi : (n : Int) ≤ (T.size : Int) := by omega
                    clear hql hjq hfl hn hnx hext hsp hst hzq hcell0 hb
                    go_wp2_with fail
                    refine (FNext_vars T (txt l) q n 0 wr (by unfold maxLen; omega) (HV.out.crc.below HBq.out) HNX.out).mono ?_
                    rintro e w6 ⟨rfl, h6⟩
                    have HB6 := Lib.hid (HBq.out.trans (h6.mono HBq.out.size))
                    clear h6
                    go_wp2_with fail
                    refine (Nums.split_any (txt l) w6 (by have := HFL2.out.size; omega)).mono ?_
                    rintro e w7 ⟨v2, he, hown2, h7⟩
                    rw [HSP.out] at he hown2
                    subst he
                    obtain ⟨a3, cap3, rfl⟩ : ∃ a3 cap3, v2 = .slice a3 l.length cap3 := by
                      rcases hown2.2 with ⟨hv, h0⟩ | ⟨g, cap, cur, hv, _⟩
                      · exact ⟨none, 0, by rw [hv, h0]⟩
                      · exact ⟨_, _, hv⟩
                    have HO2 := Lib.hid hown2
                    have HB7 := Lib.hid (HB6.out.trans (h7.mono HB6.out.size))
                    have hcell : w7.cell? ⟨b, o + q, none⟩ = some (.slice a2 n2 c2) := (HB7.out.cell (p := ⟨b, o + q, none⟩) HBB.out).trans HC0.out
                    clear hown2 h7
                    rw [HLN.out]
                    go_wp2_with fail
                    go_loopw [24] (fun v wq => TfS n2 w7 v wq) (fun v _ => n2 - (intOf v).toNat)
                    case atStart => exact ⟨0, Nat.zero_le _, rfl, Below.refl _ _⟩
                    case round =>
                      obtain ⟨r, hr, rfl, hbr⟩ := hrel
                      have HBr := Lib.hid hbr
                      clear hbr
                      by_cases hrn : r < n2
                      · have hrni : (r : Int) < (n2 : Int) := by omega
                        obtain ⟨s, hs⟩ : ∃ s, l[r]? = some s := ⟨_, List.getElem?_eq_getElem (by rw [HLN.out]; exact hrn)⟩
                        obtain ⟨b2, o2, rfl, hb2, hc2⟩ := HST.out.at r s hs
                        have hc : wr.cell? ⟨b, o + q, none⟩ = some (.slice (some ⟨b2, o2, none⟩) n2 c2) := (HBr.out.cell (p := ⟨b, o + q, none⟩) (cell_lt hcell)).trans hcell
                        have hcl : wr.cell? ⟨b2, o2 + r, none⟩ = some (.string s) := (HBr.out.cell (p := ⟨b2, o2 + r, none⟩) (Nat.lt_of_lt_of_le hb2 HB7.out.size)).trans ((HB7.out.cell (p := ⟨b2, o2 + r, none⟩) hb2).trans hc2)
                        obtain ⟨g2, rfl⟩ : ∃ g2, a3 = some ⟨g2, 0, none⟩ := by
                          rcases HO2.out.2 with ⟨_, h0⟩ | ⟨g, cap', cur, hv, _⟩
                          · have := HLN.out; omega
                          · injection hv with h1 _ _; exact ⟨g, h1⟩
                        have hg2 : wr.cell? ⟨g2, r, none⟩ = some (.string s) := by
                          have h1 := HO2.out.cells (g := g2) rfl r (.string s) (by rw [List.getElem?_map, hs]; rfl)
                          rw [Nums.addr_add] at h1
                          exact (HBr.out.cell (p := ⟨g2, r, none⟩) (cell_lt h1)).trans h1
                        clear hs hc2 hb2 hcell
                        go_wp2_with fail
                        go_quiet (fail)
                        go_wp2_with fail
                        have hst2 : Hid (TfS n2 w7 (.int .i64 ((r + 1 : Nat) : Int)) (wr.drewN nq)) := Lib.hid ⟨r + 1, by omega, rfl, below_drewN HBr.out nq⟩
                        refine ⟨by simpa using hst2.out, by simp [intOf] <;> omega⟩
                      · obtain rfl : r = n2 := by omega
                        have hend : Hid (TeS ((txts zs).take k) w (.string (T.extract n T.size)) (.int .i64 ((q : Int) + 1)) wr) := Lib.hid ⟨q + 1, by rw [HJL.out]; omega, by rw [Int.natCast_succ], by rw [HEXT.out], HB7.out.trans (HBr.out.mono HB7.out.size)⟩
                        go_wp2_with fail
                        exact ⟨hend.out, by simp [intOf] <;> omega⟩
                  · obtain rfl : q = k := by omega
                    go_wp2_with fail
                    go_ret
                    exact ⟨rfl, HBq.out⟩
      · have hqi : (k : Int) < (len : Int) := by omega
        have hqj : ¬ (k : Int) < 20 := by omega
        clear hq1 hq2
        go_wp2_with fail
        obtain ⟨m, hm, hm1, hm2, hm3⟩ : ∃ m : Nat, ((S.size : Int) + 511) / 512 = (m : Int) ∧ S.size ≤ 512 * m ∧ 512 * m ≤ S.size + 511 ∧ m ≤ 826 := ⟨(S.size + 511) / 512, by omega, by omega, by omega, by omega⟩
        rw [hm]
        have e1 : ((m : Int) + 1) = ((m + 1 : Nat) : Int) := by omega
        rw [e1]
        have HM1 := Lib.hid hm1; have HM2 := Lib.hid hm2; have HM3 := Lib.hid hm3
        refine (NewD (m + 1) wr (by omega) (by omega)).mono ?_
        rintro e w2 ⟨g, gd, gc, cd, cc, rfl, h2, hb2⟩
        have H2 := Lib.hid (h2.base HB.out.size); have HB2 := Lib.hid (HB.out.trans (hb2.mono HB.out.size))
        clear h2 hb2 hm e1 hm1 hm2
        go_wp2_with fail
        go_loopw [10] (fun i wq => TcS w.heap.size g gd gc cd cc S m w i wq) (fun i _ => m - (intOf i).toNat)
        case atStart => exact ⟨0, _, _, Nat.zero_le _, rfl, by rw [laidS_zero]; exact H2.out, HB2.out⟩
        case round =>
          obtain ⟨j, vw, vk, hj, rfl, hI, hb⟩ := hrel
          have HI := Lib.hid hI; have HBj := Lib.hid hb
          clear hI hb
          by_cases hjm : j < m
          · have hji : (j : Int) < (m : Int) := by omega
            have hbd : 512 * (j : Int) ≤ max (min (512 * (j : Int) + 512) (S.size : Int)) 0 := by have := HM2.out; omega
            have hbd2 : 512 * (j : Int) ≤ min (512 * (j : Int) + 512) (S.size : Int) := by have := HM2.out; omega
            have hch : S.extract (512 * j) (min (512 * (j : Int) + 512) (S.size : Int)).toNat = chunk S j := by unfold chunk; congr 1; omega
            have HCH := Lib.hid hch
            have hwr := laidS_write S (m + 1) j (by omega)
            have HWR := Lib.hid hwr
            clear hch hwr
            go_wp2_with fail
            rw [HCH.out]
            refine (WriteD HI.out (laid_ok S (m + 1) j (by omega) (by omega) (by omega)) j (chunk S j) (by omega) (chunk_size S j)).mono ?_
            rintro e w3 ⟨rfl, vw3, vk3, h3, hv3, f3⟩
            rw [HWR.out] at h3
            rw [HWR.out]
            have hend : Hid (TcS w.heap.size g gd gc cd cc S m w (.int .i64 ((j : Int) + 1)) w3) := Lib.hid ⟨j + 1, vw3, vk3, by omega, by rw [Int.natCast_succ], h3, HBj.out.trans f3.below⟩
            clear h3 hv3 f3
            go_wp2_with fail
            exact ⟨hend.out, by simp [intOf] <;> omega⟩
          · obtain rfl : j = m := by omega
            go_wp2_with (go_at_call 9; refine (SyncD HI.out (laid_ok S (j + 1) j (by omega) (by omega) (by omega))).mono ?_)
            rintro e w3 ⟨rfl, vw3, vk3, h3, hv3, f3⟩
            have H3 := Lib.hid h3; have HB3 := Lib.hid (HBj.out.trans f3.below)
            clear h3 hv3 f3
            have hok : OkS (j + 1) (syncS (laidS S (j + 1) j)).2 := by rw [laid_sync S (j + 1) j (by omega)]; exact ⟨by omega, by omega, by show (0 : Nat) ≤ _; omega, by show (0 : Nat) ≤ _; omega, by show j + 1 ≤ _; omega, Int.le_refl 0, by show (0 : Int) ≤ _; omega⟩
            have HOK := Lib.hid hok
            clear hok
            go_wp2_with (go_at_call 10; refine (CrashD H3.out HOK.out (.slice none 0 0) [] (by decide) (.inl ⟨rfl, _, _, rfl⟩)).mono ?_)
            rintro e w4 ⟨rfl, h4, f4⟩
            have H4 := Lib.hid h4; have HB4 := Lib.hid (HB3.out.trans f4.below)
            clear h4 f4
            go_wp2_with fail
            obtain ⟨wd, hwd⟩ : ∃ wd, wd = w4 := ⟨w4, rfl⟩
            subst hwd
            go_loopw [11, 12] (fun b i wq => TdS S j wd b i wq) (fun _ i _ => j - (intOf i).toNat)
            case atStart => exact ⟨0, Nat.zero_le _, rfl, rfl, rfl⟩
            case round =>
              obtain ⟨i, hi', rfl, rfl, rfl⟩ := hrel
              have hbz := back_size S i
              have HBZ := Lib.hid hbz
              by_cases hij : i < j
              · have hiji : (i : Int) < (j : Int) := by omega
                have hrd := kept_read S (j + 1) j i (by omega) hij
                have hst := back_step S i (by have := HM2.out; omega)
                have hpz := padB_size (chunk S i) (chunk_size S i)
                obtain ⟨P, hP⟩ : ∃ P, padB (chunk S i) = P := ⟨_, rfl⟩
                obtain ⟨Q, hQ⟩ : ∃ Q, backB S i = Q := ⟨_, rfl⟩
                rw [hP] at hrd hst hpz
                rw [hQ] at hst hbz
                rw [hQ]
                have n1 : ¬ 9223372036854775807 < Q.size + P.size := by omega
                have HRD := Lib.hid hrd; have HST := Lib.hid hst
                have hend : Hid (TdS S j wr (.string (Q ++ P)) (.int .i64 ((i : Int) + 1)) wr) := Lib.hid ⟨i + 1, by omega, by rw [Int.natCast_succ], by rw [HST.out], rfl⟩
                clear hrd hst hP hQ
                go_wp2_with (go_at_call 11; refine (ReadD H4.out i).mono ?_)
                rintro e w5 ⟨rfl, rfl⟩
                rw [show readS (j + 1) (i : Int) (crashS [] (syncS (laidS S (j + 1) j)).2) = (P, 0) from HRD.out]
                go_wp2_with fail
                exact ⟨hend.out, by simp [intOf] <;> omega⟩
              · obtain rfl : i = j := by omega
                have hge := back_ge S i HM1.out (by have := HM2.out; omega)
                have hwh := back_whole S i HM1.out
                obtain ⟨Q, hQ⟩ : ∃ Q, backB S i = Q := ⟨_, rfl⟩
                rw [hQ] at hge hwh hbz
                rw [hQ]
                have HWH := Lib.hid hwh
                have hgei : (S.size : Int) ≤ (Q.size : Int) := by omega
                have hwj := whole_js ((txts zs).take k) S HSE.out (tjs_small zs k HFIT.out)
                have hjl : ((txts zs).take k).length = k := by
                  rw [List.length_take]
                  have : (txts zs).length = zs.length := by unfold txts; simp
                  have := HZ.out.1
                  omega
                rw [hjl] at hwj
                have HWJ := Lib.hid hwj; have HJL := Lib.hid hjl
                clear hwh hQ hwj hjl
                go_wp2_with fail
                rw [HWH.out]
                refine (Whole_any S wr (by unfold maxLen; omega) (HV.out.crc.below HB4.out)).mono ?_
                rintro e w5 ⟨rfl, h5⟩
                rw [HWJ.out]
                have HB5 := Lib.hid (HB4.out.trans (h5.mono HB4.out.size))
                clear h5
                go_wp2_with fail
                go_loopw [11, 17] (fun b i wq => TeS ((txts zs).take k) w b i wq) (fun _ i _ => k - (intOf i).toNat)
                case atStart => exact ⟨0, Nat.zero_le _, rfl, by rw [List.drop_zero, HSE.out], HB5.out⟩
                case round =>
                  obtain ⟨q, hq, rfl, rfl, hbq⟩ := hrel
                  rw [HJL.out] at hq
                  have HBq := Lib.hid hbq
                  have hTs := te_size ((txts zs).take k) q (by rw [HJL.out]; exact hq)
                  rw [HSE.out] at hTs
                  obtain ⟨T, hT⟩ : ∃ T, mkB (FL q (((txts zs).take k).drop q)) = T := ⟨_, rfl⟩
                  rw [hT] at hTs
                  rw [hT]
                  have HT := Lib.hid hT
                  clear hbq hT
                  by_cases hqk : q < k
                  · have hqi : (q : Int) < (k : Int) := by omega
                    obtain ⟨b, o, l, a2, n2, c2, rfl, hb, hzq, hcell0, hst, hn2⟩ := HZ.out.at q (by omega)
                    obtain ⟨hql, hjq⟩ := tjs_at zs k q l hzq hqk
                    have hfl := HFIT.out q l hqk hzq
                    obtain ⟨n, hn⟩ : ∃ n, (frL (UInt8.ofNat q) (txt l)).length = n := ⟨_, rfl⟩
                    obtain ⟨hnx, hnT, hext⟩ := te_facts ((txts zs).take k) q hql (by rw [hjq]; have := hfl.size; omega) (by omega) T HT.out
                    rw [hjq, hn] at hnx hnT hext
                    have hsp : Nums.splitI (txt l) = (l, 0) := Nums.split_whole l (fun t ht => by have := hfl.2 t ht; omega)
                    have HNX := Lib.hid hnx; have HEXT := Lib.hid hext; have HFL2 := Lib.hid hfl; have HSP := Lib.hid hsp; have HST := Lib.hid hst; have HC0 := Lib.hid hcell0; have HBB := Lib.hid hb; have HLN := Lib.hid hst.len
                    have hnTi : (n : Int) ≤ (T.size : Int) := by omega
                    clear hql hjq hfl hn hnx hext hsp hst hzq hcell0 hb
                    go_wp2_with fail
                    refine (FNext_vars T (txt l) q n 0 wr (by unfold maxLen; omega) (HV.out.crc.below HBq.out) HNX.out).mono ?_
                    rintro e w6 ⟨rfl, h6⟩
                    have HB6 := Lib.hid (HBq.out.trans (h6.mono HBq.out.size))
                    clear h6
                    go_wp2_with fail
                    refine (Nums.split_any (txt l) w6 (by have := HFL2.out.size; omega)).mono ?_
                    rintro e w7 ⟨v2, he, hown2, h7⟩
                    rw [HSP.out] at he hown2
                    subst he
                    obtain ⟨a3, cap3, rfl⟩ : ∃ a3 cap3, v2 = .slice a3 l.length cap3 := by
                      rcases hown2.2 with ⟨hv, h0⟩ | ⟨g, cap, cur, hv, _⟩
                      · exact ⟨none, 0, by rw [hv, h0]⟩
                      · exact ⟨_, _, hv⟩
                    have HO2 := Lib.hid hown2
                    have HB7 := Lib.hid (HB6.out.trans (h7.mono HB6.out.size))
                    have hcell : w7.cell? ⟨b, o + q, none⟩ = some (.slice a2 n2 c2) := (HB7.out.cell (p := ⟨b, o + q, none⟩) HBB.out).trans HC0.out
                    clear hown2 h7
                    rw [HLN.out]
                    go_wp2_with fail
                    go_loopw [24] (fun v wq => TfS n2 w7 v wq) (fun v _ => n2 - (intOf v).toNat)
                    case atStart => exact ⟨0, Nat.zero_le _, rfl, Below.refl _ _⟩
                    case round =>
                      obtain ⟨r, hr, rfl, hbr⟩ := hrel
                      have HBr := Lib.hid hbr
                      clear hbr
                      by_cases hrn : r < n2
                      · have hrni : (r : Int) < (n2 : Int) := by omega
                        obtain ⟨s, hs⟩ : ∃ s, l[r]? = some s := ⟨_, List.getElem?_eq_getElem (by rw [HLN.out]; exact hrn)⟩
                        obtain ⟨b2, o2, rfl, hb2, hc2⟩ := HST.out.at r s hs
                        have hc : wr.cell? ⟨b, o + q, none⟩ = some (.slice (some ⟨b2, o2, none⟩) n2 c2) := (HBr.out.cell (p := ⟨b, o + q, none⟩) (cell_lt hcell)).trans hcell
                        have hcl : wr.cell? ⟨b2, o2 + r, none⟩ = some (.string s) := (HBr.out.cell (p := ⟨b2, o2 + r, none⟩) (Nat.lt_of_lt_of_le hb2 HB7.out.size)).trans ((HB7.out.cell (p := ⟨b2, o2 + r, none⟩) hb2).trans hc2)
                        obtain ⟨g2, rfl⟩ : ∃ g2, a3 = some ⟨g2, 0, none⟩ := by
                          rcases HO2.out.2 with ⟨_, h0⟩ | ⟨g, cap', cur, hv, _⟩
                          · have := HLN.out; omega
                          · injection hv with h1 _ _; exact ⟨g, h1⟩
                        have hg2 : wr.cell? ⟨g2, r, none⟩ = some (.string s) := by
                          have h1 := HO2.out.cells (g := g2) rfl r (.string s) (by rw [List.getElem?_map, hs]; rfl)
                          rw [Nums.addr_add] at h1
                          exact (HBr.out.cell (p := ⟨g2, r, none⟩) (cell_lt h1)).trans h1
                        clear hs hc2 hb2 hcell
                        go_wp2_with fail
                        go_quiet (fail)
                        go_wp2_with fail
                        have hst2 : Hid (TfS n2 w7 (.int .i64 ((r + 1 : Nat) : Int)) (wr.drewN nq)) := Lib.hid ⟨r + 1, by omega, rfl, below_drewN HBr.out nq⟩
                        refine ⟨by simpa using hst2.out, by simp [intOf] <;> omega⟩
                      · obtain rfl : r = n2 := by omega
                        have hend : Hid (TeS ((txts zs).take k) w (.string (T.extract n T.size)) (.int .i64 ((q : Int) + 1)) wr) := Lib.hid ⟨q + 1, by rw [HJL.out]; omega, by rw [Int.natCast_succ], by rw [HEXT.out], HB7.out.trans (HBr.out.mono HB7.out.size)⟩
                        go_wp2_with fail
                        exact ⟨hend.out, by simp [intOf] <;> omega⟩
                  · obtain rfl : q = k := by omega
                    go_wp2_with fail
                    go_ret
                    exact ⟨rfl, HBq.out⟩
end Go.Proofs.YtaionhdamdhjjabDoor
