/- Deltas: the document's Apply. -/
import Derived.Test.YtmdhendfmhhniaaJd
namespace Go.Proofs.Ytmdhendfmhhniaa
open Go.RowKit
variable {w w' : World}

theorem cut_cut (d : ByteArray) {k j : Nat} : (d.extract k d.size).extract j (d.extract k d.size).size = d.extract (k + j) d.size := by
  rw [ByteArray.extract_extract, ByteArray.size_extract]
  congr 1
  omega
theorem cut_part (d : ByteArray) {k a b : Nat} (h : k + b ≤ d.size) : (d.extract k d.size).extract a b = d.extract (k + a) (k + b) := by
  rw [ByteArray.extract_extract]
  congr 1
  omega
theorem byt_cut (d : ByteArray) {k : Nat} (h : k < d.size) : byt (d.extract k d.size) 0 = byt d k := by
  rw [← byt_eq (d.extract k d.size) 0 (by rw [ByteArray.size_extract]; omega), ← byt_eq d k h]
  congr 1
  rw [ByteArray.getElem_extract]
  simp
theorem addD_err {s : ByteArray} {n k e : Int} (h : getI s = (n, k, e)) (he : e ≠ 0) : addD s = (⟨#[]⟩, 0, e) := by unfold addD; rw [h]; exact if_pos he
theorem addD_zero {s : ByteArray} {k : Int} (h : getI s = (0, k, 0)) : addD s = (⟨#[]⟩, 0, 2) := by unfold addD; rw [h]; exact (if_neg (fun h => h rfl)).trans (if_pos rfl)
theorem addD_short {s : ByteArray} {n k : Int} (h : getI s = (n, k, 0)) (h0 : n ≠ 0) (h1 : (s.size : Int) - k < n) : addD s = (⟨#[]⟩, 0, 3) := by unfold addD; rw [h]; exact (if_neg (fun h => h rfl)).trans ((if_neg h0).trans (if_pos h1))
theorem addD_ok {s : ByteArray} {n k : Int} (h : getI s = (n, k, 0)) (h0 : n ≠ 0) (h1 : ¬ (s.size : Int) - k < n) : addD s = (s.extract k.toNat (k + n).toNat, k + n, 0) := by unfold addD; rw [h]; exact (if_neg (fun h => h rfl)).trans ((if_neg h0).trans (if_neg h1))
theorem copD_e1 {base s : ByteArray} {n k e : Int} (h : getI s = (n, k, e)) (he : e ≠ 0) : copD base s = (⟨#[]⟩, 0, e) := by unfold copD; rw [h]; exact if_pos he
theorem copD_e2 {base s : ByteArray} {p k n m f : Int} (h : getI s = (p, k, 0)) (h2 : getI (s.extract k.toNat s.size) = (n, m, f)) (he : f ≠ 0) : copD base s = (⟨#[]⟩, 0, f) := by
  unfold copD; rw [h]; dsimp only; rw [h2]; exact (if_neg (fun h => h rfl)).trans (if_pos he)
theorem copD_bad {base s : ByteArray} {p k n m : Int} (h : getI s = (p, k, 0)) (h2 : getI (s.extract k.toNat s.size) = (n, m, 0)) (he : n = 0 ∨ (base.size : Int) - p < n) : copD base s = (⟨#[]⟩, 0, 2) := by
  unfold copD; rw [h]; dsimp only; rw [h2]; exact (if_neg (fun h => h rfl)).trans ((if_neg (fun h => h rfl)).trans (if_pos he))
theorem copD_ok {base s : ByteArray} {p k n m : Int} (h : getI s = (p, k, 0)) (h2 : getI (s.extract k.toNat s.size) = (n, m, 0)) (he : ¬ (n = 0 ∨ (base.size : Int) - p < n)) : copD base s = (base.extract p.toNat (p + n).toNat, k + m, 0) := by
  unfold copD; rw [h]; dsimp only; rw [h2]; exact (if_neg (fun h => h rfl)).trans ((if_neg (fun h => h rfl)).trans (if_neg he))
theorem insD_a {base s t : ByteArray} {n e : Int} (h : byt s 0 = 0) (h2 : addD (s.extract 1 s.size) = (t, n, e)) : insD base s = (t, 1 + n, e) := by unfold insD; rw [if_pos h, h2]
theorem insD_c {base s t : ByteArray} {n e : Int} (h : byt s 0 = 1) (h2 : copD base (s.extract 1 s.size) = (t, n, e)) : insD base s = (t, 1 + n, e) := by unfold insD; rw [if_neg (by omega), if_pos h, h2]
theorem insD_n {base s : ByteArray} (h0 : byt s 0 ≠ 0) (h1 : byt s 0 ≠ 1) : insD base s = (⟨#[]⟩, 0, 2) := by unfold insD; rw [if_neg h0, if_neg h1]
def RaS (base d : ByteArray) (to : Int) (w : World) (a o : Value) (wr : World) : Prop :=
  ∃ (k : Nat) (out : List UInt8), a = .int .i64 k ∧ o = .string (mkB out) ∧ k ≤ d.size ∧ appD base d = restD base to (d.extract k d.size) out ∧ (out.length : Int) ≤ to ∧ Below w.heap.size w wr
set_option maxHeartbeats 4000000 in
set_option maxRecDepth 100000 in
theorem RApply_any (base d : ByteArray) (w : World) (hm : d.size ≤ 1000000) (hbm : base.size ≤ 4294967295) :
    Calls Try.prog 10 #[.string base, .string d] w fun e w' => e = .returned (.tuple #[.string (appD base d).1, .int .i64 (appD base d).2]) ∧ Below w.heap.size w w' := by
  obtain ⟨z, hz⟩ : ∃ z, appD base d = z := ⟨_, rfl⟩
  have HZ := Lib.hid hz
  have HS := Lib.hid hz.symm
  rw [hz]
  clear hz
  unfold appD at HS
  have H1 := Lib.hid (fun W => RSizes_any d W (by unfold maxLen; omega))
  obtain ⟨a, b, k, e, hs⟩ : ∃ a b k e, sizD d = (a, b, k, e) := ⟨_, _, _, _, rfl⟩
  have g := sizD_bounds d a b k e hs
  rw [hs] at HS H1
  dsimp only at HS H1
  by_cases he : e = 0
  · subst he
    by_cases ha : (base.size : Int) = a
    · have HC := Lib.hid (HS.out.trans ((if_neg (fun h => h rfl)).trans (if_neg (fun h => h ha))))
      have hk0 : 0 ≤ k := by omega
      have hkd : k ≤ d.size := g.2.2.2.2.2.2.2 rfl
      have hb0 : 0 ≤ b := by omega
      have hb1 : b ≤ 262208 := by omega
      obtain ⟨k0, hk⟩ : ∃ k0 : Nat, k = (k0 : Int) := ⟨k.toNat, by omega⟩
      subst hk
      have hk0d : k0 ≤ d.size := by omega
      rw [show ((k0 : Int)).toNat = k0 from rfl] at HC
      subst ha
      clear HS hs g hk0 hkd
      go_enter Try.func10, Try.ntmps10
      go_wp2_with (go_at_call 12; (with_reducible refine (H1.out _).mono ?_); rintro e w1 ⟨rfl, hb1⟩; have HB1 := Lib.hid hb1; clear hb1)
      go_loopw [8, 10] (fun r o wr => RaS base d b w1 r o wr) (fun r _ _ => d.size - (intOf r).toNat)
      case atStart => exact ⟨k0, [], rfl, rfl, hk0d, by rw [HZ.out, HC.out], hb0, Below.refl _ _⟩
      case round =>
        obtain ⟨k, out, rfl, rfl, hkd, hrun, hlen, hbe⟩ := hrel
        rw [HZ.out] at hrun
        have HR := Lib.hid hrun; have HBE := Lib.hid hbe
        have hlb : (mkB out).size = out.length := mkB_size out
        clear hrun hbe HC
        by_cases hkl : k < d.size
        · have hkli : (k : Int) < d.size := by omega
          have hs0 : 0 < (d.extract k d.size).size := by rw [ByteArray.size_extract]; omega
          have hby := byt_cut d hkl
          have hdk := byt_eq d k hkl
          obtain ⟨k1, hk1⟩ : ∃ k1, k + 1 = k1 := ⟨_, rfl⟩
          have hk1i : (k : Int) + 1 = (k1 : Int) := by omega
          have hk1d : k1 ≤ d.size := by omega
          have hk1t : (k1 : Int) ≤ d.size := by omega
          obtain ⟨r, hr⟩ : ∃ r, d.extract k1 d.size = r := ⟨_, rfl⟩
          have hrs : r.size = d.size - k1 := by rw [← hr, ByteArray.size_extract]; omega
          have hcr : (d.extract k d.size).extract 1 (d.extract k d.size).size = r := by rw [cut_cut, hk1, hr]
          obtain ⟨o, hoo⟩ : ∃ o, mkB out = o := ⟨_, rfl⟩
          have HOO := Lib.hid hoo
          rw [hoo] at hlb
          have hos : (o.size : Int) ≤ b := by omega
          have HLB := Lib.hid hlb
          rw [hoo]
          clear hlb hoo
          have HR1 := Lib.hid hr
          have hk0w : k < 9223372036854775807 := by omega
          by_cases hx1 : 1 < (d[k].toNat : Int)
          · have HF : Hid (z = (⟨#[]⟩, 2)) := Lib.hid (by rw [HR.out]; exact restD_err base b out hs0 (insD_n (by omega) (by omega)) (by decide))
            clear hcr hr hrs hby hdk hs0 hk1 HR1
            go_wp2_with fail
            rw [HF.out]
            exact bodyPost_ret (v := .tuple #[.string ⟨#[]⟩, .int .i64 2]) (by simp [results, Try.results10, go_sem]) rfl ⟨rfl, HB1.out.trans (HBE.out.mono HB1.out.size)⟩
          · obtain ⟨p, n1, e1, hg1⟩ : ∃ p n e, getI r = (p, n, e) := ⟨_, _, _, rfl⟩
            have g1 := getI_bounds r p n1 e1 hg1
            have H2 := Lib.hid (fun W => rget_vars r p n1 e1 W (by unfold maxLen; omega) hg1)
            by_cases hx : (d[k].toNat : Int) = 1
            · have hb1x : byt (d.extract k d.size) 0 = 1 := by omega
              have hxN : d[k].toNat = 1 := by omega
              clear hx1 hdk hby
              by_cases he1 : e1 = 0
              · subst he1
                have gn := g1.2.2.2.2.2 rfl
                obtain ⟨q1, hq1⟩ : ∃ q : Nat, n1 = (q : Int) := ⟨n1.toNat, by omega⟩
                subst hq1
                obtain ⟨pN, hpN⟩ : ∃ q : Nat, p = (q : Int) := ⟨p.toNat, by omega⟩
                subst hpN
                obtain ⟨k2, hk2⟩ : ∃ k2, k1 + q1 = k2 := ⟨_, rfl⟩
                have hk2i : (k1 : Int) + (q1 : Int) = (k2 : Int) := by omega
                have hk2d : k2 ≤ d.size := by omega
                have hk2t : (k2 : Int) ≤ d.size := by omega
                obtain ⟨r2, hr2⟩ : ∃ r2, d.extract k2 d.size = r2 := ⟨_, rfl⟩
                have hr2s : r2.size = d.size - k2 := by rw [← hr2, ByteArray.size_extract]; omega
                have hcr2 : r.extract q1 r.size = r2 := by rw [← hr, cut_cut, hk2, hr2]
                have HR2 := Lib.hid hr2
                obtain ⟨n, m, f, hg2⟩ : ∃ n m f, getI r2 = (n, m, f) := ⟨_, _, _, rfl⟩
                have g2 := getI_bounds r2 n m f hg2
                have H3 := Lib.hid (fun W => rget_vars r2 n m f W (by unfold maxLen; omega) hg2)
                have hg2' : getI (r.extract ((q1 : Int)).toNat r.size) = (n, m, f) := by rw [show ((q1 : Int)).toNat = q1 from rfl, hcr2, hg2]
                by_cases hf : f = 0
                · subst hf
                  have gm := g2.2.2.2.2.2 rfl
                  obtain ⟨q2, hq2⟩ : ∃ q : Nat, m = (q : Int) := ⟨m.toNat, by omega⟩
                  subst hq2
                  obtain ⟨nN, hnN⟩ : ∃ q : Nat, n = (q : Int) := ⟨n.toNat, by omega⟩
                  subst hnN
                  obtain ⟨k3, hk3⟩ : ∃ k3, k2 + q2 = k3 := ⟨_, rfl⟩
                  have hk3i : (k2 : Int) + (q2 : Int) = (k3 : Int) := by omega
                  have hk3d : k3 ≤ d.size := by omega
                  by_cases hn0 : nN = 0
                  · subst hn0
                    have HF : Hid (z = (⟨#[]⟩, 2)) := Lib.hid (by rw [HR.out]; exact restD_err base b out hs0 (insD_c hb1x (by rw [hcr]; exact copD_bad hg1 hg2' (.inl rfl))) (by decide))
                    clear hcr hr hrs hs0 hk1 hcr2 hr2 hr2s hk2 hk3 hg1 hg2 hg2' g1 g2 gn gm hb1x
                    go_wp2_with (first
                      | (go_at_call 20; rw [HR1.out]; (with_reducible refine (H2.out _).mono ?_); rintro e w3 ⟨rfl, hb3⟩; have HB3 := Lib.hid (HBE.out.trans (hb3.mono HBE.out.size)); clear hb3)
                      | (go_at_call 20; rw [HR2.out]; (with_reducible refine (H3.out _).mono ?_); rintro e w4 ⟨rfl, hb4⟩; have HB4 := Lib.hid (HB3.out.trans (hb4.mono HB3.out.size)); clear hb4))
                    rw [HF.out]
                    exact bodyPost_ret (v := .tuple #[.string ⟨#[]⟩, .int .i64 2]) (by simp [results, Try.results10, go_sem]) rfl ⟨rfl, HB1.out.trans (HB4.out.mono HB1.out.size)⟩
                  · have hn0i : ¬ (nN : Int) = 0 := by omega
                    have hn0b : ((nN : Int) == 0) = false := beq_eq_false_iff_ne.2 hn0i
                    by_cases hA : (base.size : Int) < nN
                    · have HF : Hid (z = (⟨#[]⟩, 2)) := Lib.hid (by rw [HR.out]; exact restD_err base b out hs0 (insD_c hb1x (by rw [hcr]; exact copD_bad hg1 hg2' (.inr (by omega)))) (by decide))
                      have hAb : decide ((base.size : Int) < nN) = true := decide_eq_true hA
                      clear hcr hr hrs hs0 hk1 hcr2 hr2 hr2s hk2 hk3 hg1 hg2 hg2' g1 g2 gn gm hb1x
                      go_wp2_with (first
                        | (go_at_call 20; rw [HR1.out]; (with_reducible refine (H2.out _).mono ?_); rintro e w3 ⟨rfl, hb3⟩; have HB3 := Lib.hid (HBE.out.trans (hb3.mono HBE.out.size)); clear hb3)
                        | (go_at_call 20; rw [HR2.out]; (with_reducible refine (H3.out _).mono ?_); rintro e w4 ⟨rfl, hb4⟩; have HB4 := Lib.hid (HB3.out.trans (hb4.mono HB3.out.size)); clear hb4))
                      rw [HF.out]
                      exact bodyPost_ret (v := .tuple #[.string ⟨#[]⟩, .int .i64 2]) (by simp [results, Try.results10, go_sem]) rfl ⟨rfl, HB1.out.trans (HB4.out.mono HB1.out.size)⟩
                    · have hAb : decide ((base.size : Int) < nN) = false := decide_eq_false hA
                      have hAN : ¬ base.size < nN := by omega
                      by_cases hB : (base.size : Int) - nN < pN
                      · have HF : Hid (z = (⟨#[]⟩, 2)) := Lib.hid (by rw [HR.out]; exact restD_err base b out hs0 (insD_c hb1x (by rw [hcr]; exact copD_bad hg1 hg2' (.inr (by omega)))) (by decide))
                        clear hcr hr hrs hs0 hk1 hcr2 hr2 hr2s hk2 hk3 hg1 hg2 hg2' g1 g2 gn gm hb1x
                        go_wp2_with (first
                          | (go_at_call 20; rw [HR1.out]; (with_reducible refine (H2.out _).mono ?_); rintro e w3 ⟨rfl, hb3⟩; have HB3 := Lib.hid (HBE.out.trans (hb3.mono HBE.out.size)); clear hb3)
                          | (go_at_call 20; rw [HR2.out]; (with_reducible refine (H3.out _).mono ?_); rintro e w4 ⟨rfl, hb4⟩; have HB4 := Lib.hid (HB3.out.trans (hb4.mono HB3.out.size)); clear hb4))
                        rw [HF.out]
                        exact bodyPost_ret (v := .tuple #[.string ⟨#[]⟩, .int .i64 2]) (by simp [results, Try.results10, go_sem]) rfl ⟨rfl, HB1.out.trans (HB4.out.mono HB1.out.size)⟩
                      · obtain ⟨pn, hpn⟩ : ∃ q, pN + nN = q := ⟨_, rfl⟩
                        have hpni : (pN : Int) + (nN : Int) = (pn : Int) := by omega
                        obtain ⟨t, ht⟩ : ∃ t, base.extract pN pn = t := ⟨_, rfl⟩
                        have hts : t.size = nN := by rw [← ht, ByteArray.size_extract]; omega
                        have hin := insD_c hb1x ((congrArg (copD base) hcr).trans (copD_ok hg1 hg2' (by omega)))
                        rw [hpni, show ((pN : Int)).toNat = pN from rfl, show ((pn : Int)).toNat = pn from rfl, ht] at hin
                        have hpb : (pn : Int) ≤ base.size := by omega
                        have hpp : (pN : Int) ≤ (pn : Int) := by omega
                        have hpp0 : (pN : Int) ≤ base.size := by omega
                        have HT := Lib.hid ht
                        by_cases hl : b - (out.length : Int) < t.size
                        · have HF : Hid (z = (⟨#[]⟩, 6)) := Lib.hid (by rw [HR.out]; exact restD_long base b out hs0 hin hl)
                          have hlo : b < (o.size : Int) + (t.size : Int) := by have := HLB.out; omega
                          clear hcr hr hrs hs0 hcr2 hr2 hr2s hg1 hg2 hg2' g1 g2 gn gm hb1x ht hin hl
                          go_wp2_with (first
                            | (go_at_call 20; rw [HR1.out]; (with_reducible refine (H2.out _).mono ?_); rintro e w3 ⟨rfl, hb3⟩; have HB3 := Lib.hid (HBE.out.trans (hb3.mono HBE.out.size)); clear hb3)
                            | (go_at_call 20; rw [HR2.out]; (with_reducible refine (H3.out _).mono ?_); rintro e w4 ⟨rfl, hb4⟩; have HB4 := Lib.hid (HB3.out.trans (hb4.mono HB3.out.size)); clear hb4))
                          rw [HF.out]
                          exact bodyPost_ret (v := .tuple #[.string ⟨#[]⟩, .int .i64 6]) (by simp [results, Try.results10, go_sem]) rfl ⟨rfl, HB1.out.trans (HB4.out.mono HB1.out.size)⟩
                        · have HF : Hid (z = restD base b (d.extract k3 d.size) (out ++ t.data.toList)) := Lib.hid (by
                            rw [HR.out, restD_more base b out hs0 hin hl, show (1 + ((q1 : Int) + (q2 : Int))).toNat = 1 + (q1 + q2) by omega, cut_cut]
                            congr 2; omega)
                          have hlo : ¬ b < (o.size : Int) + (t.size : Int) := by have := HLB.out; omega
                          have hcat : ¬ 9223372036854775807 < o.size + t.size := by omega
                          have HCT : Hid (mkB out ++ t = mkB (out ++ t.data.toList)) := Lib.hid (by rw [mkB_app, mkB_list])
                          have htl : t.data.toList.length = t.size := by simp
                          have HLN : Hid (((out ++ t.data.toList).length : Int) ≤ b) := Lib.hid (by rw [List.length_append, htl]; omega)
                          clear htl
                          clear hcr hr hrs hs0 hcr2 hr2 hr2s hg1 hg2 hg2' g1 g2 gn gm hb1x ht hin hl
                          go_wp2_with (first
                            | (go_at_call 20; rw [HR1.out]; (with_reducible refine (H2.out _).mono ?_); rintro e w3 ⟨rfl, hb3⟩; have HB3 := Lib.hid (HBE.out.trans (hb3.mono HBE.out.size)); clear hb3)
                            | (go_at_call 20; rw [HR2.out]; (with_reducible refine (H3.out _).mono ?_); rintro e w4 ⟨rfl, hb4⟩; have HB4 := Lib.hid (HB3.out.trans (hb4.mono HB3.out.size)); clear hb4))
                          go_roundw
                          case rel => exact ⟨k3, out ++ t.data.toList, rfl, by first | (rw [← HCT.out, HOO.out, HT.out]) | (rw [← HCT.out, HOO.out]), by omega, by rw [HZ.out, HF.out], HLN.out, HB4.out⟩
                          case measure => simp [intOf]; omega
                · have HF : Hid (z = (⟨#[]⟩, f)) := Lib.hid (by rw [HR.out]; exact restD_err base b out hs0 (insD_c hb1x (by rw [hcr]; exact copD_e2 hg1 hg2' hf)) hf)
                  have hfb : (f == 0) = false := beq_eq_false_iff_ne.2 hf
                  clear hcr hr hrs hs0 hk1 hcr2 hr2 hr2s hk2 hg1 hg2 hg2' g1 g2 gn hb1x
                  go_wp2_with (first
                    | (go_at_call 20; rw [HR1.out]; (with_reducible refine (H2.out _).mono ?_); rintro e w3 ⟨rfl, hb3⟩; have HB3 := Lib.hid (HBE.out.trans (hb3.mono HBE.out.size)); clear hb3)
                    | (go_at_call 20; rw [HR2.out]; (with_reducible refine (H3.out _).mono ?_); rintro e w4 ⟨rfl, hb4⟩; have HB4 := Lib.hid (HB3.out.trans (hb4.mono HB3.out.size)); clear hb4))
                  rw [HF.out]
                  exact bodyPost_ret (v := .tuple #[.string ⟨#[]⟩, .int .i64 f]) (by simp [results, Try.results10, go_sem]) rfl ⟨rfl, HB1.out.trans (HB4.out.mono HB1.out.size)⟩
              · have HF : Hid (z = (⟨#[]⟩, e1)) := Lib.hid (by rw [HR.out]; exact restD_err base b out hs0 (insD_c hb1x (by rw [hcr]; exact copD_e1 hg1 he1)) he1)
                have heb : (e1 == 0) = false := beq_eq_false_iff_ne.2 he1
                clear hcr hr hrs hs0 hk1 hg1 g1 hb1x
                go_wp2_with (go_at_call 20; rw [HR1.out]; (with_reducible refine (H2.out _).mono ?_); rintro e w3 ⟨rfl, hb3⟩; have HB3 := Lib.hid (HBE.out.trans (hb3.mono HBE.out.size)); clear hb3)
                rw [HF.out]
                exact bodyPost_ret (v := .tuple #[.string ⟨#[]⟩, .int .i64 e1]) (by simp [results, Try.results10, go_sem]) rfl ⟨rfl, HB1.out.trans (HB3.out.mono HB1.out.size)⟩
            · have hb0x : byt (d.extract k d.size) 0 = 0 := by have := byt_lo d k; omega
              have hxN : d[k].toNat = 0 := by have := byt_lo d k; omega
              have hxi0 : (d[k].toNat : Int) = 0 := by omega
              clear hx1 hx hdk hby
              by_cases he1 : e1 = 0
              · subst he1
                have gn := g1.2.2.2.2.2 rfl
                obtain ⟨q1, hq1⟩ : ∃ q : Nat, n1 = (q : Int) := ⟨n1.toNat, by omega⟩
                subst hq1
                obtain ⟨pN, hpN⟩ : ∃ q : Nat, p = (q : Int) := ⟨p.toNat, by omega⟩
                subst hpN
                obtain ⟨k2, hk2⟩ : ∃ k2, k1 + q1 = k2 := ⟨_, rfl⟩
                have hk2i : (k1 : Int) + (q1 : Int) = (k2 : Int) := by omega
                have hk2d : k2 ≤ d.size := by omega
                have hk2t : (k2 : Int) ≤ d.size := by omega
                by_cases hn0 : pN = 0
                · subst hn0
                  have HF : Hid (z = (⟨#[]⟩, 2)) := Lib.hid (by rw [HR.out]; exact restD_err base b out hs0 (insD_a hb0x (by rw [hcr]; exact addD_zero hg1)) (by decide))
                  clear hcr hr hrs hs0 hk1 hk2 hg1 g1 gn hb0x
                  go_wp2_with (go_at_call 20; rw [HR1.out]; (with_reducible refine (H2.out _).mono ?_); rintro e w3 ⟨rfl, hb3⟩; have HB3 := Lib.hid (HBE.out.trans (hb3.mono HBE.out.size)); clear hb3)
                  rw [HF.out]
                  exact bodyPost_ret (v := .tuple #[.string ⟨#[]⟩, .int .i64 2]) (by simp [results, Try.results10, go_sem]) rfl ⟨rfl, HB1.out.trans (HB3.out.mono HB1.out.size)⟩
                · have hn0i : ¬ (pN : Int) = 0 := by omega
                  have hn0b : ((pN : Int) == 0) = false := beq_eq_false_iff_ne.2 hn0i
                  by_cases hB : (d.size : Int) - k2 < pN
                  · have HF : Hid (z = (⟨#[]⟩, 3)) := Lib.hid (by rw [HR.out]; exact restD_err base b out hs0 (insD_a hb0x (by rw [hcr]; exact addD_short hg1 hn0i (by omega))) (by decide))
                    clear hcr hr hrs hs0 hk1 hk2 hg1 g1 gn hb0x
                    go_wp2_with (go_at_call 20; rw [HR1.out]; (with_reducible refine (H2.out _).mono ?_); rintro e w3 ⟨rfl, hb3⟩; have HB3 := Lib.hid (HBE.out.trans (hb3.mono HBE.out.size)); clear hb3)
                    rw [HF.out]
                    exact bodyPost_ret (v := .tuple #[.string ⟨#[]⟩, .int .i64 3]) (by simp [results, Try.results10, go_sem]) rfl ⟨rfl, HB1.out.trans (HB3.out.mono HB1.out.size)⟩
                  · obtain ⟨k3, hk3⟩ : ∃ q, k2 + pN = q := ⟨_, rfl⟩
                    have hk3i : (k2 : Int) + (pN : Int) = (k3 : Int) := by omega
                    have hk3d : (k3 : Int) ≤ d.size := by omega
                    have hk3e : (k2 : Int) ≤ (k3 : Int) := by omega
                    obtain ⟨t, ht⟩ : ∃ t, d.extract k2 k3 = t := ⟨_, rfl⟩
                    have hts : t.size = pN := by rw [← ht, ByteArray.size_extract]; omega
                    have hin := insD_a (base := base) hb0x ((congrArg addD hcr).trans (addD_ok hg1 hn0i (by omega)))
                    rw [show ((q1 : Int)).toNat = q1 from rfl, show ((q1 : Int) + (pN : Int)).toNat = q1 + pN by omega, ← hr, cut_part d (by omega), hk2, show k1 + (q1 + pN) = k3 by omega, ht] at hin
                    have HT := Lib.hid ht
                    by_cases hl : b - (out.length : Int) < t.size
                    · have HF : Hid (z = (⟨#[]⟩, 6)) := Lib.hid (by rw [HR.out]; exact restD_long base b out hs0 hin hl)
                      have hlo : b < (o.size : Int) + (t.size : Int) := by have := HLB.out; omega
                      clear hcr hr hrs hs0 hg1 g1 gn hb0x ht hin hl
                      go_wp2_with (go_at_call 20; rw [HR1.out]; (with_reducible refine (H2.out _).mono ?_); rintro e w3 ⟨rfl, hb3⟩; have HB3 := Lib.hid (HBE.out.trans (hb3.mono HBE.out.size)); clear hb3)
                      rw [HF.out]
                      exact bodyPost_ret (v := .tuple #[.string ⟨#[]⟩, .int .i64 6]) (by simp [results, Try.results10, go_sem]) rfl ⟨rfl, HB1.out.trans (HB3.out.mono HB1.out.size)⟩
                    · have HF : Hid (z = restD base b (d.extract k3 d.size) (out ++ t.data.toList)) := Lib.hid (by
                        rw [HR.out, restD_more base b out hs0 hin hl, show (1 + ((q1 : Int) + (pN : Int))).toNat = 1 + (q1 + pN) by omega, cut_cut]
                        congr 2; omega)
                      have hlo : ¬ b < (o.size : Int) + (t.size : Int) := by have := HLB.out; omega
                      have hcat : ¬ 9223372036854775807 < o.size + t.size := by omega
                      have HCT : Hid (mkB out ++ t = mkB (out ++ t.data.toList)) := Lib.hid (by rw [mkB_app, mkB_list])
                      have htl : t.data.toList.length = t.size := by simp
                      have HLN : Hid (((out ++ t.data.toList).length : Int) ≤ b) := Lib.hid (by rw [List.length_append, htl]; omega)
                      clear htl
                      clear hcr hr hrs hs0 hg1 g1 gn hb0x ht hin hl
                      go_wp2_with (go_at_call 20; rw [HR1.out]; (with_reducible refine (H2.out _).mono ?_); rintro e w3 ⟨rfl, hb3⟩; have HB3 := Lib.hid (HBE.out.trans (hb3.mono HBE.out.size)); clear hb3)
                      go_roundw
                      case rel => exact ⟨k3, out ++ t.data.toList, rfl, by first | (rw [← HCT.out, HOO.out, HT.out]) | (rw [← HCT.out, HOO.out]), by omega, by rw [HZ.out, HF.out], HLN.out, HB3.out⟩
                      case measure => simp [intOf]; omega
              · have HF : Hid (z = (⟨#[]⟩, e1)) := Lib.hid (by rw [HR.out]; exact restD_err base b out hs0 (insD_a hb0x (by rw [hcr]; exact addD_err hg1 he1)) he1)
                have heb : (e1 == 0) = false := beq_eq_false_iff_ne.2 he1
                clear hcr hr hrs hs0 hk1 hg1 g1 hb0x
                go_wp2_with (go_at_call 20; rw [HR1.out]; (with_reducible refine (H2.out _).mono ?_); rintro e w3 ⟨rfl, hb3⟩; have HB3 := Lib.hid (HBE.out.trans (hb3.mono HBE.out.size)); clear hb3)
                rw [HF.out]
                exact bodyPost_ret (v := .tuple #[.string ⟨#[]⟩, .int .i64 e1]) (by simp [results, Try.results10, go_sem]) rfl ⟨rfl, HB1.out.trans (HB3.out.mono HB1.out.size)⟩
        · have hke : k = d.size := by omega
          have hki : ¬ (k : Int) < d.size := by omega
          have HE := Lib.hid (restD_end base b (s := d.extract k d.size) out (by rw [ByteArray.size_extract]; omega))
          clear hkl hke
          by_cases ho : (out.length : Int) < b
          · have HF : Hid (z = (⟨#[]⟩, 4)) := Lib.hid (by rw [HR.out, HE.out, if_pos ho])
            clear HE
            go_wp2_with fail
            rw [HF.out]
            exact bodyPost_ret (v := .tuple #[.string ⟨#[]⟩, .int .i64 4]) (by simp [results, Try.results10, go_sem]) rfl ⟨rfl, HB1.out.trans (HBE.out.mono HB1.out.size)⟩
          · have HF : Hid (z = (mkB out, 0)) := Lib.hid (by rw [HR.out, HE.out, if_neg ho])
            clear HE
            go_wp2_with fail
            rw [HF.out]
            exact bodyPost_ret (v := .tuple #[.string (mkB out), .int .i64 0]) (by simp [results, Try.results10, go_sem]) rfl ⟨rfl, HB1.out.trans (HBE.out.mono HB1.out.size)⟩
    · have HC := Lib.hid (HS.out.trans ((if_neg (fun h => h rfl)).trans (if_pos ha)))
      have hab : ((base.size : Int) == a) = false := beq_eq_false_iff_ne.2 ha
      clear HS hs g
      go_enter Try.func10, Try.ntmps10
      go_wp2_with (go_at_call 12; (with_reducible refine (H1.out _).mono ?_); rintro e w1 ⟨rfl, hb1⟩; have HB1 := Lib.hid hb1; clear hb1)
      rw [HC.out]
      exact bodyPost_ret (v := .tuple #[.string ⟨#[]⟩, .int .i64 13]) (by simp [results, Try.results10, go_sem]) rfl ⟨rfl, HB1.out⟩
  · have HC := Lib.hid (HS.out.trans (if_pos he))
    have heb : (e == 0) = false := beq_eq_false_iff_ne.2 he
    clear HS hs g
    go_enter Try.func10, Try.ntmps10
    go_wp2_with (go_at_call 12; (with_reducible refine (H1.out _).mono ?_); rintro e w1 ⟨rfl, hb1⟩; have HB1 := Lib.hid hb1; clear hb1)
    rw [HC.out]
    exact bodyPost_ret (v := .tuple #[.string ⟨#[]⟩, .int .i64 e]) (by simp [results, Try.results10, go_sem]) rfl ⟨rfl, HB1.out⟩
end Go.Proofs.Ytmdhendfmhhniaa
