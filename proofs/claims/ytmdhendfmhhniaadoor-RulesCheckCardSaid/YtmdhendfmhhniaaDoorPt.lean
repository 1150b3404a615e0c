/- Lines of a text: the library's iterator. -/
import Derived.RangeFuncNested
import Derived.RangeFuncBound
import Derived.RangeFuncCalls
import Derived.RangeFuncLeaves
import Derived.Shelf.Abstract
import Derived.Shelf.RegionOpen
import Derived.WalkKit
import Derived.OwnWalkIn
import Derived.TacticsInMore
import Derived.LoopNIn
import Derived.LoopIn
import Derived.Test.YtmdhendfmhhniaaDoorPs
namespace Go.Proofs.YtmdhendfmhhniaaDoor
open Go.RowKit Go.Shelf
attribute [local go_sem] Oper.semAt_some
variable {w w' : World}

def msrL (B : Nat) (w : World) : Nat := match w.cell? ⟨B, 0, none⟩ with | some (.string s) => s.size | _ => 0
theorem Lines_any (s : ByteArray) (w : World) :
    Calls Tryd.prog 83 #[.string s] w fun e w' => e = .returned (.func (.func 98) #[] #[.pointer (some ⟨w.heap.size, 0, none⟩)]) ∧ w' = w.alloc (.cells #[.string s] 9) := by
  go_enter Tryd.func83, Tryd.ntmps83
  go_wp2_with fail
  go_ret
  exact ⟨rfl, rfl⟩
set_option maxRecDepth 100000 in
set_option maxHeartbeats 2000000 in
theorem lines1_in (n l Bn : Nat) (hn1 : 1 ≤ n) (S : ByteArray) (hS : S.size ≤ 262144) (J : Nat → World → Prop) (Jx : World → Prop)
    (hd : ∀ k W q, J k W → J k (W.drewN q)) (hs : ∀ k W v, J k W → J k (W.setCell ⟨Bn, 0, none⟩ v))
    (hY : ∀ k W, k < S.size → J k W → W.cell? ⟨Bn, 0, none⟩ = some (.string (S.extract (endAt S k) S.size)) → W.frozen? ⟨Bn, 0, none⟩ = false →
      YieldAt Fence.wide (n - 1) Tryd.prog l #[.string (S.extract k (endAt S k))] W fun e W' => (e = .returned (.bool true) ∧ J (endAt S k) W' ∧ W'.cell? ⟨Bn, 0, none⟩ = some (.string (S.extract (endAt S k) S.size)) ∧ W'.frozen? ⟨Bn, 0, none⟩ = false) ∨ (e = .returned (.bool false) ∧ Jx W'))
    (W : World) (hB : W.cell? ⟨Bn, 0, none⟩ = some (.string S)) (hf : W.frozen? ⟨Bn, 0, none⟩ = false) (h0 : J 0 W) :
    CallsIn Fence.wide n Tryd.prog 98 #[.func (.yield l) #[] #[], .pointer (some ⟨Bn, 0, none⟩)] W fun e W' => (∃ v, e = .returned v) ∧ (J S.size W' ∨ Jx W') := by
  refine callsIn_of_wp Tryd.func98 rfl trivial ?_ rfl
  simp only [Tryd.ntmps98, List.size_toArray, List.length_cons, List.length_nil, Nat.reduceAdd, Nat.reduceSub, Array.replicate_succ, Array.replicate_zero, List.push_toArray, List.append_toArray, List.nil_append, List.cons_append]
  have HY := Lib.hid hY; have HS := Lib.hid hs; have HD := Lib.hid hd
  clear hY hs hd
  gi_wp2
  gi_loopw [3] (fun _ wr => ∃ k : Nat, k ≤ S.size ∧ wr.cell? ⟨Bn, 0, none⟩ = some (.string (S.extract k S.size)) ∧ wr.frozen? ⟨Bn, 0, none⟩ = false ∧ J k wr) (fun _ wr => msrL Bn wr)
  case atStart => exact ⟨0, Nat.zero_le _, by rw [ext_all]; exact hB, hf, h0⟩
  case round =>
    obtain ⟨k, hk, hc, hfz, hJ⟩ := hrel
    obtain ⟨t, ht⟩ : ∃ t, S.extract k S.size = t := ⟨_, rfl⟩
    have hts : t.size = S.size - k := by rw [← ht]; simp
    have HT := Lib.hid ht
    rw [ht] at hc
    have hms : msrL Bn wr = t.size := by unfold msrL; rw [hc]
    have HMS := Lib.hid hms
    clear ht hms
    by_cases hlt : k < S.size
    · have ht0 : (0 : Int) < t.size := by omega
      have ht1 : t.size ≤ 262144 := by omega
      have hix := idx_rest (s := S) (k := k) hk
      rw [HT.out] at hix
      have hge := nlAt_ge S k
      have hegt := endAt_gt hlt
      by_cases hn : nlAt S k < S.size
      · rw [if_pos hn] at hix
        have he : endAt S k = nlAt S k + 1 := by unfold endAt; rw [if_pos hn]
        obtain ⟨d, hd⟩ : ∃ d, nlAt S k - k = d := ⟨_, rfl⟩
        rw [hd] at hix
        obtain ⟨E, hE⟩ : ∃ E, endAt S k = E := ⟨_, rfl⟩
        have hdE : E = k + (d + 1) := by omega
        have hdt : d + 1 ≤ t.size := by omega
        have hdi : (d : Int) + 1 ≤ t.size := by omega
        have e1 : t.extract 0 (d + 1) = S.extract k E := by rw [← HT.out, ext_ext S (by omega), hdE]; rfl
        have e2 : t.extract (d + 1) t.size = S.extract E S.size := by rw [hts, ← HT.out, ext_ext S (by omega), hdE, show k + (S.size - k) = S.size by omega]
        obtain ⟨x1, hx1⟩ : ∃ x1, t.extract 0 (d + 1) = x1 := ⟨_, rfl⟩
        obtain ⟨x2, hx2⟩ : ∃ x2, t.extract (d + 1) t.size = x2 := ⟨_, rfl⟩
        have HYk := HY.out k
        rw [hE, ← e1, ← e2, hx1, hx2] at HYk
        have HX2 : Hid (S.extract E S.size = x2) := Lib.hid (by rw [← e2, hx2])
        have HYk := Lib.hid (fun W => HYk W hlt)
        have HIX := Lib.hid hix
        have HJ := Lib.hid hJ
        have HEgt : Hid (k < E ∧ E ≤ S.size) := Lib.hid (by rw [← hE]; exact hegt)
        have HTS := Lib.hid hts
        clear hix hge hn he hd hE e1 e2 hJ hts hlt hegt
        gi_wp2_with (refine ⟨trivial, ?_⟩; gi_at_call 99; refine (callsIn_wide.2 (Tryd.strings_IndexByte t 10 _)).mono ?_; rintro e w1 ⟨rfl, rfl⟩; rw [show Lib.indexByte t.data.toList ((10 : Int).toNat.toUInt8) = (d : Int) from HIX.out])
        obtain ⟨fn, tmps, assign, body, hy, hR⟩ := HYk.out ((w1.setCell ⟨Bn, 0, none⟩ (.string x2)).drew) (HD.out _ _ 1 (HS.out _ _ _ HJ.out)) (World.cell?_setCell_same' _ _ _ (by rw [hc]; rfl)) (by show (w1.setCell _ _).frozen? _ = _; rw [World.frozen?_setCell]; exact hfz)
        have HRR := Lib.hid hR
        clear hR
        gi_region
        all_goals
          gi_wp2
          refine HRR.out.mono ?_
          rintro e W3 (⟨rfl, hJ3, hc3, hf3⟩ | ⟨rfl, hJx3⟩)
          · have hms3 : Hid (msrL Bn W3 < msrL Bn w1) := Lib.hid (by
              rw [HMS.out]
              unfold msrL
              rw [hc3]
              have h1 := HX2.out
              show x2.size < t.size
              rw [← h1, HTS.out]
              have h2 := HEgt.out
              simp; omega)
            have HJ3 := Lib.hid hJ3
            have hc4 : W3.cell? ⟨Bn, 0, none⟩ = some (.string (S.extract E S.size)) := by rw [HX2.out]; exact hc3
            have HC4 := Lib.hid hc4; have HF3 := Lib.hid hf3
            clear hc4 hJ3
            gi_wp2
            go_roundw
            case rel => exact ⟨E, HEgt.out.2, HC4.out, HF3.out, HJ3.out⟩
            case measure => exact hms3.out
          · gi_wp2
            refine bodyPost_ret (results_none rfl _ _ _) rfl ?_
            exact ⟨⟨_, rfl⟩, .inr hJx3⟩
      · rw [if_neg hn] at hix
        have he : endAt S k = S.size := by unfold endAt; rw [if_neg hn]
        have HYk := HY.out k
        have he2 : S.extract S.size S.size = ⟨#[]⟩ := ext_none (Nat.le_refl _)
        rw [he, he2, HT.out] at HYk
        have HYk := Lib.hid (fun W => HYk W hlt)
        have HIX := Lib.hid hix
        have HJ := Lib.hid hJ
        have HE2 := Lib.hid he2
        clear hix hge hn he hJ hlt hegt he2
        gi_wp2_with (refine ⟨trivial, ?_⟩; gi_at_call 99; refine (callsIn_wide.2 (Tryd.strings_IndexByte t 10 _)).mono ?_; rintro e w1 ⟨rfl, rfl⟩; rw [show Lib.indexByte t.data.toList ((10 : Int).toNat.toUInt8) = (-1 : Int) from HIX.out]; obtain ⟨fn, tmps, assign, body, hy, hR⟩ := HYk.out (w1.setCell ⟨Bn, 0, none⟩ (.string ⟨#[]⟩)) (HS.out _ _ _ HJ.out) (World.cell?_setCell_same' _ _ _ (by rw [hc]; rfl)) (by rw [World.frozen?_setCell]; exact hfz); have HRR := Lib.hid hR; clear hR)
        refine HRR.out.mono ?_
        rintro e W3 (⟨rfl, hJ3, hc3, hf3⟩ | ⟨rfl, hJx3⟩)
        · have hms3 : Hid (msrL Bn W3 < msrL Bn w1) := Lib.hid (by
            rw [HMS.out]
            unfold msrL
            rw [hc3]
            show 0 < t.size
            omega)
          have HJ3 := Lib.hid hJ3
          have HC4 : Hid (W3.cell? ⟨Bn, 0, none⟩ = some (.string (S.extract S.size S.size))) := Lib.hid (by rw [HE2.out]; exact hc3)
          have HF3 := Lib.hid hf3
          clear hJ3
          gi_wp2
          go_roundw
          case rel => exact ⟨S.size, Nat.le_refl _, HC4.out, HF3.out, HJ3.out⟩
          case measure => exact hms3.out
        · gi_wp2
          refine bodyPost_ret (results_none rfl _ _ _) rfl ?_
          exact ⟨⟨_, rfl⟩, .inr hJx3⟩
    · have hkS : k = S.size := by omega
      have ht0 : t.size = 0 := by omega
      have HJ : Hid (J S.size wr) := Lib.hid (hkS ▸ hJ)
      clear hkS hJ hts
      gi_wp2
      go_end0
      exact ⟨⟨_, rfl⟩, .inl HJ.out⟩
end Go.Proofs.YtmdhendfmhhniaaDoor
