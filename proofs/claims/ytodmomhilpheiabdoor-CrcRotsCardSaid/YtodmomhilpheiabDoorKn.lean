/- The law CrcRots, at whatever world that has the package's variable. -/
import Derived.Test.YtodmomhilpheiabDoorKm
import Derived.Test.YtodmomhilpheiabDoorKj
import Derived.Lib.AtoiErrMem
namespace Go.Proofs.YtodmomhilpheiabDoor
open Go.RowKit

/-- A row of bytes that may be written. -/
def RowB (w : World) (g : Nat) (L : List UInt8) : Prop :=
  (∀ i, i < L.length → w.cell? ⟨g, i, none⟩ = some (.int .u8 ((L.getD i 0).toNat : Int))) ∧ (∀ i, i < L.length → w.frozen? ⟨g, i, none⟩ = false)
theorem RowB.set {w : World} {g : Nat} {L : List UInt8} (h : RowB w g L) (j : Nat) (hj : j < L.length) (v : UInt8) : RowB (w.setCell ⟨g, j, none⟩ (.int .u8 (v.toNat : Int))) g (L.set j v) := by
  refine ⟨fun i hi => ?_, fun i hi => ?_⟩
  · rw [List.length_set] at hi
    by_cases e : i = j
    · subst e
      rw [World.cell?_setCell_same w ⟨g, i, none⟩ _ (by rw [h.1 i hi])]
      simp [List.getD, hi]
    · rw [World.cell?_setCell_other w ⟨g, j, none⟩ ⟨g, i, none⟩ _ (fun x => e (by injection x with _ h2 _; exact h2.symm)), h.1 i hi]
      simp [List.getD, List.getElem?_set, Ne.symm e]
  · rw [List.length_set] at hi
    have := h.2 i hi
    simpa using this
theorem bytes_of (w : World) (s : ByteArray) : ∃ w3 cap, (convert 9 39 (.string s)).run Tryd.prog w = .ok (.slice (some ⟨w.heap.size, 0, none⟩) s.size cap) w3 ∧ RowB w3 w.heap.size s.data.toList ∧ Below w.heap.size w w3 ∧ w.heap.size < w3.heap.size ∧ s.size ≤ cap := by
  refine ⟨_, _, Lib.run_convert_string_bytes w 9 39 5 s Tryd.underlying9 Tryd.underlying39 Tryd.underlying5, ⟨fun i hi => ?_, fun i hi => ?_⟩, ?_, ?_, ?_⟩
  · exact Lib.bytesWorld_cell w 5 s i (by simpa using hi)
  · have hsz : s.size ≤ (Lib.bytesCells w 5 s).size := by unfold Lib.bytesCells; simp
    have hi' : i < s.size := by simpa using hi
    simp only [World.frozen?, Lib.bytesWorld_at_new]
    simp
    omega
  · exact Lib.bytesWorld_below _ _ _
  · rw [Lib.bytesWorld_size]; omega
  · exact grownCap_ge _ _ _ _

/-- The byte that is put over byte j. -/
def maskI (x : Int) (j : Nat) : Int := x / 2 ^ (8 * j) % 256
def maskU (x : Int) (j : Nat) : UInt8 := UInt8.ofNat (maskI x j).toNat
theorem maskU_val (x : Int) (j : Nat) : ((maskU x j).toNat : Int) = maskI x j := by
  unfold maskU
  have h : 0 ≤ maskI x j ∧ maskI x j < 256 := by unfold maskI; omega
  rw [UInt8.toNat_ofNat']
  omega
theorem tmod_in (x m : Int) (h : 0 < m) : -m < x.tmod m ∧ x.tmod m < m := by
  have h1 := Int.tmod_lt_of_pos x h
  have h2 := Int.lt_tmod_of_pos x h
  omega

def RotSlot (L : List UInt8) (a : Nat) (y : Nat → UInt8) (W : World) (g : Nat) (X : Obj) (c i : Value) (wr : World) : Prop :=
  ∃ j : Nat, j ≤ 4 ∧ a + j ≤ L.length ∧ i = .int .i64 j ∧ c = .bool (chg y j) ∧ RowB wr g (rotL L a y j) ∧ Below W.heap.size W wr ∧ wr.heap[W.heap.size]? = some X

set_option maxHeartbeats 2000000 in
set_option maxRecDepth 100000 in
theorem CrcRots_any (x : Int) (body : ByteArray) (x0 x1 : Int) (w : World) (hm : body.size ≤ maxLen) (h0 : 0 ≤ x) (h1 : x < 256) (hV : CrcVars w) :
    Calls Tryd.prog 6 #[.int .u8 x, .string body, .agg #[.int .i64 x0, .int .i64 x1]] w fun e w' => e = .returned (.bool true) ∧ Below w.heap.size w w' := by
  obtain ⟨k, hk⟩ := byte_of x h0 h1
  have hB0 : Below w.heap.size w (w.alloc (.cells #[.int .i64 x0, .int .i64 x1] 38)) := (Below.refl _ _).alloc (Nat.le_refl _) _
  have HB0 := Lib.hid hB0
  have HVW := Lib.hid hV; have HV := Lib.hid (hV.below hB0); have HK := Lib.hid hk
  have hc0 : (w.alloc (.cells #[.int .i64 x0, .int .i64 x1] 38)).heap[w.heap.size]? = some (.cells #[.int .i64 x0, .int .i64 x1] 38 (0, 0)) := heap_alloc_new w _
  have HC0 := Lib.hid hc0
  unfold maxLen at hm
  clear hV hk hB0 hc0
  by_cases hs : 2000 < body.size
  · have hsi : (2000 : Int) < (body.size : Int) := by omega
    go_enter Tryd.func6, Tryd.ntmps6
    go_wp2_with fail
    refine (speaks_any _ HV.out).mono ?_
    rintro e w1 ⟨rfl, h1⟩
    go_wp2_with fail
    go_ret
    exact ⟨rfl, HB0.out.trans (h1.mono HB0.out.size)⟩
  · have hsi : (body.size : Int) ≤ 2000 := by omega
    have hb : body.size ≤ 262144 := by omega
    have HBD := Lib.hid hb
    have hfz := frL_size k body
    have hput : (putI body.size).length ≤ 6 := by have := encL_le body; rw [encL_length] at this; omega
    obtain ⟨F, hF⟩ : ∃ F, mkB (frL k body) = F := ⟨_, rfl⟩
    have hFl : F.data.toList = frL k body := by rw [← hF, mkB_data]
    have hFs : F.size = headN body + body.size + 4 := by rw [← hF, mkB_size, hfz]
    obtain ⟨hd, hhd⟩ : ∃ hd, headN body = hd := ⟨_, rfl⟩
    have hd1 : 1 ≤ hd ∧ hd ≤ 7 := by rw [← hhd]; unfold headN; omega
    rw [hhd] at hFs
    have HF := Lib.hid hF; have HFL := Lib.hid hFl; have HFZ := Lib.hid hfz; have HHD := Lib.hid hhd; have HFS := Lib.hid hFs
    have hnb : (F.size : Int) ≤ 2011 := by omega
    have e1 : (F.size : Int) - 4 - (body.size : Int) = (hd : Int) := by omega
    have e2 : (F.size : Int) - (hd : Int) = (body.size : Int) + 4 := by omega
    obtain ⟨m, hme⟩ : ∃ m : Int, (body.size : Int) + 4 = m := ⟨_, rfl⟩
    rw [hme] at e2
    have hm0 : 0 < m := by omega
    have hm1 : m ≤ 2004 := by omega
    have hr := tmod_in x0 m hm0
    obtain ⟨r, hre⟩ : ∃ r, x0.tmod m = r := ⟨_, rfl⟩
    rw [hre] at hr
    have hr0 : -m < r := hr.1
    have hr1 : r < m := hr.2
    have e3 : r + (F.size : Int) - (hd : Int) = r + m := by omega
    have e4 : (r + m).tmod m = (r + m) % m := Int.tmod_eq_emod_of_nonneg (by omega)
    obtain ⟨t, hte⟩ : ∃ t, (r + m) % m = t := ⟨_, rfl⟩
    have ht0 : 0 ≤ t := by rw [← hte]; exact Int.emod_nonneg _ (by omega)
    have ht1 : t < m := by rw [← hte]; exact Int.emod_lt_of_pos _ hm0
    rw [hte] at e4
    obtain ⟨a, ha⟩ : ∃ a : Nat, (hd : Int) + t = a := ⟨((hd : Int) + t).toNat, by omega⟩
    have ha0 : hd ≤ a := by omega
    have ha1 : a < F.size := by omega
    have E1 := Lib.hid e1; have E2 := Lib.hid e2; have E3 := Lib.hid e3; have E4 := Lib.hid e4; have HA := Lib.hid ha; have HRE := Lib.hid hre
    clear hs h0 h1 hF hFl hfz hhd hFs hme hre hte hr hput hb hd1 e1 e2 e3 e4 ha
    go_enter Tryd.func6, Tryd.ntmps6
    go_wp2_with fail
    refine (speaks_any _ HV.out).mono ?_
    rintro e w1 ⟨rfl, h1⟩
    have B1 := Lib.hid (HB0.out.trans (h1.mono HB0.out.size))
    have V1 := Lib.hid (HV.out.below h1)
    have C1 := Lib.hid ((h1.block w.heap.size (by show _ < (w.heap.push _).size; simp)).trans HC0.out)
    clear h1
    go_wp2_with fail
    refine (Frame_any k x HK.out body w1 HBD.out V1.out).mono ?_
    rintro e w2 ⟨rfl, h2⟩
    rw [HF.out]
    have B2 := Lib.hid (B1.out.trans (h2.mono B1.out.size))
    have V2 := Lib.hid (V1.out.below h2)
    have hw1 : w.heap.size < w1.heap.size := by
      rcases Nat.lt_or_ge w.heap.size w1.heap.size with h' | h'
      · exact h'
      · have := C1.out; rw [Array.getElem?_eq_none h'] at this; cases this
    have C2 := Lib.hid ((h2.block w.heap.size hw1).trans C1.out)
    have hw2 : w.heap.size < w2.heap.size := Nat.lt_of_lt_of_le hw1 h2.size
    clear h2
    obtain ⟨w3, cap, hcv, hrow, hb3, hg3, hcap⟩ := bytes_of w2 F
    have R3 := Lib.hid hrow
    have B3 := Lib.hid (B2.out.trans (hb3.mono B2.out.size))
    have V3 := Lib.hid (V2.out.below hb3)
    have hC3 := (hb3.block w.heap.size hw2).trans C2.out
    have q0 : w3.cell? ⟨w.heap.size, 0, none⟩ = some (.int .i64 x0) := by unfold World.cell?; simp only [hC3]; rfl
    have q1 : w3.cell? ⟨w.heap.size, 1, none⟩ = some (.int .i64 x1) := by unfold World.cell?; simp only [hC3]; rfl
    have C3 := Lib.hid hC3
    clear hrow hb3 hC3
    have e1 := E1.out; have e2 := E2.out; have e3 := E3.out; have e4 := E4.out; have ha := HA.out; have hre := HRE.out
    have hmz : (m == 0) = false := by rw [beq_eq_false_iff_ne]; omega
    go_wp2_with fail
    clear e1 e2 e3 e4 ha hre q0 q1 hmz ht0 ht1 hr0 hr1 hm0 hm1
    go_loopw [11, 12] (fun c i wr => RotSlot (frL k body) a (maskU x1) w w2.heap.size (.cells #[.int .i64 x0, .int .i64 x1] 38 (0, 0)) c i wr) (fun _ i _ => 4 - (intOf i).toNat)
    case atStart => exact ⟨0, by omega, by rw [HFZ.out, HHD.out]; have := HFS.out; omega, rfl, rfl, by rw [rotL_zero, ← HFL.out]; exact R3.out, B3.out, C3.out⟩
    case round =>
      obtain ⟨j, hj, haj, rfl, rfl, hR, hB, hC⟩ := hrel
      have hlen : (frL k body).length = F.size := by rw [HFZ.out, HHD.out]; exact HFS.out.symm
      rw [hlen] at haj
      have RR := Lib.hid hR; have BB := Lib.hid hB; have CC := Lib.hid hC
      obtain ⟨cb, hcb⟩ : ∃ cb, chg (maskU x1) j = cb := ⟨_, rfl⟩
      have HCB := Lib.hid hcb
      rw [hcb]
      have q1 : wr.cell? ⟨w.heap.size, 1, none⟩ = some (.int .i64 x1) := by unfold World.cell?; simp only [hC]; rfl
      clear hR hB hcb
      by_cases hgo : j < 4 ∧ a + j < F.size
      · obtain ⟨g1, g2⟩ := hgo
        have hj4 : (j : Int) < 4 := by omega
        have haj2 : (a : Int) + j < F.size := by omega
        have haj0 : 0 ≤ (a : Int) + j := by omega
        have htn : ((a : Int) + j).toNat = a + j := by omega
        have hrl := rotL_len (frL k body) a (maskU x1) j (by omega)
        have hat := rotL_at (frL k body) a (maskU x1) j (by omega)
        obtain ⟨b, hb⟩ : ∃ b, (frL k body).getD (a + j) 0 = b := ⟨_, rfl⟩
        rw [hb] at hat
        have hcell : wr.cell? ⟨w2.heap.size, a + j, none⟩ = some (.int .u8 (b.toNat : Int)) := by
          rw [RR.out.1 (a + j) (by rw [hrl, hlen]; omega)]; simp [List.getD, hat]
        have hfr : wr.frozen? ⟨w2.heap.size, a + j, none⟩ = false := RR.out.2 (a + j) (by rw [hrl, hlen]; omega)
        have hsh : x1 / 2 ^ (8 * j) % 256 = maskI x1 j := rfl
        obtain ⟨v, hv⟩ : ∃ v, maskI x1 j = v := ⟨_, rfl⟩
        have hv2 := maskU_val x1 j
        rw [hv] at hv2 hsh
        have hxr := xor8 b (maskU x1 j)
        rw [hv2] at hxr
        have hset := rotL_set (frL k body) a (maskU x1) j (by omega)
        rw [hb] at hset
        obtain ⟨z, hz⟩ : ∃ z, b ^^^ maskU x1 j = z := ⟨_, rfl⟩
        rw [hz] at hset hxr
        have hv3 : (maskU x1 j != 0) = (v != 0) := by
          rw [← hv2]
          by_cases h : maskU x1 j = 0
          · rw [h]; rfl
          · have h' : (maskU x1 j).toNat ≠ 0 := fun e => h (UInt8.toNat_inj.1 e)
            have h1 : (maskU x1 j != 0) = true := by rw [bne_iff_ne]; exact h
            have h2 : (((maskU x1 j).toNat : Int) != 0) = true := by rw [bne_iff_ne]; omega
            rw [h1, h2]
        have hend : Hid (∀ c : Bool, c = (cb || (v != 0)) → RotSlot (frL k body) a (maskU x1) w w2.heap.size (.cells #[.int .i64 x0, .int .i64 x1] 38 (0, 0)) (.bool c) (.int .i64 ((j : Int) + 1)) (wr.setCell ⟨w2.heap.size, a + j, none⟩ (.int .u8 (z.toNat : Int)))) := Lib.hid (fun c hc =>
          ⟨j + 1, by omega, by omega, by rw [Int.natCast_succ], by rw [hc]; unfold chg; rw [HCB.out, hv3], by rw [← hset]; exact RR.out.set (a + j) (by omega) z, BB.out.setCell (p := ⟨w2.heap.size, a + j, none⟩) (Nat.le_of_lt hw2) _, (Below.heap_setCell _ _ _ _ (Nat.ne_of_lt hw2)).trans CC.out⟩)
        clear hat hC hlen hrl hset hv hv2 hv3 hb hz
        cases cb
        · have he := Lib.hid (hend.out (v != 0) (by simp))
          go_wp2_with fail
          exact ⟨he.out, by simp [intOf]; omega⟩
        · have he := Lib.hid (hend.out true (by simp))
          go_wp2_with fail
          exact ⟨he.out, by simp [intOf]; omega⟩
      · have hnx := rot_next k body HBD.out a j (maskU x1) (by rw [HHD.out]; exact ha0) hj (by omega)
        have hrl := rotL_len (frL k body) a (maskU x1) j (by omega)
        have V4 := Lib.hid (HVW.out.below BB.out)
        have hconv := run_convert_bytes_arg (P := Tryd.prog) wr 39 5 Tryd.underlying39 Tryd.underlying5 w2.heap.size 0 F.size cap ((rotL (frL k body) a (maskU x1) j).map fun b => (b.toNat : Int)) (by rw [List.length_map, hrl, hlen]) (fun i hi => by
          rw [Nat.zero_add, RR.out.1 i (by rw [hrl, hlen]; exact hi)]
          have hi' : i < (rotL (frL k body) a (maskU x1) j).length := by rw [hrl, hlen]; exact hi
          simp [List.getD, hi']) 9 Tryd.underlying9
        have hstr : strOfNums ((rotL (frL k body) a (maskU x1) j).map fun b => (b.toNat : Int)) = mkB (rotL (frL k body) a (maskU x1) j) := by
          apply ba_ext
          rw [mkB_data]
          unfold strOfNums
          simp [Function.comp_def]
        rw [hstr] at hconv
        obtain ⟨M, hM⟩ : ∃ M, mkB (rotL (frL k body) a (maskU x1) j) = M := ⟨_, rfl⟩
        have hMs : M.size ≤ maxLen := by rw [← hM, mkB_size, hrl, hlen]; unfold maxLen; omega
        rw [hM] at hconv hnx
        rw [HCB.out, hlen] at hnx
        have HNX := Lib.hid hnx; have HMS := Lib.hid hMs
        clear hM hMs hstr hnx hrl hlen hC q1
        have hfin : ∃ (X : Int) (T : ByteArray) (n er : Int), nextF M = (X, T, n, er) ∧ ((cb = false ∧ n = F.size ∧ er = 0) ∨ (cb = true ∧ n = 0 ∧ er = 5)) := by
          cases hc : cb
          · exact ⟨_, _, _, _, HNX.out.1 hc, Or.inl ⟨rfl, rfl, rfl⟩⟩
          · exact ⟨_, _, _, _, HNX.out.2 hc, Or.inr ⟨rfl, rfl, rfl⟩⟩
        obtain ⟨X, T, n, er, hne, hcs⟩ := hfin
        have HNE := Lib.hid hne
        clear hne
        have hcase : ¬ (j < 4) ∨ (j < 4 ∧ ¬ a + j < F.size) := by omega
        clear hgo
        rcases hcase with hq | ⟨hq1, hq2⟩
        · have hj4 : ¬ (j : Int) < 4 := by omega
          rcases hcs with ⟨rfl, rfl, rfl⟩ | ⟨rfl, rfl, rfl⟩
          all_goals
            go_wp2_with fail
            refine (FNext_vars M T X _ _ wr HMS.out V4.out HNE.out).mono ?_
            rintro e w4 ⟨rfl, h4⟩
            have H4 := Lib.hid (BB.out.trans (h4.mono BB.out.size))
            clear h4
            go_wp2_with fail
            go_ret
            exact ⟨rfl, H4.out⟩
        · have hj4 : (j : Int) < 4 := by omega
          have haj2 : ¬ (a : Int) + j < F.size := by omega
          rcases hcs with ⟨rfl, rfl, rfl⟩ | ⟨rfl, rfl, rfl⟩
          all_goals
            go_wp2_with fail
            refine (FNext_vars M T X _ _ wr HMS.out V4.out HNE.out).mono ?_
            rintro e w4 ⟨rfl, h4⟩
            have H4 := Lib.hid (BB.out.trans (h4.mono BB.out.size))
            clear h4
            go_wp2_with fail
            go_ret
            exact ⟨rfl, H4.out⟩
end Go.Proofs.YtodmomhilpheiabDoor
