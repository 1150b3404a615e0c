/- Lists' edits: numbered. -/
import Derived.Test.YtjdlpcokjcmapaaLc
set_option linter.unusedVariables false
set_option linter.unusedSimpArgs false
namespace Go.Proofs.Ytjdlpcokjcmapaa
open Go.RowKit Go.Maps Go.WideShapes
variable {w w' : World}

def posL (K l : List ByteArray) : List Int := l.map fun s => (posB K s : Int)
theorem own_lower {w : World} {B B' n s : Nat} {v : Value} {xs : List Value} {e : TypeId} (h : w.ownsRow B e s v n xs) (hb : B' ≤ B) : w.ownsRow B' e s v n xs := by
  refine ⟨h.1, ?_⟩
  rcases h.2 with hv | ⟨g, cap, cur, hv, hB, r⟩
  · exact .inl hv
  · exact .inr ⟨g, cap, cur, hv, Nat.le_trans hb hB, r⟩
theorem posL_snoc (K l : List ByteArray) (s : ByteArray) : posL K (l ++ [s]) = posL K l ++ [(posB K s : Int)] := by unfold posL; rw [List.map_append]; rfl
theorem posL_same {K K' l : List ByteArray} (h : ∀ s ∈ l, posB K' s = posB K s) : posL K' l = posL K l := by
  unfold posL; exact List.map_congr_left fun s hs => by rw [h s hs]
theorem posL_length (K l : List ByteArray) : (posL K l).length = l.length := by unfold posL; rw [List.length_map]
theorem posL_get {K l : List ByteArray} {k : Nat} (h : k < l.length) : (posL K l).getD k 0 = (posB K (itB l k) : Int) := by
  unfold posL; rw [List.getD_eq_getElem?_getD, List.getElem?_map, it_get h]; rfl
theorem posL_eq {K a b : List ByteArray} (ha : ∀ s ∈ a, inB K s = true) (hb : ∀ s ∈ b, inB K s = true) {i j : Nat} (hi : i < a.length) (hj : j < b.length) : ((posL K a).getD i 0 == (posL K b).getD j 0) = eqB a b i j := by
  rw [posL_get hi, posL_get hj]
  unfold eqB
  by_cases h : itB a i = itB b j
  · rw [h]; simp
  · have : (posB K (itB a i) : Int) ≠ posB K (itB b j) := fun e => h (pos_inj (ha _ (it_mem hi)) (hb _ (it_mem hj)) (by omega))
    rw [decide_eq_false h]; exact beq_eq_false_iff_ne.2 this
def NuR (m : Nat) (K0 l : List ByteArray) (w2 : World) (v i : Value) (wr : World) : Prop :=
  ∃ (k : Nat) (K : List ByteArray), k ≤ l.length ∧ i = .int .i64 k ∧ IsKn m K wr ∧ K.length ≤ K0.length + k ∧ (∀ s, inB K0 s = true → inB K s = true ∧ posB K s = posB K0 s) ∧ (∀ s ∈ l.take k, inB K s = true) ∧ wr.ownsRow w2.heap.size 3 1 v k (intV (posL K (l.take k))) ∧ Keeps (fun j => j < w2.heap.size ∧ j ≠ m) w2 wr
theorem NuR.start {m : Nat} {K0 : List ByteArray} (l : List ByteArray) (h : IsKn m K0 w) : NuR m K0 l w (.slice none 0 0) (.int .i64 0) w :=
  ⟨0, K0, Nat.zero_le _, rfl, h, Nat.le_refl _, fun s hs => ⟨hs, rfl⟩, fun s hs => by simp at hs, World.ownsRow_nil _ _ _ _, Keeps.refl _ _⟩
theorem NuR.more {m k : Nat} {K0 l K : List ByteArray} {w2 wr w3 w4 : World} {v' : Value} {o : Obj} (hk : k < l.length) (hlen : K.length ≤ K0.length + k) (hold : ∀ s, inB K0 s = true → inB K s = true ∧ posB K s = posB K0 s) (hin : ∀ s ∈ l.take k, inB K s = true)
    (hkn : IsKn m (numK K (itB l k)) w3) (h3 : Keeps (fun j => j < wr.heap.size ∧ j ≠ m) wr w3) (hK : Keeps (fun j => j < w2.heap.size ∧ j ≠ m) w2 wr) (hmw : m < w2.heap.size) {r : Option Nat} (hr : ∀ j, r = some j → w2.heap.size ≤ j)
    (hown : w4.ownsRow w2.heap.size 3 1 v' (k + 1) (intV (posL K (l.take k)) ++ [.int .i64 (posB (numK K (itB l k)) (itB l k) : Nat)])) (hg : (w3.alloc o).grownBy w4 r) : NuR m K0 l w2 v' (.int .i64 (k + 1 : Nat)) w4 := by
  have hsz : w3.heap.size ≤ (w3.alloc o).heap.size := by simp
  have hk4 : ∀ j, j < w2.heap.size → w4.heap[j]? = w3.heap[j]? := fun j hj => by
    have hj3 : j < w3.heap.size := by have := h3.size; have := hK.size; omega
    exact (hg.block j (by omega) (fun e => by have := hr j e.symm; omega)).trans (Lib.alloc_old _ _ _ hj3)
  refine ⟨k + 1, numK K (itB l k), hk, rfl, hkn.keep (hk4 m hmw), by have := (num_len K (itB l k)).1; omega, fun s hs => ?_, fun s hs => ?_, ?_, ⟨⟨hg.os.trans (h3.low.os.trans hK.low.os), hg.tape.trans (h3.low.tape.trans hK.low.tape), hg.output.trans (h3.low.output.trans hK.low.output), (by have := hg.size; have := h3.size; have := hK.size; omega), fun j hj => absurd hj (Nat.not_lt_zero j)⟩, ?_, fun j hj => ?_⟩⟩
  · have h := hold s hs
    have h2 := num_sub (itB l k) h.1
    exact ⟨h2.1, h2.2.trans h.2⟩
  · rw [← take_it l k hk] at hs
    rcases List.mem_append.1 hs with h | h
    · exact (num_sub _ (hin s h)).1
    · simp at h; subst h; exact num_in _ _
  · rw [← take_it l k hk, posL_snoc, posL_same (fun s hs => (num_sub _ (hin s hs)).2)]
    unfold intV; rw [List.map_append]
    exact hown
  · have := hg.size; have := h3.size; have := hK.size; omega
  · exact (hk4 j hj.1).trans ((h3.block j ⟨by have := hK.size; omega, hj.2⟩).trans (hK.block j hj))
set_option maxHeartbeats 2000000 in
set_option maxRecDepth 100000 in
theorem numbered_any (oa ob : Option Addr) (a b : List ByteArray) (ca cb : Nat) (w : World) (hla : a.length ≤ 4096) (hlb : b.length ≤ 4096) (ha : TxAt w oa a) (hb : TxAt w ob b) :
    Calls Try.prog 44 #[.slice oa a.length ca, .slice ob b.length cb] w fun e w' => ∃ (x y : Value) (K : List ByteArray), e = .returned (.tuple #[x, y]) ∧ w'.ownsRow w.heap.size 3 1 x a.length (intV (posL K a)) ∧ w'.ownsRow w.heap.size 3 1 y b.length (intV (posL K b)) ∧ (∀ s ∈ a, inB K s = true) ∧ (∀ s ∈ b, inB K s = true) ∧ Below w.heap.size w w' := by
  obtain ⟨n, hn⟩ : ∃ n, a.length = n := ⟨_, rfl⟩
  obtain ⟨m, hm⟩ : ∃ n, b.length = n := ⟨_, rfl⟩
  obtain ⟨i1, hi1, hz0, hz1, hz2⟩ := info_parts info_i
  have HI1 := Lib.hid hi1; have HZ0 := Lib.hid hz0; have HZ1 := Lib.hid hz1; have HZ2 := Lib.hid hz2
  have HN := Lib.hid hn; have HM := Lib.hid hm; have HA := Lib.hid ha; have HB := Lib.hid hb
  rw [hn] at hla ⊢
  rw [hm] at hlb ⊢
  clear hi1 hz0 hz1 hz2 hn hm ha hb
  have hmm := @run_makeMap Try.prog
  go_enter Try.func44, Try.ntmps44
  have hBW : Below w.heap.size w ((w.alloc (.map #[] 0)).alloc (.cells #[.map (some w.heap.size)] 86)) := ((Below.refl _ w).alloc (Nat.le_refl _) _).alloc (by simp) _
  have WKN' : IsKn w.heap.size [] ((w.alloc (.map #[] 0)).alloc (.cells #[.map (some w.heap.size)] 86)) := (IsKn.new w).keep (Lib.alloc_old _ _ _ (by simp))
  have WX' : Boxed ((w.alloc (.map #[] 0)).alloc (.cells #[.map (some w.heap.size)] 86)) (w.heap.size + 1) 86 (.map (some w.heap.size)) := by
    have := Boxed.new (w.alloc (.map #[] 0)) 86 (.map (some w.heap.size))
    simpa using this
  have WS' : ((w.alloc (.map #[] 0)).alloc (.cells #[.map (some w.heap.size)] 86)).heap.size = w.heap.size + 2 := by simp
  have WKN := Lib.hid WKN'; have WX := Lib.hid WX'; have WS := Lib.hid WS'; have WB := Lib.hid hBW
  clear hBW WKN' WX' WS'
  go_wp2_with fail
  generalize ((w.alloc (.map #[] 0)).alloc (.cells #[.map (some w.heap.size)] 86)) = W at WKN WX WS WB ⊢
  go_loopw [4, 16] (fun v i wr => NuR w.heap.size [] a W v i wr) (fun _ i _ => n - (intOf i).toNat)
  case atStart => exact NuR.start a WKN.out
  case round =>
    obtain ⟨k, K, hk, rfl, hkn, hlen, hold, hin, hrow, hkeep⟩ := hrel
    rw [HN.out] at hk
    have HKN := Lib.hid hkn; have HLEN := Lib.hid hlen; have HOLD := Lib.hid hold; have HIN := Lib.hid hin; have HROW := Lib.hid hrow; have HKEEP := Lib.hid hkeep
    clear hkn hlen hold hin hrow hkeep
    by_cases hlt : k < n
    · obtain ⟨hsz, b0, i0, hob, hc⟩ := HA.out k (by rw [HN.out]; exact hlt)
      subst hob
      have hb0 : b0 < w.heap.size := World.block_lt_of_cell? w _ hc
      have hc2 := (cell_keep (a := ⟨b0, i0 + k, none⟩) (HKEEP.out.block b0 ⟨by have := WS.out; omega, by show b0 ≠ _; exact Nat.ne_of_lt hb0⟩)).trans ((WB.out.cell (p := ⟨b0, i0 + k, none⟩) hb0).trans hc)
      have hbx : Boxed wr (w.heap.size + 1) 86 (.map (some w.heap.size)) := (HKEEP.out.block _ ⟨by have := WS.out; omega, by omega⟩).trans WX.out
      obtain ⟨s, hs⟩ : ∃ s, itB a k = s := ⟨_, rfl⟩
      rw [hs] at hsz hc2
      have HC := Lib.hid (number_any s (w.heap.size + 1) w.heap.size K wr hsz (by have := HLEN.out; simp at this; omega) hbx HKN.out)
      obtain ⟨q, hq⟩ : ∃ q, posB (numK K s) s = q := ⟨_, rfl⟩
      have HQ := Lib.hid hq; have HS := Lib.hid hs
      rw [hq] at HC
      have HWR := Lib.hid (show W.heap.size ≤ wr.heap.size from HKEEP.out.size)
      clear hc hbx hsz hq hs hb0
      go_wp2_with (first
        | (go_at_call 47; (with_reducible refine HC.out.mono ?_); rintro e w3 ⟨rfl, h3, k3⟩; have HK3 := Lib.hid h3; have HP3 := Lib.hid k3; have HR3 := Lib.hid (own_keep HROW.out (fun j hj => k3.block j ⟨(HROW.out.lt j hj).2, by show j ≠ w.heap.size; have h := (HROW.out.lt j hj).1; have h2 := WS.out; omega⟩)); clear h3 k3)
        | (at_builtin; refine wpList_append_own _ rfl _ _ 52 rfl W.heap.size 3 i1 (.int .i64 0) 1 8 Try.underlying52 HI1.out HZ0.out HZ1.out HZ2.out rfl (by decide) _ _ _ rfl (HR3.out.alloc _) ⟨w3.heap.size, 0, none⟩ 1 1 [.int .i64 (q : Nat)] rfl rfl (cell_one_new _ _ _) one_memI (by unfold maxLen; omega) (by omega) (by have h1 := HP3.out.size; have h2 := HWR.out; simp; omega) ?_; intro v' w4 hown hgrow _; have HO4 := Lib.hid hown; have HG4 := Lib.hid hgrow; clear hown hgrow))
      go_roundw
      case rel => exact NuR.more (o := .cells #[.int .i64 (q : Nat)] 3) (by rw [HN.out]; exact hlt) HLEN.out HOLD.out HIN.out (by rw [HS.out]; exact HK3.out) HP3.out HKEEP.out (by have := WS.out; omega) (fun j hj => (HR3.out.lt j hj).1) (by rw [HS.out, HQ.out]; exact HO4.out) HG4.out
      case measure => simp [intOf]; omega
    · have hkn : k = n := by omega
      subst hkn
      have hall : ∀ s ∈ a, inB K s = true := fun s hs => HIN.out s (by rw [List.take_of_length_le (by rw [HN.out]; exact Nat.le_refl _)]; exact hs)
      have HALL := Lib.hid hall
      have hrow1 : wr.ownsRow W.heap.size 3 1 u4 k (intV (posL K a)) := by have h := HROW.out; rw [List.take_of_length_le (by rw [HN.out]; exact Nat.le_refl _)] at h; exact h
      have HROW1 := Lib.hid hrow1
      have HL1 := Lib.hid (show K.length ≤ 4096 by have := HLEN.out; simp at this; omega)
      have HW1 := Lib.hid (show W.heap.size ≤ wr.heap.size from HKEEP.out.size)
      have HKN1 := HKN
      have WX1 := Lib.hid (show Boxed wr (w.heap.size + 1) 86 (.map (some w.heap.size)) from (HKEEP.out.block _ ⟨by have := WS.out; omega, by omega⟩).trans WX.out)
      have WB1 : Hid (Below w.heap.size w wr) := Lib.hid ⟨HKEEP.out.low.os.trans WB.out.os, HKEEP.out.low.tape.trans WB.out.tape, HKEEP.out.low.output.trans WB.out.output, Nat.le_trans WB.out.size HKEEP.out.size, fun j hj => (HKEEP.out.block j ⟨by have := WS.out; omega, by omega⟩).trans (WB.out.block j hj)⟩
      clear hall hrow1 HIN HROW HKEEP HLEN HOLD HKN WKN WX WB hlt
      obtain ⟨v4, hv4⟩ : ∃ v, v = u4 := ⟨_, rfl⟩
      obtain ⟨K1, hK1⟩ : ∃ K', K' = K := ⟨_, rfl⟩
      obtain ⟨W1, hW1⟩ : ∃ w', w' = wr := ⟨_, rfl⟩
      obtain ⟨n, hn⟩ : ∃ n, n = k := ⟨_, rfl⟩
      subst hv4 hK1 hW1 hn
      go_wp2_with fail
      go_loopw [5, 29] (fun v i wr => NuR w.heap.size K1 b W1 v i wr) (fun _ i _ => m - (intOf i).toNat)
      case atStart => exact NuR.start b HKN1.out
      case round =>
        obtain ⟨k, K, hk, rfl, hkn, hlen, hold, hin, hrow, hkeep⟩ := hrel
        rw [HM.out] at hk
        have HKN := Lib.hid hkn; have HLEN := Lib.hid hlen; have HOLD := Lib.hid hold; have HIN := Lib.hid hin; have HROW := Lib.hid hrow; have HKEEP := Lib.hid hkeep
        clear hkn hlen hold hin hrow hkeep
        by_cases hlt : k < m
        · obtain ⟨hsz, b0, i0, hob, hc⟩ := HB.out k (by rw [HM.out]; exact hlt)
          subst hob
          have hb0 : b0 < w.heap.size := World.block_lt_of_cell? w _ hc
          have hc2 := (cell_keep (a := ⟨b0, i0 + k, none⟩) (HKEEP.out.block b0 ⟨by have h1 := WS.out; have h2 := HW1.out; simp; omega, by show b0 ≠ _; exact Nat.ne_of_lt hb0⟩)).trans ((WB1.out.cell (p := ⟨b0, i0 + k, none⟩) hb0).trans hc)
          have hbx : Boxed wr (w.heap.size + 1) 86 (.map (some w.heap.size)) := (HKEEP.out.block _ ⟨by have h1 := WS.out; have h2 := HW1.out; simp; omega, by omega⟩).trans WX1.out
          obtain ⟨s, hs⟩ : ∃ s, itB b k = s := ⟨_, rfl⟩
          rw [hs] at hsz hc2
          have HC := Lib.hid (number_any s (w.heap.size + 1) w.heap.size K wr hsz (by have h1 := HLEN.out; have h2 := HL1.out; omega) hbx HKN.out)
          obtain ⟨q, hq⟩ : ∃ q, posB (numK K s) s = q := ⟨_, rfl⟩
          have HQ := Lib.hid hq; have HS := Lib.hid hs
          rw [hq] at HC
          have HWR := Lib.hid (show W1.heap.size ≤ wr.heap.size from HKEEP.out.size)
          clear hc hbx hsz hq hs hb0
          go_wp2_with (first
            | (go_at_call 47; (with_reducible refine HC.out.mono ?_); rintro e w3 ⟨rfl, h3, k3⟩; have HK3 := Lib.hid h3; have HP3 := Lib.hid k3; have HR3 := Lib.hid (own_keep HROW.out (fun j hj => k3.block j ⟨(HROW.out.lt j hj).2, by show j ≠ w.heap.size; have h := (HROW.out.lt j hj).1; have h2 := WS.out; have h5 := HW1.out; omega⟩)); clear h3 k3)
            | (at_builtin; refine wpList_append_own _ rfl _ _ 52 rfl W1.heap.size 3 i1 (.int .i64 0) 1 8 Try.underlying52 HI1.out HZ0.out HZ1.out HZ2.out rfl (by decide) _ _ _ rfl (HR3.out.alloc _) ⟨w3.heap.size, 0, none⟩ 1 1 [.int .i64 (q : Nat)] rfl rfl (cell_one_new _ _ _) one_memI (by unfold maxLen; omega) (by omega) (by have h1 := HP3.out.size; have h2 := HWR.out; simp; omega) ?_; intro v' w4 hown hgrow _; have HO4 := Lib.hid hown; have HG4 := Lib.hid hgrow; clear hown hgrow))
          go_roundw
          case rel => exact NuR.more (o := .cells #[.int .i64 (q : Nat)] 3) (by rw [HM.out]; exact hlt) HLEN.out HOLD.out HIN.out (by rw [HS.out]; exact HK3.out) HP3.out HKEEP.out (by have h1 := WS.out; have h2 := HW1.out; omega) (fun j hj => (HR3.out.lt j hj).1) (by rw [HS.out, HQ.out]; exact HO4.out) HG4.out
          case measure => simp [intOf]; omega
        · have hkn : k = m := by omega
          subst hkn
          have HF : Hid (intV (posL K1 a) = intV (posL K a)) := Lib.hid (by rw [posL_same (fun s hs => (HOLD.out s (HALL.out s hs)).2)])
          have HR1 := Lib.hid (own_keep HROW1.out (fun j hj => HKEEP.out.block j ⟨(HROW1.out.lt j hj).2, by show j ≠ w.heap.size; have h := (HROW1.out.lt j hj).1; have h2 := WS.out; omega⟩))
          have HR2 : Hid (wr.ownsRow W1.heap.size 3 1 u5 k (intV (posL K b))) := Lib.hid (by have h := HROW.out; rw [List.take_of_length_le (by rw [HM.out]; exact Nat.le_refl _)] at h; exact h)
          have HBB : Hid (∀ s ∈ b, inB K s = true) := Lib.hid (fun s hs => HIN.out s (by rw [List.take_of_length_le (by rw [HM.out]; exact Nat.le_refl _)]; exact hs))
          go_wp2_with fail
          exact bodyPost_ret (v := .tuple #[v4, u5]) (by simp [results, Try.results44, go_sem]) rfl ⟨v4, u5, K, rfl, by rw [← HF.out]; exact own_lower HR1.out (by have := WS.out; omega), own_lower HR2.out (by have := WS.out; have := HW1.out; omega), fun s hs => (HOLD.out s (HALL.out s hs)).1, HBB.out, ⟨HKEEP.out.low.os.trans WB1.out.os, HKEEP.out.low.tape.trans WB1.out.tape, HKEEP.out.low.output.trans WB1.out.output, Nat.le_trans WB1.out.size HKEEP.out.size, fun j hj => (HKEEP.out.block j ⟨by have := WS.out; have := HW1.out; omega, by show j ≠ w.heap.size; omega⟩).trans (WB1.out.block j hj)⟩⟩
end Go.Proofs.Ytjdlpcokjcmapaa
