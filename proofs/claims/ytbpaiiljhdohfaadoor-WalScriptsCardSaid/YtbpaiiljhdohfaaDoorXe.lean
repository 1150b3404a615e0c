/- Wal, the document's side: Open. -/
import Derived.Test.YtbpaiiljhdohfaaDoorXd
namespace Go.Proofs.YtbpaiiljhdohfaaDoor
open Go.RowKit
set_option linter.unusedSimpArgs false
set_option linter.unusedVariables false
variable {B n g gl cl f m t : Nat} {vw vk : Value} {S : DS} {w : World}

def flatD (x : List (Nat × ByteArray)) : List Value := x.flatMap fun c => [Value.int .i64 (c.1 : Int), Value.string c.2]
theorem flatD_length (x : List (Nat × ByteArray)) : (flatD x).length = x.length * 2 := by
  unfold flatD
  induction x with
  | nil => rfl
  | cons p l ih => rw [List.flatMap_cons, List.length_append, ih, List.length_cons]; simp; omega
theorem flatD_get : ∀ (l : List (Nat × ByteArray)) (k : Nat) (p : Nat × ByteArray), l[k]? = some p → (flatD l)[k * 2]? = some (.int .i64 (p.1 : Int)) ∧ (flatD l)[k * 2 + 1]? = some (.string p.2)
  | [], k, p, h => by simp at h
  | q :: l, 0, p, h => by simp at h; subst h; exact ⟨rfl, rfl⟩
  | q :: l, k + 1, p, h => by
    have := flatD_get l k p (by simpa using h)
    have e : flatD (q :: l) = [Value.int .i64 (q.1 : Int), Value.string q.2] ++ flatD l := rfl
    rw [e, show (k + 1) * 2 = 2 + k * 2 by omega, show 2 + k * 2 + 1 = 2 + (k * 2 + 1) by omega]
    exact ⟨(List.getElem?_append_right (by simp)).trans (by simpa using this.1), (List.getElem?_append_right (by simp)).trans (by simpa using this.2)⟩
theorem flatD_take (l : List (Nat × ByteArray)) (k : Nat) (p : Nat × ByteArray) (h : l[k]? = some p) : flatD (l.take (k + 1)) = flatD (l.take k) ++ [Value.int .i64 (p.1 : Int), Value.string p.2] := by
  unfold flatD
  exact flatMap_take _ l k p h
/-- A row of the document's changes of one's own. -/
theorem own_changes {B : Nat} {v : Value} {l : List (Nat × ByteArray)} (h : w.ownsRow B 57 2 v l.length (flatD l)) : ∃ o cap, v = .slice o l.length cap ∧ DrAt w o l := by
  rcases h.2 with ⟨h1, h2⟩ | ⟨b, cap, cur, h1, _, hg, hn, _, hz, ht⟩
  · exact ⟨none, 0, by rw [h1, h2], fun k p hp => by have := (List.getElem?_eq_some_iff.1 hp).1; omega⟩
  · refine ⟨some ⟨b, 0, none⟩, cap, h1, fun k p hp => ⟨b, cur, rfl, hg, ?_, ?_⟩⟩
    · have hk := (List.getElem?_eq_some_iff.1 hp).1
      have := (flatD_get l k p hp).1
      rw [← ht, List.getElem?_take, if_pos (by omega), Array.getElem?_toList] at this
      exact (Lib.cell_of_heap hg _).trans this
    · have hk := (List.getElem?_eq_some_iff.1 hp).1
      have := (flatD_get l k p hp).2
      rw [← ht, List.getElem?_take, if_pos (by omega), Array.getElem?_toList] at this
      exact (Lib.cell_of_heap hg _).trans this
theorem info_rchange : (Tryd.prog.info? 57).map (fun i => (i.zero, i.size, i.bytes)) = some (some (.agg #[.int .i64 0, .string ⟨#[]⟩]), 2, 24) := by kernel_rfl
/-- What the document's opening leaves. -/
def ROpened (B n g gl cl : Nat) (vw vk : Value) (r : (Int × Int) × DS) (w : World) (e : Ending) (w' : World) : Prop :=
  e = .returned (.tuple #[.int .i64 r.1.1, .int .i64 r.1.2]) ∧ ∃ vw', IsR B n g gl cl vw' vk r.2 w' ∧ (∀ x, vw'.ownBlock = some x → vw.ownBlock = some x ∨ w.heap.size ≤ x) ∧ FrR B g gl vw w w'
theorem ROpen_bad (h : IsR B n g gl cl vw vk S w) (hn : n ≤ 4096) (fI zI : Int) (hF : ¬ Fits n fI zI) :
    Calls Tryd.prog 8 #[.pointer (some ⟨g, 0, none⟩), .agg #[.int .i64 fI, .int .i64 zI]] w (ROpened B n g gl cl vw vk ((0, 1), S) w) := by
  have hb0 : Below w.heap.size w (w.alloc (.cells #[.int .i64 fI, .int .i64 zI] 32)) := (Below.refl _ _).alloc (Nat.le_refl _) _
  have HF := Lib.hid (RFits (h.below hb0) hn fI zI)
  rw [decide_eq_false hF] at HF
  have HI := Lib.hid h; have HB0 := Lib.hid hb0
  have hBz : B ≤ w.heap.size := by have := h.d.lt; have := h.b1; omega
  clear h hF hb0
  go_enter Tryd.func8, Tryd.ntmps8
  go_wp2_with (go_at_call 27; refine HF.out.mono ?_)
  first | rintro e w1 rfl hb1 | rintro e w1 ⟨rfl, hb1⟩
  have HB1 := Lib.hid (HB0.out.trans (hb1.mono HB0.out.size))
  clear hb1
  go_wp2_with fail
  go_ret2
  exact ⟨rfl, vw, HI.out.below HB1.out, fun _ h => .inl h, FrR.of_below hBz HB1.out⟩
theorem mayI_takes {n f m : Nat} {x : List (Nat × ByteArray)} (h0 : 1 ≤ x.length) (h1 : x.length ≤ m) (h : ∀ c ∈ x, MayI n f ((m : Int) + 1) (c.1 : Int) ∧ c.2.size ≤ 512) : Takes n f m (intC x) := by
  refine ⟨by rw [intC_length]; exact h0, by rw [intC_length]; exact h1, fun c hc => ?_⟩
  obtain ⟨d, hd, rfl⟩ := List.mem_map.1 hc
  obtain ⟨⟨a1, a2, a3⟩, a4⟩ := h d hd
  refine ⟨a1, a2, ?_, a4⟩
  rcases a3 with a3 | a3
  · exact .inl a3
  · right; show (f : Int) + 1 + m ≤ (d.1 : Int); omega
theorem takes_mayI {n f m : Nat} {x : List (Nat × ByteArray)} (h : Takes n f m (intC x)) : ∀ c ∈ x, MayI n f ((m : Int) + 1) (c.1 : Int) ∧ c.2.size ≤ 512 := fun c hc => by
  obtain ⟨h1, h2, h3, h4⟩ := h.2.2 ((c.1 : Int), c.2) (List.mem_map.2 ⟨c, hc, rfl⟩)
  refine ⟨⟨h1, h2, ?_⟩, h4⟩
  simp only at h3
  rcases h3 with h3 | h3
  · exact .inl h3
  · right; omega
theorem Pend.puts {kr : Value} : ∀ (x : List (Nat × ByteArray)) (S : DS) (t : Nat), Bd t S → Pend w kr S → Pend w kr (putsS x S).2
  | [], _, _, _, h => h
  | c :: x, S, t, bd, h => by
    unfold putsS
    split
    · exact Pend.puts x _ _ (bd.write c.1 c.2) (h.write bd.l0 c.1 c.2)
    · exact h.write bd.l0 c.1 c.2
theorem Pend.make {kr : Value} (h : Pend w kr S) (bd : Bd t S) (x : List (Nat × ByteArray)) : Pend w kr (makeS x S).2 := by
  unfold makeS thenS
  split
  · exact (Pend.puts x S t bd h).sync (bd.puts x).l0
  · exact Pend.puts x S t bd h
def RoS (n f m k : Nat) (X : List (Nat × ByteArray)) (w : World) (v i : Value) (wr : World) : Prop :=
  ∃ j : Nat, j ≤ k ∧ i = .int .i64 j ∧ wr.ownsRow w.heap.size 57 2 v j (flatD (X.take j)) ∧ (∀ c ∈ X.take j, MayI n f ((m : Int) + 1) (c.1 : Int)) ∧ Below w.heap.size w wr
theorem Read_rq (h : IsR B n g gl cl vw vk S w) (hm : S.ws.length ≤ 10000000) (hc : Cu S) (i : Nat) (hi : i < n) (ho : S.off = false) :
    Calls Tryd.prog 28 #[.pointer (some ⟨g, 0, none⟩), .int .i64 i] w fun e w' => e = .returned (.tuple #[.string (S.cur.getD i ⟨#[]⟩), .int .i64 0]) ∧ w' = w := by
  have := RRead h hm i
  have e0 : readR n i S = (S.cur.getD i ⟨#[]⟩, 0) := by
    rw [read_same hc]
    unfold readS
    rw [if_pos ⟨by omega, by omega⟩, if_neg (by rw [ho]; decide), Int.toNat_natCast]
  rw [e0] at this
  exact this
theorem Read_roff (h : IsR B n g gl cl vw vk S w) (hm : S.ws.length ≤ 10000000) (i : Nat) (hi : i < n) (ho : S.off = true) :
    Calls Tryd.prog 28 #[.pointer (some ⟨g, 0, none⟩), .int .i64 i] w fun e w' => e = .returned (.tuple #[.string ⟨#[]⟩, .int .i64 7]) ∧ w' = w := by
  have := RRead h hm i
  have e0 : readR n i S = (⟨#[]⟩, 7) := by
    unfold readR
    rw [if_pos ⟨by omega, by omega⟩, if_pos ho]
  rw [e0] at this
  exact this
theorem own_changes_lt {B : Nat} {o : Option Addr} {k c : Nat} {xs : List Value} (h : w.ownsRow B 57 2 (.slice o k c) k xs) : ∀ b, o = some ⟨b, 0, none⟩ → B ≤ b ∧ b < w.heap.size := fun b hb => by
  subst hb
  exact h.lt b rfl
set_option maxHeartbeats 8000000 in
set_option maxRecDepth 100000 in
theorem ROpen_good (hI : IsR B n g gl cl vw vk S w) (hf : f + 1 + m ≤ n) (hn : n ≤ 4096) (hm1 : 1 ≤ m) (hm64 : m ≤ 64) (hz : Sz S) (hcu : Cu S) (hlc : S.cur.length = n) (bd : Bd t S) (ht : t + 140 ≤ 10000000) (hP : ∀ w', Below B w w' → Pend w' vk S) :
    Calls Tryd.prog 8 #[.pointer (some ⟨g, 0, none⟩), .agg #[.int .i64 (f : Int), .int .i64 ((m : Int) + 1)]] w (ROpened B n g gl cl vw vk (openS n f m S) w) := by
  have hn0 : 1 ≤ n := by omega
  have hni : (n : Int) ≤ 4096 := by omega
  have hBz : B ≤ w.heap.size := by have := hI.d.lt; have := hI.b1; omega
  obtain ⟨W0, hW0⟩ : ∃ W0, w.alloc (.cells #[.int .i64 (f : Int), .int .i64 ((m : Int) + 1)] 32) = W0 := ⟨_, rfl⟩
  have hb0 : Below w.heap.size w W0 := hW0 ▸ (Below.refl _ _).alloc (Nat.le_refl _) _
  have hrow0 : W0.heap[w.heap.size]? = some (.cells #[.int .i64 (f : Int), .int .i64 ((m : Int) + 1)] 32 (0, 0)) := by rw [← hW0]; exact heap_alloc_new w _
  have hsz0 : w.heap.size < W0.heap.size := lt_of_some hrow0
  have hF : Fits n f ((m : Int) + 1) := ⟨by omega, by omega, by omega, by omega⟩
  have HF := Lib.hid (RFits (hI.below hb0) hn f ((m : Int) + 1))
  rw [decide_eq_true hF] at HF
  have hws : S.ws.length ≤ 10000000 := Nat.le_trans bd.ws (by omega)
  have HI := Lib.hid hI; have HB0 := Lib.hid hb0; have HROW0 := Lib.hid hrow0; have HZ := Lib.hid hz; have HCU := Lib.hid hcu; have HBD := Lib.hid bd; have HP := Lib.hid hP; have HWS := Lib.hid hws; have HFT := Lib.hid hF
  have hw1 : IntKind.i64.wrap ((m : Int) + 1) = (m : Int) + 1 := IntWalk.i64_in _ (by omega)
  have HMAY : Hid (∀ (W : World) (i : Int), Below w.heap.size w W → Calls Tryd.prog 29 #[.pointer (some ⟨g, 0, none⟩), .agg #[.int .i64 (f : Int), .int .i64 ((m : Int) + 1)], .int .i64 i] W fun e w' => e = .returned (.bool (decide (MayI n f ((m : Int) + 1) i))) ∧ Below W.heap.size W w') := Lib.hid (fun W i hb => RMay (HI.out.below hb) hn f ((m : Int) + 1) i HFT.out)
  clear hI hb0 hrow0 hz hcu bd hP hws hF
  have c00 : W0.cell? ⟨w.heap.size, 0, none⟩ = some (.int .i64 (f : Int)) := Lib.cell_of_heap HROW0.out _
  have c10 : W0.cell? ⟨w.heap.size, 1, none⟩ = some (.int .i64 ((m : Int) + 1)) := Lib.cell_of_heap HROW0.out _
  go_enter Tryd.func8, Tryd.ntmps8
  go_wp2_with (first | (rw [hW0]; go_at_call 27; refine HF.out.mono ?_) | (go_at_call 27; refine HF.out.mono ?_))
  first | rintro e w1 rfl hb1 | rintro e w1 ⟨rfl, hb1⟩
  have HB1 := Lib.hid (HB0.out.trans (hb1.mono HB0.out.size))
  have HROW1 := Lib.hid ((hb1.block _ hsz0).trans HROW0.out)
  clear hb1 hW0 HF c00 c10
  have c0 : w1.cell? ⟨w.heap.size, 0, none⟩ = some (.int .i64 (f : Int)) := Lib.cell_of_heap HROW1.out _
  have c1 : w1.cell? ⟨w.heap.size, 1, none⟩ = some (.int .i64 ((m : Int) + 1)) := Lib.cell_of_heap HROW1.out _
  have HI1 := Lib.hid (HI.out.below HB1.out)
  cases ho : S.off with
  | true =>
    have HRD := Lib.hid (Read_roff HI1.out HWS.out f (by omega) ho)
    have HE : Hid (openS n f m S = ((0, 7), S)) := Lib.hid (by unfold openS; rw [if_pos ho])
    clear ho
    go_wp2_with (go_at_call 28; refine HRD.out.mono ?_; rintro e w2 ⟨rfl, rfl⟩)
    go_ret2
    rw [HE.out]
    exact ⟨rfl, vw, HI1.out, fun _ h => .inl h, FrR.of_below hBz HB1.out⟩
  | false =>
    have HO := Lib.hid ho
    have HRD := Lib.hid (Read_rq HI1.out HWS.out HCU.out f (by omega) ho)
    obtain ⟨H, hH⟩ : ∃ H, S.cur.getD f ⟨#[]⟩ = H := ⟨_, rfl⟩
    have hHz : H.size = 512 := by rw [← hH]; exact HZ.out.get f (by rw [hlc]; omega)
    obtain ⟨k, hk⟩ : ∃ k, byteAt H 2 = k := ⟨_, rfl⟩
    rw [hH] at HRD
    have HH := Lib.hid hH; have HK := Lib.hid hk
    have hHi : (H.size : Int) = 512 := by omega
    have hk9 : (k : Int) < 256 := by have := byteAt_lt H 2; omega
    have hk90 : k < 256 := by omega
    have hk2 : ((H[2]'(by omega)).toNat : Int) = (k : Int) := by rw [byteAt_get, hk]
    clear ho hH hk
    by_cases hkk : 1 ≤ k ∧ k ≤ m
    · obtain ⟨hka, hkb⟩ := hkk
      have hk1 : ¬ (k : Int) < 1 := by omega
      have hkm : ¬ (m : Int) < k := by omega
      obtain ⟨X, hX⟩ : ∃ X, descrS f k S = X := ⟨_, rfl⟩
      have hXl : X.length = k := by rw [← hX]; unfold descrS; rw [List.length_map, List.length_range]
      have HXX := Lib.hid hX; have HXL := Lib.hid hXl
      have hfd : Hid ((H = headB X ∧ Takes n f m (intC X) → foundS n f m S = X) ∧ (¬ (H = headB X ∧ Takes n f m (intC X)) → foundS n f m S = [])) := Lib.hid (by
        unfold foundS
        rw [HH.out, HK.out, hX]
        exact ⟨fun h => if_pos ⟨by omega, h.1, h.2⟩, fun h => if_neg (fun h' => h ⟨h'.2.1, h'.2.2⟩)⟩)
      have HNIL : Hid (¬ (H = headB X ∧ Takes n f m (intC X)) → openS n f m S = ((0, 0), S)) := Lib.hid (fun h => by
        unfold openS
        rw [if_neg (by rw [HO.out]; decide), if_pos (hfd.out.2 h)])
      have HXS : Hid (∀ c ∈ X, c.1 < 65536 ∧ c.2.size ≤ 512) := Lib.hid (fun c hc => by
        rw [← hX] at hc
        unfold descrS at hc
        obtain ⟨i, hi, rfl⟩ := List.mem_map.1 hc
        have hi' := List.mem_range.1 hi
        have a1 := byteAt_lt (S.cur.getD f ⟨#[]⟩) (3 + 2 * i)
        have a2 := byteAt_lt (S.cur.getD f ⟨#[]⟩) (4 + 2 * i)
        exact ⟨by show 256 * _ + _ < 65536; omega, by show (S.cur.getD (f + 1 + i) ⟨#[]⟩).size ≤ 512; rw [HZ.out.get _ (by rw [hlc]; omega)]; exact Nat.le_refl _⟩)
      have H0 : Hid (RoS n f m k X w1 (.slice none 0 0) (.int .i64 0) w1) := Lib.hid ⟨0, Nat.zero_le _, rfl, World.ownsRow_nil _ _ _ _, fun c hc => (by rw [List.take_zero] at hc; cases hc), Below.refl _ _⟩
      obtain ⟨i0, hi0, hz0, hs0, hy0⟩ := info_parts info_rchange
      have HI0 := Lib.hid hi0; have HZ0 := Lib.hid hz0; have HS0 := Lib.hid hs0; have HY0 := Lib.hid hy0
      clear hX hXl hi0 hz0 hs0 hy0
      go_wp2_with (go_at_call 28; refine HRD.out.mono ?_; rintro e w2 ⟨rfl, hw2⟩; have hw2 := hw2.symm; subst hw2)
      have hd1 : decide (m < k) = false := decide_eq_false (by omega)
      have hd2 : decide ((k : Int) < 1) = false := decide_eq_false (by omega)
      simp only [hd1, hd2, Bool.or_self]
      clear hd1 hd2
      go_loopw [9, 10] (fun v i wr => RoS n f m k X w1 v i wr) (fun _ i _ => k - (intOf i).toNat)
      case atStart => exact H0.out
      case round =>
        obtain ⟨j, hj, rfl, hrow, hmay, hbl⟩ := hrel
        have HR := Lib.hid hrow; have HM := Lib.hid hmay; have HBL := Lib.hid hbl
        clear hrow hmay hbl H0
        have HR1 := Lib.hid ((HBL.out.block _ (lt_of_some HROW1.out)).trans HROW1.out)
        have c0 : wr.cell? ⟨w.heap.size, 0, none⟩ = some (.int .i64 (f : Int)) := Lib.cell_of_heap HR1.out _
        have c1 : wr.cell? ⟨w.heap.size, 1, none⟩ = some (.int .i64 ((m : Int) + 1)) := Lib.cell_of_heap HR1.out _
        have HBw := Lib.hid (HB1.out.trans (HBL.out.mono HB1.out.size))
        have HIr := Lib.hid (HI.out.below HBw.out)
        by_cases hlt : j < k
        · have hji : (j : Int) < k := by omega
          have hfi : (f : Int) ≤ 4096 := by omega
          have hji2 : (j : Int) < 64 := by omega
          obtain ⟨G, hG⟩ : ∃ G, S.cur.getD (f + 1 + j) ⟨#[]⟩ = G := ⟨_, rfl⟩
          have HRQ : Hid (Calls Tryd.prog 28 #[.pointer (some ⟨g, 0, none⟩), .int .i64 ((f : Int) + 1 + j)] wr fun e w' => e = .returned (.tuple #[.string G, .int .i64 0]) ∧ w' = wr) := Lib.hid (by
            have := Read_rq HIr.out HWS.out HCU.out (f + 1 + j) (by omega) HO.out
            rw [hG, show (((f + 1 + j : Nat)) : Int) = (f : Int) + 1 + j by omega] at this
            exact this)
          obtain ⟨z, hz⟩ : ∃ z : Nat, 3 + 2 * j = z := ⟨_, rfl⟩
          obtain ⟨z1, hz1⟩ : ∃ z1 : Nat, 4 + 2 * j = z1 := ⟨_, rfl⟩
          have hzl : z < H.size := by omega
          have hzl1 : z1 < H.size := by omega
          have hz512 : (z : Int) < 512 := by omega
          have hz513 : (z1 : Int) < 512 := by omega
          have HV1 : Hid (IntKind.i64.wrap (2 * (j : Int)) = 2 * (j : Int)) := Lib.hid (IntWalk.i64_in _ (by omega))
          have HV2 : Hid (IntKind.i64.wrap (3 + 2 * (j : Int)) = (z : Int)) := Lib.hid (by rw [IntWalk.i64_in _ (by omega)]; omega)
          have HV3 : Hid (IntKind.i64.wrap (4 + 2 * (j : Int)) = (z1 : Int)) := Lib.hid (by rw [IntWalk.i64_in _ (by omega)]; omega)
          obtain ⟨p, hp⟩ : ∃ p, byteAt H z = p := ⟨_, rfl⟩
          obtain ⟨q, hq⟩ : ∃ q, byteAt H z1 = q := ⟨_, rfl⟩
          have hp1 : p < 256 := by rw [← hp]; exact byteAt_lt _ _
          have hq1 : q < 256 := by rw [← hq]; exact byteAt_lt _ _
          have HV4 : Hid (((H[z]'hzl).toNat : Int) = (p : Int)) := Lib.hid (by rw [byteAt_get, hp])
          have HV5 : Hid (((H[z1]'hzl1).toNat : Int) = (q : Int)) := Lib.hid (by rw [byteAt_get, hq])
          have HV6 : Hid (IntKind.i64.wrap (p : Int) = (p : Int)) := Lib.hid (IntWalk.i64_in _ (by omega))
          have HV7 : Hid (IntKind.i64.wrap (q : Int) = (q : Int)) := Lib.hid (IntWalk.i64_in _ (by omega))
          have HV8 : Hid (IntKind.i64.wrap (256 * (p : Int)) = 256 * (p : Int)) := Lib.hid (IntWalk.i64_in _ (by omega))
          obtain ⟨V, hV⟩ : ∃ V, 256 * p + q = V := ⟨_, rfl⟩
          have HV9 : Hid (IntKind.i64.wrap (256 * (p : Int) + q) = (V : Int)) := Lib.hid (by rw [IntWalk.i64_in _ (by omega)]; omega)
          have HXQ : Hid (X[j]? = some (V, G)) := Lib.hid (by
            rw [← HXX.out, ← hV, ← hp, ← hq, ← hz, ← hz1, ← hG]
            unfold descrS
            rw [List.getElem?_map, List.getElem?_range hlt, HH.out]; rfl)
          clear hG hz hz1 hp hq hV
          go_wp2_with (go_at_call 28; refine HRQ.out.mono ?_; rintro e w2 ⟨rfl, hw2⟩; have hw2 := hw2.symm; subst hw2)
          refine wp_region_held_drew (S := fun _ => True) (by kernel_rfl) trivial (fun _ => ?_)
          refine wpAnyH_take (i := 0) (v := ?_) rfl (by kernel_rfl) (by kernel_rfl) (by kernel_rfl) (fun _ _ _ h => h) (Or.inl ⟨by kernel_rfl, ?_⟩) trivial ?_
          rotate_left
          · intro wq _; go_simp; (try simp only [HV1.out]); (try simp only [HV2.out]); (try simp only [HV3.out]); (try simp only [HV4.out]); (try simp only [HV5.out]); (try simp only [HV6.out]); (try simp only [HV7.out]); (try simp only [HV8.out]); (try simp only [HV9.out]); try with_reducible rfl
          try simp only [Act.put, List.setIfInBounds_toArray, List.set_cons_zero, List.set_cons_succ]
          refine wpAnyH_take (i := 1) (v := ?_) rfl (by kernel_rfl) (by kernel_rfl) (by kernel_rfl) (fun _ _ _ h => h) (Or.inl ⟨by kernel_rfl, ?_⟩) trivial ?_
          rotate_left
          · intro wq _; go_simp; (try simp only [HV1.out]); (try simp only [HV2.out]); (try simp only [HV3.out]); (try simp only [HV4.out]); (try simp only [HV5.out]); (try simp only [HV6.out]); (try simp only [HV7.out]); (try simp only [HV8.out]); (try simp only [HV9.out]); try with_reducible rfl
          try simp only [Act.put, List.setIfInBounds_toArray, List.set_cons_zero, List.set_cons_succ]
          refine wpAnyH_take (i := 2) (v := ?_) rfl (by kernel_rfl) (by kernel_rfl) (by kernel_rfl) (fun _ _ _ h => h) (Or.inl ⟨by kernel_rfl, ?_⟩) trivial ?_
          rotate_left
          · intro wq _; go_simp; (try simp only [HV1.out]); (try simp only [HV2.out]); (try simp only [HV3.out]); (try simp only [HV4.out]); (try simp only [HV5.out]); (try simp only [HV6.out]); (try simp only [HV7.out]); (try simp only [HV8.out]); (try simp only [HV9.out]); try with_reducible rfl
          try simp only [Act.put, List.setIfInBounds_toArray, List.set_cons_zero, List.set_cons_succ]
          refine wpAnyH_take (i := 3) (v := ?_) rfl (by kernel_rfl) (by kernel_rfl) (by kernel_rfl) (fun _ _ _ h => h) (Or.inl ⟨by kernel_rfl, ?_⟩) trivial ?_
          rotate_left
          · intro wq _; go_simp; (try simp only [HV1.out]); (try simp only [HV2.out]); (try simp only [HV3.out]); (try simp only [HV4.out]); (try simp only [HV5.out]); (try simp only [HV6.out]); (try simp only [HV7.out]); (try simp only [HV8.out]); (try simp only [HV9.out]); try with_reducible rfl
          try simp only [Act.put, List.setIfInBounds_toArray, List.set_cons_zero, List.set_cons_succ]
          refine wpAnyH_take (i := 4) (v := ?_) rfl (by kernel_rfl) (by kernel_rfl) (by kernel_rfl) (fun _ _ _ h => h) (Or.inl ⟨by kernel_rfl, ?_⟩) trivial ?_
          rotate_left
          · intro wq _; go_simp; (try simp only [HV1.out]); (try simp only [HV2.out]); (try simp only [HV3.out]); (try simp only [HV4.out]); (try simp only [HV5.out]); (try simp only [HV6.out]); (try simp only [HV7.out]); (try simp only [HV8.out]); (try simp only [HV9.out]); try with_reducible rfl
          try simp only [Act.put, List.setIfInBounds_toArray, List.set_cons_zero, List.set_cons_succ]
          refine wpAnyH_take (i := 5) (v := ?_) rfl (by kernel_rfl) (by kernel_rfl) (by kernel_rfl) (fun _ _ _ h => h) (Or.inl ⟨by kernel_rfl, ?_⟩) trivial ?_
          rotate_left
          · intro wq _; go_simp; (try simp only [HV1.out]); (try simp only [HV2.out]); (try simp only [HV3.out]); (try simp only [HV4.out]); (try simp only [HV5.out]); (try simp only [HV6.out]); (try simp only [HV7.out]); (try simp only [HV8.out]); (try simp only [HV9.out]); try with_reducible rfl
          try simp only [Act.put, List.setIfInBounds_toArray, List.set_cons_zero, List.set_cons_succ]
          refine wpAnyH_take (i := 6) (v := ?_) rfl (by kernel_rfl) (by kernel_rfl) (by kernel_rfl) (fun _ _ _ h => h) (Or.inl ⟨by kernel_rfl, ?_⟩) trivial ?_
          rotate_left
          · intro wq _; go_simp; (try simp only [HV1.out]); (try simp only [HV2.out]); (try simp only [HV3.out]); (try simp only [HV4.out]); (try simp only [HV5.out]); (try simp only [HV6.out]); (try simp only [HV7.out]); (try simp only [HV8.out]); (try simp only [HV9.out]); try with_reducible rfl
          try simp only [Act.put, List.setIfInBounds_toArray, List.set_cons_zero, List.set_cons_succ]
          refine wpAnyH_take (i := 7) (v := ?_) rfl (by kernel_rfl) (by kernel_rfl) (by kernel_rfl) (fun _ _ _ h => h) (Or.inl ⟨by kernel_rfl, ?_⟩) trivial ?_
          rotate_left
          · intro wq _; go_simp; (try simp only [HV1.out]); (try simp only [HV2.out]); (try simp only [HV3.out]); (try simp only [HV4.out]); (try simp only [HV5.out]); (try simp only [HV6.out]); (try simp only [HV7.out]); (try simp only [HV8.out]); (try simp only [HV9.out]); try with_reducible rfl
          try simp only [Act.put, List.setIfInBounds_toArray, List.set_cons_zero, List.set_cons_succ]
          refine wpAnyH_take (i := 8) (v := ?_) rfl (by kernel_rfl) (by kernel_rfl) (by kernel_rfl) (fun _ _ _ h => h) (Or.inl ⟨by kernel_rfl, ?_⟩) trivial ?_
          rotate_left
          · intro wq _; go_simp; (try simp only [HV1.out]); (try simp only [HV2.out]); (try simp only [HV3.out]); (try simp only [HV4.out]); (try simp only [HV5.out]); (try simp only [HV6.out]); (try simp only [HV7.out]); (try simp only [HV8.out]); (try simp only [HV9.out]); try with_reducible rfl
          try simp only [Act.put, List.setIfInBounds_toArray, List.set_cons_zero, List.set_cons_succ]
          refine wpAnyH_take (i := 9) (v := ?_) rfl (by kernel_rfl) (by kernel_rfl) (by kernel_rfl) (fun _ _ _ h => h) (Or.inl ⟨by kernel_rfl, ?_⟩) trivial ?_
          rotate_left
          · intro wq _; go_simp; (try simp only [HV1.out]); (try simp only [HV2.out]); (try simp only [HV3.out]); (try simp only [HV4.out]); (try simp only [HV5.out]); (try simp only [HV6.out]); (try simp only [HV7.out]); (try simp only [HV8.out]); (try simp only [HV9.out]); try with_reducible rfl
          try simp only [Act.put, List.setIfInBounds_toArray, List.set_cons_zero, List.set_cons_succ]
          refine wpAnyH_take (i := 10) (v := ?_) rfl (by kernel_rfl) (by kernel_rfl) (by kernel_rfl) (fun _ _ _ h => h) (Or.inl ⟨by kernel_rfl, ?_⟩) trivial ?_
          rotate_left
          · intro wq _; go_simp; (try simp only [HV1.out]); (try simp only [HV2.out]); (try simp only [HV3.out]); (try simp only [HV4.out]); (try simp only [HV5.out]); (try simp only [HV6.out]); (try simp only [HV7.out]); (try simp only [HV8.out]); (try simp only [HV9.out]); try with_reducible rfl
          try simp only [Act.put, List.setIfInBounds_toArray, List.set_cons_zero, List.set_cons_succ]
          refine wpAnyH_take (i := 11) (v := ?_) rfl (by kernel_rfl) (by kernel_rfl) (by kernel_rfl) (fun _ _ _ h => h) (Or.inl ⟨by kernel_rfl, ?_⟩) trivial ?_
          rotate_left
          · intro wq _; go_simp; (try simp only [HV1.out]); (try simp only [HV2.out]); (try simp only [HV3.out]); (try simp only [HV4.out]); (try simp only [HV5.out]); (try simp only [HV6.out]); (try simp only [HV7.out]); (try simp only [HV8.out]); (try simp only [HV9.out]); try with_reducible rfl
          try simp only [Act.put, List.setIfInBounds_toArray, List.set_cons_zero, List.set_cons_succ]
          refine wpAnyH_take (i := 12) (v := ?_) rfl (by kernel_rfl) (by kernel_rfl) (by kernel_rfl) (fun _ _ _ h => h) (Or.inl ⟨by kernel_rfl, ?_⟩) trivial ?_
          rotate_left
          · intro wq _; go_simp; (try simp only [HV1.out]); (try simp only [HV2.out]); (try simp only [HV3.out]); (try simp only [HV4.out]); (try simp only [HV5.out]); (try simp only [HV6.out]); (try simp only [HV7.out]); (try simp only [HV8.out]); (try simp only [HV9.out]); try with_reducible rfl
          try simp only [Act.put, List.setIfInBounds_toArray, List.set_cons_zero, List.set_cons_succ]
          refine wpAnyH_take (i := 13) (v := ?_) rfl (by kernel_rfl) (by kernel_rfl) (by kernel_rfl) (fun _ _ _ h => h) (Or.inl ⟨by kernel_rfl, ?_⟩) trivial ?_
          rotate_left
          · intro wq _; go_simp; (try simp only [HV1.out]); (try simp only [HV2.out]); (try simp only [HV3.out]); (try simp only [HV4.out]); (try simp only [HV5.out]); (try simp only [HV6.out]); (try simp only [HV7.out]); (try simp only [HV8.out]); (try simp only [HV9.out]); try with_reducible rfl
          try simp only [Act.put, List.setIfInBounds_toArray, List.set_cons_zero, List.set_cons_succ]
          refine wpAnyH_take (i := 14) (v := ?_) rfl (by kernel_rfl) (by kernel_rfl) (by kernel_rfl) (fun _ _ _ h => h) (Or.inl ⟨by kernel_rfl, ?_⟩) trivial ?_
          rotate_left
          · intro wq _; go_simp; (try simp only [HV1.out]); (try simp only [HV2.out]); (try simp only [HV3.out]); (try simp only [HV4.out]); (try simp only [HV5.out]); (try simp only [HV6.out]); (try simp only [HV7.out]); (try simp only [HV8.out]); (try simp only [HV9.out]); try with_reducible rfl
          try simp only [Act.put, List.setIfInBounds_toArray, List.set_cons_zero, List.set_cons_succ]
          refine wpAnyH_take (i := 15) (v := ?_) rfl (by kernel_rfl) (by kernel_rfl) (by kernel_rfl) (fun _ _ _ h => h) (Or.inl ⟨by kernel_rfl, ?_⟩) trivial ?_
          rotate_left
          · intro wq _; go_simp; (try simp only [HV1.out]); (try simp only [HV2.out]); (try simp only [HV3.out]); (try simp only [HV4.out]); (try simp only [HV5.out]); (try simp only [HV6.out]); (try simp only [HV7.out]); (try simp only [HV8.out]); (try simp only [HV9.out]); try with_reducible rfl
          try simp only [Act.put, List.setIfInBounds_toArray, List.set_cons_zero, List.set_cons_succ]
          refine wpAnyH_ready (rs := [16]) (by kernel_rfl) (by simp) ?_
          refine AllReadyH.cons (o := _) rfl (fun K hK => ?_) AllReadyH.nil
          go_simp
          refine hK.out _ _ trivial (fun _ => ?_)
          try simp only [Act.put, List.setIfInBounds_toArray, List.set_cons_zero, List.set_cons_succ]
          refine wpAnyH_ready (rs := [17]) (by kernel_rfl) (by simp) ?_
          refine AllReadyH.cons (o := _) rfl (fun K hK => ?_) AllReadyH.nil
          go_simp
          refine hK.out _ _ trivial (fun _ => ?_)
          try simp only [Act.put, List.setIfInBounds_toArray, List.set_cons_zero, List.set_cons_succ]
          refine wpAnyH_done (by kernel_rfl) ?_ _
          have hb3 : Below wr.heap.size wr ((wr.alloc (.cells #[.int .i64 (V : Int), .string G] 57)).drew) := ((Below.refl _ _).alloc (Nat.le_refl _) _).drew
          have hrow3 : ((wr.alloc (.cells #[.int .i64 (V : Int), .string G] 57)).drew).heap[wr.heap.size]? = some (.cells #[.int .i64 (V : Int), .string G] 57 (0, 0)) := heap_alloc_new wr _
          generalize (wr.alloc (.cells #[.int .i64 (V : Int), .string G] 57)).drew = W3 at hb3 hrow3 ⊢
          obtain ⟨gc, hgc⟩ : ∃ gc, wr.heap.size = gc := ⟨_, rfl⟩
          rw [hgc] at hrow3 ⊢
          have e0 : W3.cell? ⟨gc, 0, none⟩ = some (.int .i64 (V : Int)) := Lib.cell_of_heap hrow3 _
          have e1 : W3.cell? ⟨w.heap.size, 0, none⟩ = some (.int .i64 (f : Int)) := Lib.cell_of_heap ((hb3.block _ (lt_of_some HR1.out)).trans HR1.out) _
          have e2 : W3.cell? ⟨w.heap.size, 1, none⟩ = some (.int .i64 ((m : Int) + 1)) := Lib.cell_of_heap ((hb3.block _ (lt_of_some HR1.out)).trans HR1.out) _
          have HB3 := Lib.hid hb3; have HROW3 := Lib.hid hrow3; have HGC := Lib.hid hgc
          have HMA := Lib.hid (HMAY.out W3 (V : Int) (HBw.out.trans (hb3.mono HBw.out.size)))
          by_cases hmay : MayI n f ((m : Int) + 1) (V : Int)
          · rw [decide_eq_true hmay] at HMA
            have HMY := Lib.hid hmay
            clear hb3 hrow3 hgc hmay c0 c1 HRQ
            go_wp2_with (go_at_call 29; refine HMA.out.mono ?_)
            first | rintro e w4 rfl hb4 | rintro e w4 ⟨rfl, hb4⟩
            have HB4 := Lib.hid (HB3.out.trans (hb4.mono HB3.out.size))
            have hrow4 := (hb4.block _ (lt_of_some HROW3.out)).trans HROW3.out
            have d0 : w4.cell? ⟨gc, 0, none⟩ = some (.int .i64 (V : Int)) := Lib.cell_of_heap hrow4 _
            have d1 : w4.cell? ⟨gc, 1, none⟩ = some (.string G) := Lib.cell_of_heap hrow4 _
            have HR4 := Lib.hid (own_below HR.out HB4.out)
            have hw14 : w1.heap.size ≤ w4.heap.size := Nat.le_trans HBL.out.size HB4.out.size
            clear hb4 hrow4 e0 e1 e2 HMA
            go_wp2_with (at_builtin; refine wpList_append_own _ rfl _ _ 43 rfl w1.heap.size 57 i0 (.agg #[.int .i64 0, .string ⟨#[]⟩]) 2 24 Tryd.underlying43 HI0.out HZ0.out HS0.out HY0.out rfl (by decide) _ _ _ rfl (HR4.out.alloc _) ⟨w4.heap.size, 0, none⟩ 1 1 [.int .i64 (V : Int), .string G] rfl rfl (World.news_of_block (heap_alloc_new _ _)) (fun u hu => by simp at hu; rcases hu with rfl | rfl <;> rfl) (by unfold maxLen; omega) (by omega) (by simp; omega) ?_; intro v' w5 hown hgrow _)
            have HEND : Hid (RoS n f m k X w1 v' (.int .i64 ((j : Int) + 1)) w5) := Lib.hid ⟨j + 1, hlt, by rw [Int.natCast_succ], by rw [flatD_take X j _ HXQ.out]; exact hown, fun c hc => by
              rw [List.take_add_one, HXQ.out, List.mem_append] at hc
              rcases hc with hc | hc
              · exact HM.out c hc
              · simp at hc; subst hc; exact HMY.out, ((HBL.out.trans (HB4.out.mono HBL.out.size)).alloc hw14 _).grown hgrow (by simp; omega) (fun q hq => (HR4.out.lt q hq).1)⟩
            clear hown hgrow
            go_wp2_with fail
            go_roundw
            case rel => first | exact HEND.out | ((repeat (apply Exists.intro)); exact ⟨HEND.out, rfl⟩)
            case measure => first | (simp [intOf]; done) | (simp [intOf]; omega)
          · rw [decide_eq_false hmay] at HMA
            have HNO := Lib.hid (HNIL.out (fun h => hmay (takes_mayI h.2 _ (List.mem_of_getElem? HXQ.out)).1))
            clear hb3 hrow3 hgc hmay c0 c1 HRQ
            go_wp2_with (go_at_call 29; refine HMA.out.mono ?_)
            first | rintro e w4 rfl hb4 | rintro e w4 ⟨rfl, hb4⟩
            have HB4 := Lib.hid (HBw.out.trans ((HB3.out.trans (hb4.mono HB3.out.size)).mono HBw.out.size))
            clear hb4 e0 e1 e2 HMA
            go_wp2_with fail
            go_ret2
            rw [HNO.out]
            exact ⟨rfl, vw, HI.out.below HB4.out, fun _ h => .inl h, FrR.of_below hBz HB4.out⟩
        · obtain rfl : j = k := by omega
          have hjn : ¬ (j : Int) < j := by omega
          have htk : X.take j = X := List.take_of_length_le (by rw [HXL.out]; exact Nat.le_refl _)
          have hrow := HR.out
          rw [htk] at hrow
          have hmayA := HM.out
          rw [htk] at hmayA
          obtain ⟨ox, cx, hux, hdr⟩ := own_changes (l := X) (by rw [HXL.out]; exact hrow)
          rw [HXL.out] at hux
          subst hux
          have HHD := Lib.hid (RHead ox cx X wr hdr HXS.out (by rw [HXL.out]; omega))
          rw [HXL.out] at HHD
          have HDR := Lib.hid hdr; have HMA := Lib.hid hmayA
          have hbx : ∀ b, ox = some ⟨b, 0, none⟩ → b < wr.heap.size := fun b hb => (own_changes_lt hrow b hb).2
          have HBX := Lib.hid hbx
          clear hrow hmayA hdr htk hbx c0 c1
          by_cases hcm : H = headB X
          · have hTK : Takes n f m (intC X) := mayI_takes (by rw [HXL.out]; exact hka) (by rw [HXL.out]; exact hkb) (fun c hc => ⟨HMA.out c hc, (HXS.out c hc).2⟩)
            have HFD := Lib.hid (hfd.out.1 ⟨hcm, hTK⟩)
            have hXne : X ≠ [] := fun e => by have := HXL.out; rw [e] at this; simp at this; omega
            have HOP : Hid (openS n f m S = if (applyS f X S).1 = 0 then (((j : Int), 0), (applyS f X S).2) else ((0, 7), (applyS f X S).2)) := Lib.hid (by
              unfold openS
              rw [if_neg (by rw [HO.out]; decide), HFD.out, if_neg hXne, HXL.out])
            have HKN : Hid (∀ c ∈ X, c.1 < n ∧ c.2.size ≤ 512) := Lib.hid (fun c hc => by
              obtain ⟨h1, h2, _⟩ := HMA.out c hc
              exact ⟨by omega, (HXS.out c hc).2⟩)
            have hcmp : ((headB X).toList == H.toList) = true := by rw [hcm]; exact beq_self_eq_true _
            clear hcm hTK hXne
            go_wp2_with (go_at_call 30; refine HHD.out.mono ?_)
            first | rintro e w5 rfl hb5 | rintro e w5 ⟨rfl, hb5⟩
            have HB5 := Lib.hid (HBw.out.trans (hb5.mono HBw.out.size))
            have HDR5 : Hid (DrAt w5 ox X) := Lib.hid (HDR.out.same (fun b cur _ hb => hb5.block b (lt_of_some hb)))
            have HR5 := Lib.hid ((hb5.block _ (lt_of_some HR1.out)).trans HR1.out)
            have HI5 := Lib.hid (HI.out.below HB5.out)
            have HMK := Lib.hid (RMake HI5.out hn0 hn HBD.out (fun w' hb => HP.out w' ((HB5.out.mono hBz).trans hb)) ox cx X HDR5.out HKN.out (by rw [HXL.out]; omega))
            rw [HXL.out] at HMK
            clear hb5 HHD
            go_wp2_with (go_at_call 31; refine HMK.out.mono ?_)
            first | rintro e w6 rfl ⟨va, h6, hv6, f6⟩ | rintro e w6 ⟨rfl, va, h6, hv6, f6⟩
            have HF6 := Lib.hid ((FrR.of_below (g := g) (gl := gl) (vw := vw) hBz HB5.out).trans f6 (fun x h => .inl h))
            have HV6 : Hid (∀ x, va.ownBlock = some x → vw.ownBlock = some x ∨ w.heap.size ≤ x) := Lib.hid (fun x hx => by
              rcases hv6 x hx with h | h
              · exact .inl h
              · exact .inr (Nat.le_trans HB5.out.size h))
            have HR6 := Lib.hid ((f6.kept HI5.out HR5.out (by decide) (by decide) (by decide)).trans HR5.out)
            have HI6 := Lib.hid h6
            have HAP : Hid (applyS f X S = thenS (makeS X S) (makeS [(f, ⟨#[]⟩)])) := Lib.hid rfl
            obtain ⟨p, hp⟩ : ∃ p, makeS X S = p := ⟨_, rfl⟩
            have hpe := makeS_err X S
            have hbd6 := HBD.out.make X
            have hpd6 : ∀ w', Below B w6 w' → Pend w' vk (makeS X S).2 := fun w' hb => (HP.out w' (HF6.out.below.trans hb)).make HBD.out X
            rw [hp] at HI6 HAP hpe hbd6 hpd6 ⊢
            rw [HXL.out] at hbd6
            obtain ⟨p1, P2⟩ := p
            simp only at hpe HI6 hbd6 hpd6
            have HBD6 := Lib.hid hbd6; have HPD6 := Lib.hid hpd6
            clear h6 hv6 f6 hp hbd6 hpd6 HMK
            rcases hpe with rfl | rfl
            · have d0 : w6.cell? ⟨w.heap.size, 0, none⟩ = some (.int .i64 (f : Int)) := Lib.cell_of_heap HR6.out _
              have d1 : w6.cell? ⟨w.heap.size, 1, none⟩ = some (.int .i64 ((m : Int) + 1)) := Lib.cell_of_heap HR6.out _
              have HSY := Lib.hid (RSay HI6.out hn0 hn HBD6.out (by omega) HPD6.out f ((m : Int) + 1) ⟨#[]⟩ (by omega) (by decide))
              go_wp2_with (go_at_call 32; refine HSY.out.mono ?_)
              first | rintro e w7 rfl ⟨vb, h7, hv7, f7⟩ | rintro e w7 ⟨rfl, vb, h7, hv7, f7⟩
              have e1 : applyS f X S = makeS [(f, ⟨#[]⟩)] P2 := by rw [HAP.out, thenS_ok _ rfl]
              have he := makeS_err [(f, (⟨#[]⟩ : ByteArray))] P2
              have HFIN : Hid (∀ ee : Ending, (ee = .returned (.tuple #[.int .i64 (openS n f m S).1.1, .int .i64 (openS n f m S).1.2])) → ROpened B n g gl cl vw vk (openS n f m S) w ee w7) := Lib.hid (fun ee hee => ⟨hee, vb, by
                rw [HOP.out]
                split <;> (simp only; rw [e1]; exact h7), fun x hx => by
                rcases hv7 x hx with h | h
                · exact HV6.out x h
                · exact .inr (Nat.le_trans HF6.out.size h), HF6.out.trans f7 HV6.out⟩)
              rw [e1] at HOP
              have HOP2 := HOP
              clear h7 hv7 f7 e1 d0 d1 HSY
              rcases he with he | he
              · rw [he] at HOP2 ⊢
                go_wp2_with fail
                go_ret2
                exact HFIN.out _ (by rw [HOP2.out]; rfl)
              · rw [he] at HOP2 ⊢
                go_wp2_with fail
                go_ret2
                exact HFIN.out _ (by rw [HOP2.out]; rfl)
            · have e1 : applyS f X S = (7, P2) := by rw [HAP.out, thenS_no _ (show (7 : Int) ≠ 0 by decide)]
              rw [e1] at HOP
              go_wp2_with fail
              go_ret2
              rw [HOP.out, if_neg (show ¬ ((7 : Int) = 0) by decide)]
              exact ⟨rfl, va, HI6.out, HV6.out, HF6.out⟩
          · have hcmp : ((headB X).toList == H.toList) = false := beq_eq_false_iff_ne.2 (fun e => hcm (by
              apply ByteArray.ext
              rw [← Array.toList_inj]
              have := congrArg id e.symm
              rwa [ByteArray.toList_eq, ByteArray.toList_eq] at this))
            have HNO := Lib.hid (HNIL.out (fun h => hcm h.1))
            clear hcm
            go_wp2_with (go_at_call 30; refine HHD.out.mono ?_)
            first | rintro e w5 rfl hb5 | rintro e w5 ⟨rfl, hb5⟩
            have HB5 := Lib.hid (HBw.out.trans (hb5.mono HBw.out.size))
            clear hb5
            go_wp2_with fail
            go_ret2
            rw [HNO.out]
            exact ⟨rfl, vw, HI.out.below HB5.out, fun _ h => .inl h, FrR.of_below hBz HB5.out⟩
    · have HNO : Hid (openS n f m S = ((0, 0), S)) := Lib.hid (by
        unfold openS
        rw [if_neg (by rw [HO.out]; decide), if_pos]
        unfold foundS
        rw [HH.out, HK.out]
        refine if_neg (fun h => hkk ⟨?_, h.1⟩)
        have := h.2.2.1
        rw [intC_length] at this
        unfold descrS at this
        rw [List.length_map, List.length_range] at this
        exact this)
      rcases (show (k : Int) < 1 ∨ ¬ (k : Int) < 1 ∧ (m : Int) < k by omega) with hx | ⟨hx, hx2⟩
      all_goals
        go_wp2_with (go_at_call 28; refine HRD.out.mono ?_; rintro e w2 ⟨rfl, hw2⟩; have hw2 := hw2.symm; subst hw2)
        go_ret2
        rw [HNO.out]
        exact ⟨rfl, vw, HI1.out, fun _ h => .inl h, FrR.of_below hBz HB1.out⟩
end Go.Proofs.YtbpaiiljhdohfaaDoor
