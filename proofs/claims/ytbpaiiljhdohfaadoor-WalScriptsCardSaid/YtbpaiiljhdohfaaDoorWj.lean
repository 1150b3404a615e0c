/- Wal: what a head describes. -/
import Derived.Test.YtbpaiiljhdohfaaDoorWi
namespace Go.Proofs.YtbpaiiljhdohfaaDoor
open Go.RowKit
variable {B n g gd gc cd cc l f m t : Nat} {vw vk : Value} {S : DS} {w : World}

/-- All sectors have the bytes that they may. -/
def Sz (S : DS) : Prop := ∀ s ∈ S.cur, s.size = 512
theorem Sz.get (h : Sz S) (i : Nat) (hi : i < S.cur.length) : (S.cur.getD i ⟨#[]⟩).size = 512 := by
  rw [List.getD_eq_getElem?_getD, List.getElem?_eq_getElem hi]
  exact h _ (List.getElem_mem hi)
theorem Read_on (h : IsD B n g gd gc cd cc vw vk S w) (i : Nat) (hi : i < n) (ho : S.off = false) :
    Calls Tryd.prog 18 #[.pointer (some ⟨g, 0, none⟩), .int .i64 i] w fun e w' => e = .returned (.tuple #[.string (S.cur.getD i ⟨#[]⟩), .int .i64 0]) ∧ w' = w := by
  have := ReadD h i
  have e0 : readS n i S = (S.cur.getD i ⟨#[]⟩, 0) := by
    unfold readS
    rw [if_pos ⟨by omega, by omega⟩, if_neg (by rw [ho]; decide), Int.toNat_natCast]
  rw [e0] at this
  exact this
theorem Read_on_q (h : IsD B n g gd gc cd cc vw vk S w) (i : Nat) (hi : i < n) (ho : S.off = false) (y : Nat) :
    Calls Tryd.prog 18 #[.pointer (some ⟨g, 0, none⟩), .int .i64 i] (w.drewN y) fun e w' => e = .returned (.tuple #[.string (S.cur.getD i ⟨#[]⟩), .int .i64 0]) ∧ ∃ k, w' = w.drewN k :=
  (Read_on (h.ownC (heap_drewN _ _)) i hi ho).mono fun _ _ ⟨a, b⟩ => ⟨a, y, b⟩
theorem Read_off_q (h : IsD B n g gd gc cd cc vw vk S w) (i : Nat) (hi : i < n) (ho : S.off = true) (y : Nat) :
    Calls Tryd.prog 18 #[.pointer (some ⟨g, 0, none⟩), .int .i64 i] (w.drewN y) fun e w' => e = .returned (.tuple #[.string ⟨#[]⟩, .int .i64 7]) ∧ ∃ k, w' = w.drewN k := by
  have := ReadD (h.ownC (heap_drewN w y)) i
  have e0 : readS n i S = (⟨#[]⟩, 7) := by
    unfold readS
    rw [if_pos ⟨by omega, by omega⟩, if_pos ho]
  rw [e0] at this
  exact this.mono fun _ _ ⟨a, b⟩ => ⟨a, y, b⟩
theorem byteAt_get (H : ByteArray) (i : Nat) (h : i < H.size) : (H[i]'h).toNat = byteAt H i := by
  unfold byteAt
  have h' : i < H.data.size := h
  rw [Array.getD_eq_getD_getElem?, Array.getElem?_eq_getElem h']
  rfl
theorem byteAt_lt (H : ByteArray) (i : Nat) : byteAt H i < 256 := UInt8.toNat_lt _
theorem byteAt_wrap (H : ByteArray) (i : Nat) (h : i < H.size) : wrap64 ((H[i]'h).toNat : Int) = (byteAt H i : Int) := by
  rw [byteAt_get H i h]
  have := byteAt_lt H i
  exact IntWalk.wrap64_in _ (by omega)
theorem or_bytes (a b : Nat) (ha : a < 256) (hb : b < 256) : bits .or .i64 (IntKind.i64.wrap (IntKind.i64.wrap (a : Int) * 256)) (IntKind.i64.wrap (b : Int)) = ((256 * a + b : Nat) : Int) := by
  rw [IntWalk.i64_in (a : Int) (by omega), IntWalk.i64_in ((a : Int) * 256) (by omega), IntWalk.i64_in (b : Int) (by omega)]
  have e1 : BitVec.ofInt 64 ((a : Int) * 256) = BitVec.ofNat 64 (a * 256) := by rw [show (a : Int) * 256 = ((a * 256 : Nat) : Int) by omega, BitVec.ofInt_natCast]
  have key : (BitVec.ofInt 64 ((a : Int) * 256) ||| BitVec.ofInt 64 (b : Int)).toNat = 256 * a + b := by
    rw [e1, BitVec.ofInt_natCast, BitVec.toNat_or, BitVec.toNat_ofNat, BitVec.toNat_ofNat, Nat.mod_eq_of_lt (by omega), Nat.mod_eq_of_lt (by omega)]
    have := Nat.shiftLeft_add_eq_or_of_lt (show b < 2 ^ 8 by omega) a
    rw [Nat.shiftLeft_eq] at this
    rw [← this]; omega
  show IntKind.i64.wrap ((BitVec.ofInt 64 ((a : Int) * 256) ||| BitVec.ofInt 64 (b : Int)).toNat : Nat) = _
  rw [key, IntWalk.i64_in _ (by omega)]
def Described (n f m : Nat) (S : DS) (w : World) (e : Ending) (w' : World) : Prop :=
  ∃ v, e = .returned (.tuple #[v, .int .i64 (if S.off = true then 7 else 0)]) ∧ ChRow w' v (intC (if S.off = true then [] else foundS n f m S)) ∧ Below w.heap.size w w'
theorem described_off (hL : LogAt l g f m w) (hI : IsD B n g gd gc cd cc vw vk S w) (hf : f < n) (ho : S.off = true) :
    Calls Tryd.prog 25 #[.pointer (some ⟨l, 0, none⟩)] w (Described n f m S w) := by
  have c0 := hL.c0
  have c1 := hL.c1
  have HI := Lib.hid hI
  have HE : Hid (∀ w', Below w.heap.size w w' → Described n f m S w (.returned (.tuple #[.slice none 0 0, .int .i64 7])) w') := Lib.hid (fun w' hb =>
    ⟨_, by rw [if_pos ho], by rw [if_pos ho]; exact World.ownsRow_nil _ _ _ _, hb⟩)
  have HO := Lib.hid ho
  clear hI ho
  go_enter Tryd.func25, Tryd.ntmps25
  go_wp2_with fail
  go_quiet ((first | (go_at_call 18; exact Read_off_q HI.out f hf HO.out _)))
  go_wp2_with fail
  go_ret2
  exact HE.out _ (below_drewN (Below.refl _ _) _)
def WrS' (gi k : Nat) (x : List (Nat × ByteArray)) (w : World) (i : Value) (wr : World) : Prop :=
  ∃ q : Nat, q ≤ k ∧ i = .int .i64 q ∧ MadeRow gi k x q wr ∧ Below w.heap.size w wr
set_option maxHeartbeats 4000000 in
set_option maxRecDepth 100000 in
theorem described_on (hL : LogAt l g f m w) (hI : IsD B n g gd gc cd cc vw vk S w) (hf : f + 1 + m ≤ n) (hn : n ≤ 4096) (hm64 : m ≤ 64) (hz : Sz S) (hV : CrcVars w) (ho : S.off = false) :
    Calls Tryd.prog 25 #[.pointer (some ⟨l, 0, none⟩)] w (Described n f m S w) := by
  have c0 := hL.c0
  have c1 := hL.c1
  have c2 := hL.c2
  obtain ⟨H, hH⟩ : ∃ H, S.cur.getD f ⟨#[]⟩ = H := ⟨_, rfl⟩
  have hHz : H.size = 512 := by rw [← hH]; exact hz.get f (by rw [hI.lc]; omega)
  have hrd := hI
  obtain ⟨k, hk⟩ : ∃ k, byteAt H 2 = k := ⟨_, rfl⟩
  have HI := Lib.hid hI; have HL := Lib.hid hL; have HZ := Lib.hid hz; have HV := Lib.hid hV; have HO := Lib.hid ho; have HH := Lib.hid hH; have HK := Lib.hid hk
  have HRD := Lib.hid (fun y => hH ▸ Read_on_q hI f (by omega) ho y)
  have hHi : (H.size : Int) = 512 := by omega
  clear hI hL hz hV ho hrd hH hk
  have hk2 : wrap64 ((H[2]'(by omega)).toNat : Int) = (k : Int) := by rw [byteAt_wrap, HK.out]
  have hk9 : (k : Int) < 256 := by have := byteAt_lt H 2; rw [HK.out] at this; omega
  have hk90 : k < 256 := by omega
  by_cases hmk : m < k
  · have hmki : (m : Int) < k := by omega
    have HE : Hid (∀ w', Below w.heap.size w w' → Described n f m S w (.returned (.tuple #[.slice none 0 0, .int .i64 0])) w') := Lib.hid (fun w' hb =>
      ⟨_, by rw [if_neg (by rw [HO.out]; decide)], by
        rw [if_neg (by rw [HO.out]; decide)]
        have e : foundS n f m S = [] := if_neg (fun h => by have := h.1; rw [HH.out, HK.out] at this; omega)
        rw [e]; exact World.ownsRow_nil _ _ _ _, hb⟩)
    go_enter Tryd.func25, Tryd.ntmps25
    go_wp2_with fail
    go_quiet ((first | (go_at_call 18; exact HRD.out _)))
    go_wp2_with fail
    go_ret2
    exact HE.out _ (below_drewN (Below.refl _ _) _)
  · have hmki : ¬ (m : Int) < k := by omega
    obtain ⟨i0, hi0, hz0, hs0, hy0⟩ := info_parts info_change
    have hb2 : i0.bytes * k ≤ 281474976710656 := by rw [hy0]; omega
    have hb3 : k ≤ maxLen := by unfold maxLen; omega
    obtain ⟨X, hX⟩ : ∃ X, descrS f k S = X := ⟨_, rfl⟩
    have hXl : X.length = k := by rw [← hX]; unfold descrS; rw [List.length_map, List.length_range]
    have HXX := Lib.hid hX; have HXL := Lib.hid hXl
    clear hX hXl
    go_enter Tryd.func25, Tryd.ntmps25
    go_wp2_with fail
    go_quiet ((first | (go_at_call 18; exact HRD.out _)))
    obtain ⟨wX, hwX⟩ : ∃ wX, w.drewN nq = wX := ⟨_, rfl⟩
    have hh : wX.heap = w.heap := by rw [← hwX]; exact heap_drewN _ _
    have HBX : Hid (Below w.heap.size w wX) := Lib.hid (by rw [← hwX]; exact below_drewN (Below.refl _ _) nq)
    have c2x := (HL.out.same (w' := wX) (congrArg (fun Z => Z[l]?) hh)).c2
    have HSZ : Hid (wX.heap.size = w.heap.size) := Lib.hid (by rw [hh])
    rw [hwX]
    clear hwX hh c0 c1 c2
    go_wp2_with (refine wpList_make_full _ rfl _ _ 42 rfl wX.heap.size 55 i0 _ 2 Tryd.underlying42 hi0 hz0 hs0 .i64 .i64 _ _ k rfl rfl hk2 hk2 hb2 hb3 (Nat.le_refl _) ?_; intro w1 hown hgrow; have HO1 := Lib.hid hown; have HG1 := Lib.hid hgrow; clear hown hgrow)
    have hmade : MadeRow wX.heap.size k X 0 w1 := by
      rcases HO1.out.2 with ⟨h1, _⟩ | ⟨g', cap, cur, h1, _, h2, h3, _, h4, _⟩
      · cases h1
      · injection h1 with h1 h1' h1''
        injection h1 with h1
        injection h1 with h1
        subst h1
        exact ⟨cur, h2, by rw [h4, ← h1''], rfl⟩
    have hB1 : Below w.heap.size w w1 := HBX.out.trans ⟨HG1.out.os, HG1.out.tape, HG1.out.output, by have := HG1.out.size; have := HSZ.out; omega, fun b hb => HG1.out.block b (by have := HSZ.out; omega) (by simp)⟩
    have HS0 : Hid (WrS' wX.heap.size k X w (.int .i64 0) w1) := Lib.hid ⟨0, Nat.zero_le _, rfl, hmade, hB1⟩
    clear hmade hB1 HO1 HG1 c2x
    go_wp2_with fail
    go_loopw [40] (fun i wr => WrS' wX.heap.size k X w i wr) (fun i _ => k - (intOf i).toNat)
    case atStart => exact HS0.out
    case round =>
      obtain ⟨q, hq, rfl, hmd, hbl⟩ := hrel
      have HMD := Lib.hid hmd; have HBL := Lib.hid hbl
      have HLr := Lib.hid (HL.out.below hbl)
      have HIr := Lib.hid (HI.out.below hbl)
      clear hmd hbl
      by_cases hlt : q < k
      · have hqi : (q : Int) < k := by omega
        have hr1 : f + 1 + q < n := by omega
        obtain ⟨G, hG⟩ : ∃ G, S.cur.getD (f + 1 + q) ⟨#[]⟩ = G := ⟨_, rfl⟩
        have HRQ := Lib.hid (fun y => hG ▸ Read_on_q HIr.out (f + 1 + q) hr1 HO.out y)
        have HGG := Lib.hid hG
        clear hG
        have HIQ := Lib.hid (fun y => image_q HLr.out q (by omega) (by omega) y)
        have c0 := HLr.out.c0
        go_wp2_with fail
        go_quiet ((first | (go_at_call 46; exact HIQ.out _) | (go_at_call 18; exact HRQ.out _)))
        obtain ⟨wY, hwY⟩ : ∃ wY, wr.drewN nq = wY := ⟨_, rfl⟩
        have hh : wY.heap = wr.heap := by rw [← hwY]; exact heap_drewN _ _
        have HBY : Hid (Below w.heap.size w wY) := Lib.hid (by rw [← hwY]; exact below_drewN HBL.out nq)
        have HMY := Lib.hid (HMD.out.same (w' := wY) (congrArg (fun Z => Z[_]?) hh))
        rw [hwY]
        obtain ⟨z, hz⟩ : ∃ z : Nat, 3 + 2 * q = z := ⟨_, rfl⟩
        obtain ⟨z1, hz1⟩ : ∃ z1 : Nat, 4 + 2 * q = z1 := ⟨_, rfl⟩
        have hzi : 3 + 2 * (q : Int) = (z : Int) := by omega
        have hzi1 : (z : Int) + 1 = (z1 : Int) := by omega
        have hzl : z < H.size := by omega
        have hzl1 : z1 < H.size := by omega
        have hz512 : (z : Int) < 512 := by omega
        have hz513 : (z1 : Int) < 512 := by omega
        have hwz : IntKind.i64.wrap (z1 : Int) = (z1 : Int) := IntWalk.i64_in _ (by omega)
        have HZ0 := Lib.hid hz; have HZ1 := Lib.hid hz1
        have HVAL := Lib.hid (show bits .or .i64 (IntKind.i64.wrap (IntKind.i64.wrap ((H[z]'hzl).toNat : Int) * 256)) (IntKind.i64.wrap ((H[z1]'hzl1).toNat : Int)) = ((256 * byteAt H z + byteAt H z1 : Nat) : Int) by
          rw [byteAt_get H z hzl, byteAt_get H z1 hzl1]; exact or_bytes _ _ (byteAt_lt _ _) (byteAt_lt _ _))
        have HXQ : Hid (X[q]? = some (256 * byteAt H z + byteAt H z1, G)) := Lib.hid (by
          rw [← HXX.out, ← hz, ← hz1, ← HGG.out]
          unfold descrS
          rw [List.getElem?_map, List.getElem?_range hlt, HH.out]; rfl)
        clear hwY hh c0 hz hz1
        go_wp2_with fail
        refine wp_region_still_tail 16 (by kernel_rfl) (by kernel_rfl) ?_
        change wpStill _ _ (World.drew _) _ _ _
        simp only [List.take_succ_cons, List.take_zero, List.drop_succ_cons, List.drop_zero]
        repeat still_step
        try refine wpStill_nil ?_
        change wpList _ _ _ _ _ (World.drew _)
        obtain ⟨V, hV⟩ : ∃ V, 256 * byteAt H z + byteAt H z1 = V := ⟨_, rfl⟩
        rw [hV] at HVAL HXQ
        have hth := HMY.out.drew.there hlt
        have hn1 := HMY.out.drew.set _ _ HXQ.out hlt
        have hn2 := setCells_below HBY.out.drew (by have := HSZ.out; omega) (gi := wX.heap.size) (q * 2) (.int .i64 (V : Int)) (.string G)
        obtain ⟨W2, hW2⟩ : ∃ W2, (wY.drew).setCells wX.heap.size (q * 2) [.int .i64 (V : Int), .string G] = W2 := ⟨_, rfl⟩
        rw [hW2] at hn1 hn2
        have HN : Hid (WrS' wX.heap.size k X w (.int .i64 ((q : Int) + 1)) W2) := Lib.hid ⟨q + 1, by omega, by rw [Int.natCast_succ], hn1, hn2⟩
        clear hn1 hn2 hV
        refine wpList_store_mid rfl 55 _ _ rfl wX.heap.size (q * 2) #[.int .i64 (V : Int), .string G] rfl (congrArg (fun v => Value.agg #[Value.int .i64 v, Value.string G]) HVAL.out) hth change_size (all_oneCell_toArray (by intro v hv; simp at hv; rcases hv with rfl | rfl <;> rfl)) ?_
        rw [show (#[Value.int .i64 (V : Int), Value.string G]).toList = [.int .i64 (V : Int), .string G] from rfl, hW2]
        clear hth hW2
        go_wp2_with fail
        exact ⟨HN.out, by simp [intOf]; omega⟩
      · obtain rfl : q = k := by omega
        have hrow := HMD.out.row HXL.out hb3
        have hXc : ∀ c ∈ X, c.1 < 65536 ∧ c.2.size ≤ 512 := fun c hc => by
          rw [← HXX.out] at hc
          unfold descrS at hc
          obtain ⟨i, hi, rfl⟩ := List.mem_map.1 hc
          have hi' := List.mem_range.1 hi
          have a1 := byteAt_lt (S.cur.getD f ⟨#[]⟩) (3 + 2 * i)
          have a2 := byteAt_lt (S.cur.getD f ⟨#[]⟩) (4 + 2 * i)
          exact ⟨by show 256 * _ + _ < 65536; omega, by show (S.cur.getD (f + 1 + i) ⟨#[]⟩).size ≤ 512; rw [HZ.out.get _ (by rw [HIr.out.lc]; omega)]; exact Nat.le_refl _⟩
        have hde := Lib.hid (describe_any _ X hrow hXc (by rw [HXL.out]; omega) (HV.out.below HBL.out))
        have HROW := Lib.hid hrow
        have hfd : Hid ((H = headB X ∧ Takes n f m (intC X) → foundS n f m S = X) ∧ (¬ (H = headB X ∧ Takes n f m (intC X)) → foundS n f m S = [])) := Lib.hid (by
          unfold foundS
          rw [HH.out, HK.out, HXX.out]
          exact ⟨fun h => if_pos ⟨by omega, h.1, h.2⟩, fun h => if_neg (fun h' => h ⟨h'.2.1, h'.2.2⟩)⟩)
        have hnil : Hid (¬ (H = headB X ∧ Takes n f m (intC X)) → ∀ w', Below w.heap.size w w' → Described n f m S w (.returned (.tuple #[.slice none 0 0, .int .i64 0])) w') := Lib.hid (fun h w' hb =>
          ⟨_, by rw [if_neg (by rw [HO.out]; decide)], by
            rw [if_neg (by rw [HO.out]; decide), hfd.out.2 h]; exact World.ownsRow_nil _ _ _ _, hb⟩)
        clear hrow hXc
        by_cases hcm : H = headB X
        · have hcmp : (H.toList == (headB X).toList) = true := by rw [hcm]; exact beq_self_eq_true _
          have HTK : Hid (∀ r, (r = true ↔ Takes n f m (intC X)) → ∀ w', Below wr.heap.size wr w' → Calls Tryd.prog 39 #[.pointer (some ⟨l, 0, none⟩), .slice (some ⟨wX.heap.size, 0, none⟩) q q] w' fun e w9 => e = .returned (.bool r) ∧ Below w'.heap.size w' w9) := Lib.hid (fun r hr w' hb =>
            takes_any (HLr.out.below hb) (HIr.out.below hb).d hf hn _ _ (own_below HROW.out hb) r hr)
          have HCM := Lib.hid hcm
          clear hcm
          by_cases htk : Takes n f m (intC X)
          · have HFIN : Hid (∀ w', Below wr.heap.size wr w' → Described n f m S w (.returned (.tuple #[.slice (some ⟨wX.heap.size, 0, none⟩) q q, .int .i64 0])) w') := Lib.hid (fun w' hb =>
              ⟨_, by rw [if_neg (by rw [HO.out]; decide)], by
                rw [if_neg (by rw [HO.out]; decide), hfd.out.1 ⟨HCM.out, htk⟩]; exact own_below HROW.out hb, HBL.out.trans (hb.mono HBL.out.size)⟩)
            have HT1 := Lib.hid (HTK.out true ⟨fun _ => htk, fun _ => rfl⟩)
            clear htk HTK
            go_wp2_with (go_at_call 47; refine hde.out.mono ?_)
            first | rintro e w3 rfl hb3' | rintro e w3 ⟨rfl, hb3'⟩
            have HB3 := Lib.hid hb3'
            clear hb3' hde
            go_wp2_with (go_at_call 39; refine (HT1.out w3 HB3.out).mono ?_)
            first | rintro e w4 rfl hb4 | rintro e w4 ⟨rfl, hb4⟩
            have HEND := Lib.hid (HFIN.out w4 (HB3.out.trans (hb4.mono HB3.out.size)))
            clear hb4
            go_wp2_with fail
            go_ret2
            exact HEND.out
          · have HT1 := Lib.hid (HTK.out false ⟨fun h => absurd h (by decide), fun h => absurd h htk⟩)
            have HFIN := Lib.hid (hnil.out (fun h => htk h.2))
            clear htk HTK
            go_wp2_with (go_at_call 47; refine hde.out.mono ?_)
            first | rintro e w3 rfl hb3' | rintro e w3 ⟨rfl, hb3'⟩
            have HB3 := Lib.hid hb3'
            clear hb3' hde
            go_wp2_with (go_at_call 39; refine (HT1.out w3 HB3.out).mono ?_)
            first | rintro e w4 rfl hb4 | rintro e w4 ⟨rfl, hb4⟩
            have HEND := Lib.hid (HFIN.out w4 (HBL.out.trans ((HB3.out.trans (hb4.mono HB3.out.size)).mono HBL.out.size)))
            clear hb4
            go_wp2_with fail
            go_ret2
            exact HEND.out
        · have hcmp : (H.toList == (headB X).toList) = false := beq_eq_false_iff_ne.2 (fun e => hcm (by
            apply ByteArray.ext
            rw [← Array.toList_inj]
            have := congrArg id e
            rwa [ByteArray.toList_eq, ByteArray.toList_eq] at this))
          have HFIN := Lib.hid (hnil.out (fun h => hcm h.1))
          clear hcm
          go_wp2_with (go_at_call 47; refine hde.out.mono ?_)
          first | rintro e w3 rfl hb3' | rintro e w3 ⟨rfl, hb3'⟩
          have HEND := Lib.hid (HFIN.out w3 (HBL.out.trans (hb3'.mono HBL.out.size)))
          clear hb3' hde
          go_wp2_with fail
          go_ret2
          exact HEND.out
end Go.Proofs.YtbpaiiljhdohfaaDoor
