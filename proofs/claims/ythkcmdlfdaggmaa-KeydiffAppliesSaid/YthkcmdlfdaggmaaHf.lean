/- Keyed lists: the keys of maps, sorted, each once. -/
import Derived.Test.YthkcmdlfdaggmaaHe
import Derived.Test.YthkcmdlfdaggmaaS
import Derived.Sort.OwnSorted
set_option linter.unusedVariables false
set_option linter.unusedSimpArgs false
namespace Go.Proofs.Ythkcmdlfdaggmaa
open Go.RowKit Go.Maps Go.Sort
variable {w w' : World}

theorem mem_compactUpTo (d : Array (List UInt8)) : ∀ (m : Nat) (x : List UInt8), x ∈ Lib.compactUpTo d m ↔ ∃ j, j < m ∧ d[j]! = x
  | 0, x => by simp [Lib.compactUpTo]
  | m + 1, x => by
    rw [Lib.compactUpTo_succ, List.mem_append, mem_compactUpTo d m x]
    constructor
    · rintro (⟨j, hj, e⟩ | h)
      · exact ⟨j, by omega, e⟩
      · split at h
        · simp at h; exact ⟨m, by omega, h.symm⟩
        · simp at h
    · rintro ⟨j, hj, e⟩
      by_cases hjm : j = m
      · subst hjm
        by_cases hk : Lib.keeps d j = true
        · rw [if_pos hk]; right; simp [e]
        · left
          have h1 : j ≠ 0 ∧ d[j]! = d[j - 1]! := by
            unfold Lib.keeps at hk
            simp only [decide_eq_true_eq, not_or, Classical.not_not] at hk
            exact hk
          exact ⟨j - 1, by omega, by rw [← h1.2]; exact e⟩
      · exact .inl ⟨j, by omega, e⟩
theorem lt_compactUpTo (d : Array (List UInt8)) (N : Nat) (hs : ∀ i j, i ≤ j → j < N → d[i]! ≤ d[j]!) : ∀ m, m ≤ N → (Lib.compactUpTo d m).Pairwise (fun x y => x < y)
  | 0, _ => by simp [Lib.compactUpTo]
  | m + 1, hm => by
    rw [Lib.compactUpTo_succ]
    refine List.pairwise_append.2 ⟨lt_compactUpTo d N hs m (by omega), by split <;> simp, fun x hx y hy => ?_⟩
    split at hy
    · rename_i hk
      simp at hy; subst hy
      obtain ⟨j, hj, rfl⟩ := (mem_compactUpTo d m x).1 hx
      have h1 := hs j m (by omega) (by omega)
      have h2 : m = 0 ∨ d[m]! ≠ d[m - 1]! := by unfold Lib.keeps at hk; simpa using hk
      refine Classical.byContradiction fun hn => ?_
      have h3 : d[m]! ≤ d[j]! := List.not_lt.1 hn
      rcases h2 with h2 | h2
      · omega
      · exact h2 (List.le_antisymm (List.le_trans h3 (hs j (m - 1) (by omega) (by omega))) (hs (m - 1) m (by omega) (by omega)))
    · simp at hy
def ofB (x : List UInt8) : ByteArray := ⟨x.toArray⟩
theorem ofB_toList (x : List UInt8) : (ofB x).toList = x := by rw [ByteArray.toList_eq]; simp [ofB]
theorem ofB_data (s : ByteArray) : ofB s.data.toList = s := by simp [ofB]
theorem encStr_of (x : List UInt8) : encStr x = .string (ofB x) := rfl
theorem enc_of (L : List (List UInt8)) : L.map encStr = strV (L.map ofB) := by unfold strV; rw [List.map_map]; rfl
/-- What sorting and dropping repeats comes to. -/
theorem sorted_keys {X : List (List UInt8)} {KS : List ByteArray} (h : ∀ x, x ∈ X ↔ ofB x ∈ KS) : (Lib.compact (X.mergeSort fun x y => decide (x ≤ y))).map ofB = keyL KS := by
  have tr : ∀ a b c : List UInt8, decide (a ≤ b) = true → decide (b ≤ c) = true → decide (a ≤ c) = true := fun a b c h1 h2 => by simp only [decide_eq_true_eq] at *; exact List.le_trans h1 h2
  have to : ∀ a b : List UInt8, (decide (a ≤ b) || decide (b ≤ a)) = true := fun a b => by simp only [Bool.or_eq_true, decide_eq_true_eq]; exact List.le_total a b
  have hp := List.pairwise_mergeSort tr to X
  obtain ⟨Z, hZ⟩ : ∃ Z, X.mergeSort (fun x y => decide (x ≤ y)) = Z := ⟨_, rfl⟩
  have hm : ∀ x, x ∈ Z ↔ x ∈ X := fun x => by rw [← hZ]; exact List.mem_mergeSort
  rw [hZ] at hp ⊢
  have hget : ∀ j, (hj : j < Z.length) → Z.toArray[j]! = Z[j] := fun j hj => by simp [hj]
  have hs : ∀ i j, i ≤ j → j < Z.length → Z.toArray[i]! ≤ Z.toArray[j]! := fun i j hij hj => by
    by_cases e : i = j
    · subst e; exact List.le_refl _
    · rw [hget i (by omega), hget j hj]
      have := List.pairwise_iff_getElem.1 hp i j (by omega) hj (by omega)
      simpa using this
  refine keyL_of_asc ?_ fun s => ?_
  · unfold Lib.compact
    refine List.pairwise_map.2 ((lt_compactUpTo Z.toArray Z.length hs Z.length (Nat.le_refl _)).imp fun {a b} hab => ?_)
    rw [ltB_iff, ofB_toList, ofB_toList]; exact hab
  · rw [List.mem_map]
    constructor
    · rintro ⟨x, hx, rfl⟩
      unfold Lib.compact at hx
      obtain ⟨j, hj, rfl⟩ := (mem_compactUpTo _ _ _).1 hx
      rw [← h, ← hm, hget j hj]
      exact List.getElem_mem hj
    · intro hs'
      have hx : s.data.toList ∈ Z := by rw [hm, h, ofB_data]; exact hs'
      obtain ⟨j, hj, e⟩ := List.getElem_of_mem hx
      refine ⟨s.data.toList, ?_, ofB_data s⟩
      unfold Lib.compact
      exact (mem_compactUpTo _ _ _).2 ⟨j, hj, by rw [hget j hj]; exact e⟩
theorem compact_len (Z : List (List UInt8)) : (Lib.compact Z).length ≤ Z.length := by
  unfold Lib.compact Lib.compactUpTo
  rw [List.length_map]
  exact Nat.le_trans (List.length_filter_le _ _) (by simp)
theorem own_cut {B g n m cap : Nat} {e : TypeId} {xs : List Value} (h : w.ownsRow B e 1 (.slice (some ⟨g, 0, none⟩) n cap) n xs) (hm : m ≤ n) : w.ownsRow B e 1 (.slice (some ⟨g, 0, none⟩) m cap) m (xs.take m) := by
  obtain ⟨h1, h2⟩ := h
  refine ⟨by rw [List.length_take]; omega, ?_⟩
  rcases h2 with ⟨hv, h0⟩ | ⟨g', cap', cur, hv, hB, hg, hn, hc, hz, ht⟩
  · cases hv
  · injection hv with e1 e2 e3
    injection e1 with e1
    have e1 : g = g' := congrArg Addr.block e1
    subst e1 e3
    refine .inr ⟨g, cap, cur, rfl, hB, hg, by omega, hc, hz, ?_⟩
    rw [← ht, List.take_take, Nat.min_eq_left (by omega), Nat.mul_one]
/-- A row of maps lies in memory. -/
abbrev MpB := Nat × Nat × List ByteArray × (ByteArray → SdB)
def MpAt (w : World) (o : Option Addr) (L : List MpB) : Prop :=
  ∀ k p, L[k]? = some p → IsSd p.1 p.2.1 p.2.2.1 p.2.2.2 w ∧ p.2.2.1.length ≤ 1000000 ∧ (∀ s ∈ p.2.2.1, s.size ≤ maxLen) ∧ ∃ b, o = some ⟨b, 0, none⟩ ∧ w.cell? ⟨b, k, none⟩ = some (.map (some p.1))
theorem MpAt.below {o : Option Addr} {L : List MpB} (h : MpAt w o L) (hb : Below w.heap.size w w') : MpAt w' o L := fun k p hk => by
  obtain ⟨h1, h2, h5, b, h3, h4⟩ := h k p hk
  exact ⟨h1.below hb, h2, h5, b, h3, (hb.cell (World.block_lt_of_cell? w _ h4)).trans h4⟩
abbrev mpKs (L : List MpB) : List ByteArray := L.flatMap fun p => p.2.2.1
theorem mpKs_len {L : List MpB} (h : ∀ p ∈ L, p.2.2.1.length ≤ 1000000) : (mpKs L).length ≤ L.length * 1000000 := by
  induction L with
  | nil => simp
  | cons p L ih =>
    rw [mpKs, List.flatMap_cons, List.length_append, List.length_cons]
    have h1 := h p (List.mem_cons_self ..)
    have h2 := ih fun q hq => h q (List.mem_cons_of_mem _ hq)
    rw [mpKs] at h2
    omega
def KyS (L : List MpB) (w : World) (v i : Value) (wr : World) : Prop :=
  ∃ (k : Nat) (X : List (List UInt8)), k ≤ L.length ∧ i = .int .i64 k ∧ wr.ownsRow w.heap.size 9 1 v X.length (X.map encStr) ∧ (∀ x, x ∈ X ↔ ofB x ∈ mpKs (L.take k)) ∧ X.length ≤ k * 1000000 ∧ Below w.heap.size w wr
theorem KyS.more {L : List MpB} {w w1 : World} {k : Nat} {X ss : List (List UInt8)} {p : MpB} {v : Value} {D : DataW Unit} (hp : L[k]? = some p) (hm : ∀ x, x ∈ X ↔ ofB x ∈ mpKs (L.take k)) (hx : X.length ≤ k * 1000000) (hb : Below w.heap.size w w1)
    (hs : AllK D ss) (hD : SdD p.2.2.1 p.2.2.2 D) (hl : ss.length ≤ 1000000) (hz : ∀ s ∈ p.2.2.1, s.size ≤ maxLen) (hr : w1.ownsRow w.heap.size 9 1 v (X ++ ss).length ((X ++ ss).map encStr)) : KyS L w v (.int .i64 (k + 1 : Nat)) w1 := by
  refine ⟨k + 1, X ++ ss, (List.getElem?_eq_some_iff.1 hp).1, rfl, hr, fun x => ?_, by rw [List.length_append]; omega, hb⟩
  rw [take_get hp, mpKs, List.flatMap_append, List.mem_append, List.mem_append, hm x]
  simp only [List.flatMap_cons, List.flatMap_nil, List.append_nil]
  have hkey : x ∈ ss ↔ ofB x ∈ p.2.2.1 := by
    constructor
    · intro h
      have h1 := (hs.2.1 x).1 h
      have h2 := hs.2.2 x h
      have h3 := (hD.2.2 (ofB x) (by show x.toArray.size ≤ _; simpa using h2)).1
      rw [show (ofB x).data.toList = x by simp [ofB]] at h3
      exact h3.1 h1
    · intro h
      have h3 := (hD.2.2 (ofB x) (hz _ h)).1
      rw [show (ofB x).data.toList = x by simp [ofB]] at h3
      exact (hs.2.1 x).2 (h3.2 h)
  rw [hkey]
theorem AllK.len {D : DataW Unit} {ss : List (List UInt8)} {ks : List ByteArray} {U : ByteArray → SdB} (h : AllK D ss) (hD : SdD ks U D) (hz : ∀ s ∈ ks, s.size ≤ maxLen) : ss.length ≤ ks.length := by
  have hsub : ∀ x ∈ ss.map ofB, x ∈ ks := fun x hx => by
    obtain ⟨y, hy, rfl⟩ := List.mem_map.1 hx
    have h1 := (h.2.1 y).1 hy
    have h2 := h.2.2 y hy
    have h3 := (hD.2.2 (ofB y) (by show y.toArray.size ≤ _; simpa using h2)).1
    rw [show (ofB y).data.toList = y by simp [ofB]] at h3
    exact h3.1 h1
  have hnd : (ss.map ofB).Nodup := List.pairwise_map.2 (h.1.imp fun {a b} hab e => hab (by have := congrArg ByteArray.toList e; rwa [ofB_toList, ofB_toList] at this))
  have := List.Nodup.length_le_of_subset hnd hsub
  simpa using this
set_option maxHeartbeats 4000000 in
set_option maxRecDepth 100000 in
theorem keys_any (o : Option Addr) (L : List MpB) (c : Nat) (w : World) (hl : L.length ≤ 10) (h : MpAt w o L) :
    Calls Try.prog 20 #[.slice o L.length c] w fun e w' => ∃ v, e = .returned v ∧ w'.ownsRow w.heap.size 9 1 v (keyL (mpKs L)).length (strV (keyL (mpKs L))) ∧ Below w.heap.size w w' := by
  obtain ⟨n, hn⟩ : ∃ n, L.length = n := ⟨_, rfl⟩
  have HN := Lib.hid hn; have HL := Lib.hid h
  have H0 : Hid (KyS L w (.slice none 0 0) (.int .i64 0) w) := Lib.hid ⟨0, [], Nat.zero_le _, rfl, World.ownsRow_nil _ _ _ _, fun x => by simp, by simp, Below.refl _ _⟩
  rw [hn] at hl ⊢
  clear hn h
  go_enter Try.func20, Try.ntmps20
  go_wp2_with fail
  go_loopw [3, 8] (fun v i wr => KyS L w v i wr) (fun _ i _ => n - (intOf i).toNat)
  case atStart => exact H0.out
  case round =>
    obtain ⟨k, X, hk, rfl, hrow, hm, hx, hb⟩ := hrel
    rw [HN.out] at hk
    have HROW := Lib.hid hrow; have HM := Lib.hid hm; have HX := Lib.hid hx; have HB := Lib.hid hb
    clear hrow hm hx hb H0
    by_cases hlt : k < n
    · obtain ⟨p, hp⟩ : ∃ p, L[k]? = some p := ⟨_, List.getElem?_eq_getElem (by rw [HN.out]; omega)⟩
      obtain ⟨h1, h2, h5, b0, ho, c0⟩ := (HL.out.below HB.out) k p hp
      subst ho
      have HP := Lib.hid hp; have HS := Lib.hid h1; have HZ := Lib.hid h5
      obtain ⟨m, nn, ks, U⟩ := p
      dsimp only at c0 h2 HS HZ
      obtain ⟨D, hD, hD2⟩ := HS.out
      have HD2 := Lib.hid hD2
      have HMK := Lib.hid (mKeys_any m wr)
      have hmw : (wr.alloc (.cells #[.map (some m)] 61)).cell? ⟨wr.heap.size, 0, none⟩ = some (.map (some m)) := cell_of_row (World.alloc_heap_new wr _)
      have hbw := (Below.refl wr.heap.size wr).alloc (Nat.le_refl _) (.cells #[.map (some m)] 61)
      have HA := Lib.hid (appSeq_any wr.heap.size m nn w.heap.size D u3 X (wr.alloc (.cells #[.map (some m)] 61)) (by have := HB.out.size; simp; omega) (by have := HX.out; have := hD2.2.1; omega) hmw (by obtain ⟨es, clock, hb, r⟩ := hD; exact ⟨es, clock, (hbw.block m (lt_of_some hb)).trans hb, r⟩) (own_below HROW.out hbw))
      have HBW := Lib.hid (HB.out.alloc HB.out.size (.cells #[.map (some m)] 61))
      obtain ⟨o3, c3, rfl⟩ := own_slice HROW.out
      clear hp h1 h5 hD hD2 hmw hbw
      go_wp2_with (first | (go_at_call 33; refine HMK.out.mono ?_; rintro e w1 ⟨rfl, rfl⟩) | (go_at_call 32; refine HA.out.mono ?_))
      first | rintro e w2 ⟨v, ss, rfl, hs, hr, hb2⟩ | rintro e w2 v ss rfl hs hr hb2
      have HK := Lib.hid (KyS.more HP.out HM.out HX.out (HBW.out.trans hb2) hs HD2.out (Nat.le_trans (hs.len HD2.out HZ.out) h2) HZ.out hr)
      clear hs hr hb2
      go_wp2_with fail
      go_roundw
      case rel => exact HK.out
      case measure => simp [intOf]; omega
    · obtain rfl : k = n := by omega
      have hX : ∀ x, x ∈ X ↔ ofB x ∈ mpKs L := fun x => by rw [HM.out x, List.take_of_length_le (by rw [HN.out]; exact Nat.le_refl _)]
      have HE := Lib.hid (sorted_keys hX)
      have hxb : X.length ≤ 10000000 := by have := HX.out; omega
      clear hX HM HX HN
      have hrow := HROW.out
      by_cases h0 : X.length = 0
      · obtain rfl : X = [] := List.length_eq_zero_iff.1 h0
        obtain ⟨o3, c3, rfl⟩ := own_slice hrow
        have hz : keyL (mpKs L) = [] := by rw [← HE.out]; simp [Lib.compact, Lib.compactUpTo]
        have HZ := Lib.hid hz
        have HS := Lib.hid (Try.slices_Sort_string_none o3 c3 wr)
        have HC := Lib.hid (Try.slices_Compact_string_empty o3 c3 wr)
        clear hz hrow HE h0
        go_wp2_with (first | (go_at_call 34; (with_reducible refine HS.out.mono ?_); rintro e w2 ⟨rfl, hw2⟩; have hw2 := hw2.symm; subst hw2) | (go_at_call 35; (with_reducible refine HC.out.mono ?_); rintro e w2 ⟨rfl, hw2⟩; have hw2 := hw2.symm; subst hw2))
        go_ret
        exact ⟨_, rfl, by rw [HZ.out]; exact HROW.out, HB.out⟩
      · rcases hrow.2 with ⟨hnil, h00⟩ | ⟨g, c1, cur, hv, hbase, hbk, h1, h2, h3, h4⟩
        · exact absurd h00 h0
        · subst hv
          have hg : g < wr.heap.size := lt_of_some hbk
          obtain ⟨Z, hZ⟩ : ∃ Z, X.mergeSort (fun x y => decide (x ≤ y)) = Z := ⟨_, rfl⟩
          have hzl : Z.length = X.length := by rw [← hZ]; simp
          have HS := Lib.hid (Try.slices_Sort_string g 0 c1 X wr (holds_of_block hbk (by simpa using h4)) hg (by omega))
          rw [hZ] at HS HE
          have hbk2 := fun m os => heap_sorted (n := m) (os := os) Z.toArray hbk
          have hcz : (putCells encStr 0 Z.toArray cur).toList.take Z.length = Z.map encStr := take_putCells cur Z (by omega)
          have HC : Hid (∀ m os, Calls Try.prog 35 #[.slice (some ⟨g, 0, none⟩) X.length c1] (grow (putRow encStr (Sort.ahead wr m) g 0 Z.toArray) os) fun e w' => e = .returned (.slice (some ⟨g, 0, none⟩) (Lib.compact Z).length c1) ∧ w'.ownsRow w.heap.size 9 1 (.slice (some ⟨g, 0, none⟩) (Lib.compact Z).length c1) (Lib.compact Z).length ((Lib.compact Z).map encStr) ∧ Below w.heap.size w w') := Lib.hid fun m os => by
            have h := Try.slices_Compact_string g 0 c1 Z (grow (putRow encStr (Sort.ahead wr m) g 0 Z.toArray) os) (holds_of_block (hbk2 m os) hcz) (by omega) (by omega)
            rw [hzl] at h
            refine h.mono ?_
            rintro e w2 ⟨rfl, q2, rfl⟩
            have hlen : (Lib.compact Z ++ List.replicate (X.length - (Lib.compact Z).length) []).length = X.length := by rw [List.length_append, List.length_replicate]; have := compact_len Z; omega
            have h5 := ownsRow_sorted (n := q2) (os := #[]) (base := w.heap.size) (ss := X) (ts := Lib.compact Z ++ List.replicate (X.length - (Lib.compact Z).length) []) hlen hbase (hbk2 m os) (by omega) h2 (by simp [putCells]; omega)
            have hgr : ∀ W : World, grow W #[] = W := fun W => by simp [grow]
            rw [hgr] at h5
            have h6 := own_cut h5 (m := (Lib.compact Z).length) (by have := compact_len Z; omega)
            refine ⟨rfl, ?_, ?_⟩
            · have e : (List.map encStr (Lib.compact Z ++ List.replicate (X.length - (Lib.compact Z).length) [])).take (Lib.compact Z).length = (Lib.compact Z).map encStr := by
                rw [encs_app, List.take_append_of_le_length (by simp), List.take_of_length_le (by simp)]
              rw [e] at h6; exact h6
            · have g1 := HB.out.grown (grownBy_sorted (w := wr) (g := g) (n := m) (os := os) Z.toArray) HB.out.size (fun j hj => by injection hj with hj; omega)
              have g2 := grownBy_sorted (w := grow (putRow encStr (Sort.ahead wr m) g 0 Z.toArray) os) (g := g) (n := q2) (os := #[]) (Lib.compact Z ++ List.replicate (X.length - (Lib.compact Z).length) []).toArray
              rw [hgr] at g2
              exact g1.grown g2 g1.size (fun j hj => by injection hj with hj; omega)
          have HEL : Hid ((Lib.compact Z).length = (keyL (mpKs L)).length) := Lib.hid (by rw [← HE.out, List.length_map])
          clear hrow hbk h1 h2 h3 h4 hbk2 hcz hzl hZ hxb
          go_wp2_with (first | (go_at_call 34; (with_reducible refine HS.out.mono ?_); rintro e w2 ⟨rfl, m, os, hw2⟩; subst hw2) | (go_at_call 35; (with_reducible refine (HC.out _ _).mono ?_)))
          first | rintro e w3 ⟨rfl, hr, hb3⟩ | rintro e w3 rfl hr hb3
          have HR3 := Lib.hid hr; have HB3 := Lib.hid hb3
          clear hr hb3
          go_wp2_with fail
          go_ret
          refine ⟨_, rfl, ?_, HB3.out⟩
          rw [← HEL.out, ← HE.out, ← enc_of]; exact HR3.out
end Go.Proofs.Ythkcmdlfdaggmaa
