/- Three lists: what stays of each side. -/
import Derived.Test.YtjdlpcokjcmapaaBd
import Derived.Test.YtjdlpcokjcmapaaS
set_option linter.unusedVariables false
set_option linter.unusedSimpArgs false
namespace Go.Proofs.Ytjdlpcokjcmapaa
open Go.RowKit Go.Maps Go.WideShapes
variable {w w' : World}

theorem own_texts2 {B : Nat} {v : Value} {l : List ByteArray} {e : TypeId} (h : w.ownsRow B e 1 v l.length (strV l)) (hs : ∀ s ∈ l, s.size ≤ maxLen) : ∃ a cap, v = .slice a l.length cap ∧ TxAt w a l ∧ l.length ≤ cap ∧ ∀ b i, a = some ⟨b, i, none⟩ → B ≤ b := by
  obtain ⟨a, cap, rfl, h1, h2⟩ := own_texts h hs
  refine ⟨a, cap, rfl, h1, ?_, h2⟩
  rcases h.2 with ⟨hv, h0⟩ | ⟨g, c', cur, hv, _, _, hn, _⟩
  · omega
  · injection hv with _ _ hv; rw [hv]; exact hn
theorem tx_small {o : Option Addr} {l : List ByteArray} (h : TxAt w o l) : ∀ s ∈ l, s.size ≤ maxLen := fun s hs => by
  obtain ⟨k, hk⟩ := List.getElem?_of_mem hs
  exact (tx_at h hk).1
theorem Clone_at (o : Option Addr) (l : List ByteArray) (c : Nat) (w : World) (hl : l.length ≤ 1000000) (h : TxAt w o l) :
    Calls Try.prog 21 #[.slice o l.length c] w fun e w' => ∃ v, e = .returned v ∧ w'.ownsRow w.heap.size 9 1 v l.length (strV l) ∧ Below w.heap.size w w' := by
  by_cases h0 : 0 < l.length
  · obtain ⟨_, b, i, rfl, _⟩ := h 0 h0
    refine (Try.slices_Clone_string b i l.length c l w (Nat.le_refl _) (by omega) (fun j hj => by
      obtain ⟨_, b', i', ho, hc⟩ := h j hj
      injection ho with ho; injection ho with e1 e2; subst e1 e2
      exact hc)).mono ?_
    rintro e w' ⟨v, rfl, h1, _, h2⟩
    exact ⟨v, rfl, by rw [List.take_length] at h1; exact h1, h2⟩
  · have hz : l = [] := List.length_eq_zero_iff.1 (by omega)
    subst hz
    cases o with
    | none =>
      refine (Try.slices_Clone_string_nil 0 c w).mono ?_
      rintro e w' ⟨rfl, rfl⟩
      exact ⟨_, rfl, World.ownsRow_nil _ _ _ _, Below.refl _ _⟩
    | some a =>
      refine (Try.slices_Clone_string_zero a c w).mono ?_
      rintro e w' ⟨v, rfl, h1, _, h2⟩
      exact ⟨v, rfl, h1, h2⟩
set_option maxHeartbeats 1000000 in
set_option maxRecDepth 100000 in
theorem Delete0_any (o : Option Addr) (cap : Nat) (f : Value) (w : World) :
    Calls Try.prog 36 #[.slice o 0 cap, f] w fun e w' => e = .returned (.slice o 0 cap) ∧ w' = w := by
  have HI : Hid (∀ W, Calls Try.prog 43 #[.slice o 0 cap, f] W fun e w' => e = .returned (.int .i64 (-1)) ∧ w' = W) := Lib.hid (fun W => by
    go_enter Try.func43, Try.ntmps43
    go_wp2_with fail
    go_loopw [8] (fun i wr => i = .int .i64 0 ∧ wr = W) (fun i _ => 0)
    case atStart => exact ⟨rfl, rfl⟩
    case round =>
      obtain ⟨rfl, rfl⟩ := hrel
      go_wp2_with fail
      go_ret
      exact ⟨rfl, rfl⟩)
  go_enter Try.func36, Try.ntmps36
  go_wp2_with (go_at_call 43; refine (HI.out _).mono ?_; rintro e w1 ⟨rfl, rfl⟩)
  go_ret
  exact ⟨rfl, rfl⟩
/-- What is dropped: of base, and not of the other side. -/
def goP (B O : ByteArray → Bool) (s : ByteArray) : Bool := B s && !O s
set_option maxHeartbeats 1000000 in
set_option maxRecDepth 100000 in
theorem stay1_any (x : ByteArray) (c1 c2 b1 b2 : Nat) (P1 P2 : ByteArray → Bool) (w : World) (hx : x.size ≤ maxLen) (h1 : w.cell? ⟨c1, 0, none⟩ = some (.map (some b1))) (h2 : w.cell? ⟨c2, 0, none⟩ = some (.map (some b2))) (r1 : IsRs b1 P1 w) (r2 : IsRs b2 P2 w) :
    Calls Try.prog 37 #[.string x, ptr c1, ptr c2] w fun e w' => e = .returned (.bool (goP P1 P2 x)) ∧ Below w.heap.size w w' := by
  have H1 := Lib.hid (has_any b1 P1 x w hx r1)
  have H2 : Hid (∀ W, Below w.heap.size w W → Calls Try.prog 33 #[.map (some b2), .string x] W fun e w' => e = .returned (.bool (P2 x)) ∧ Below W.heap.size W w') := Lib.hid (fun W hW => has_any b2 P2 x W hx (r2.below hW))
  have HC2 := Lib.hid h2
  obtain ⟨y, hy⟩ : ∃ y, P1 x = y := ⟨_, rfl⟩
  obtain ⟨z, hz⟩ : ∃ z, P2 x = z := ⟨_, rfl⟩
  have HG : Hid (goP P1 P2 x = (y && !z)) := Lib.hid (by unfold goP; rw [hy, hz])
  rw [hy] at H1
  rw [hz] at H2
  clear h2 r1 r2 hy hz
  cases y with
  | true =>
    go_enter Try.func37, Try.ntmps37
    go_wp2_with (first
      | (go_at_call 33; (with_reducible refine H1.out.mono ?_); rintro e w2 ⟨rfl, hb⟩; have h2 := (hb.cell (World.block_lt_of_cell? _ _ HC2.out)).trans HC2.out; have HB := Lib.hid hb; clear hb H1)
      | (go_at_call 33; refine (H2.out _ HB.out).mono ?_; rintro e w3 ⟨rfl, hb3⟩; have HB3 := Lib.hid (HB.out.trans (hb3.mono HB.out.size)); clear hb3))
    go_ret
    exact ⟨by rw [HG.out]; rfl, HB3.out⟩
  | false =>
    go_enter Try.func37, Try.ntmps37
    go_wp2_with (go_at_call 33; (with_reducible refine H1.out.mono ?_); rintro e w2 ⟨rfl, hb⟩; have HB := Lib.hid hb; clear hb)
    go_ret
    exact ⟨by rw [HG.out]; rfl, HB.out⟩
/-- What stays of L, where the other side is O. -/
def stayL (B O L : List ByteArray) : List ByteArray := keepL (goP (inB B) (inB O)) L
theorem stay_len (B O L : List ByteArray) : (stayL B O L).length ≤ L.length := keep_len _ _
theorem stay_mem {B O L : List ByteArray} {s : ByteArray} (h : s ∈ stayL B O L) : s ∈ L := (List.mem_filter.1 h).1
theorem below_of_grown {g : Nat} {B : Nat} {a : World} (ha : Below B a w) (h : w.grownBy w' (some g)) (hB : B ≤ w.heap.size) (hg : B ≤ g) : Below B a w' := ha.grown h hB (fun k hk => by injection hk with hk; omega)
set_option maxHeartbeats 2000000 in
set_option maxRecDepth 100000 in
theorem staying_any (oL oO : Option Addr) (L O : List ByteArray) (cL cO c1 b1 : Nat) (P1 : ByteArray → Bool) (w : World) (hlL : L.length ≤ 1000000) (hlO : O.length ≤ 1000000) (hL : TxAt w oL L) (hO : TxAt w oO O) (h1 : w.cell? ⟨c1, 0, none⟩ = some (.map (some b1))) (r1 : IsRs b1 P1 w) :
    Calls Try.prog 35 #[.slice oL L.length cL, .slice oO O.length cO, ptr c1] w fun e w' => ∃ v, e = .returned v ∧ w'.ownsRow w.heap.size 9 1 v (keepL (goP P1 (inB O)) L).length (strV (keepL (goP P1 (inB O)) L)) ∧ Below w.heap.size w w' := by
  have HS := Lib.hid (setOf_any oO O cO w hlO hO)
  have HCL : Hid (∀ W, Below w.heap.size w W → Calls Try.prog 21 #[.slice oL L.length cL] W fun e w' => ∃ v, e = .returned v ∧ w'.ownsRow W.heap.size 9 1 v L.length (strV L) ∧ Below W.heap.size W w') := Lib.hid (fun W hW => Clone_at oL L cL W hlL (hL.below hW))
  have HSZ := Lib.hid (tx_small hL)
  have HC1 := Lib.hid h1; have HR1 := Lib.hid r1
  obtain ⟨nL, hnL⟩ : ∃ n, L.length = n := ⟨_, rfl⟩
  obtain ⟨nO, hnO⟩ : ∃ n, O.length = n := ⟨_, rfl⟩
  rw [hnL] at hlL HCL ⊢
  rw [hnO] at HS ⊢
  have HNL := Lib.hid hnL
  clear hL hO h1 r1 hnL hnO hlO
  go_enter Try.func35, Try.ntmps35
  go_wp2_with (first
    | (go_at_call 30; (with_reducible refine HS.out.mono ?_); rintro e w2 ⟨rfl, hst, hb⟩; have HB2 := Lib.hid hb; have HST := Lib.hid hst.rs; clear hst hb)
    | (go_at_call 21; refine (HCL.out _ (HB2.out.alloc HB2.out.size _)).mono ?_))
  rintro e w3 ⟨v, rfl, hrow, hb3⟩
  obtain ⟨c2, hc2⟩ : ∃ c, w2.heap.size = c := ⟨_, rfl⟩
  have hBx := HB2.out.alloc HB2.out.size (.cells #[.map (some w.heap.size)] 59)
  have hbx : (w2.alloc (.cells #[.map (some w.heap.size)] 59)).heap[c2]? = some (.cells #[.map (some w.heap.size)] 59 (0, 0)) := by rw [← hc2]; exact World.alloc_heap_new w2 _
  have hr2 : IsRs w.heap.size (inB (setL O)) (w2.alloc (.cells #[.map (some w.heap.size)] 59)) := HST.out.keep (Lib.alloc_old w2 _ _ HST.out.lt)
  have hsz : (w2.alloc (.cells #[.map (some w.heap.size)] 59)).heap.size = c2 + 1 := by rw [← hc2]; simp
  rw [hc2]
  generalize w2.alloc (.cells #[.map (some w.heap.size)] 59) = W2 at hBx hbx hr2 hsz hrow hb3
  have hc2w : w.heap.size ≤ c2 := by rw [← hc2]; exact HB2.out.size
  have hB3 := hBx.trans (hb3.mono hBx.size)
  have k1 : ∀ W r, w3.grownBy W r → (∀ g, r = some g → W2.heap.size ≤ g) → W.cell? ⟨c1, 0, none⟩ = some (.map (some b1)) := fun W r hW hg => by
    have h0 := World.block_lt_of_cell? _ _ HC1.out
    have h0' : c1 < w.heap.size := h0
    rw [cell_keep (hW.block c1 (Nat.lt_of_lt_of_le h0' hB3.size) (fun e => by have := hg c1 e.symm; omega))]
    exact (hB3.cell h0').trans HC1.out
  have k2 : ∀ W r, w3.grownBy W r → (∀ g, r = some g → W2.heap.size ≤ g) → W.cell? ⟨c2, 0, none⟩ = some (.map (some w.heap.size)) := fun W r hW hg => by
    have h0 : c2 < W2.heap.size := by omega
    rw [cell_keep (hW.block c2 (Nat.lt_of_lt_of_le h0 hb3.size) (fun e => by have := hg c2 e.symm; omega))]
    rw [hb3.cell (p := ⟨c2, 0, none⟩) h0, cell_of_row hbx]; rfl
  have k3 : ∀ W r, w3.grownBy W r → (∀ g, r = some g → W2.heap.size ≤ g) → IsRs b1 P1 W := fun W r hW hg => by
    have h0 := HR1.out.lt
    exact (HR1.out.below hB3).keep (hW.block b1 (Nat.lt_of_lt_of_le h0 hB3.size) (fun e => by have := hg b1 e.symm; omega))
  have k4 : ∀ W r, w3.grownBy W r → (∀ g, r = some g → W2.heap.size ≤ g) → IsRs w.heap.size (inB (setL O)) W := fun W r hW hg => by
    have h0 := hr2.lt
    exact (hr2.below hb3).keep (hW.block _ (Nat.lt_of_lt_of_le h0 hb3.size) (fun e => by have := hg _ e.symm; omega))
  have hPe : goP P1 (inB (setL O)) = goP P1 (inB O) := by funext s; unfold goP; rw [set_in]
  have HB3 := Lib.hid hB3
  have HWS : Hid (w.heap.size ≤ W2.heap.size) := Lib.hid hBx.size
  rcases hrow.2 with ⟨hv, h0⟩ | ⟨g, cap, cur, hv, hgB, hgg, _⟩
  · subst hv
    subst h0
    have hLe : L = [] := List.length_eq_zero_iff.1 HNL.out
    subst hLe
    clear k1 k2 k3 k4 hbx hr2 hsz hBx hb3 hrow hB3
    go_wp2_with (go_at_call 36; refine (Delete0_any none 0 _ _).mono ?_; rintro e w4 ⟨rfl, rfl⟩)
    go_ret
    exact ⟨_, rfl, World.ownsRow_nil _ _ _ _, HB3.out⟩
  · subst hv
    have hD := Delete1_any (goP P1 (inB O)) W2.heap.size g cap c1 c2 L w3 (by rw [HNL.out]; exact hlL) HSZ.out (by rw [HNL.out]; exact hrow) (fun x hx W hW => by
      rw [← hPe]
      exact stay1_any x c1 c2 b1 w.heap.size P1 (inB (setL O)) W (HSZ.out x hx) (k1 W _ hW (fun _ e => by injection e with e; omega)) (k2 W _ hW (fun _ e => by injection e with e; omega)) (k3 W _ hW (fun _ e => by injection e with e; omega)) (k4 W _ hW (fun _ e => by injection e with e; omega)))
    rw [HNL.out] at hD
    have HD := Lib.hid hD
    have HGB := Lib.hid hgB
    clear k1 k2 k3 k4 hbx hr2 hsz hBx hb3 hrow hB3 hD hgg hgB
    go_wp2_with (go_at_call 36; refine HD.out.mono ?_; rintro e w4 ⟨rfl, hrow, hgr⟩; have HROW := Lib.hid hrow; have HGR := Lib.hid hgr; clear hrow hgr HD)
    go_ret
    exact ⟨_, rfl, own_lower HROW.out HWS.out, below_of_grown HB3.out HGR.out HB3.out.size (Nat.le_trans HWS.out HGB.out)⟩
set_option maxHeartbeats 2000000 in
set_option maxRecDepth 100000 in
theorem remaining_any (oB oO oT : Option Addr) (B O T : List ByteArray) (cB cO cT : Nat) (w : World) (hlB : B.length ≤ 1000000) (hlO : O.length ≤ 1000000) (hlT : T.length ≤ 1000000) (hB : TxAt w oB B) (hO : TxAt w oO O) (hT : TxAt w oT T) :
    Calls Try.prog 23 #[.slice oB B.length cB, .slice oO O.length cO, .slice oT T.length cT] w fun e w' => ∃ o1 x1 o2 x2, e = .returned (.tuple #[.slice o1 (stayL B T O).length x1, .slice o2 (stayL B O T).length x2]) ∧ TxAt w' o1 (stayL B T O) ∧ TxAt w' o2 (stayL B O T) ∧ (stayL B T O).length ≤ x1 ∧ (stayL B O T).length ≤ x2 ∧ Below w.heap.size w w' := by
  have HS := Lib.hid (setOf_any oB B cB w hlB hB)
  have HY1 : Hid (∀ c1 W, Below w.heap.size w W → W.cell? ⟨c1, 0, none⟩ = some (.map (some w.heap.size)) → IsRs w.heap.size (inB (setL B)) W → Calls Try.prog 35 #[.slice oO O.length cO, .slice oT T.length cT, ptr c1] W fun e w' => ∃ v, e = .returned v ∧ w'.ownsRow W.heap.size 9 1 v (stayL B T O).length (strV (stayL B T O)) ∧ Below W.heap.size W w') := Lib.hid (fun c1 W hW h1 h2 => by
    have h := staying_any oO oT O T cO cT c1 w.heap.size (inB (setL B)) W hlO hlT (hO.below hW) (hT.below hW) h1 h2
    rw [show inB (setL B) = inB B from funext (set_in B)] at h
    exact h)
  have HY2 : Hid (∀ c1 W, Below w.heap.size w W → W.cell? ⟨c1, 0, none⟩ = some (.map (some w.heap.size)) → IsRs w.heap.size (inB (setL B)) W → Calls Try.prog 35 #[.slice oT T.length cT, .slice oO O.length cO, ptr c1] W fun e w' => ∃ v, e = .returned v ∧ w'.ownsRow W.heap.size 9 1 v (stayL B O T).length (strV (stayL B O T)) ∧ Below W.heap.size W w') := Lib.hid (fun c1 W hW h1 h2 => by
    have h := staying_any oT oO T O cT cO c1 w.heap.size (inB (setL B)) W hlT hlO (hT.below hW) (hO.below hW) h1 h2
    rw [show inB (setL B) = inB B from funext (set_in B)] at h
    exact h)
  have HZ1 : Hid (∀ s ∈ stayL B T O, s.size ≤ maxLen) := Lib.hid fun s hs => tx_small hO s (stay_mem hs)
  have HZ2 : Hid (∀ s ∈ stayL B O T, s.size ≤ maxLen) := Lib.hid fun s hs => tx_small hT s (stay_mem hs)
  obtain ⟨nB, hnB⟩ : ∃ n, B.length = n := ⟨_, rfl⟩
  obtain ⟨nO, hnO⟩ : ∃ n, O.length = n := ⟨_, rfl⟩
  obtain ⟨nT, hnT⟩ : ∃ n, T.length = n := ⟨_, rfl⟩
  rw [hnO, hnT] at HY1; rw [hnO, hnT] at HY2; rw [hnB] at HS
  rw [hnB, hnO, hnT]
  clear hnB hnO hnT hlB hlO hlT hB hO hT
  go_enter Try.func23, Try.ntmps23
  go_wp2_with (go_at_call 30; (with_reducible refine HS.out.mono ?_); rintro e w2 ⟨rfl, hst, hb⟩; have HB2 := Lib.hid hb; have HST := Lib.hid hst.rs; clear hst hb)
  have hBx := HB2.out.alloc HB2.out.size (.cells #[.map (some w.heap.size)] 59)
  have hbx : (w2.alloc (.cells #[.map (some w.heap.size)] 59)).heap[w2.heap.size]? = some (.cells #[.map (some w.heap.size)] 59 (0, 0)) := World.alloc_heap_new w2 _
  have hr2 : IsRs w.heap.size (inB (setL B)) (w2.alloc (.cells #[.map (some w.heap.size)] 59)) := HST.out.keep (Lib.alloc_old w2 _ _ HST.out.lt)
  generalize w2.alloc (.cells #[.map (some w.heap.size)] 59) = W2 at hBx hbx hr2 ⊢
  obtain ⟨c2, hc2⟩ : ∃ c, w2.heap.size = c := ⟨_, rfl⟩
  rw [hc2] at hbx ⊢
  have hcx : W2.cell? ⟨c2, 0, none⟩ = some (.map (some w.heap.size)) := by rw [cell_of_row hbx]; rfl
  refine (HY1.out c2 W2 hBx hcx hr2).mono ?_
  rintro e w3 ⟨v1, rfl, row1, hb3⟩
  have HB3 := Lib.hid (hBx.trans (hb3.mono hBx.size))
  have hcx3 := (hb3.cell (World.block_lt_of_cell? _ _ hcx)).trans hcx
  have hr3 := hr2.below hb3
  have HY3 := Lib.hid (HY2.out c2 w3 HB3.out hcx3 hr3)
  have HR1 := Lib.hid row1
  clear hBx hbx hr2 hcx hb3 row1 hcx3 hr3 hc2 HY1 HY2
  go_wp2_with (go_at_call 35; refine HY3.out.mono ?_; rintro e w4 ⟨v2, rfl, row2, hb4⟩; have HB4 := Lib.hid (HB3.out.trans (hb4.mono HB3.out.size)); have HR2 := Lib.hid row2; have HR1' := Lib.hid (own_below HR1.out hb4); clear row2 hb4 HY3)
  refine bodyPost_ret (v := .tuple #[v1, v2]) (by simp [results, Try.results23, go_sem]) rfl ?_
  obtain ⟨o1, x1, rfl, t1, l1, _⟩ := own_texts2 HR1'.out HZ1.out
  obtain ⟨o2, x2, rfl, t2, l2, _⟩ := own_texts2 HR2.out HZ2.out
  exact ⟨o1, x1, o2, x2, rfl, t1, t2, l1, l2, HB4.out⟩
end Go.Proofs.Ytjdlpcokjcmapaa
