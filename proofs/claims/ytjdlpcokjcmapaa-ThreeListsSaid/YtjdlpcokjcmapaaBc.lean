/- Three lists: what both sides agree on; is one of three lists such? -/
import Derived.Test.YtjdlpcokjcmapaaBb
set_option linter.unusedVariables false
set_option linter.unusedSimpArgs false
namespace Go.Proofs.Ytjdlpcokjcmapaa
open Go.RowKit
variable {w w' : World}

/-- What both sides agree on: the first, the second, or nothing. -/
def setV (B O T : List ByteArray) (vO vT : Value) : Value :=
  if O = T ∨ T = B then .tuple #[vO, .bool true] else if O = B then .tuple #[vT, .bool true] else .tuple #[.slice none 0 0, .bool false]
set_option maxHeartbeats 2000000 in
set_option maxRecDepth 100000 in
theorem settled_any (oB oO oT : Option Addr) (B O T : List ByteArray) (cB cO cT : Nat) (w : World) (hlB : B.length ≤ maxLen) (hlO : O.length ≤ maxLen) (hlT : T.length ≤ maxLen) (hB : TxAt w oB B) (hO : TxAt w oO O) (hT : TxAt w oT T) :
    Calls Try.prog 20 #[.slice oB B.length cB, .slice oO O.length cO, .slice oT T.length cT] w fun e w' => e = .returned (setV B O T (.slice oO O.length cO) (.slice oT T.length cT)) ∧ ∃ m, w' = w.drewN m := by
  have h1 := fun q => Equal_any oO oT O T cO cT (w.drewN q) hlO hlT (hO.below (below_drewN (Below.refl _ _) q)) (hT.below (below_drewN (Below.refl _ _) q))
  have h2 := fun q => Equal_any oT oB T B cT cB (w.drewN q) hlT hlB (hT.below (below_drewN (Below.refl _ _) q)) (hB.below (below_drewN (Below.refl _ _) q))
  have h3 := fun q => Equal_any oO oB O B cO cB (w.drewN q) hlO hlB (hO.below (below_drewN (Below.refl _ _) q)) (hB.below (below_drewN (Below.refl _ _) q))
  obtain ⟨x, hx⟩ : ∃ x, decide (O = T) = x := ⟨_, rfl⟩
  obtain ⟨y, hy⟩ : ∃ x, decide (T = B) = x := ⟨_, rfl⟩
  obtain ⟨z, hz⟩ : ∃ x, decide (O = B) = x := ⟨_, rfl⟩
  have HV : Hid (∀ u v, setV B O T u v = if x || y then .tuple #[u, .bool true] else if z then .tuple #[v, .bool true] else .tuple #[.slice none 0 0, .bool false]) := Lib.hid (fun u v => by
    unfold setV; rw [← hx, ← hy, ← hz]; simp)
  simp only [hx, hy, hz] at h1 h2 h3
  obtain ⟨nB, hnB⟩ : ∃ n, B.length = n := ⟨_, rfl⟩
  obtain ⟨nO, hnO⟩ : ∃ n, O.length = n := ⟨_, rfl⟩
  obtain ⟨nT, hnT⟩ : ∃ n, T.length = n := ⟨_, rfl⟩
  simp only [hnB, hnO, hnT] at h1 h2 h3 ⊢
  have H1 := Lib.hid h1; have H2 := Lib.hid h2; have H3 := Lib.hid h3
  have H0 : Hid (∃ q, w = w.drewN q) := Lib.hid ⟨0, rfl⟩
  clear h1 h2 h3 hx hy hz hnB hnO hnT hlB hlO hlT hB hO hT
  cases x with
  | true =>
    go_enter Try.func20, Try.ntmps20
    go_wp2_with (go_at_call 31; refine (show Calls _ _ _ w _ from H1.out 0).mono ?_; rintro e w2 ⟨rfl, q, hq⟩; have HQ := Lib.hid (show w2 = w.drewN q from hq); clear hq)
    exact bodyPost_ret (v := .tuple #[.slice oO nO cO, .bool true]) (by simp [results, Try.results20, go_sem]) rfl ⟨by rw [HV.out]; rfl, _, HQ.out⟩
  | false =>
    cases y with
    | true =>
      go_enter Try.func20, Try.ntmps20
      go_wp2_with (first
        | (clear H0; go_at_call 31; refine (show Calls _ _ _ w _ from H1.out 0).mono ?_; rintro e w2 ⟨rfl, q, rfl⟩)
        | (go_at_call 31; refine (H2.out _).mono ?_; rintro e w3 ⟨rfl, q2, hq⟩; have HQ := Lib.hid hq; clear hq))
      exact bodyPost_ret (v := .tuple #[.slice oO nO cO, .bool true]) (by simp [results, Try.results20, go_sem]) rfl ⟨by rw [HV.out]; rfl, _, by rw [HQ.out, World.drewN_drewN]⟩
    | false =>
      cases z with
      | true =>
        go_enter Try.func20, Try.ntmps20
        go_wp2_with (first
          | (clear H0; go_at_call 31; refine (show Calls _ _ _ w _ from H1.out 0).mono ?_; rintro e w2 ⟨rfl, q, rfl⟩)
          | (go_at_call 31; with_reducible refine (H2.out _).mono ?_; rintro e w3 ⟨rfl, q2, rfl⟩; clear H2; rw [World.drewN_drewN])
          | (go_at_call 31; refine (H3.out _).mono ?_; rintro e w4 ⟨rfl, q3, rfl⟩))
        exact bodyPost_ret (v := .tuple #[.slice oT nT cT, .bool true]) (by simp [results, Try.results20, go_sem]) rfl ⟨by rw [HV.out]; rfl, _, by first | rfl | rw [World.drewN_drewN]⟩
      | false =>
        go_enter Try.func20, Try.ntmps20
        go_wp2_with (first
          | (clear H0; go_at_call 31; refine (show Calls _ _ _ w _ from H1.out 0).mono ?_; rintro e w2 ⟨rfl, q, rfl⟩)
          | (go_at_call 31; with_reducible refine (H2.out _).mono ?_; rintro e w3 ⟨rfl, q2, rfl⟩; clear H2; rw [World.drewN_drewN])
          | (go_at_call 31; refine (H3.out _).mono ?_; rintro e w4 ⟨rfl, q3, rfl⟩))
        exact bodyPost_ret (v := .tuple #[.slice none 0 0, .bool false]) (by simp [results, Try.results20, go_sem]) rfl ⟨by rw [HV.out]; rfl, _, by first | rfl | rw [World.drewN_drewN]⟩
/-- A row of lists of items lies in memory. -/
def LsAt (w : World) (o : Option Addr) (L : List (Option Addr × List ByteArray × Nat)) : Prop :=
  ∀ k p, L[k]? = some p → p.2.1.length ≤ 1000000 ∧ TxAt w p.1 p.2.1 ∧ ∃ b, o = some ⟨b, 0, none⟩ ∧ w.cell? ⟨b, k, none⟩ = some (.slice p.1 p.2.1.length p.2.2)
theorem LsAt.below {o : Option Addr} {L : List (Option Addr × List ByteArray × Nat)} (h : LsAt w o L) (hb : Below w.heap.size w w') : LsAt w' o L := fun k p hk => by
  obtain ⟨h1, h2, b, h3, h4⟩ := h k p hk
  exact ⟨h1, h2.below hb, b, h3, (hb.cell (World.block_lt_of_cell? w _ h4)).trans h4⟩
theorem long_at (o : Option Addr) (l : List ByteArray) (c : Nat) (w : World) (hl : l.length ≤ 1000000) (h : TxAt w o l) :
    Calls Try.prog 18 #[.slice o l.length c] w fun e w' => e = .returned (.bool (decide (4096 < l.length))) ∧ Below w.heap.size w w' :=
  (long_any o l.length c w).mono fun e w' h => ⟨h.1, by rw [h.2]; exact Below.refl _ _⟩
set_option maxHeartbeats 2000000 in
theorem idxL_any (o : Option Addr) (L : List (Option Addr × List ByteArray × Nat)) (c : Nat) (w : World) (hl : L.length ≤ 1000) (h : LsAt w o L) :
    Calls Try.prog 41 #[.slice o L.length c, .func (.func 18) #[] #[]] w fun e w' => (∃ x : Int, e = .returned (.int .i64 x) ∧ (0 ≤ x ↔ ∃ p ∈ L, (decide (4096 < p.2.1.length)) = true)) ∧ Below w.heap.size w w' := by
  obtain ⟨n, hn⟩ : ∃ n, L.length = n := ⟨_, rfl⟩
  have HN := Lib.hid hn; have HL := Lib.hid h
  rw [hn] at hl ⊢
  clear hn h
  go_enter Try.func41, Try.ntmps41
  go_wp2_with fail
  go_loopw [8] (fun i wr => ∃ k : Nat, k ≤ n ∧ i = .int .i64 k ∧ (∀ p ∈ L.take k, (decide (4096 < p.2.1.length)) = false) ∧ Below w.heap.size w wr) (fun i _ => n - (intOf i).toNat)
  case atStart => exact ⟨0, Nat.zero_le _, rfl, fun p hp => by simp at hp, Below.refl _ _⟩
  case round =>
    obtain ⟨k, hk, rfl, hA, hb⟩ := hrel
    have HA := Lib.hid hA; have HB := Lib.hid hb
    clear hA
    by_cases hlt : k < n
    · obtain ⟨p, hp⟩ : ∃ p, L[k]? = some p := ⟨_, List.getElem?_eq_getElem (by rw [HN.out]; omega)⟩
      obtain ⟨h1, h2, b0, ho, c0⟩ := (HL.out.below HB.out) k p hp
      subst ho
      have HP := Lib.hid hp
      obtain ⟨op, q, cq⟩ := p
      dsimp only at h1 h2 c0
      have H := Lib.hid (long_at op q cq wr h1 h2)
      obtain ⟨m, hm⟩ : ∃ m, q.length = m := ⟨_, rfl⟩
      obtain ⟨y, hy⟩ : ∃ y, (decide (4096 < q.length)) = y := ⟨_, rfl⟩
      rw [hy] at H
      rw [hm] at c0 H
      have HY := Lib.hid hy
      clear hp h1 h2 hm hy
      cases y with
      | false =>
        go_wp2_with (go_at_call 18; (with_reducible refine H.out.mono ?_); rintro e w2 ⟨rfl, hb2⟩; have HB2 := Lib.hid (HB.out.trans (hb2.mono HB.out.size)); clear hb2)
        go_roundw
        case rel => exact ⟨k + 1, hlt, by go_num, fun p hp => by
          rw [take_get HP.out] at hp
          rcases List.mem_append.1 hp with hp | hp
          · exact HA.out p hp
          · simp at hp; subst hp; exact HY.out, HB2.out⟩
        case measure => simp [intOf]; omega
      | true =>
        go_wp2_with (go_at_call 18; (with_reducible refine H.out.mono ?_); rintro e w2 ⟨rfl, hb2⟩; have HB2 := Lib.hid (HB.out.trans (hb2.mono HB.out.size)); clear hb2)
        go_ret
        exact ⟨⟨k, rfl, fun _ => ⟨_, List.mem_of_getElem? HP.out, HY.out⟩, fun _ => by omega⟩, HB2.out⟩
    · obtain rfl : k = n := by omega
      have hall := HA.out
      rw [List.take_of_length_le (by rw [HN.out]; exact Nat.le_refl _)] at hall
      have HALL := Lib.hid hall
      clear hall
      go_wp2_with fail
      go_ret
      exact ⟨⟨-1, rfl, fun h => by omega, fun ⟨p, hp, hr⟩ => by rw [HALL.out p hp] at hr; cases hr⟩, HB.out⟩
theorem anyL_any (o : Option Addr) (L : List (Option Addr × List ByteArray × Nat)) (c : Nat) (w : World) (hl : L.length ≤ 1000) (h : LsAt w o L) :
    Calls Try.prog 29 #[.slice o L.length c, .func (.func 18) #[] #[]] w fun e w' => (∃ x : Bool, e = .returned (.bool x) ∧ (x = true ↔ ∃ p ∈ L, (decide (4096 < p.2.1.length)) = true)) ∧ Below w.heap.size w w' := by
  have H := Lib.hid (idxL_any o L c w hl h)
  clear h hl
  go_enter Try.func29, Try.ntmps29
  go_wp2_with (go_at_call 41; refine H.out.mono ?_)
  rintro e w2 ⟨⟨x, rfl, hx⟩, hb⟩
  have HB := Lib.hid hb
  have HX := Lib.hid hx
  clear hx hb
  go_wp2_with fail
  go_ret
  exact ⟨⟨_, rfl, by rw [decide_eq_true_iff]; exact HX.out⟩, HB.out⟩
theorem anyOfL_any (o : Option Addr) (L : List (Option Addr × List ByteArray × Nat)) (c : Nat) (w : World) (hl : L.length ≤ 1000) (h : LsAt w o L) :
    Calls Try.prog 17 #[.func (.func 18) #[] #[], .slice o L.length c] w fun e w' => (∃ x : Bool, e = .returned (.bool x) ∧ (x = true ↔ ∃ p ∈ L, (decide (4096 < p.2.1.length)) = true)) ∧ Below w.heap.size w w' := by
  have H := Lib.hid (anyL_any o L c w hl h)
  clear h hl
  go_enter Try.func17, Try.ntmps17
  go_wp2_with (go_at_call 29; refine H.out.mono ?_)
  rintro e w2 ⟨⟨x, rfl, hx⟩, hb⟩
  have HB := Lib.hid hb
  have HX := Lib.hid hx
  clear hx hb
  go_wp2_with fail
  go_ret
  exact ⟨⟨_, rfl, HX.out⟩, HB.out⟩
set_option maxHeartbeats 2000000 in
theorem idxR_any (o : Option Addr) (L : List (Option Addr × List ByteArray × Nat)) (c : Nat) (w : World) (hl : L.length ≤ 1000) (h : LsAt w o L) :
    Calls Try.prog 41 #[.slice o L.length c, .func (.func 19) #[] #[]] w fun e w' => (∃ x : Int, e = .returned (.int .i64 x) ∧ (0 ≤ x ↔ ∃ p ∈ L, (!decide p.2.1.Nodup) = true)) ∧ Below w.heap.size w w' := by
  obtain ⟨n, hn⟩ : ∃ n, L.length = n := ⟨_, rfl⟩
  have HN := Lib.hid hn; have HL := Lib.hid h
  rw [hn] at hl ⊢
  clear hn h
  go_enter Try.func41, Try.ntmps41
  go_wp2_with fail
  go_loopw [8] (fun i wr => ∃ k : Nat, k ≤ n ∧ i = .int .i64 k ∧ (∀ p ∈ L.take k, (!decide p.2.1.Nodup) = false) ∧ Below w.heap.size w wr) (fun i _ => n - (intOf i).toNat)
  case atStart => exact ⟨0, Nat.zero_le _, rfl, fun p hp => by simp at hp, Below.refl _ _⟩
  case round =>
    obtain ⟨k, hk, rfl, hA, hb⟩ := hrel
    have HA := Lib.hid hA; have HB := Lib.hid hb
    clear hA
    by_cases hlt : k < n
    · obtain ⟨p, hp⟩ : ∃ p, L[k]? = some p := ⟨_, List.getElem?_eq_getElem (by rw [HN.out]; omega)⟩
      obtain ⟨h1, h2, b0, ho, c0⟩ := (HL.out.below HB.out) k p hp
      subst ho
      have HP := Lib.hid hp
      obtain ⟨op, q, cq⟩ := p
      dsimp only at h1 h2 c0
      have H := Lib.hid (repeats_any op q cq wr h1 h2)
      obtain ⟨m, hm⟩ : ∃ m, q.length = m := ⟨_, rfl⟩
      obtain ⟨y, hy⟩ : ∃ y, (!decide q.Nodup) = y := ⟨_, rfl⟩
      rw [hy] at H
      rw [hm] at c0 H
      have HY := Lib.hid hy
      clear hp h1 h2 hm hy
      cases y with
      | false =>
        go_wp2_with (go_at_call 19; (with_reducible refine H.out.mono ?_); rintro e w2 ⟨rfl, hb2⟩; have HB2 := Lib.hid (HB.out.trans (hb2.mono HB.out.size)); clear hb2)
        go_roundw
        case rel => exact ⟨k + 1, hlt, by go_num, fun p hp => by
          rw [take_get HP.out] at hp
          rcases List.mem_append.1 hp with hp | hp
          · exact HA.out p hp
          · simp at hp; subst hp; exact HY.out, HB2.out⟩
        case measure => simp [intOf]; omega
      | true =>
        go_wp2_with (go_at_call 19; (with_reducible refine H.out.mono ?_); rintro e w2 ⟨rfl, hb2⟩; have HB2 := Lib.hid (HB.out.trans (hb2.mono HB.out.size)); clear hb2)
        go_ret
        exact ⟨⟨k, rfl, fun _ => ⟨_, List.mem_of_getElem? HP.out, HY.out⟩, fun _ => by omega⟩, HB2.out⟩
    · obtain rfl : k = n := by omega
      have hall := HA.out
      rw [List.take_of_length_le (by rw [HN.out]; exact Nat.le_refl _)] at hall
      have HALL := Lib.hid hall
      clear hall
      go_wp2_with fail
      go_ret
      exact ⟨⟨-1, rfl, fun h => by omega, fun ⟨p, hp, hr⟩ => by rw [HALL.out p hp] at hr; cases hr⟩, HB.out⟩
theorem anyR_any (o : Option Addr) (L : List (Option Addr × List ByteArray × Nat)) (c : Nat) (w : World) (hl : L.length ≤ 1000) (h : LsAt w o L) :
    Calls Try.prog 29 #[.slice o L.length c, .func (.func 19) #[] #[]] w fun e w' => (∃ x : Bool, e = .returned (.bool x) ∧ (x = true ↔ ∃ p ∈ L, (!decide p.2.1.Nodup) = true)) ∧ Below w.heap.size w w' := by
  have H := Lib.hid (idxR_any o L c w hl h)
  clear h hl
  go_enter Try.func29, Try.ntmps29
  go_wp2_with (go_at_call 41; refine H.out.mono ?_)
  rintro e w2 ⟨⟨x, rfl, hx⟩, hb⟩
  have HB := Lib.hid hb
  have HX := Lib.hid hx
  clear hx hb
  go_wp2_with fail
  go_ret
  exact ⟨⟨_, rfl, by rw [decide_eq_true_iff]; exact HX.out⟩, HB.out⟩
theorem anyOfR_any (o : Option Addr) (L : List (Option Addr × List ByteArray × Nat)) (c : Nat) (w : World) (hl : L.length ≤ 1000) (h : LsAt w o L) :
    Calls Try.prog 17 #[.func (.func 19) #[] #[], .slice o L.length c] w fun e w' => (∃ x : Bool, e = .returned (.bool x) ∧ (x = true ↔ ∃ p ∈ L, (!decide p.2.1.Nodup) = true)) ∧ Below w.heap.size w w' := by
  have H := Lib.hid (anyR_any o L c w hl h)
  clear h hl
  go_enter Try.func17, Try.ntmps17
  go_wp2_with (go_at_call 29; refine H.out.mono ?_)
  rintro e w2 ⟨⟨x, rfl, hx⟩, hb⟩
  have HB := Lib.hid hb
  have HX := Lib.hid hx
  clear hx hb
  go_wp2_with fail
  go_ret
  exact ⟨⟨_, rfl, HX.out⟩, HB.out⟩
end Go.Proofs.Ytjdlpcokjcmapaa
