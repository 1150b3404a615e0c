/- Three lists: weaving. -/
import Derived.Test.YtjdlpcokjcmapaaBg
set_option linter.unusedVariables false
set_option linter.unusedSimpArgs false
namespace Go.Proofs.Ytjdlpcokjcmapaa
open Go.RowKit Go.Maps Go.WideShapes
variable {w w' : World}

def consW (a : ByteArray) (r : List ByteArray × List ByteArray) : List ByteArray × List ByteArray := if r.2 = [] then (a :: r.1, []) else r
/-- A list of both lists' items in the order of each, or two items at which that fails. -/
def wv : List ByteArray → List ByteArray → List ByteArray × List ByteArray
  | [], y => (y, [])
  | a :: x, [] => (a :: x, [])
  | a :: x, b :: y => if a = b then consW a (wv x y) else if inB (b :: y) a = false then consW a (wv x (b :: y)) else if inB (a :: x) b = false then consW b (wv (a :: x) y) else ([], [a, b])
termination_by x y => x.length + y.length
def appW (out : List ByteArray) (r : List ByteArray × List ByteArray) : List ByteArray × List ByteArray := if r.2 = [] then (out ++ r.1, []) else r
theorem appW_cons (out : List ByteArray) (a : ByteArray) (r : List ByteArray × List ByteArray) : appW out (consW a r) = appW (out ++ [a]) r := by
  unfold appW consW
  by_cases h : r.2 = []
  · simp [h]
  · simp [h]
theorem appW_nil (r : List ByteArray × List ByteArray) : (∀ h : r.2 ≠ [], r.1 = []) → appW [] r = r := by
  intro _; unfold appW
  by_cases h : r.2 = []
  · rw [if_pos h, List.nil_append]
    obtain ⟨r1, r2⟩ := r
    dsimp only at h; rw [h]
  · rw [if_neg h]
theorem wv_nil (y : List ByteArray) : wv [] y = (y, []) := by rw [wv]
theorem wv_nil2 (x : List ByteArray) : wv x [] = (x, []) := by
  cases x with
  | nil => rw [wv]
  | cons a x => rw [wv]
theorem wv_both (a : ByteArray) (x y : List ByteArray) : wv (a :: x) (a :: y) = consW a (wv x y) := by rw [wv, if_pos rfl]
theorem wv_left {a b : ByteArray} {x y : List ByteArray} (h : a ≠ b) (h2 : inB (b :: y) a = false) : wv (a :: x) (b :: y) = consW a (wv x (b :: y)) := by rw [wv, if_neg h, if_pos h2]
theorem wv_right {a b : ByteArray} {x y : List ByteArray} (h : a ≠ b) (h2 : inB (b :: y) a = true) (h3 : inB (a :: x) b = false) : wv (a :: x) (b :: y) = consW b (wv (a :: x) y) := by rw [wv, if_neg h, if_neg (by rw [h2]; simp), if_pos h3]
theorem wv_cross {a b : ByteArray} {x y : List ByteArray} (h : a ≠ b) (h2 : inB (b :: y) a = true) (h3 : inB (a :: x) b = true) : wv (a :: x) (b :: y) = ([], [a, b]) := by rw [wv, if_neg h, if_neg (by rw [h2]; simp), if_neg (by rw [h3]; simp)]
theorem in_cons (a : ByteArray) (x : List ByteArray) (s : ByteArray) : inB (a :: x) s = (decide (a = s) || inB x s) := by unfold inB; rw [List.any_cons]
theorem less_head {a : ByteArray} {x : List ByteArray} (h : (a :: x).Nodup) : lessP (inB (a :: x)) a = inB x := by
  funext s
  unfold lessP
  rw [in_cons]
  by_cases e : s = a
  · subst e
    have : inB x s = false := by
      cases hi : inB x s with
      | false => rfl
      | true => exact absurd ((in_iff x s).1 hi) (List.nodup_cons.1 h).1
    simp [this]
  · have e2 : decide (a = s) = false := decide_eq_false (fun h => e h.symm)
    simp [e, e2]
theorem less_not {a : ByteArray} {x : List ByteArray} (h : inB x a = false) : lessP (inB x) a = inB x := by
  funext s
  unfold lessP
  by_cases e : s = a
  · subst e; simp [h]
  · simp [e]
theorem tx_tail {b i : Nat} {a : ByteArray} {x : List ByteArray} (h : TxAt w (some ⟨b, i, none⟩) (a :: x)) : TxAt w (some ⟨b, i + 1, none⟩) x := fun k hk => by
  obtain ⟨h1, b', i', ho, hc⟩ := h (k + 1) (by simp; omega)
  injection ho with ho; injection ho with e1 e2; subst e1 e2
  have e : itB (a :: x) (k + 1) = itB x k := rfl
  rw [e] at h1 hc
  exact ⟨h1, b, i + 1, rfl, by rw [show i + 1 + k = i + (k + 1) by omega]; exact hc⟩
theorem tx_none (o : Option Addr) : TxAt w o [] := fun k hk => absurd hk (Nat.not_lt_zero k)
/-- Where a rest of a list lies: in a block below B. -/
def RsAt (B : Nat) (w : World) (v : Value) (x : List ByteArray) : Prop := ∃ o c, v = .slice o x.length c ∧ x.length ≤ c ∧ TxAt w o x ∧ (∀ b i, o = some ⟨b, i, none⟩ → 0 < x.length → b < B)
theorem RsAt.below {B : Nat} {v : Value} {x : List ByteArray} (h : RsAt B w v x) (hb : Below B w w') : RsAt B w' v x := by
  obtain ⟨o, c, h1, h2, h3, h4⟩ := h
  exact ⟨o, c, h1, h2, h3.keep fun b i ho hl h0 => hb.block b (h4 b i ho h0), h4⟩
def WoS (B0 B1 bm bo bt mo mt : Nat) (R : List ByteArray × List ByteArray) (w0 : World) (u v : Value) (wr : World) : Prop :=
  ∃ out x y, RsAt B0 wr u x ∧ RsAt B0 wr v y ∧ x.Nodup ∧ y.Nodup ∧ out.length + x.length + y.length ≤ 20000 ∧ (∀ s ∈ out, s.size ≤ maxLen) ∧ appW out (wv x y) = R ∧ WvI B0 B1 bm bo bt mo mt out (inB x) (inB y) wr ∧ Below B0 w0 wr
theorem rs_done {B : Nat} {x : List ByteArray} (o : Option Addr) (c : Nat) (h : x.length = 0) : RsAt B w (.slice o 0 c) x := by
  have hz : x = [] := List.length_eq_zero_iff.1 h
  subst hz
  exact ⟨o, c, rfl, Nat.zero_le _, tx_none o, fun b i _ h0 => absurd h0 (Nat.not_lt_zero 0)⟩
theorem rs_tail {B b i n c : Nat} {a : ByteArray} {x : List ByteArray} (h : TxAt w (some ⟨b, i, none⟩) (a :: x)) (hl : x.length = n) (hc : n + 1 ≤ c) (hb : b < B) : RsAt B w (.slice (some ⟨b, i + 1, none⟩) n (c - 1)) x :=
  ⟨some ⟨b, i + 1, none⟩, c - 1, by rw [hl], by omega, tx_tail h, fun b' i' e _ => by injection e with e; injection e with e1 e2; omega⟩
theorem rs_full {B b i n c : Nat} {a : ByteArray} {x : List ByteArray} (h : TxAt w (some ⟨b, i, none⟩) (a :: x)) (hl : x.length = n) (hc : n + 1 ≤ c) (hb : b < B) : RsAt B w (.slice (some ⟨b, i, none⟩) (n + 1) c) (a :: x) :=
  ⟨some ⟨b, i, none⟩, c, by rw [List.length_cons, hl], by rw [List.length_cons, hl]; exact hc, h, fun b' i' e _ => by injection e with e; injection e with e1 e2; omega⟩
def slLen : Value → Nat
  | .slice _ n _ => n
  | _ => 0
theorem tx_head {o : Option Addr} {a : ByteArray} {x : List ByteArray} (h : TxAt w o (a :: x)) : a.size ≤ maxLen ∧ ∃ b i, o = some ⟨b, i, none⟩ ∧ w.cell? ⟨b, i, none⟩ = some (.string a) := by
  obtain ⟨h1, b, i, ho, hc⟩ := tx_at (k := 0) (s := a) h rfl
  exact ⟨h1, b, i, ho, hc⟩
set_option maxHeartbeats 8000000 in
set_option maxRecDepth 100000 in
theorem woven_any (o1 o2 : Option Addr) (X Y : List ByteArray) (c1 c2 : Nat) (w : World) (hlX : X.length ≤ 10000) (hlY : Y.length ≤ 10000) (hcX : X.length ≤ c1) (hcY : Y.length ≤ c2) (hX : TxAt w o1 X) (hY : TxAt w o2 Y) (hdX : X.Nodup) (hdY : Y.Nodup) :
    Calls Try.prog 22 #[.slice o1 X.length c1, .slice o2 Y.length c2] w fun e w' => ∃ v1 v2, e = .returned (.tuple #[v1, v2]) ∧ w'.ownsRow w.heap.size 9 1 v1 (wv X Y).1.length (strV (wv X Y).1) ∧ w'.ownsRow w.heap.size 9 1 v2 (wv X Y).2.length (strV (wv X Y).2) ∧ Below w.heap.size w w' := by
  have hB0 : Below w.heap.size w (w.alloc (.cells #[.slice none 0 0] 22)) := (Below.refl _ w).alloc (Nat.le_refl _) _
  have hbm : (w.alloc (.cells #[.slice none 0 0] 22)).heap[w.heap.size]? = some (.cells #[.slice none 0 0] 22 (0, 0)) := World.alloc_heap_new w _
  have hS1 := setOf_any o1 X c1 (w.alloc (.cells #[.slice none 0 0] 22)) (by omega) (hX.below hB0)
  have hsz : (w.alloc (.cells #[.slice none 0 0] 22)).heap.size = w.heap.size + 1 := by simp
  have HS2 : Hid (∀ W, Below w.heap.size w W → Calls Try.prog 30 #[.slice o2 Y.length c2] W fun e w' => e = .returned (.map (some W.heap.size)) ∧ IsSt W.heap.size Y.length (setL Y) w' ∧ Below W.heap.size W w') := Lib.hid (fun W hW => setOf_any o2 Y c2 W (by omega) (hY.below hW))
  have HRX : Hid (∀ W, Below w.heap.size w W → RsAt w.heap.size W (.slice o1 X.length c1) X) := Lib.hid (fun W hW => ⟨o1, c1, rfl, hcX, hX.below hW, fun b i h h0 => hX.low b i h h0⟩)
  have HRY : Hid (∀ W, Below w.heap.size w W → RsAt w.heap.size W (.slice o2 Y.length c2) Y) := Lib.hid (fun W hW => ⟨o2, c2, rfl, hcY, hY.below hW, fun b i h h0 => hY.low b i h h0⟩)
  obtain ⟨R, hR⟩ : ∃ R, wv X Y = R := ⟨_, rfl⟩
  have HR := Lib.hid hR
  obtain ⟨nX, hnX⟩ : ∃ n, X.length = n := ⟨_, rfl⟩
  obtain ⟨nY, hnY⟩ : ∃ n, Y.length = n := ⟨_, rfl⟩
  have HNX := Lib.hid hnX; have HNY := Lib.hid hnY; have HDX := Lib.hid hdX; have HDY := Lib.hid hdY
  have HLX := Lib.hid hlX; have HLY := Lib.hid hlY
  rw [hnX] at hS1 HRX
  rw [hnY] at HS2 HRY
  rw [hR, hnX, hnY]
  have HS1 := Lib.hid hS1; have HB0 := Lib.hid hB0; have HBM := Lib.hid hbm; have HSZ := Lib.hid hsz
  clear hS1 hB0 hbm hsz hR hnX hnY hX hY hdX hdY hcX hcY hlX hlY
  have FIRST : Hid (1 = 1) := Lib.hid rfl
  go_enter Try.func22, Try.ntmps22
  go_wp2_with (first
    | (clear FIRST; go_at_call 30; (with_reducible refine HS1.out.mono ?_); rintro e w2 ⟨rfl, hst, hb⟩; have HST1 := Lib.hid hst.rs; have HBa := Lib.hid hb; have HB2 := Lib.hid (HB0.out.trans (hb.mono HB0.out.size)); clear hst hb HS1)
    | (go_at_call 30; (with_reducible refine (HS2.out _ HB2.out).mono ?_); rintro e w3 ⟨rfl, hst, hb⟩; have HST2 := Lib.hid hst.rs; have HBb := Lib.hid hb; have HB3 := Lib.hid (HB2.out.trans (hb.mono HB2.out.size)); clear hst hb HS2))
  obtain ⟨W4, hW4⟩ : ∃ W, (w3.alloc (.cells #[.map (some (w.heap.size + 1))] 59)).alloc (.cells #[.map (some w2.heap.size)] 59) = W := ⟨_, rfl⟩
  have hsz4 : W4.heap.size = w3.heap.size + 2 := by rw [← hW4]; simp
  have hold : ∀ k, k < w3.heap.size → W4.heap[k]? = w3.heap[k]? := fun k hk => by
    rw [← hW4, Lib.alloc_old _ _ _ (by simp; omega), Lib.alloc_old _ _ _ hk]
  have hbo : W4.heap[w3.heap.size]? = some (.cells #[.map (some (w.heap.size + 1))] 59 (0, 0)) := by
    rw [← hW4, Lib.alloc_old _ _ _ (by simp)]; exact World.alloc_heap_new w3 _
  have hbt : W4.heap[w3.heap.size + 1]? = some (.cells #[.map (some w2.heap.size)] 59 (0, 0)) := by
    have h := World.alloc_heap_new (w3.alloc (.cells #[.map (some (w.heap.size + 1))] 59)) (.cells #[.map (some w2.heap.size)] 59)
    rw [← hW4]; simpa using h
  have hB4 : Below w.heap.size w W4 := by rw [← hW4]; exact (HB3.out.alloc HB3.out.size _).alloc (by have := HB3.out.size; simp; omega) _
  rw [hW4]
  clear hW4
  have l1 := HST1.out.lt; have l2 := HST2.out.lt
  rw [HSZ.out] at l1
  have z1 := HBb.out.size
  have hmo : IsRs (w.heap.size + 1) (inB X) W4 := by
    have h1 : IsRs (w.heap.size + 1) (inB (setL X)) w2 := by have h := HST1.out; rw [HSZ.out] at h; exact h
    rw [show inB (setL X) = inB X from funext (set_in X)] at h1
    exact (h1.below HBb.out).keep (hold _ (by omega))
  have hmt : IsRs w2.heap.size (inB Y) W4 := by
    have h1 := HST2.out
    rw [show inB (setL Y) = inB Y from funext (set_in Y)] at h1
    exact h1.keep (hold _ (by omega))
  have hbm : W4.heap[w.heap.size]? = some (.cells #[.slice none 0 0] 22 (0, 0)) := by
    have za := HBa.out.size
    rw [HSZ.out] at za
    rw [hold _ (by omega), HBb.out.block _ (by omega), HBa.out.block _ (by rw [HSZ.out]; omega)]
    exact HBM.out
  obtain ⟨mo, hmoe⟩ : ∃ g, w.heap.size + 1 = g := ⟨_, rfl⟩
  obtain ⟨mt, hmte⟩ : ∃ g, w2.heap.size = g := ⟨_, rfl⟩
  obtain ⟨bo, hboe⟩ : ∃ g, w3.heap.size = g := ⟨_, rfl⟩
  obtain ⟨bt, hbte⟩ : ∃ g, w3.heap.size + 1 = g := ⟨_, rfl⟩
  have hI : WvI w.heap.size W4.heap.size w.heap.size bo bt mo mt [] (inB X) (inB Y) W4 := by
    rw [hmoe] at hmo hbo; rw [hmte] at hmt hbt; rw [hboe] at hbo; rw [hbte] at hbt
    refine ⟨⟨by omega, by omega, by omega, by omega, by omega⟩, ⟨by omega, by omega, by omega, by omega, by omega⟩, Nat.le_refl _, ⟨by omega, by omega, by omega, by omega, by omega, by omega, by omega, by omega, by omega, by omega⟩, ⟨_, hbm, World.ownsRow_nil _ _ _ _⟩, hbo, hbt, hmo, hmt⟩
  obtain ⟨B1, hB1⟩ : ∃ g, W4.heap.size = g := ⟨_, rfl⟩
  rw [hB1] at hI
  have H0 : Hid (WoS w.heap.size B1 w.heap.size bo bt mo mt R w (.slice o1 nX c1) (.slice o2 nY c2) W4) := Lib.hid ⟨[], X, Y, HRX.out _ hB4, HRY.out _ hB4, HDX.out, HDY.out, by
      have h1 := HLX.out; have h2 := HLY.out; simp; omega, fun s hs => by simp at hs, by
      rw [← HR.out]
      refine appW_nil _ fun h => ?_
      have hw : ∀ (n : Nat) (x y : List ByteArray), x.length + y.length ≤ n → (wv x y).2 ≠ [] → (wv x y).1 = [] := by
        intro n
        induction n with
        | zero =>
          intro x y hl h
          cases x with
          | nil => rw [wv_nil] at h; exact absurd rfl h
          | cons a x => simp at hl
        | succ n ih =>
          intro x y hl h
          cases x with
          | nil => rw [wv_nil] at h; exact absurd rfl h
          | cons a x =>
            cases y with
            | nil => rw [wv_nil2] at h; exact absurd rfl h
            | cons b y =>
              have hcons : ∀ c r, (consW c r).2 ≠ [] → (r.2 ≠ [] → r.1 = []) → (consW c r).1 = [] := fun c r h1 h2 => by
                unfold consW at h1 ⊢
                by_cases h3 : r.2 = []
                · rw [if_pos h3] at h1; exact absurd rfl h1
                · rw [if_neg h3]; exact h2 h3
              simp at hl
              by_cases e : a = b
              · subst e; rw [wv_both] at h ⊢; exact hcons _ _ h (ih x y (by omega))
              · cases h2 : inB (b :: y) a with
                | false => rw [wv_left e h2] at h ⊢; exact hcons _ _ h (ih x (b :: y) (by simp; omega))
                | true =>
                  cases h3 : inB (a :: x) b with
                  | false => rw [wv_right e h2 h3] at h ⊢; exact hcons _ _ h (ih (a :: x) y (by simp; omega))
                  | true => rw [wv_cross e h2 h3]
      exact hw _ X Y (Nat.le_refl _) h, hI, hB4⟩
  rw [hbte, hboe, hmoe, hmte]
  clear hbo hbt hmo hmt hbm hold hsz4 l1 l2 z1 hI hB4 hB1 hmoe hmte hboe hbte HST1 HST2 HBa HBb HB2 HB3 HSZ HBM
  go_loopw [0, 1] (fun u v wr => WoS w.heap.size B1 w.heap.size bo bt mo mt R w u v wr) (fun u v _ => slLen u + slLen v)
  case atStart => exact H0.out
  case round =>
    obtain ⟨out, x, y, ⟨oa, ca, rfl, hca, hx, hbx⟩, ⟨ob, cb, rfl, hcb, hy, hby⟩, hdx, hdy, hlen, hso, hRe, hI, hb⟩ := hrel
    clear H0
    by_cases hxy : x = [] ∨ y = []
    · have hRX : R = (out ++ x ++ y, []) := by
        rw [← hRe]
        rcases hxy with rfl | rfl
        · rw [wv_nil]; simp [appW]
        · rw [wv_nil2]; simp [appW]
      obtain ⟨v, hbm, hown⟩ := hI.box
      have hsz := hso
      obtain ⟨om, cm, rfl, hto, hmc, _⟩ := own_texts2 hown hso
      obtain ⟨nO, hnO⟩ : ∃ n, out.length = n := ⟨_, rfl⟩
      have hLs : LsAt (wr.alloc (.cells #[.slice om out.length cm, .slice oa x.length ca, .slice ob y.length cb] 22)) (some ⟨wr.heap.size, 0, none⟩) [(om, out, cm), (oa, x, ca), (ob, y, cb)] := fun k p hp => by
        have hal : Below wr.heap.size wr (wr.alloc (.cells #[.slice om out.length cm, .slice oa x.length ca, .slice ob y.length cb] 22)) := (Below.refl _ wr).alloc (Nat.le_refl _) _
        have hce := fun j => cell_of_row (j := j) (World.alloc_heap_new wr (.cells #[.slice om out.length cm, .slice oa x.length ca, .slice ob y.length cb] 22))
        match k, hp with
        | 0, hp => simp at hp; subst hp; exact ⟨(by dsimp only; omega), hto.below hal, _, rfl, by rw [hce]; rfl⟩
        | 1, hp => simp at hp; subst hp; exact ⟨(by dsimp only; omega), hx.below hal, _, rfl, by rw [hce]; rfl⟩
        | 2, hp => simp at hp; subst hp; exact ⟨(by dsimp only; omega), hy.below hal, _, rfl, by rw [hce]; rfl⟩
      have hcat : catL [(om, out, cm), (oa, x, ca), (ob, y, cb)] = out ++ x ++ y := by simp [catL]
      have hC := Concat_any (some ⟨wr.heap.size, 0, none⟩) [(om, out, cm), (oa, x, ca), (ob, y, cb)] 3 _ (by simp) (by rw [hcat]; simp; omega) hLs
      rw [hcat] at hC
      have cbm : wr.cell? ⟨w.heap.size, 0, none⟩ = some (.slice om out.length cm) := by rw [cell_of_row hbm]; rfl
      obtain ⟨nx, hnx⟩ : ∃ n, x.length = n := ⟨_, rfl⟩
      obtain ⟨ny, hny⟩ : ∃ n, y.length = n := ⟨_, rfl⟩
      have hcond : nx = 0 ∨ (0 < nx ∧ ny = 0) := by
        rcases hxy with rfl | rfl
        · left; rw [← hnx]; rfl
        · by_cases h : nx = 0
          · exact Or.inl h
          · exact Or.inr ⟨by omega, by rw [← hny]; rfl⟩
      rw [hnO] at cbm hbm
      rw [hnO, hnx, hny] at hC
      rw [hnx, hny]
      change Calls _ _ #[.slice (some ⟨wr.heap.size, 0, none⟩) 3 3] _ _ at hC
      have HC := Lib.hid hC; have HRX := Lib.hid hRX; have HBM := Lib.hid hbm; have HBB := Lib.hid hb
      clear hx hy hbx hby hdx hdy hso hRe hI hb hnx hny hto hown hLs hcat hC hRX hbm hsz hlen hca hcb hmc hnO hxy
      rcases hcond with rfl | ⟨hp, rfl⟩
      · go_wp2_with (go_at_call 34; (with_reducible refine HC.out.mono ?_))
        rintro e w6 ⟨v6, rfl, hr6, hb6⟩
        obtain ⟨a6, c6, hv6, _⟩ := own_at hr6
        subst hv6
        have hbm6 := (hb6.block w.heap.size (by have := lt_of_some HBM.out; simp; omega)).trans ((Lib.alloc_old wr _ _ (lt_of_some HBM.out)).trans HBM.out)
        have cb6 : w6.cell? ⟨w.heap.size, 0, none⟩ = some (.slice om nO cm) := by rw [cell_of_row hbm6]; rfl
        have fb6 : w6.frozen? ⟨w.heap.size, 0, none⟩ = false := by simp [World.frozen?, hbm6]
        obtain ⟨nL, hnL⟩ : ∃ n, (out ++ x ++ y).length = n := ⟨_, rfl⟩
        rw [hnL] at hr6 ⊢
        have cb7 : (w6.setCell ⟨w.heap.size, 0, none⟩ (.slice a6 nL c6)).cell? ⟨w.heap.size, 0, none⟩ = some (.slice a6 nL c6) := by rw [cell_of_row (set_row (j := 0) (.slice a6 nL c6) hbm6)]; rfl
        have hsg := set_grow w6 w.heap.size 0 (.slice a6 nL c6)
        have hw5 := HBB.out.alloc HBB.out.size (.cells #[.slice om nO cm, .slice oa 0 ca, .slice ob ny cb] 22)
        have hw6 := hw5.trans (hb6.mono hw5.size)
        have HB7 := Lib.hid (hw6.grown hsg hw6.size (fun k e => by injection e with e; omega))
        have HR7 := Lib.hid (own_lower (own_grown hr6 hsg (fun g e => by injection e with e; have := lt_of_some HBM.out; simp; omega)) hw5.size)
        have HNL := Lib.hid hnL
        clear hr6 hb6 hbm6 hsg hw5 hw6 hnL HC
        go_wp2_with fail
        refine bodyPost_ret (v := .tuple #[.slice a6 nL c6, .slice none 0 0]) (by simp [results, Try.results22, go_sem, cb7]) rfl ?_
        refine ⟨_, _, rfl, ?_, ?_, HB7.out⟩
        · rw [HRX.out]; dsimp only; rw [HNL.out]; exact HR7.out
        · rw [HRX.out]; exact World.ownsRow_nil _ _ _ _
      · have hpi : (0 : Int) < nx := by omega
        go_wp2_with (go_at_call 34; (with_reducible refine HC.out.mono ?_))
        rintro e w6 ⟨v6, rfl, hr6, hb6⟩
        obtain ⟨a6, c6, hv6, _⟩ := own_at hr6
        subst hv6
        have hbm6 := (hb6.block w.heap.size (by have := lt_of_some HBM.out; simp; omega)).trans ((Lib.alloc_old wr _ _ (lt_of_some HBM.out)).trans HBM.out)
        have cb6 : w6.cell? ⟨w.heap.size, 0, none⟩ = some (.slice om nO cm) := by rw [cell_of_row hbm6]; rfl
        have fb6 : w6.frozen? ⟨w.heap.size, 0, none⟩ = false := by simp [World.frozen?, hbm6]
        obtain ⟨nL, hnL⟩ : ∃ n, (out ++ x ++ y).length = n := ⟨_, rfl⟩
        rw [hnL] at hr6 ⊢
        have cb7 : (w6.setCell ⟨w.heap.size, 0, none⟩ (.slice a6 nL c6)).cell? ⟨w.heap.size, 0, none⟩ = some (.slice a6 nL c6) := by rw [cell_of_row (set_row (j := 0) (.slice a6 nL c6) hbm6)]; rfl
        have hsg := set_grow w6 w.heap.size 0 (.slice a6 nL c6)
        have hw5 := HBB.out.alloc HBB.out.size (.cells #[.slice om nO cm, .slice oa nx ca, .slice ob 0 cb] 22)
        have hw6 := hw5.trans (hb6.mono hw5.size)
        have HB7 := Lib.hid (hw6.grown hsg hw6.size (fun k e => by injection e with e; omega))
        have HR7 := Lib.hid (own_lower (own_grown hr6 hsg (fun g e => by injection e with e; have := lt_of_some HBM.out; simp; omega)) hw5.size)
        have HNL := Lib.hid hnL
        clear hr6 hb6 hbm6 hsg hw5 hw6 hnL HC
        go_wp2_with fail
        refine bodyPost_ret (v := .tuple #[.slice a6 nL c6, .slice none 0 0]) (by simp [results, Try.results22, go_sem, cb7]) rfl ?_
        refine ⟨_, _, rfl, ?_, ?_, HB7.out⟩
        · rw [HRX.out]; dsimp only; rw [HNL.out]; exact HR7.out
        · rw [HRX.out]; exact World.ownsRow_nil _ _ _ _
    cases x with
    | nil => exact absurd (Or.inl rfl) hxy
    | cons a x =>
      cases y with
      | nil => exact absurd (Or.inr rfl) hxy
      | cons b y =>
        clear hxy
        obtain ⟨hsa, b0, i0, ho, ca0⟩ := tx_head hx
        obtain ⟨hsb, b1, i1, ho1, cb0⟩ := tx_head hy
        subst ho ho1
        have HXT : Hid (∀ W, Below w.heap.size wr W → TxAt W (some ⟨b0, i0, none⟩) (a :: x)) := Lib.hid (fun W hW => hx.keep fun b i h hl h0 => hW.block b (hbx b i h h0))
        have HYT : Hid (∀ W, Below w.heap.size wr W → TxAt W (some ⟨b1, i1, none⟩) (b :: y)) := Lib.hid (fun W hW => hy.keep fun b i h hl h0 => hW.block b (hby b i h h0))
        have hb0 : b0 < w.heap.size := hbx b0 i0 rfl (by simp)
        have hb1 : b1 < w.heap.size := hby b1 i1 rfl (by simp)
        have hw0 := hb.size
        rw [List.length_cons] at hca hcb hlen ⊢
        rw [List.length_cons] at hlen ⊢
        obtain ⟨nx, hnx⟩ : ∃ n, x.length = n := ⟨_, rfl⟩
        obtain ⟨ny, hny⟩ : ∃ n, y.length = n := ⟨_, rfl⟩
        rw [hnx] at hca hlen ⊢
        rw [hny] at hcb hlen ⊢
        have HSO := Lib.hid hso; have HDX2 := Lib.hid hdx; have HDY2 := Lib.hid hdy; have HRE := Lib.hid hRe; have HI := Lib.hid hI; have HBB := Lib.hid hb
        have HNX := Lib.hid hnx; have HNY := Lib.hid hny
        have hnx0 : (0 : Int) < ((nx + 1 : Nat) : Int) := by omega
        have hny0 : (0 : Int) < ((ny + 1 : Nat) : Int) := by omega
        have HSA := Lib.hid hsa; have HSB := Lib.hid hsb
        clear hx hy hbx hby hdx hdy hso hRe hI hb hnx hny hsa hsb
        go_wp2_with fail
        go_quiet (fail)
        (first | (have _h : Nat := nq; clear _h) | rename_i nq)
        have hId := HI.out.below (below_drewN (Below.refl _ _) nq)
        have hbd : Below w.heap.size wr (wr.drewN nq) := below_drewN (Below.refl _ _) nq
        generalize wr.drewN nq = wd at hId hbd ⊢
        have HID := Lib.hid hId; have HBD := Lib.hid hbd
        clear hId hbd ca0 cb0
        by_cases hab : a = b
        · subst hab
          have HU := Lib.hid (use_any _ _ _ _ _ _ _ out _ _ a wd HSA.out (by omega) HID.out)
          have hae : (a.toList == a.toList) = true := by simp
          have HRN : Hid (appW (out ++ [a]) (wv x y) = R) := Lib.hid (by rw [← HRE.out, wv_both, appW_cons])
          have hx1 : (1 : Int) ≤ ((nx + 1 : Nat) : Int) := by omega
          have hy1 : (1 : Int) ≤ ((ny + 1 : Nat) : Int) := by omega
          clear HRE
          go_wp2_with (go_at_call 32; (with_reducible refine HU.out.mono ?_); rintro e w2 ⟨rfl, hI2, hb2⟩; have HI2 := Lib.hid hI2; have HB2 := Lib.hid (HBD.out.trans hb2); clear hI2 hb2 HU)
          by_cases hc1 : ca = 1
          · have hz : nx = 0 := by omega
            subst hc1 hz
            by_cases hc2 : cb = 1
            · have hz : ny = 0 := by omega
              subst hc2 hz
              go_quiet (fail)
              (first | (have _h : Nat := nq; clear _h) | rename_i nq)
              have HBZ := Lib.hid (below_drewN HB2.out nq)
              have HIZ := Lib.hid (HI2.out.below (below_drewN (Below.refl _ _) nq))
              go_wp2_with fail
              go_roundw
              case rel => exact ⟨out ++ [a], x, y, rs_done _ _ HNX.out, rs_done _ _ HNY.out, (List.nodup_cons.1 HDX2.out).2, (List.nodup_cons.1 HDY2.out).2, by simp only [List.length_append, List.length_cons, List.length_nil, HNX.out, HNY.out]; omega, fun s hs => (List.mem_append.1 hs).elim (HSO.out s) (fun h => by simp at h; subst h; exact HSA.out), HRN.out, by have h := HIZ.out; rw [less_head HDX2.out, less_head HDY2.out] at h; exact h, HBB.out.trans HBZ.out⟩
              case measure => simp [slLen]; try omega
            · have hcb2 : ny + 1 ≤ cb := hcb
              go_quiet (fail)
              (first | (have _h : Nat := nq; clear _h) | rename_i nq)
              have HBZ := Lib.hid (below_drewN HB2.out nq)
              have HIZ := Lib.hid (HI2.out.below (below_drewN (Below.refl _ _) nq))
              go_wp2_with fail
              go_roundw
              case rel => exact ⟨out ++ [a], x, y, rs_done _ _ HNX.out, rs_tail (HYT.out _ HBZ.out) HNY.out hcb hb1, (List.nodup_cons.1 HDX2.out).2, (List.nodup_cons.1 HDY2.out).2, by simp only [List.length_append, List.length_cons, List.length_nil, HNX.out, HNY.out]; omega, fun s hs => (List.mem_append.1 hs).elim (HSO.out s) (fun h => by simp at h; subst h; exact HSA.out), HRN.out, by have h := HIZ.out; rw [less_head HDX2.out, less_head HDY2.out] at h; exact h, HBB.out.trans HBZ.out⟩
              case measure => simp [slLen]; try omega
          · by_cases hc2 : cb = 1
            · have hz : ny = 0 := by omega
              subst hc2 hz
              go_quiet (fail)
              (first | (have _h : Nat := nq; clear _h) | rename_i nq)
              have HBZ := Lib.hid (below_drewN HB2.out nq)
              have HIZ := Lib.hid (HI2.out.below (below_drewN (Below.refl _ _) nq))
              go_wp2_with fail
              go_roundw
              case rel => exact ⟨out ++ [a], x, y, rs_tail (HXT.out _ HBZ.out) HNX.out hca hb0, rs_done _ _ HNY.out, (List.nodup_cons.1 HDX2.out).2, (List.nodup_cons.1 HDY2.out).2, by simp only [List.length_append, List.length_cons, List.length_nil, HNX.out, HNY.out]; omega, fun s hs => (List.mem_append.1 hs).elim (HSO.out s) (fun h => by simp at h; subst h; exact HSA.out), HRN.out, by have h := HIZ.out; rw [less_head HDX2.out, less_head HDY2.out] at h; exact h, HBB.out.trans HBZ.out⟩
              case measure => simp [slLen]; try omega
            · have hcb2 : ny + 1 ≤ cb := hcb
              go_quiet (fail)
              (first | (have _h : Nat := nq; clear _h) | rename_i nq)
              have HBZ := Lib.hid (below_drewN HB2.out nq)
              have HIZ := Lib.hid (HI2.out.below (below_drewN (Below.refl _ _) nq))
              go_wp2_with fail
              go_roundw
              case rel => exact ⟨out ++ [a], x, y, rs_tail (HXT.out _ HBZ.out) HNX.out hca hb0, rs_tail (HYT.out _ HBZ.out) HNY.out hcb hb1, (List.nodup_cons.1 HDX2.out).2, (List.nodup_cons.1 HDY2.out).2, by simp only [List.length_append, List.length_cons, List.length_nil, HNX.out, HNY.out]; omega, fun s hs => (List.mem_append.1 hs).elim (HSO.out s) (fun h => by simp at h; subst h; exact HSA.out), HRN.out, by have h := HIZ.out; rw [less_head HDX2.out, less_head HDY2.out] at h; exact h, HBB.out.trans HBZ.out⟩
              case measure => simp [slLen]; try omega
        · have hae : (a.toList == b.toList) = false := by rw [beq_eq_false_iff_ne]; exact fun e => hab (toL_inj e)
          have ct : wd.cell? ⟨bt, 0, none⟩ = some (.map (some mt)) := by rw [cell_of_row HID.out.ct]; rfl
          have HH1 := Lib.hid (has_any mt _ a wd HSA.out HID.out.st)
          have hx1 : (1 : Int) ≤ ((nx + 1 : Nat) : Int) := by omega
          have hy1 : (1 : Int) ≤ ((ny + 1 : Nat) : Int) := by omega
          have HBS : Hid (w.heap.size ≤ wd.heap.size) := Lib.hid (Nat.le_trans hw0 HBD.out.size)
          cases hin1 : inB (b :: y) a with
          | false =>
            rw [hin1] at HH1
            have HIN1 := Lib.hid hin1
            have HRN : Hid (appW (out ++ [a]) (wv x (b :: y)) = R) := Lib.hid (by rw [← HRE.out, wv_left hab hin1, appW_cons])
            have HU : Hid (∀ W, Below wd.heap.size wd W → Calls Try.prog 32 #[.string a, ptr w.heap.size, ptr bo, ptr bt] W fun e w' => e = .returned (.tuple #[]) ∧ WvI w.heap.size B1 w.heap.size bo bt mo mt (out ++ [a]) (lessP (inB (a :: x)) a) (lessP (inB (b :: y)) a) w' ∧ Below w.heap.size W w') := Lib.hid (fun W hW => use_any _ _ _ _ _ _ _ out _ _ a W HSA.out (by omega) (HID.out.below hW))
            clear HRE hin1 hab
            by_cases hc1 : ca = 1
            · have hz : nx = 0 := by omega
              subst hc1 hz
              go_wp2_with (first
                | (go_at_call 33; (with_reducible refine HH1.out.mono ?_); rintro e w1 ⟨rfl, hb1'⟩; have HB1 := Lib.hid hb1'; clear hb1' HH1)
                | (go_at_call 32; (refine (HU.out _ HB1.out).mono ?_); rintro e w2 ⟨rfl, hI2, hb2⟩; have HI2 := Lib.hid hI2; have HBZ := Lib.hid (HBD.out.trans ((HB1.out.mono HBS.out).trans hb2)); clear hI2 hb2 HU))
              go_wp2_with fail
              go_roundw
              case rel => exact ⟨out ++ [a], x, b :: y, rs_done _ _ HNX.out, rs_full (HYT.out _ HBZ.out) HNY.out hcb hb1, (List.nodup_cons.1 HDX2.out).2, HDY2.out, by simp only [List.length_append, List.length_cons, List.length_nil, HNX.out, HNY.out]; omega, fun s hs => (List.mem_append.1 hs).elim (HSO.out s) (fun h => by simp at h; subst h; exact HSA.out), HRN.out, by have h := HI2.out; rw [less_head HDX2.out, less_not HIN1.out] at h; exact h, HBB.out.trans HBZ.out⟩
              case measure => simp [slLen]; try omega
            · go_wp2_with (first
                | (go_at_call 33; (with_reducible refine HH1.out.mono ?_); rintro e w1 ⟨rfl, hb1'⟩; have HB1 := Lib.hid hb1'; clear hb1' HH1)
                | (go_at_call 32; (refine (HU.out _ HB1.out).mono ?_); rintro e w2 ⟨rfl, hI2, hb2⟩; have HI2 := Lib.hid hI2; have HBZ := Lib.hid (HBD.out.trans ((HB1.out.mono HBS.out).trans hb2)); clear hI2 hb2 HU))
              go_wp2_with fail
              go_roundw
              case rel => exact ⟨out ++ [a], x, b :: y, rs_tail (HXT.out _ HBZ.out) HNX.out hca hb0, rs_full (HYT.out _ HBZ.out) HNY.out hcb hb1, (List.nodup_cons.1 HDX2.out).2, HDY2.out, by simp only [List.length_append, List.length_cons, List.length_nil, HNX.out, HNY.out]; omega, fun s hs => (List.mem_append.1 hs).elim (HSO.out s) (fun h => by simp at h; subst h; exact HSA.out), HRN.out, by have h := HI2.out; rw [less_head HDX2.out, less_not HIN1.out] at h; exact h, HBB.out.trans HBZ.out⟩
              case measure => simp [slLen]; try omega
          | true =>
            rw [hin1] at HH1
            have co : ∀ W, Below wd.heap.size wd W → W.cell? ⟨bo, 0, none⟩ = some (.map (some mo)) := fun W hW => by rw [cell_of_row (HID.out.below hW).co]; rfl
            have HCO := Lib.hid co
            have HH2 : Hid (∀ W, Below wd.heap.size wd W → Calls Try.prog 33 #[.map (some mo), .string b] W fun e w' => e = .returned (.bool (inB (a :: x) b)) ∧ Below W.heap.size W w') := Lib.hid (fun W hW => has_any mo _ b W HSB.out (HID.out.below hW).so)
            clear co
            cases hin2 : inB (a :: x) b with
            | false =>
              rw [hin2] at HH2
              have HIN2 := Lib.hid hin2
              have HRN : Hid (appW (out ++ [b]) (wv (a :: x) y) = R) := Lib.hid (by rw [← HRE.out, wv_right hab hin1 hin2, appW_cons])
              have HU : Hid (∀ W, Below wd.heap.size wd W → Calls Try.prog 32 #[.string b, ptr w.heap.size, ptr bo, ptr bt] W fun e w' => e = .returned (.tuple #[]) ∧ WvI w.heap.size B1 w.heap.size bo bt mo mt (out ++ [b]) (lessP (inB (a :: x)) b) (lessP (inB (b :: y)) b) w' ∧ Below w.heap.size W w') := Lib.hid (fun W hW => use_any _ _ _ _ _ _ _ out _ _ b W HSB.out (by omega) (HID.out.below hW))
              clear HRE hin1 hin2 hab
              by_cases hc2 : cb = 1
              · have hz : ny = 0 := by omega
                subst hc2 hz
                go_wp2_with (first
                  | (go_at_call 33; (with_reducible refine HH1.out.mono ?_); rintro e w1 ⟨rfl, hb1'⟩; have HB1 := Lib.hid hb1'; have co1 := HCO.out _ hb1'; clear hb1' HH1)
                  | (go_at_call 33; (with_reducible refine (HH2.out _ HB1.out).mono ?_); rintro e w5 ⟨rfl, hb5⟩; have HB5 := Lib.hid (HB1.out.trans (hb5.mono HB1.out.size)); clear hb5 HH2)
                  | (go_at_call 32; (refine (HU.out _ HB5.out).mono ?_); rintro e w2 ⟨rfl, hI2, hb2⟩; have HI2 := Lib.hid hI2; have HBZ := Lib.hid (HBD.out.trans ((HB5.out.mono HBS.out).trans hb2)); clear hI2 hb2 HU))
                go_wp2_with fail
                go_roundw
                case rel => exact ⟨out ++ [b], a :: x, y, rs_full (HXT.out _ HBZ.out) HNX.out hca hb0, rs_done _ _ HNY.out, HDX2.out, (List.nodup_cons.1 HDY2.out).2, by simp only [List.length_append, List.length_cons, List.length_nil, HNX.out, HNY.out]; omega, fun s hs => (List.mem_append.1 hs).elim (HSO.out s) (fun h => by simp at h; subst h; exact HSB.out), HRN.out, by have h := HI2.out; rw [less_not HIN2.out, less_head HDY2.out] at h; exact h, HBB.out.trans HBZ.out⟩
                case measure => simp [slLen]; try omega
              · go_wp2_with (first
                  | (go_at_call 33; (with_reducible refine HH1.out.mono ?_); rintro e w1 ⟨rfl, hb1'⟩; have HB1 := Lib.hid hb1'; have co1 := HCO.out _ hb1'; clear hb1' HH1)
                  | (go_at_call 33; (with_reducible refine (HH2.out _ HB1.out).mono ?_); rintro e w5 ⟨rfl, hb5⟩; have HB5 := Lib.hid (HB1.out.trans (hb5.mono HB1.out.size)); clear hb5 HH2)
                  | (go_at_call 32; (refine (HU.out _ HB5.out).mono ?_); rintro e w2 ⟨rfl, hI2, hb2⟩; have HI2 := Lib.hid hI2; have HBZ := Lib.hid (HBD.out.trans ((HB5.out.mono HBS.out).trans hb2)); clear hI2 hb2 HU))
                go_wp2_with fail
                go_roundw
                case rel => exact ⟨out ++ [b], a :: x, y, rs_full (HXT.out _ HBZ.out) HNX.out hca hb0, rs_tail (HYT.out _ HBZ.out) HNY.out hcb hb1, HDX2.out, (List.nodup_cons.1 HDY2.out).2, by simp only [List.length_append, List.length_cons, List.length_nil, HNX.out, HNY.out]; omega, fun s hs => (List.mem_append.1 hs).elim (HSO.out s) (fun h => by simp at h; subst h; exact HSB.out), HRN.out, by have h := HI2.out; rw [less_not HIN2.out, less_head HDY2.out] at h; exact h, HBB.out.trans HBZ.out⟩
                case measure => simp [slLen]; try omega
            | true =>
              rw [hin2] at HH2
              have HRC : Hid (R = ([], [a, b])) := Lib.hid (by rw [← HRE.out, wv_cross hab hin1 hin2]; rfl)
              have HBOX : Hid (∀ W, Below wd.heap.size wd W → ∃ v, W.heap[w.heap.size]? = some (.cells #[v] 22 (0, 0))) := Lib.hid (fun W hW => by obtain ⟨v, h, _⟩ := (HID.out.below hW).box; exact ⟨v, h⟩)
              clear HRE hin1 hin2 hab
              go_upto_region 5 with (first
                | (go_at_call 33; (with_reducible refine HH1.out.mono ?_); rintro e w1 ⟨rfl, hb1'⟩; have HB1 := Lib.hid hb1'; have co1 := HCO.out _ hb1'; clear hb1' HH1)
                | (go_at_call 33; (with_reducible refine (HH2.out _ HB1.out).mono ?_); rintro e w5 ⟨rfl, hb5⟩; have HB5 := Lib.hid (HB1.out.trans (hb5.mono HB1.out.size)); clear hb5 HH2))
              obtain ⟨vb, hvb⟩ := HBOX.out _ HB5.out
              have hB6 := (HBB.out.trans (HBD.out.trans (HB5.out.mono HBS.out)))
              have hlb : w.heap.size < w5.heap.size := lt_of_some hvb
              have hva : (w5.alloc (.cells #[.string a, .string b] 9)).heap[w.heap.size]? = some (.cells #[vb] 22 (0, 0)) := (Lib.alloc_old w5 _ _ hlb).trans hvb
              have hna := World.alloc_heap_new w5 (.cells #[.string a, .string b] 9)
              have hB7 := hB6.alloc hB6.size (.cells #[.string a, .string b] 9)
              obtain ⟨g5, hg5⟩ : ∃ g, w5.heap.size = g := ⟨_, rfl⟩
              rw [hg5] at hna
              have cbm : (w5.alloc (.cells #[.string a, .string b] 9)).cell? ⟨w.heap.size, 0, none⟩ = some vb := by rw [cell_of_row hva]; rfl
              have fbm : (w5.alloc (.cells #[.string a, .string b] 9)).frozen? ⟨w.heap.size, 0, none⟩ = false := by simp [World.frozen?, hva]
              have hsc := set_grow (w5.alloc (.cells #[.string a, .string b] 9)) w.heap.size 0 (.slice none 0 0)
              have cbm2 : ((w5.alloc (.cells #[.string a, .string b] 9)).setCell ⟨w.heap.size, 0, none⟩ (.slice none 0 0)).cell? ⟨w.heap.size, 0, none⟩ = some (.slice none 0 0) := by rw [cell_of_row (set_row (j := 0) (.slice none 0 0) hva)]; rfl
              have hn7 : ((w5.alloc (.cells #[.string a, .string b] 9)).setCell ⟨w.heap.size, 0, none⟩ (.slice none 0 0)).heap[g5]? = some (.cells #[.string a, .string b] 9 (0, 0)) := (hsc.block g5 (lt_of_some hna) (fun e => by injection e with e; omega)).trans hna
              have HN7 := Lib.hid hn7; have HB8 := Lib.hid (hB7.grown hsc hB7.size (fun k e => by injection e with e; omega)); have HG5 := Lib.hid hg5
              have HGE : Hid (w.heap.size ≤ g5) := Lib.hid (by omega)
              clear hB6 hB7 hlb hva hna hsc hn7 hvb hg5
              go_wp2_with fail
              refine bodyPost_ret (v := .tuple #[.slice none 0 0, .slice (some ⟨g5, 0, none⟩) 2 2]) (by simp [results, Try.results22, go_sem, cbm2, HG5.out]) rfl ?_
              refine ⟨_, _, rfl, ?_, ?_, HB8.out⟩
              · rw [HRC.out]; exact World.ownsRow_nil _ _ _ _
              · rw [HRC.out]; exact ⟨rfl, .inr ⟨g5, 2, _, rfl, HGE.out, HN7.out, Nat.le_refl _, by unfold maxLen; omega, rfl, rfl⟩⟩
end Go.Proofs.Ytjdlpcokjcmapaa
