/- Space: Count of any row of extents. -/
import Derived.Test.YtbegjgceemffcaaZd
namespace Go.Proofs.Ytbegjgceemffcaa
open Go.RowKit
variable {w w' : World}

def ExAt (w : World) (o : Option Addr) (l : List (Int × Int)) : Prop :=
  ∀ k p, l[k]? = some p → ∃ g cur, o = some ⟨g, 0, none⟩ ∧ w.heap[g]? = some (.cells cur 26 (0, 0)) ∧ w.cell? ⟨g, k * 2, none⟩ = some (.int .i64 p.1) ∧ w.cell? ⟨g, k * 2 + 1, none⟩ = some (.int .i64 p.2)
theorem ExAt.same {o : Option Addr} {l : List (Int × Int)} (h : ExAt w o l) (hb : ∀ g cur, o = some ⟨g, 0, none⟩ → w.heap[g]? = some (.cells cur 26 (0, 0)) → w'.heap[g]? = w.heap[g]?) : ExAt w' o l := fun k p hp => by
  obtain ⟨b, cur, h1, h2, h3, h4⟩ := h k p hp
  have e := hb b cur h1 h2
  refine ⟨b, cur, h1, e.trans h2, ?_, ?_⟩
  · unfold World.cell? at h3 ⊢; simp only [e]; exact h3
  · unfold World.cell? at h4 ⊢; simp only [e]; exact h4
theorem ExAt.below {o : Option Addr} {l : List (Int × Int)} (h : ExAt w o l) (hb : Below w.heap.size w w') : ExAt w' o l := h.same fun _ _ _ h2 => hb.block _ (lt_of_some h2)
def cntX (l : List (Int × Int)) : Int := l.foldl (fun n p => min (n + min (max p.2 0) 1099511627776) 1099511627776) 0
theorem cntX_snoc (l : List (Int × Int)) (p : Int × Int) : cntX (l ++ [p]) = min (cntX l + min (max p.2 0) 1099511627776) 1099511627776 := by unfold cntX; rw [List.foldl_append]; rfl
theorem cnt_bound (l : List (Int × Int)) : ∀ c : Int, 0 ≤ c → c ≤ 1099511627776 → 0 ≤ l.foldl (fun n p => min (n + min (max p.2 0) 1099511627776) 1099511627776) c ∧ l.foldl (fun n p => min (n + min (max p.2 0) 1099511627776) 1099511627776) c ≤ 1099511627776 := by
  induction l with
  | nil => intro c h1 h2; exact ⟨h1, h2⟩
  | cons p l ih => intro c h1 h2; rw [List.foldl_cons]; exact ih _ (by omega) (by omega)
theorem cntX_bound (l : List (Int × Int)) : 0 ≤ cntX l ∧ cntX l ≤ 1099511627776 := cnt_bound l 0 (Int.le_refl _) (by decide)
theorem cntX_at {l : List (Int × Int)} {k : Nat} {p : Int × Int} (h : l[k]? = some p) : cntX (l.take (k + 1)) = min (cntX (l.take k) + min (max p.2 0) 1099511627776) 1099511627776 := by
  rw [List.take_add_one, h]; exact cntX_snoc _ _
def CtS (w : World) (l : List (Int × Int)) (a i : Value) (wr : World) : Prop :=
  ∃ k : Nat, k ≤ l.length ∧ i = .int .i64 k ∧ a = .int .i64 (cntX (l.take k)) ∧ Below w.heap.size w wr
set_option maxHeartbeats 1000000 in
set_option maxRecDepth 100000 in
theorem Count_any (o : Option Addr) (l : List (Int × Int)) (cap : Nat) (w : World) (hl : l.length ≤ maxLen) (hp : ExAt w o l) :
    Calls Try.prog 5 #[.slice o l.length cap] w fun e w' => e = .returned (.int .i64 (cntX l)) ∧ Below w.heap.size w w' := by
  obtain ⟨n, hn⟩ : ∃ n, l.length = n := ⟨_, rfl⟩
  rw [hn] at hl ⊢
  unfold maxLen at hl
  have HN := Lib.hid hn; have HP := Lib.hid hp
  have H0 : Hid (CtS w l (.int .i64 0) (.int .i64 0) w) := Lib.hid ⟨0, Nat.zero_le _, rfl, rfl, Below.refl _ w⟩
  clear hn hp
  go_enter Try.func5, Try.ntmps5
  go_wp2_with fail
  go_loopw [3, 8] (fun a i wr => CtS w l a i wr) (fun _ i _ => n - (intOf i).toNat)
  case atStart => exact H0.out
  case round =>
    obtain ⟨k, hk, rfl, rfl, hb⟩ := hrel
    rw [HN.out] at hk
    have HB := Lib.hid hb
    clear hb H0
    by_cases hlt : k < n
    · obtain ⟨q, hq⟩ : ∃ q, l[k]? = some q := ⟨_, List.getElem?_eq_getElem (by rw [HN.out]; exact hlt)⟩
      obtain ⟨g, cur, ho, hg, d0, d1⟩ := (HP.out.below HB.out) k q hq
      subst ho
      obtain ⟨q1, q2⟩ := q
      have HQ := Lib.hid (cntX_at hq)
      obtain ⟨hc0, hc1⟩ := cntX_bound (l.take k)
      generalize cntX (l.take k) = c at HQ hc0 hc1 ⊢
      clear hq hg
      simp only at d0 d1
      go_wp2_with fail
      go_roundw
      case rel => exact ⟨k + 1, by rw [HN.out]; omega, by rw [Int.natCast_succ], by rw [HQ.out], HB.out.alloc HB.out.size _⟩
      case measure => simp [intOf]; omega
    · have hkn : k = n := by omega
      have HK := Lib.hid (show cntX (l.take k) = cntX l by rw [List.take_of_length_le (by rw [HN.out]; omega)])
      go_wp2_with fail
      go_ret
      exact ⟨ret_int HK.out, HB.out⟩
theorem flX_get (l : List (Int × Int)) : ∀ (k : Nat) (p : Int × Int), l[k]? = some p → (flX l)[k * 2]? = some (.int .i64 p.1) ∧ (flX l)[k * 2 + 1]? = some (.int .i64 p.2) := by
  induction l with
  | nil => intro k p h; simp at h
  | cons q l ih =>
    intro k p h
    cases k with
    | zero => simp at h; subst h; exact ⟨rfl, rfl⟩
    | succ k =>
      have := ih k p (by simpa using h)
      have e : flX (q :: l) = Value.int .i64 q.1 :: Value.int .i64 q.2 :: flX l := rfl
      rw [e, show (k + 1) * 2 = k * 2 + 2 by omega, show k * 2 + 2 + 1 = k * 2 + 1 + 2 by omega]
      exact this
theorem own_exts {B : Nat} {v : Value} {l : List (Int × Int)} (h : w.ownsRow B 26 2 v l.length (flX l)) : ∃ o cap, v = .slice o l.length cap ∧ ExAt w o l := by
  rcases h.2 with ⟨h1, h2⟩ | ⟨g, cap, cur, h1, _, hg, hn, _, hz, ht⟩
  · exact ⟨none, 0, by rw [h1, h2], fun k p hp => by have := (List.getElem?_eq_some_iff.1 hp).1; omega⟩
  · refine ⟨some ⟨g, 0, none⟩, cap, h1, fun k p hp => ⟨g, cur, rfl, hg, ?_, ?_⟩⟩
    · have h3 := (flX_get l k p hp).1
      have hk := (List.getElem?_eq_some_iff.1 hp).1
      rw [← ht, List.getElem?_take, if_pos (by omega), Array.getElem?_toList] at h3
      rw [cell_of_row hg]; exact h3
    · have h3 := (flX_get l k p hp).2
      have hk := (List.getElem?_eq_some_iff.1 hp).1
      rw [← ht, List.getElem?_take, if_pos (by omega), Array.getElem?_toList] at h3
      rw [cell_of_row hg]; exact h3
end Go.Proofs.Ytbegjgceemffcaa
