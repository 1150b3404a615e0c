/- Merges: rows of pairs; the law's pairs, which makes both. -/
import Derived.Test.YtlfjlkmikmajaaaPd
import Derived.RangeFuncBox
namespace Go.Proofs.Ytlfjlkmikmajaaa
open Go.RowKit

/-- The cells of a row of pairs. -/
def flatP (l : List PairB) : List Value := l.flatMap fun p => [Value.string p.1, Value.string p.2]
theorem flatP_length (l : List PairB) : (flatP l).length = l.length * 2 := by
  unfold flatP
  induction l with
  | nil => rfl
  | cons p l ih => rw [List.flatMap_cons, List.length_append, ih, List.length_cons]; simp; omega
theorem flatP_snoc (l : List PairB) (p : PairB) : flatP (l ++ [p]) = flatP l ++ [Value.string p.1, Value.string p.2] := by unfold flatP; rw [List.flatMap_append]; rfl
theorem flatP_get : ∀ (l : List PairB) (k : Nat) (p : PairB), l[k]? = some p → (flatP l)[k * 2]? = some (.string p.1) ∧ (flatP l)[k * 2 + 1]? = some (.string p.2)
  | [], k, p, h => by simp at h
  | q :: l, 0, p, h => by simp at h; subst h; exact ⟨rfl, rfl⟩
  | q :: l, k + 1, p, h => by
    rw [List.getElem?_cons_succ] at h
    have := flatP_get l k p h
    have e : flatP (q :: l) = Value.string q.1 :: Value.string q.2 :: flatP l := rfl
    rw [e, show (k + 1) * 2 = k * 2 + 1 + 1 by omega]
    simpa only [List.getElem?_cons_succ] using this
/-- A slice's pairs, in its row of type t. -/
def PrAt (w : World) (t : TypeId) (o : Option Addr) (l : List PairB) : Prop :=
  ∀ k p, l[k]? = some p → ∃ g cur, o = some ⟨g, 0, none⟩ ∧ w.heap[g]? = some (.cells cur t (0, 0)) ∧ w.cell? ⟨g, k * 2, none⟩ = some (.string p.1) ∧ w.cell? ⟨g, k * 2 + 1, none⟩ = some (.string p.2)
theorem PrAt.same {w w' : World} {t : TypeId} {o : Option Addr} {l : List PairB} (h : PrAt w t o l) (hb : ∀ g cur, o = some ⟨g, 0, none⟩ → w.heap[g]? = some (.cells cur t (0, 0)) → w'.heap[g]? = w.heap[g]?) : PrAt w' t o l := fun k p hp => by
  obtain ⟨b, cur, h1, h2, h3, h4⟩ := h k p hp
  have e := hb b cur h1 h2
  refine ⟨b, cur, h1, e.trans h2, ?_, ?_⟩
  · unfold World.cell? at h3 ⊢; simp only [e]; exact h3
  · unfold World.cell? at h4 ⊢; simp only [e]; exact h4
theorem lt_of_some {w : World} {g : Nat} {o : Obj} (h : w.heap[g]? = some o) : g < w.heap.size := (Array.getElem?_eq_some_iff.1 h).1
theorem PrAt.below {w w' : World} {t : TypeId} {o : Option Addr} {l : List PairB} (h : PrAt w t o l) (hb : Below w.heap.size w w') : PrAt w' t o l := h.same fun _ _ _ h2 => hb.block _ (lt_of_some h2)
theorem addr_at (g j : Nat) : ((⟨g, 0, none⟩ : Addr).add j) = ⟨g, j, none⟩ := by unfold Addr.add; split <;> simp_all
theorem cell_of_row {w : World} {g : Nat} {cur : Array Value} {t : TypeId} {x : Nat × Nat} {j : Nat} (h : w.heap[g]? = some (.cells cur t x)) : w.cell? ⟨g, j, none⟩ = cur[j]? := by
  unfold World.cell?; simp only [h]; rfl
/-- What a row of one's own holds. -/
theorem own_pairs {w : World} {B : Nat} {t : TypeId} {v : Value} {l : List PairB} (h : w.ownsRow B t 2 v l.length (flatP l)) : ∃ o cap, v = .slice o l.length cap ∧ PrAt w t o l := by
  rcases h.2 with ⟨h1, h2⟩ | ⟨g, cap, cur, h1, _, hg, hn, _, hz, ht⟩
  · exact ⟨none, 0, by rw [h1, h2], fun k p hp => by have := (List.getElem?_eq_some_iff.1 hp).1; omega⟩
  · refine ⟨some ⟨g, 0, none⟩, cap, h1, fun k p hp => ⟨g, cur, rfl, hg, ?_, ?_⟩⟩
    · have h3 := (flatP_get l k p hp).1
      have hk := (List.getElem?_eq_some_iff.1 hp).1
      rw [← ht, List.getElem?_take, if_pos (by omega), Array.getElem?_toList] at h3
      rw [cell_of_row hg]; exact h3
    · have h3 := (flatP_get l k p hp).2
      have hk := (List.getElem?_eq_some_iff.1 hp).1
      rw [← ht, List.getElem?_take, if_pos (by omega), Array.getElem?_toList] at h3
      rw [cell_of_row hg]; exact h3
theorem own_below {w w' : World} {B : Nat} {e : TypeId} {size : Nat} {v : Value} {n : Nat} {xs : List Value} (h : w.ownsRow B e size v n xs) (hb : Below w.heap.size w w') : w'.ownsRow B e size v n xs := by
  refine ⟨h.1, ?_⟩
  rcases h.2 with hv | ⟨g, cap, cur, hv, hB, hg, r⟩
  · exact .inl hv
  · exact .inr ⟨g, cap, cur, hv, hB, (hb.block g (lt_of_some hg)).trans hg, r⟩

/-- The pairs that come in: rows of two texts, one behind the other. -/
def InAt (w : World) (o : Option Addr) (l : List PairB) : Prop :=
  ∀ k p, l[k]? = some p → ∃ b i, o = some ⟨b, i, none⟩ ∧ w.cell? ⟨b, i + k * 2, none⟩ = some (.string p.1) ∧ w.cell? ⟨b, i + k * 2 + 1, none⟩ = some (.string p.2)
theorem below_drewN {B : Nat} {a w : World} (h : Below B a w) (n : Nat) : Below B a (w.drewN n) := ⟨h.os, h.tape, h.output, h.size, h.block⟩
theorem cell_two_new (w : World) (t : TypeId) (a b : Value) : ∀ (j : Nat) (u : Value), [a, b][j]? = some u → (w.alloc (.cells #[a, b] t)).cell? ((⟨w.heap.size, 0, none⟩ : Addr).add j) = some u := fun j u h => by
  have hg : (w.alloc (.cells #[a, b] t)).heap[w.heap.size]? = some (.cells #[a, b] t (0, 0)) := World.alloc_heap_new w _
  rw [addr_at, cell_of_row hg]
  match j, h with
  | 0, h => exact h
  | 1, h => exact h
theorem row_apart {w : World} {B B' : Nat} {t t' : TypeId} {v v' : Value} {n n' s s' : Nat} {xs ys : List Value} (h : w.ownsRow B t s v n xs) (h' : w.ownsRow B' t' s' v' n' ys) (hne : t ≠ t') : v.ownBlock = none ∨ v.ownBlock ≠ v'.ownBlock := by
  rcases h.2 with ⟨h1, _⟩ | ⟨g, cap, cur, h1, _, hg, _⟩
  · exact .inl (by rw [h1]; rfl)
  · right
    subst h1
    rcases h'.2 with ⟨h2, _⟩ | ⟨g', cap', cur', h2, _, hg', _⟩
    · subst h2; simp [Value.ownBlock]
    · subst h2
      intro e
      have : g = g' := by simpa [Value.ownBlock] using e
      subst this
      rw [hg] at hg'
      injection hg' with hg'; injection hg' with _ h3
      exact hne h3
theorem own_base {w : World} {B : Nat} {t : TypeId} {v : Value} {n s : Nat} {xs : List Value} (h : w.ownsRow B t s v n xs) : ∀ k, v.ownBlock = some k → B ≤ k := fun k hk => by
  rcases h.2 with ⟨h1, _⟩ | ⟨g, cap, cur, h1, hB, _⟩
  · rw [h1] at hk; cases hk
  · rw [h1] at hk
    have : g = k := by simpa [Value.ownBlock] using hk
    omega
theorem flatP_take (l : List PairB) (k : Nat) (p : PairB) (h : l[k]? = some p) : flatP (l.take (k + 1)) = flatP (l.take k) ++ [Value.string p.1, Value.string p.2] := by
  rw [List.take_add_one, h, Option.toList_some, flatP_snoc]
def PS (w : World) (l : List PairB) (a b i : Value) (wr : World) : Prop :=
  ∃ k : Nat, k ≤ l.length ∧ k ≤ 60 ∧ i = .int .i64 k ∧ wr.ownsRow w.heap.size 32 2 a k (flatP (l.take k)) ∧ wr.ownsRow w.heap.size 31 2 b k (flatP (l.take k)) ∧ Below w.heap.size w wr
theorem info_mp : (Try.prog.info? 32).map (fun i => (i.zero, i.size, i.bytes)) = some (some (.agg #[.string ⟨#[]⟩, .string ⟨#[]⟩]), 2, 32) := by kernel_rfl
theorem info_rp : (Try.prog.info? 31).map (fun i => (i.zero, i.size, i.bytes)) = some (some (.agg #[.string ⟨#[]⟩, .string ⟨#[]⟩]), 2, 32) := by kernel_rfl
theorem two_mem {a b : ByteArray} : ∀ u ∈ [Value.string a, Value.string b], u.oneCell' = true := by
  intro u hu; simp at hu; rcases hu with rfl | rfl <;> rfl
set_option maxHeartbeats 2000000 in
set_option maxRecDepth 100000 in
theorem pairs_any (o : Option Addr) (l : List PairB) (cap : Nat) (w : World) (hl : l.length ≤ maxLen) (hi : InAt w o l) :
    Calls Try.prog 14 #[.slice o l.length cap] w fun e w' => ∃ a b, e = .returned (.tuple #[a, b]) ∧ w'.ownsRow w.heap.size 32 2 a (l.take 60).length (flatP (l.take 60)) ∧ w'.ownsRow w.heap.size 31 2 b (l.take 60).length (flatP (l.take 60)) ∧ Below w.heap.size w w' := by
  obtain ⟨n, hn⟩ : ∃ n, l.length = n := ⟨_, rfl⟩
  rw [hn] at hl ⊢
  unfold maxLen at hl
  obtain ⟨i1, hi1, hz0, hz1, hz2⟩ := info_parts info_mp
  obtain ⟨i2, hi2, hy0, hy1, hy2⟩ := info_parts info_rp
  have HI1 := Lib.hid hi1; have HZ0 := Lib.hid hz0; have HZ1 := Lib.hid hz1; have HZ2 := Lib.hid hz2
  have HI2 := Lib.hid hi2; have HY0 := Lib.hid hy0; have HY1 := Lib.hid hy1; have HY2 := Lib.hid hy2
  have HN := Lib.hid hn; have HI := Lib.hid hi
  have H0 : Hid (PS w l (.slice none 0 0) (.slice none 0 0) (.int .i64 0) w) := Lib.hid ⟨0, Nat.zero_le _, Nat.zero_le _, rfl, World.ownsRow_nil _ _ _ _, World.ownsRow_nil _ _ _ _, Below.refl _ _⟩
  clear hi1 hz0 hz1 hz2 hi2 hy0 hy1 hy2 hn hi
  go_enter Try.func14, Try.ntmps14
  go_wp2_with fail
  go_loopw [4, 5, 6] (fun a b i wr => PS w l a b i wr) (fun _ _ i _ => n - (intOf i).toNat)
  case atStart => exact H0.out
  case round =>
    obtain ⟨k, hk, hk60, rfl, ha, hb, hbel⟩ := hrel
    rw [HN.out] at hk
    have HA := Lib.hid ha; have HB := Lib.hid hb; have HW := Lib.hid hbel
    clear ha hb hbel H0
    by_cases hlt : k < n
    · by_cases h60 : k < 60
      · obtain ⟨p, hp⟩ : ∃ p, l[k]? = some p := ⟨_, List.getElem?_eq_getElem (by rw [HN.out]; exact hlt)⟩
        obtain ⟨b0, i0, hob, c0, c1⟩ := HI.out k p hp
        subst hob
        have hlt0 : b0 < w.heap.size := World.block_lt_of_cell? w _ c0
        have d0 := (HW.out.cell (p := ⟨b0, i0 + k * 2, none⟩) hlt0).trans c0
        have d1 := (HW.out.cell (p := ⟨b0, i0 + k * 2 + 1, none⟩) hlt0).trans c1
        obtain ⟨p1, p2⟩ := p
        have HP := Lib.hid hp
        clear hp c0 c1
        simp only at d0 d1
        go_wp2_with fail
        go_quiet (fail)
        rename_i nq
        have HA2 := Lib.hid (show (wr.drewN nq).ownsRow w.heap.size 32 2 u4 k (flatP (l.take k)) from HA.out)
        have HB2 := Lib.hid (show (wr.drewN nq).ownsRow w.heap.size 31 2 u5 k (flatP (l.take k)) from HB.out)
        have HW2 := Lib.hid (below_drewN HW.out nq)
        generalize wr.drewN nq = wd at HA2 HB2 HW2 ⊢
        go_wp2_with (at_builtin; refine wpList_append_own _ rfl _ _ 23 rfl w.heap.size 32 i1 (.agg #[.string ⟨#[]⟩, .string ⟨#[]⟩]) 2 32 Try.underlying23 HI1.out HZ0.out HZ1.out HZ2.out rfl (by decide) _ _ _ rfl (HA2.out.alloc _) ⟨wd.heap.size, 0, none⟩ 1 1 [.string p1, .string p2] rfl rfl (cell_two_new _ _ _ _) two_mem (by unfold maxLen; omega) (by omega) (by have := HW2.out.size; simp; omega) ?_)
        intro a' w1 hownA hgrow1 _
        have hb1 : w1.ownsRow w.heap.size 31 2 u5 k (flatP (l.take k)) := (HB2.out.alloc _).kept hgrow1 (row_apart HB2.out HA2.out (by decide))
        have hw1 : Below w.heap.size w w1 := (HW2.out.alloc HW2.out.size _).grown hgrow1 (by have := HW2.out.size; simp; omega) (own_base HA2.out)
        have HA3 := Lib.hid hownA; have HB3 := Lib.hid hb1; have HW3 := Lib.hid hw1
        clear hownA hgrow1 hb1 hw1 HA2 HB2
        go_wp2_with (at_builtin; refine wpList_append_own _ rfl _ _ 27 rfl w.heap.size 31 i2 (.agg #[.string ⟨#[]⟩, .string ⟨#[]⟩]) 2 32 Try.underlying27 HI2.out HY0.out HY1.out HY2.out rfl (by decide) _ _ _ rfl (HB3.out.alloc _) ⟨w1.heap.size, 0, none⟩ 1 1 [.string p1, .string p2] rfl rfl (cell_two_new _ _ _ _) two_mem (by unfold maxLen; omega) (by omega) (by have := HW3.out.size; simp; omega) ?_)
        intro b' w2 hownB hgrow2 _
        have hend : Hid (PS w l a' b' (.int .i64 ((k : Int) + 1)) w2) := Lib.hid ⟨k + 1, by rw [HN.out]; omega, by omega, by rw [Int.natCast_succ],
          by rw [flatP_take l k _ HP.out]; exact (HA3.out.alloc _).kept hgrow2 (row_apart HA3.out HB3.out (by decide)),
          by rw [flatP_take l k _ HP.out]; exact hownB,
          (HW3.out.alloc HW3.out.size _).grown hgrow2 (by have := HW3.out.size; simp; omega) (own_base HB3.out)⟩
        clear hownB hgrow2 HA3 HB3 HW3
        go_wp2_with fail
        go_roundw
        case rel => exact hend.out
        case measure => simp [intOf]; omega
      · have hk6 : k = 60 := by omega
        have hend : Hid ((List.take 60 l).length = k ∧ List.take 60 l = List.take k l) := Lib.hid ⟨by rw [List.length_take, HN.out]; omega, by rw [hk6]⟩
        go_wp2_with fail
        refine bodyPost_ret (v := .tuple #[u4, u5]) (by simp [results, Try.results14, go_sem]) rfl ⟨_, _, rfl, ?_, ?_, HW.out⟩
        · rw [hend.out.1, hend.out.2]; exact HA.out
        · rw [hend.out.1, hend.out.2]; exact HB.out
    · have hkn : k = n := by omega
      have hend : Hid ((List.take 60 l).length = k ∧ List.take 60 l = List.take k l) := Lib.hid ⟨by rw [List.length_take, HN.out]; omega, by rw [List.take_of_length_le (by rw [HN.out]; omega), List.take_of_length_le (by rw [HN.out]; omega)]⟩
      go_wp2_with fail
      refine bodyPost_ret (v := .tuple #[u4, u5]) (by simp [results, Try.results14, go_sem]) rfl ⟨_, _, rfl, ?_, ?_, HW.out⟩
      · rw [hend.out.1, hend.out.2]; exact HA.out
      · rw [hend.out.1, hend.out.2]; exact HB.out
end Go.Proofs.Ytlfjlkmikmajaaa
