/- Merges: strings.Cut at a space; a line's reader; lines.next. -/
import Derived.Test.YtmdhendfmhhniaaDoorPh
import Derived.StillTailTactics
namespace Go.Proofs.YtmdhendfmhhniaaDoor
open Go.RowKit Go.Maps
variable {w w' : World}

theorem idx_sp : ∀ l : List UInt8, Lib.indexByte l 32 = if (l.takeWhile (· != 32)).length < l.length then ((l.takeWhile (· != 32)).length : Int) else -1
  | [] => rfl
  | b :: r => by
    rw [List.takeWhile_cons]
    unfold Lib.indexByte
    by_cases h : b = 32
    · subst h; simp
    · have h1 : (b == 32) = false := by simpa using h
      have h2 : (b != 32) = true := by simpa using h
      have ih := idx_sp r
      rw [if_neg (by simp [h1]), if_pos h2, ih]
      by_cases hc : (r.takeWhile (· != 32)).length < r.length
      · simp [hc]
      · simp [hc]
theorem spAt_le (s : ByteArray) : spAt s ≤ s.size := by
  unfold spAt
  have := takeWhile_len (· != 32) s.data.toList
  rw [size_len] at this; exact this
theorem idx_spAt (s : ByteArray) : Lib.indexByte s.data.toList 32 = if spAt s < s.size then ((spAt s : Nat) : Int) else -1 := by
  rw [idx_sp, size_len]; rfl
theorem ext_none {s : ByteArray} {a b : Nat} (h : b ≤ a) : s.extract a b = ⟨#[]⟩ := by
  apply ByteArray.ext
  rw [ByteArray.data_extract]
  apply Array.eq_empty_of_size_eq_zero
  simp; omega
set_option maxHeartbeats 1000000 in
set_option maxRecDepth 100000 in
theorem cut1_any (s : ByteArray) (w : World) (hs : s.size ≤ maxLen) :
    Calls Tryd.prog 85 #[.string s, .string ⟨#[32]⟩] w fun e w' => e = .returned (.tuple #[.string (pairOf s).1, .string (pairOf s).2, .bool (decide (spAt s < s.size))]) ∧ ∃ q, w' = w.drewN q := by
  unfold maxLen at hs
  have HI := Lib.hid (Tryd.stringslite_Index_one s 32 w)
  have hle := spAt_le s
  by_cases hc : spAt s < s.size
  · have HX := Lib.hid (show Lib.indexByte s.data.toList 32 = ((spAt s : Nat) : Int) by rw [idx_spAt, if_pos hc])
    have HE : Hid (pairOf s = (s.extract 0 (spAt s), s.extract (spAt s + 1) s.size)) := Lib.hid rfl
    have HD := Lib.hid (decide_eq_true hc)
    obtain ⟨x, hx⟩ : ∃ x, spAt s = x := ⟨_, rfl⟩
    rw [hx] at hc hle HX HE HD ⊢
    rw [HD.out]
    clear hx
    go_enter Tryd.func85, Tryd.ntmps85
    go_wp2_with (go_at_call 101; refine HI.out.mono ?_; rintro e w1 ⟨rfl, rfl⟩; rw [HX.out])
    have hx1 : (x : Int) + 1 ≤ s.size := by omega
    go_quiet (fail)
    go_wp2_with fail
    refine bodyPost_ret (v := .tuple #[.string (pairOf s).1, .string (pairOf s).2, .bool true]) (by simp [results, Tryd.results85, go_sem, HE.out]) rfl ⟨rfl, _, rfl⟩
  · have HX := Lib.hid (show Lib.indexByte s.data.toList 32 = -1 by rw [idx_spAt, if_neg hc])
    have HE : Hid (pairOf s = (s, ⟨#[]⟩)) := Lib.hid (by
      unfold pairOf
      rw [show spAt s = s.size by omega, ext_all, ext_none (by omega)])
    have HD := Lib.hid (decide_eq_false hc)
    rw [HD.out]
    clear hc hle
    go_enter Tryd.func85, Tryd.ntmps85
    go_wp2_with (go_at_call 101; refine HI.out.mono ?_; rintro e w1 ⟨rfl, rfl⟩; rw [HX.out])
    refine bodyPost_ret (v := .tuple #[.string (pairOf s).1, .string (pairOf s).2, .bool false]) (by simp [results, Tryd.results85, go_sem, HE.out]) rfl ⟨rfl, 0, rfl⟩
set_option maxHeartbeats 1000000 in
theorem cut_any (s : ByteArray) (w : World) (hs : s.size ≤ maxLen) :
    Calls Tryd.prog 63 #[.string s, .string ⟨#[32]⟩] w fun e w' => e = .returned (.tuple #[.string (pairOf s).1, .string (pairOf s).2, .bool (decide (spAt s < s.size))]) ∧ ∃ q, w' = w.drewN q := by
  have HI := Lib.hid (cut1_any s w hs)
  go_enter Tryd.func63, Tryd.ntmps63
  go_wp2_with (go_at_call 85; refine HI.out.mono ?_; rintro e w1 ⟨rfl, q, rfl⟩)
  refine bodyPost_ret (v := .tuple #[.string (pairOf s).1, .string (pairOf s).2, .bool (decide (spAt s < s.size))]) (by simp [results, Tryd.results63, go_sem]) rfl ⟨rfl, _, rfl⟩
/-- The map at b is the set of the pairs of out. -/
def IsSet (b n : Nat) (out : List PairB) (w : World) : Prop :=
  ∃ D : DataW Unit, w.ownsMap Tryd.prog 48 unitElem b n D ∧ ∀ p, OkP p → has D (keyB p) = (rankN out p).isSome
theorem IsSet.keep {b n : Nat} {out : List PairB} (h : IsSet b n out w) (hb : w'.heap[b]? = w.heap[b]?) : IsSet b n out w' := by
  obtain ⟨D, ⟨es, clock, h1, h2⟩, h3⟩ := h
  exact ⟨D, ⟨es, clock, hb.trans h1, h2⟩, h3⟩
theorem IsSet.lt {b n : Nat} {out : List PairB} (h : IsSet b n out w) : b < w.heap.size := by
  obtain ⟨D, h1, _⟩ := h
  exact h1.lt
theorem IsSet.below {b n : Nat} {out : List PairB} (h : IsSet b n out w) (hb : Below w.heap.size w w') : IsSet b n out w' := h.keep (hb.block b h.lt)
theorem IsSet.new (w : World) : IsSet w.heap.size 0 [] (w.alloc (.map #[] 0)) := ⟨.map [], World.ownsMap_made w _ _ _, fun _ _ => rfl⟩
theorem IsSet.put {b n : Nat} {out : List PairB} {q : PairB} {D : DataW Unit} (hD : w.ownsMap Tryd.prog 48 unitElem b n D) (h2 : ∀ p, OkP p → has D (keyB p) = (rankN out p).isSome) (hq : OkP q)
    (h' : w'.ownsMap Tryd.prog 48 unitElem b (n + 1) (D.put (keyB q) (.agg []))) : IsSet b (n + 1) (out ++ [q]) w' := by
  refine ⟨_, h', fun p hp => ?_⟩
  have hm : IsMap D := hD.isMap
  rw [rankN_snoc]
  by_cases e : q = p
  · subst e
    rw [has_put_same hm (keyB_str q)]
    cases rankN out q <;> simp
  · rw [has_put_other (fun hk => e (keyB_inj hq hp hk.symm)), h2 p hp]
    cases rankN out p <;> simp [e]
/-- Only the map at b has changed. -/
structure FrM (b : Nat) (w w' : World) : Prop where
  low : Below 0 w w'
  size : w.heap.size ≤ w'.heap.size
  block : ∀ k, k < w.heap.size → k ≠ b → w'.heap[k]? = w.heap[k]?
theorem FrM.of_below {b : Nat} (h : Below w.heap.size w w') : FrM b w w' := ⟨h.mono (Nat.zero_le _), h.size, fun k hk _ => h.block k hk⟩
theorem FrM.trans {b : Nat} {w'' : World} (h : FrM b w w') (k : FrM b w' w'') : FrM b w w'' :=
  ⟨h.low.trans k.low, Nat.le_trans h.size k.size, fun i hi a => (k.block i (Nat.lt_of_lt_of_le hi h.size) a).trans (h.block i hi a)⟩
theorem FrM.turned {b : Nat} (h : w.mapTurned w' b) : FrM b w w' :=
  ⟨(Below.refl 0 w).grown h.grown (Nat.zero_le _) (fun k e => Nat.zero_le _), h.grown.size, fun k hk hb => h.grown.block k hk (fun e => hb (by injection e))⟩
def okRead (b n : Nat) (out : List PairB) (w : World) (r : PairB ⊕ Int) (e : Ending) (w' : World) : Prop :=
  match r with
  | .inr x => e = .returned (.tuple #[.agg #[.string ⟨#[]⟩, .string ⟨#[]⟩], .int .i64 x]) ∧ IsSet b n out w' ∧ FrM b w w'
  | .inl p => e = .returned (.tuple #[.agg #[.string p.1, .string p.2], .int .i64 0]) ∧ IsSet b (n + 1) (out ++ [p]) w' ∧ FrM b w w'
theorem fin_below {b n : Nat} {out : List PairB} (h : IsSet b n out w) (hb : Below w.heap.size w w') : IsSet b n out w' ∧ FrM b w w' := ⟨h.below hb, FrM.of_below hb⟩
theorem after_put {w2 w3 : World} {bm r : Nat} {x y : ByteArray} {cs : Array Value} {es : Array MapEntry} {ck : Nat} (ht : ((w2.alloc (.cells #[.string x, .string y] 48)).alloc (.cells #[] 69)).mapTurned w3 bm) (hm : w2.heap[bm]? = some (.map es ck)) (hr : w2.heap[r]? = some (.cells cs 48 (0, 0))) :
    w3.heap[w2.heap.size]? = some (.cells #[.string x, .string y] 48 (0, 0)) ∧ w3.heap[r]? = some (.cells cs 48 (0, 0)) ∧ FrM bm w2 w3 := by
  have hlm := lt_of_some hm
  have hlr := lt_of_some hr
  have hne : r ≠ bm := fun e => by rw [e, hm] at hr; cases hr
  have hg := ht.grown
  have hb : Below w2.heap.size w2 ((w2.alloc (.cells #[.string x, .string y] 48)).alloc (.cells #[] 69)) := ((Below.refl _ w2).alloc (Nat.le_refl _) _).alloc (by simp) _
  refine ⟨?_, ?_, (FrM.of_below hb).trans (FrM.turned ht)⟩
  · rw [hg.block w2.heap.size (by simp; omega) (fun e => by injection e with e; omega)]
    exact (Lib.alloc_old _ _ _ (by simp)).trans (World.alloc_heap_new w2 _)
  · rw [hg.block r (by simp; omega) (fun e => by injection e with e; exact hne e)]
    exact (hb.block r hlr).trans hr
theorem good_ok {s : ByteArray} (h : goodB s = true) : s.size ≤ 64 := by
  unfold goodB at h
  simp only [Bool.and_eq_true, decide_eq_true_eq] at h
  exact h.1.2
theorem Good_yes (s : ByteArray) (h : goodB s = true) (w : World) : Calls Tryd.prog 17 #[.string s] w fun e w' => e = .returned (.bool true) ∧ w' = w := by
  have h2 := good_ok h
  exact h ▸ Good_any s w (by unfold maxLen; omega)
theorem Good_no (s : ByteArray) (h : goodB s = false) (hs : s.size ≤ maxLen) (w : World) : Calls Tryd.prog 17 #[.string s] w fun e w' => e = .returned (.bool false) ∧ w' = w := h ▸ Good_any s w hs
theorem pairOf_size (s : ByteArray) : (pairOf s).1.size ≤ s.size ∧ (pairOf s).2.size ≤ s.size := by
  unfold pairOf
  constructor <;> simp <;> omega
set_option maxHeartbeats 2000000 in
set_option maxRecDepth 100000 in
theorem read_any (bk bm n : Nat) (out : List PairB) (s : ByteArray) (w : World) (hs : s.size ≤ maxLen) (hk : w.cell? ⟨bk, 0, none⟩ = some (.map (some bm))) (hS : IsSet bm n out w) (hn : n ≤ 5000) :
    Calls Tryd.prog 88 #[.string s, .pointer (some ⟨bk, 0, none⟩)] w fun e w' => okRead bm n out w (rdM out s) e w' := by
  have HC := fun W => cut_any s W hs
  have hsz := pairOf_size s
  have HE : Hid (rdM out s = if goodB (pairOf s).1 && goodB (pairOf s).2 then if (rankN out (pairOf s)).isSome then .inr 10 else .inl (pairOf s) else .inr 2) := Lib.hid rfl
  obtain ⟨d, hd⟩ : ∃ d, decide (spAt s < s.size) = d := ⟨_, rfl⟩
  obtain ⟨⟨a, b⟩, hab⟩ : ∃ p : PairB, pairOf s = p := ⟨_, rfl⟩
  rw [hab] at HE HC hsz
  simp only [hd] at HC
  have HC := Lib.hid HC
  obtain ⟨r, hr⟩ : ∃ r, rdM out s = r := ⟨_, rfl⟩
  rw [hr] at HE ⊢
  have HSS := Lib.hid hS
  have hbk : bk < w.heap.size := World.block_lt_of_cell? w _ hk
  clear hd hab hr hS
  simp only at hsz
  have hw0 : Below w.heap.size w (w.alloc (.cells #[.string ⟨#[]⟩, .string ⟨#[]⟩] 48)) := (Below.refl _ _).alloc (Nat.le_refl _) _
  have HW0 := Lib.hid hw0
  clear hw0
  by_cases ga : goodB a = true
  · by_cases gb : goodB b = true
    · have HGa := Lib.hid (Good_yes a ga)
      have HGb := Lib.hid (Good_yes b gb)
      have hok : OkP (a, b) := ⟨by have := good_ok ga; show a.size ≤ _; unfold maxLen; omega, by have := good_ok gb; show b.size ≤ _; unfold maxLen; omega⟩
      have HOK := Lib.hid hok
      have HKB := Lib.hid (keyB_of hok)
      have HR := Lib.hid (show r = if (rankN out (a, b)).isSome then .inr 10 else .inl (a, b) by rw [HE.out]; simp [ga, gb])
      clear ga gb HE hok
      go_enter Tryd.func88, Tryd.ntmps88
      go_wp2_with (go_at_call 63; (with_reducible refine (HC.out _).mono ?_); rintro e w1 ⟨rfl, q, rfl⟩; clear HC)
      have HB1 := Lib.hid (below_drewN HW0.out q)
      have HG1 : Hid (((w.alloc (.cells #[.string ⟨#[]⟩, .string ⟨#[]⟩] 48)).drewN q).heap[w.heap.size]? = some (.cells #[.string ⟨#[]⟩, .string ⟨#[]⟩] 48 (0, 0))) := Lib.hid (World.alloc_heap_new w _)
      generalize (w.alloc (.cells #[.string ⟨#[]⟩, .string ⟨#[]⟩] 48)).drewN q = w1 at HB1 HG1 ⊢
      have hk1 : w1.cell? ⟨bk, 0, none⟩ = some (.map (some bm)) := (HB1.out.cell (p := ⟨bk, 0, none⟩) hbk).trans hk
      obtain ⟨D, hD, hD2⟩ := HSS.out.below HB1.out
      have HD := Lib.hid hD; have HD2 := Lib.hid hD2
      have HH := Lib.hid (hD2 _ HOK.out)
      have HLT := Lib.hid (lt_of_some HG1.out)
      have HBM := Lib.hid hD.lt
      have hbk1 : bk < w1.heap.size := World.block_lt_of_cell? w1 _ hk1
      have r0 : w1.cell? ⟨w.heap.size, 0, none⟩ = some (.string ⟨#[]⟩) := cell_of_row HG1.out
      have r1 : w1.cell? ⟨w.heap.size, 1, none⟩ = some (.string ⟨#[]⟩) := cell_of_row HG1.out
      have rf : ∀ j, w1.frozen? ⟨w.heap.size, j, none⟩ = false := fun j => by simp [World.frozen?, HG1.out]
      have rlt : w.heap.size < w1.heap.size := HLT.out
      clear hD hD2 hk
      cases hc : (rankN out (a, b)).isSome with
      | true =>
        have HR2 := Lib.hid (show r = .inr 10 by rw [HR.out, hc]; rfl)
        go_wp2_with (first
          | (go_at_call 17; (with_reducible refine (HGa.out _).mono ?_); rintro e w2 ⟨rfl, rfl⟩; clear HGa)
          | (go_at_call 17; (with_reducible refine (HGb.out _).mono ?_); rintro e w2 ⟨rfl, rfl⟩; clear HGb)
          | (at_lookup; refine wpList_lookup_own_unit _ rfl _ _ 166 rfl 48 69 keyedP Tryd.underlying166 (Tryd.zeroValue69 _) bm n D rfl (HD.out.alloc _) _ (keyB (a, b)) rfl HKB.out ?_; rw [HH.out, hc]))
        rw [HR2.out]
        have hb := (HB1.out.setCell (p := ⟨w.heap.size, 0, none⟩) (Nat.le_refl _) (.string ⟨#[]⟩)).setCell (p := ⟨w.heap.size, 1, none⟩) (Nat.le_refl _) (.string ⟨#[]⟩)
        have hb2 := (hb.alloc hb.size (.cells #[.string a, .string b] 48)).alloc (by have := hb.size; simp; omega) (.cells #[] 69)
        have hrow := heap_set (i := 1) (.string ⟨#[]⟩) (heap_set (i := 0) (.string ⟨#[]⟩) HG1.out)
        have hrow2 := (Lib.alloc_old (World.alloc _ (.cells #[.string a, .string b] 48)) (.cells #[] 69) w.heap.size (by have := lt_of_some hrow; simp only [World.size_alloc]; omega)).trans ((Lib.alloc_old _ (.cells #[.string a, .string b] 48) w.heap.size (lt_of_some hrow)).trans hrow)
        have HF := Lib.hid (fin_below HSS.out hb2)
        have z0 := cell_of_row (j := 0) hrow2
        have z1 := cell_of_row (j := 1) hrow2
        clear hb hb2 hrow hrow2
        generalize World.alloc _ (.cells #[] 69) = W at HF z0 z1 ⊢
        have z0' : W.cell? ⟨w.heap.size, 0, none⟩ = some (.string ⟨#[]⟩) := z0
        have z1' : W.cell? ⟨w.heap.size, 1, none⟩ = some (.string ⟨#[]⟩) := z1
        exact bodyPost_ret (v := .tuple #[.agg #[.string ⟨#[]⟩, .string ⟨#[]⟩], .int .i64 10]) (by simp [results, Tryd.results88, go_sem, z0', z1']) rfl ⟨rfl, HF.out⟩
      | false =>
        have hno : rankN out (a, b) = none := by
          cases h : rankN out (a, b) with
          | none => rfl
          | some i => rw [h] at hc; cases hc
        have HR2 := Lib.hid (show r = .inl (a, b) by rw [HR.out, hc]; rfl)
        clear hno
        go_wp2_with (first
          | (go_at_call 17; (with_reducible refine (HGa.out _).mono ?_); rintro e w2 ⟨rfl, rfl⟩; clear HGa)
          | (go_at_call 17; (with_reducible refine (HGb.out _).mono ?_); rintro e w2 ⟨rfl, rfl⟩; clear HGb)
          | (at_lookup; refine wpList_lookup_own_unit _ rfl _ _ 166 rfl 48 69 keyedP Tryd.underlying166 (Tryd.zeroValue69 _) bm n D rfl (HD.out.alloc _) _ (keyB (a, b)) rfl HKB.out ?_; rw [HH.out, hc])
          | (at_mapUpdate; refine wpList_mapUpdate_in _ rfl _ _ _ 166 rfl 48 69 keyedP Tryd.underlying166 unitElem bm n D rfl ((HD.out.alloc _).alloc _) (by unfold maxLen; omega) _ _ (keyB (a, b)) rfl rfl HKB.out (.agg []) [] unitElem_mk ?_; intro w3 hown3 hturn3; obtain ⟨es, ck, hmm, _⟩ := HD.out; obtain ⟨u1, u2, u3⟩ := after_put hturn3 hmm HG1.out; have x0 : w3.cell? ⟨w2.heap.size, 0, none⟩ = some (.string a) := cell_of_row u1; have x1 : w3.cell? ⟨w2.heap.size, 1, none⟩ = some (.string b) := cell_of_row u1; have y0 : w3.cell? ⟨w.heap.size, 0, none⟩ = some (.string ⟨#[]⟩) := cell_of_row u2; have y1 : w3.cell? ⟨w.heap.size, 1, none⟩ = some (.string ⟨#[]⟩) := cell_of_row u2; have yf : ∀ j, w3.frozen? ⟨w.heap.size, j, none⟩ = false := fun j => (by simp [World.frozen?, u2]); have HU2 := Lib.hid u2; have HU3 := Lib.hid u3; have HO3 := Lib.hid hown3; clear hown3 hturn3 u1 u2 u3 hmm))
        rw [HR2.out]
        have hb := ((Below.refl w.heap.size w3).setCell (p := ⟨w.heap.size, 0, none⟩) (Nat.le_refl _) (.string a)).setCell (p := ⟨w.heap.size, 1, none⟩) (Nat.le_refl _) (.string b)
        have hset := (IsSet.put HD.out HD2.out HOK.out HO3.out).keep (w' := (w3.setCell ⟨w.heap.size, 0, none⟩ (.string a)).setCell ⟨w.heap.size, 1, none⟩ (.string b)) (by
          have hne : bm ≠ w.heap.size := by
            obtain ⟨es, ck, hmm, _⟩ := HO3.out
            intro e
            rw [e, HU2.out] at hmm; cases hmm
          exact (Below.heap_setCell _ ⟨w.heap.size, 1, none⟩ _ _ hne).trans (Below.heap_setCell _ ⟨w.heap.size, 0, none⟩ _ _ hne))
        have hfr : FrM bm w ((w3.setCell ⟨w.heap.size, 0, none⟩ (.string a)).setCell ⟨w.heap.size, 1, none⟩ (.string b)) := by
          have h1 := (FrM.of_below (b := bm) HB1.out).trans HU3.out
          exact ⟨h1.low.trans (hb.mono (Nat.zero_le _)), Nat.le_trans h1.size hb.size, fun k hk hkb => (hb.block k hk).trans (h1.block k hk hkb)⟩
        have hrow := heap_set (i := 1) (.string b) (heap_set (i := 0) (.string a) HU2.out)
        have z0 := cell_of_row (j := 0) hrow
        have z1 := cell_of_row (j := 1) hrow
        have HF := Lib.hid hset; have HF2 := Lib.hid hfr
        clear hb hset hfr hrow
        generalize (w3.setCell ⟨w.heap.size, 0, none⟩ (.string a)).setCell ⟨w.heap.size, 1, none⟩ (.string b) = W at HF HF2 z0 z1 ⊢
        have z0' : W.cell? ⟨w.heap.size, 0, none⟩ = some (.string a) := z0
        have z1' : W.cell? ⟨w.heap.size, 1, none⟩ = some (.string b) := z1
        exact bodyPost_ret (v := .tuple #[.agg #[.string a, .string b], .int .i64 0]) (by simp [results, Tryd.results88, go_sem, z0', z1']) rfl ⟨rfl, HF.out, HF2.out⟩
    · have HGa := Lib.hid (Good_yes a ga)
      have HGb := Lib.hid (Good_no b (by simpa using gb) (by have := hsz.2; unfold maxLen at *; omega))
      have HR := Lib.hid (show r = .inr 2 by rw [HE.out]; simp [gb])
      clear ga gb HE
      go_enter Tryd.func88, Tryd.ntmps88
      go_wp2_with (first
        | (go_at_call 63; (with_reducible refine (HC.out _).mono ?_); rintro e w1 ⟨rfl, q, rfl⟩; clear HC)
        | (go_at_call 17; (with_reducible refine (HGa.out _).mono ?_); rintro e w2 ⟨rfl, rfl⟩; clear HGa)
        | (go_at_call 17; (with_reducible refine (HGb.out _).mono ?_); rintro e w2 ⟨rfl, rfl⟩; clear HGb))
      rw [HR.out]
      refine bodyPost_ret (v := .tuple #[.agg #[.string ⟨#[]⟩, .string ⟨#[]⟩], .int .i64 2]) (by simp [results, Tryd.results88, go_sem]) rfl ⟨rfl, ?_⟩
      exact fin_below HSS.out (((below_drewN HW0.out _).setCell (p := ⟨w.heap.size, 0, none⟩) (Nat.le_refl _) (.string ⟨#[]⟩)).setCell (p := ⟨w.heap.size, 1, none⟩) (Nat.le_refl _) (.string ⟨#[]⟩))
  · have HGa := Lib.hid (Good_no a (by simpa using ga) (by have := hsz.1; unfold maxLen at *; omega))
    have HR := Lib.hid (show r = .inr 2 by rw [HE.out]; simp [ga])
    clear ga HE
    go_enter Tryd.func88, Tryd.ntmps88
    go_wp2_with (first
      | (go_at_call 63; (with_reducible refine (HC.out _).mono ?_); rintro e w1 ⟨rfl, q, rfl⟩; clear HC)
      | (go_at_call 17; (with_reducible refine (HGa.out _).mono ?_); rintro e w2 ⟨rfl, rfl⟩; clear HGa))
    rw [HR.out]
    refine bodyPost_ret (v := .tuple #[.agg #[.string ⟨#[]⟩, .string ⟨#[]⟩], .int .i64 2]) (by simp [results, Tryd.results88, go_sem]) rfl ⟨rfl, ?_⟩
    exact fin_below HSS.out (((below_drewN HW0.out _).setCell (p := ⟨w.heap.size, 0, none⟩) (Nat.le_refl _) (.string ⟨#[]⟩)).setCell (p := ⟨w.heap.size, 1, none⟩) (Nat.le_refl _) (.string ⟨#[]⟩))
end Go.Proofs.YtmdhendfmhhniaaDoor
