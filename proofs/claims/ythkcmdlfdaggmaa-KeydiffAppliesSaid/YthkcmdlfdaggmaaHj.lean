/- Keyed lists: Apply. -/
import Derived.Test.YthkcmdlfdaggmaaHi
set_option linter.unusedVariables false
set_option linter.unusedSimpArgs false
namespace Go.Proofs.Ythkcmdlfdaggmaa
open Go.RowKit Go.Maps Go.WideShapes
variable {w w' : World}

abbrev ksC (l : List ChB) : List ByteArray := l.map (·.1)
/-- What the changes make of what is said. -/
def newU (a : List KvB) (l : List ChB) (s : ByteArray) : SdB := match l.find? (fun p => decide (p.1 = s)) with | some p => p.2.2 | none => sayK a s
theorem new_nil (a : List KvB) (s : ByteArray) : newU a [] s = sayK a s := rfl
theorem new_cons (a : List KvB) (p : ChB) (l : List ChB) (s : ByteArray) : newU a (p :: l) s = if p.1 = s then p.2.2 else newU a l s := by
  unfold newU; rw [List.find?_cons]
  by_cases h : p.1 = s <;> simp [h]
theorem new_not {a : List KvB} {l : List ChB} {s : ByteArray} (h : s ∉ ksC l) : newU a l s = sayK a s := by
  induction l with
  | nil => rfl
  | cons p l ih =>
    rw [show ksC (p :: l) = p.1 :: ksC l from rfl, List.mem_cons, not_or] at h
    rw [new_cons, if_neg (fun e => h.1 e.symm), ih h.2]
theorem new_snoc {a : List KvB} {l : List ChB} {p : ChB} (hn : p.1 ∉ ksC l) (s : ByteArray) : newU a (l ++ [p]) s = if p.1 = s then p.2.2 else newU a l s := by
  induction l with
  | nil => rw [List.nil_append, new_cons]
  | cons q l ih =>
    rw [show ksC (q :: l) = q.1 :: ksC l from rfl, List.mem_cons, not_or] at hn
    rw [List.cons_append, new_cons, new_cons, ih hn.2]
    by_cases h1 : q.1 = s
    · rw [if_pos h1, if_pos h1, if_neg (fun e => hn.1 (e.trans h1.symm))]
    · rw [if_neg h1, if_neg h1]
theorem new_mem {a : List KvB} {l : List ChB} (h : Asc (ksC l)) {p : ChB} (hp : p ∈ l) : newU a l p.1 = p.2.2 := by
  induction l with
  | nil => cases hp
  | cons q l ih =>
    obtain ⟨h1, h2⟩ := List.pairwise_cons.1 h
    rw [new_cons]
    rcases List.mem_cons.1 hp with rfl | hp
    · rw [if_pos rfl]
    · rw [if_neg (ltB_ne (h1 p.1 (List.mem_map_of_mem hp))), ih h2 hp]
theorem asc_fresh {l : List ChB} (h : Asc (ksC l)) {k : Nat} {p : ChB} (hp : l[k]? = some p) : p.1 ∉ ksC (l.take k) := fun hm => by
  have h1 : Asc (ksC (l.take (k + 1))) := by unfold ksC; rw [List.map_take]; exact List.Pairwise.sublist (List.take_sublist _ _) h
  rw [take_get hp] at h1
  unfold ksC at h1
  rw [List.map_append] at h1
  exact ltB_irrefl _ ((List.pairwise_append.1 h1).2.2 p.1 hm p.1 (by simp))
def staleC (a : List KvB) (p : ChB) : Bool := !decide (sayK a p.1 = p.2.1)
def applyK (a : List KvB) (l : List ChB) : List KvB × Int :=
  if ¬ (RightK a ∧ Asc (ksC l)) then ([], 12)
  else if l.any wrongC = true then ([], 2)
  else if l.any (staleC a) = true then ([], 13)
  else (itemK (keyL (ksK a ++ ksC l)) (newU a l), 0)
/-- Between two of Apply's rounds. -/
def ApS (a : List KvB) (l : List ChB) (w w3 : World) (n : Nat) (i : Value) (wr : World) : Prop :=
  ∃ k : Nat, k ≤ l.length ∧ i = .int .i64 k ∧ IsSd w3.heap.size (n + k) (ksK a ++ ksC (l.take k)) (newU a (l.take k)) wr ∧ (l.take k).any (staleC a) = false ∧ Below w.heap.size w wr
theorem any_take {l : List ChB} {a : List KvB} {k : Nat} {p : ChB} (hp : l[k]? = some p) (h : (l.take k).any (staleC a) = false) (hs : staleC a p = false) : (l.take (k + 1)).any (staleC a) = false := by
  rw [take_get hp, List.any_append, h]; simp [hs]
def apEnd (a : List KvB) (l : List ChB) (w : World) (e : Ending) (w' : World) : Prop :=
  ∃ v, e = .returned (.tuple #[v, .int .i64 (applyK a l).2]) ∧ w'.ownsRow w.heap.size 51 2 v (applyK a l).1.length (flatK (applyK a l).1) ∧ Below w.heap.size w w'
theorem apEnd.err {a : List KvB} {l : List ChB} {x : Int} (h : applyK a l = ([], x)) (hb : Below w.heap.size w w') : apEnd a l w (.returned (.tuple #[.slice none 0 0, .int .i64 x])) w' := by
  unfold apEnd; rw [h]
  exact ⟨_, rfl, World.ownsRow_nil _ _ _ _, hb⟩
set_option maxHeartbeats 8000000 in
set_option maxRecDepth 100000 in
theorem Apply_any (oa ol : Option Addr) (a : List KvB) (l : List ChB) (ca cl : Nat) (w : World) (hla : a.length ≤ 500000) (hll : l.length ≤ 500000) (ha : KvAt w oa a) (hl : ChAt w ol l) (hz : ∀ p ∈ l, p.1.size ≤ maxLen) :
    Calls Try.prog 15 #[.slice oa a.length ca, .slice ol l.length cl] w fun e w' => apEnd a l w e w' := by
  obtain ⟨n, hn⟩ : ∃ n, a.length = n := ⟨_, rfl⟩
  obtain ⟨m, hm⟩ : ∃ n, l.length = n := ⟨_, rfl⟩
  have HN := Lib.hid hn; have HM := Lib.hid hm; have HA := Lib.hid ha; have HL := Lib.hid hl; have HZ := Lib.hid hz
  have HR := Lib.hid (Right_any oa a ca w (by omega) ha)
  have hC := fun (w1 : World) (hb : Below w.heap.size w w1) => ascC_any ol l cl w1 (by omega) (hl.below hb)
  have hI := fun (w1 : World) (hb : Below w.heap.size w w1) => anyC_any ol l cl w1 (by omega) (hl.below hb)
  have hS := fun (w1 : World) (hb : Below w.heap.size w w1) (hr : RightK a) => sides_any oa a ca w1 (by omega) hr (ha.below hb)
  simp only [hn, hm] at HR hC hI hS
  rw [hn] at hla ⊢
  rw [hm] at hll ⊢
  have HC := Lib.hid hC; have HI := Lib.hid hI; have HS := Lib.hid hS
  clear hn hm ha hl hz hC hI hS
  by_cases hra : RightK a
  · have HRA := Lib.hid hra
    have hd1 : decide (RightK a) = true := decide_eq_true hra
    rw [hd1] at HR
    clear hra hd1
    by_cases hrl : Asc (ksC l)
    · have HRL := Lib.hid hrl
      have hd2 : decide (Asc (ksC l)) = true := decide_eq_true hrl
      rw [hd2] at HC
      clear hrl hd2
      go_enter Try.func15, Try.ntmps15
      go_wp2_with (first
        | (go_at_call 11; (with_reducible refine HR.out.mono ?_); rintro e w1 ⟨rfl, hb1⟩; have HB1 := Lib.hid hb1; clear hb1)
        | (go_at_call 23; (with_reducible refine (HC.out _ HB1.out).mono ?_); rintro e w2 ⟨rfl, hb2⟩; have HB2 := Lib.hid (HB1.out.trans (hb2.mono HB1.out.size)); clear hb2)
        | (go_at_call 25; (with_reducible refine (HI.out _ HB2.out).mono ?_)))
      rintro e w3 ⟨⟨x, rfl, hx⟩, hb3⟩
      have HB3 := Lib.hid (HB2.out.trans (hb3.mono HB2.out.size))
      have HX := Lib.hid hx
      clear hx hb3
      cases x with
      | true =>
        have HE : Hid (applyK a l = ([], 2)) := Lib.hid (by
          unfold applyK
          rw [if_neg (fun h => h ⟨HRA.out, HRL.out⟩), if_pos]
          obtain ⟨p, hp, hw⟩ := HX.out.1 rfl
          exact List.any_eq_true.2 ⟨p, hp, hw⟩)
        go_wp2_with fail
        exact bodyPost_ret (v := .tuple #[.slice none 0 0, .int .i64 2]) (by simp [results, Try.results15, go_sem]) rfl (apEnd.err HE.out HB3.out)
      | false =>
        have HW : Hid (l.any wrongC = false) := Lib.hid (by
          rw [List.any_eq_false]
          intro p hp hw
          have := HX.out.2 ⟨p, hp, hw⟩
          cases this)
        clear HX
        go_wp2_with (go_at_call 19; (with_reducible refine (HS.out _ HB3.out HRA.out).mono ?_))
        rintro e w4 ⟨rfl, hU, hb4⟩
        have HB4 := Lib.hid (HB3.out.trans (hb4.mono HB3.out.size))
        have H0 : Hid (ApS a l w w3 n (.int .i64 0) w4) := Lib.hid ⟨0, Nat.zero_le _, rfl, hU.congr (by simp) (fun s => by simp) (fun s _ => by rw [List.take_zero, new_nil]), by simp, HB4.out⟩
        have HLW := Lib.hid (show w3.heap.size < w4.heap.size from hU.lt)
        obtain ⟨g, hg⟩ : ∃ g, w3.heap.size = g := ⟨_, rfl⟩
        have HG := Lib.hid hg
        have HGW : Hid (w.heap.size ≤ g) := Lib.hid (by rw [← hg]; exact HB3.out.size)
        simp only [hg] at ⊢
        clear hU hb4 hg HR HC HI HS HB1 HB2
        go_wp2_with fail
        go_loopw [25] (fun i wr => ApS a l w w3 n i wr) (fun i _ => m - (intOf i).toNat)
        case atStart => exact H0.out
        case round =>
          obtain ⟨k, hk, rfl, hU, hst, hb⟩ := hrel
          rw [HM.out] at hk
          rw [HG.out] at hU
          have HU := Lib.hid hU; have HST := Lib.hid hst; have HB := Lib.hid hb
          clear hU hst hb H0
          by_cases hlt : k < m
          · obtain ⟨p, hp⟩ : ∃ p, l[k]? = some p := ⟨_, List.getElem?_eq_getElem (by rw [HM.out]; omega)⟩
            obtain ⟨b0, i0, ho, c0, c1, c2, c3, c4⟩ := (HL.out.below HB.out) k p hp
            subst ho
            have hss := HZ.out p (List.mem_of_getElem? hp)
            have HF := Lib.hid (asc_fresh HRL.out hp)
            have HP := Lib.hid hp
            have hlk := HU.out.look hss
            have hnew : newU a (l.take k) p.1 = sayK a p.1 := new_not HF.out
            rw [hnew] at hlk
            obtain ⟨D, hD, hD2⟩ := HU.out
            have HD := Lib.hid hD; have HD2 := Lib.hid hD2
            have hml := hD.lt
            have HK := Lib.hid (keyS hss)
            have HSS := Lib.hid hss
            have HSTA : Hid (staleC a p = !decide (sayK a p.1 = p.2.1)) := Lib.hid rfl
            obtain ⟨u, hu⟩ : ∃ u, sayK a p.1 = u := ⟨_, rfl⟩
            rw [hu] at hlk HSTA
            obtain ⟨s, ⟨x1, t1⟩, x2, t2⟩ := p
            obtain ⟨x0, t0⟩ := u
            have hne := run_ne_sd (x0, t0) (x1, t1)
            (try dsimp only at hlk); (try dsimp only at hne); (try dsimp only at HSTA); (try dsimp only at c0 c1 c2 c3 c4); (try dsimp only at HK HF HSS)
            have hlk2 := hlk
            clear hlk hu hp hnew hD hD2 hss
            have hlk : (Instr.lookup 61 (.map (some g)) (.string s) false).run Try.prog (wr.alloc (.cells #[.string s, .string x1, .bool t1, .string x2, .bool t2] 41)) = .ok (sdV (x0, t0)) (wr.alloc (.cells #[.string s, .string x1, .bool t1, .string x2, .bool t2] 41)) := by
              have h := (HU.out.keep (w' := wr.alloc (.cells #[.string s, .string x1, .bool t1, .string x2, .bool t2] 41)) (Lib.alloc_old _ _ _ hml)).look HSS.out
              rw [new_not HF.out] at h
              rw [h]
              rw [HU.out.look HSS.out, new_not HF.out] at hlk2
              injection hlk2 with e1 _
              rw [e1]
            clear hlk2
            have HB5 := Lib.hid (HB.out.alloc HB.out.size (.cells #[.string s, .string x1, .bool t1, .string x2, .bool t2] 41))
            cases hd : (!decide (((x0, t0) : SdB) = (x1, t1))) with
            | true =>
              have HE : Hid (applyK a l = ([], 13)) := Lib.hid (by
                unfold applyK
                rw [if_neg (fun h => h ⟨HRA.out, HRL.out⟩), if_neg (by rw [HW.out]; decide), if_pos]
                exact List.any_eq_true.2 ⟨_, List.mem_of_getElem? HP.out, by rw [HSTA.out, hd]⟩)
              rw [hd] at hne
              clear hd
              go_wp2_with fail
              exact bodyPost_ret (v := .tuple #[.slice none 0 0, .int .i64 13]) (by simp [results, Try.results15, go_sem]) rfl (apEnd.err HE.out HB5.out)
            | false =>
              have HST2 := Lib.hid (any_take HP.out HST.out (by rw [HSTA.out, hd]))
              rw [hd] at hne
              clear hd
              go_wp2_with (at_mapUpdate; (refine wpList_mapUpdate_in _ rfl _ _ _ 61 rfl 9 39 keyedS Try.underlying61 sdElem g (n + k) D rfl (HD.out.alloc _) (by unfold maxLen; omega) _ _ (.string s.data.toList) rfl rfl HK.out (sdD (x2, t2)) [] rfl ?_); intro w1 hown1 hturn1; have HO := Lib.hid hown1; have HT1 := Lib.hid hturn1; clear hown1 hturn1)
              go_roundw
              case rel => exact ⟨k + 1, by rw [HM.out]; exact hlt, by go_num, by
                rw [HG.out]
                have h1 : IsSd g (n + k + 1) (ksK a ++ ksC (l.take k) ++ [s]) (fun q => if s = q then (x2, t2) else newU a (l.take k) q) w1 := ⟨_, HO.out, HD2.out.put HSS.out⟩
                have e : ksC (l.take (k + 1)) = ksC (l.take k) ++ [s] := by rw [take_get HP.out]; unfold ksC; rw [List.map_append]; rfl
                exact h1.congr (by rw [e]; simp) (fun q => by rw [e, List.append_assoc]) (fun q _ => by rw [take_get HP.out, new_snoc HF.out]), HST2.out, mapTurned_below HT1.out HB5.out HGW.out (by have := HB.out.size; simp; omega)⟩
              case measure => simp [intOf]; omega
          · obtain rfl : k = m := by omega
            have hlt2 : l.take k = l := List.take_of_length_le (by rw [HM.out]; exact Nat.le_refl _)
            have hU := HU.out; have hst := HST.out
            rw [hlt2] at hU hst
            have HE : Hid (applyK a l = (itemK (keyL (ksK a ++ ksC l)) (newU a l), 0)) := Lib.hid (by
              unfold applyK
              rw [if_neg (fun h => h ⟨HRA.out, HRL.out⟩), if_neg (by rw [HW.out]; decide), if_neg (by rw [hst]; decide)])
            have HIT := Lib.hid (items_any g (n + k) (ksK a ++ ksC l) (newU a l) wr (by rw [List.length_append, List.length_map, List.length_map, HN.out, HM.out]; omega) (fun s hs => by
              rcases List.mem_append.1 hs with hs | hs
              · exact HA.out.keys s hs
              · obtain ⟨p, hp, rfl⟩ := List.mem_map.1 hs
                exact HZ.out p hp) hU)
            clear hU hst hlt2
            go_wp2_with (go_at_call 28; (with_reducible refine HIT.out.mono ?_))
            rintro e w6 ⟨v, rfl, hr, hb6⟩
            have HR6 := Lib.hid hr; have HB6 := Lib.hid (HB.out.trans (hb6.mono HB.out.size))
            obtain ⟨oo, cc, rfl⟩ := own_slice hr
            clear hr hb6
            go_wp2_with fail
            refine bodyPost_ret (v := .tuple #[_, .int .i64 0]) (by simp [results, Try.results15, go_sem]; rfl) rfl ?_
            unfold apEnd; rw [HE.out]
            exact ⟨_, rfl, own_lower HR6.out HB.out.size, HB6.out⟩
    · have HE : Hid (applyK a l = ([], 12)) := Lib.hid (by unfold applyK; rw [if_pos (fun h => hrl h.2)])
      have hd2 : decide (Asc (ksC l)) = false := decide_eq_false hrl
      rw [hd2] at HC
      clear hrl hd2
      go_enter Try.func15, Try.ntmps15
      go_wp2_with (first
        | (go_at_call 11; (with_reducible refine HR.out.mono ?_); rintro e w1 ⟨rfl, hb1⟩; have HB1 := Lib.hid hb1; clear hb1)
        | (go_at_call 23; (with_reducible refine (HC.out _ HB1.out).mono ?_); rintro e w2 ⟨rfl, hb2⟩; have HB2 := Lib.hid (HB1.out.trans (hb2.mono HB1.out.size)); clear hb2))
      exact bodyPost_ret (v := .tuple #[.slice none 0 0, .int .i64 12]) (by simp [results, Try.results15, go_sem]) rfl (apEnd.err HE.out HB2.out)
  · have HE : Hid (applyK a l = ([], 12)) := Lib.hid (by unfold applyK; rw [if_pos (fun h => hra h.1)])
    have hd1 : decide (RightK a) = false := decide_eq_false hra
    rw [hd1] at HR
    clear hra hd1
    go_enter Try.func15, Try.ntmps15
    go_wp2_with (go_at_call 11; (with_reducible refine HR.out.mono ?_); rintro e w1 ⟨rfl, hb1⟩; have HB1 := Lib.hid hb1; clear hb1)
    exact bodyPost_ret (v := .tuple #[.slice none 0 0, .int .i64 12]) (by simp [results, Try.results15, go_sem]) rfl (apEnd.err HE.out HB1.out)
end Go.Proofs.Ythkcmdlfdaggmaa
