/- Keyed lists: the document's Keys. -/
import Derived.Test.YthkcmdlfdaggmaaHn
set_option linter.unusedVariables false
set_option linter.unusedSimpArgs false
namespace Go.Proofs.Ythkcmdlfdaggmaa
open Go.RowKit
variable {w w' : World}

theorem TxAt.take {o : Option Addr} {l : List ByteArray} (h : TxAt w o l) (k : Nat) : TxAt w o (l.take k) := fun j hj => by
  rw [List.length_take] at hj
  have e : itB (l.take k) j = itB l j := by unfold itB; rw [List.getD_eq_getElem?_getD, List.getD_eq_getElem?_getD, List.getElem?_take_of_lt (by omega)]
  rw [e]; exact h j (by omega)
theorem TxAt.drop {b i : Nat} {l : List ByteArray} (h : TxAt w (some ⟨b, i, none⟩) l) (k : Nat) : TxAt w (some ⟨b, i + k, none⟩) (l.drop k) := fun j hj => by
  rw [List.length_drop] at hj
  have e : itB (l.drop k) j = itB l (k + j) := by unfold itB; rw [List.getD_eq_getElem?_getD, List.getD_eq_getElem?_getD, List.getElem?_drop]
  obtain ⟨h1, b', i', h2, h3⟩ := h (k + j) (by omega)
  injection h2 with h2; injection h2 with h2 h4; subst h2 h4
  rw [e]; exact ⟨h1, _, _, rfl, by rw [Nat.add_assoc]; exact h3⟩
theorem ins_at {x : ByteArray} : ∀ {l : List ByteArray} {k : Nat}, k ≤ l.length → (∀ t y, t < k → l[t]? = some y → ltB y x) → (k = l.length → insB x l = l ++ [x]) ∧ (∀ y, l[k]? = some y → ¬ ltB y x → insB x l = if y = x then l else l.take k ++ x :: l.drop k)
  | [], k, hk, _ => ⟨fun _ => rfl, fun y hy => by simp at hy⟩
  | z :: l, 0, _, _ => ⟨fun h => by simp at h, fun y hy hn => by
      simp at hy; subst hy
      rw [insB, if_neg hn]; rfl⟩
  | z :: l, k + 1, hk, h => by
    have hz : ltB z x := h 0 z (by omega) rfl
    obtain ⟨h1, h2⟩ := ins_at (x := x) (l := l) (k := k) (by simp at hk; omega) (fun t y ht hy => h (t + 1) y (by omega) (by simpa using hy))
    refine ⟨fun hl => ?_, fun y hy hn => ?_⟩
    · rw [insB, if_pos hz, h1 (by simp at hl; exact hl)]; rfl
    · rw [insB, if_pos hz, h2 y (by simpa using hy) hn]
      split <;> rfl
theorem wpList_append_eq {P : Program} {w : World} {ops : Array Oper} {rest : List Oper} {o : Oper} {a : Act} {Q : Exit → Act → World → Prop} (hgd : o.guard = none) (s x : Operand) (t : TypeId)
    (ho : o.op = .call { callee := .builtin .append, args := #[s, x], argTypes := #[t, t] }) (vs vx : Value) (hs : a.eval s = vs) (hx : a.eval x = vx) (r : Value) (w2 : World)
    (hrun : (Builtin.append_ #[t, t] o.type #[vs, vx]).run P w = .ok r w2) (h : wpList P ops Q rest (a.put o.dst r) w2) : wpList P ops Q (o :: rest) a w := by
  refine wpList_plain hgd fun _ hK => ?_
  unfold Oper.wp execOp
  simp only [ho, resolve, invoke, builtin, Sem.run_bind, Sem.run_pure, Result.andThen_ok, List.map_toArray, List.map_cons, List.map_nil, hs, hx, hrun]
  exact hK _ _ h
set_option maxRecDepth 100000 in
/-- A slice of texts appended to a row of one's own. -/
theorem app_src {B : Nat} {v : Value} {xs : List ByteArray} {o : Option Addr} {l : List ByteArray} (c : Nat) (hown : w.ownsRow B 9 1 v xs.length (strV xs)) (h : TxAt w o l) (hl : xs.length + l.length ≤ 1000000) (hB : B ≤ w.heap.size) :
    ∃ v' w', (Builtin.append_ #[34, 34] 34 #[v, .slice o l.length c]).run Try.prog w = .ok v' w' ∧ Below B w w' ∧ w'.ownsRow B 9 1 v' (xs ++ l).length (strV (xs ++ l)) := by
  obtain ⟨i0, hi0, hz0, hs0, hy0⟩ := info_parts info_s
  by_cases h0 : 0 < l.length
  · obtain ⟨_, b, i, rfl, _⟩ := h 0 h0
    obtain ⟨g, cap, w', hr, h1, h2, h3, h4⟩ := run_append_lies (P := Try.prog) w 34 34 B 9 i0 _ 1 16 Try.underlying34 hi0 hz0 hs0 hy0 rfl (by decide) v xs.length (strV xs) hown ⟨b, i, none⟩ l.length c (strV l) (by simp) (fun j u hu => by
      rw [List.getElem?_map] at hu
      obtain ⟨x, hx, rfl⟩ := Option.map_eq_some_iff.1 hu
      have hjl := (List.getElem?_eq_some_iff.1 hx).1
      obtain ⟨_, b', i', ho, hc⟩ := h j hjl
      injection ho with ho; injection ho with h1 h2; subst h1 h2
      rw [it_get hjl] at hx; injection hx with hx
      rw [Addr.add_mid, ← hx]
      exact hc) (by intro u hu; obtain ⟨x, _, rfl⟩ := List.mem_map.1 hu; rfl) h0 (by unfold maxLen; omega) (by omega) hB _ rfl
    refine ⟨_, w', hr, ⟨h2.os, h2.tape, h2.output, h2.size, fun k hk => h2.block k (by omega) (fun e => by have := (hown.lt k e.symm).1; omega)⟩, ?_⟩
    rw [List.length_append, show strV (xs ++ l) = strV xs ++ strV l from List.map_append]
    exact h1
  · have hz : l = [] := List.length_eq_zero_iff.1 (by omega)
    subst hz
    obtain ⟨oo, cc, rfl⟩ := own_slice hown
    have hcc : ¬ cc < xs.length := by
      rcases hown.2 with ⟨h1, h2⟩ | ⟨g, cap, cur, h1, _, _, h2, _⟩
      · omega
      · injection h1 with _ _ h3; omega
    refine ⟨.slice oo xs.length cc, w, ?_, Below.refl _ _, by rw [List.append_nil]; exact hown⟩
    cases o <;> cases oo <;> simp [Builtin.append_, run_underlying Try.underlying34, sizeOf, typeInfo, hi0, Builtin.lenOf, Builtin.firstCells, hs0, storeCells, loadCells, loadCellsFrom, hcc]
/-- Between two rounds of a loop that collects keys. -/
def AlS (X : List ByteArray) (ks : List ByteArray) (w : World) (v i : Value) (wr : World) : Prop :=
  ∃ k : Nat, k ≤ ks.length ∧ i = .int .i64 k ∧ wr.ownsRow w.heap.size 9 1 v (X ++ ks.take k).length (strV (X ++ ks.take k)) ∧ Below w.heap.size w wr
theorem AlS.more {X ks : List ByteArray} {w wr w4 : World} {k : Nat} {v v' : Value} {s : ByteArray} {o : Obj} (hs : ks[k]? = some s) (hrow : wr.ownsRow w.heap.size 9 1 v (X ++ ks.take k).length (strV (X ++ ks.take k))) (hb : Below w.heap.size w wr)
    (hown : w4.ownsRow w.heap.size 9 1 v' ((X ++ ks.take k).length + 1) (strV (X ++ ks.take k) ++ [.string s])) (hg : (wr.alloc o).grownBy w4 v.ownBlock) : AlS X ks w v' (.int .i64 (k + 1 : Nat)) w4 := by
  refine ⟨k + 1, (List.getElem?_eq_some_iff.1 hs).1, rfl, ?_, (hb.alloc hb.size _).grown hg (by have := hb.size; simp; omega) (fun j hj => (hrow.lt j hj).1)⟩
  rw [take_get hs, ← List.append_assoc, List.length_append, show strV (X ++ ks.take k ++ [s]) = strV (X ++ ks.take k) ++ [.string s] by unfold strV; rw [List.map_append]; rfl]
  exact hown
def KoS (ALL : List ByteArray) (w w4 : World) (v i : Value) (wr : World) : Prop :=
  ∃ k : Nat, k ≤ ALL.length ∧ i = .int .i64 k ∧ wr.ownsRow w4.heap.size 9 1 v (keyL (ALL.take k)).length (strV (keyL (ALL.take k))) ∧ Below w4.heap.size w4 wr
theorem kv_key {o : Option Addr} {l : List KvB} (h : KvAt w o l) {k : Nat} {s : ByteArray} (hs : (ksK l)[k]? = some s) : ∃ b i, o = some ⟨b, i, none⟩ ∧ w.cell? ⟨b, i + k * 2, none⟩ = some (.string s) := by
  rw [List.getElem?_map] at hs
  obtain ⟨p, hp, rfl⟩ := Option.map_eq_some_iff.1 hs
  obtain ⟨_, _, b, i, ho, c0, _⟩ := h k p hp
  exact ⟨b, i, ho, c0⟩
set_option maxHeartbeats 16000000 in
set_option maxRecDepth 100000 in
theorem RKeys_any (oa ob oc : Option Addr) (a b c : List KvB) (ca cb cc : Nat) (w : World) (hla : a.length ≤ 1000) (hlb : b.length ≤ 1000) (hlc : c.length ≤ 1000) (ha : KvAt w oa a) (hb : KvAt w ob b) (hc : KvAt w oc c) :
    Calls Try.prog 13 #[.slice oa a.length ca, .slice ob b.length cb, .slice oc c.length cc] w fun e w' => ∃ v, e = .returned v ∧ w'.ownsRow w.heap.size 9 1 v (ks3 a b c).length (strV (ks3 a b c)) ∧ Below w.heap.size w w' := by
  obtain ⟨n, hn⟩ : ∃ n, a.length = n := ⟨_, rfl⟩
  obtain ⟨m, hm⟩ : ∃ n, b.length = n := ⟨_, rfl⟩
  obtain ⟨r, hr⟩ : ∃ n, c.length = n := ⟨_, rfl⟩
  have HN : Hid ((ksK a).length = n) := Lib.hid (by rw [List.length_map, hn])
  have HM : Hid ((ksK b).length = m) := Lib.hid (by rw [List.length_map, hm])
  have HR : Hid ((ksK c).length = r) := Lib.hid (by rw [List.length_map, hr])
  have HA := Lib.hid ha; have HB := Lib.hid hb; have HC := Lib.hid hc
  have HZ : Hid (∀ s ∈ ksK a ++ ksK b ++ ksK c, s.size ≤ maxLen) := Lib.hid fun s hs => by
    rcases List.mem_append.1 hs with hs | hs
    · rcases List.mem_append.1 hs with hs | hs
      · exact ha.keys s hs
      · exact hb.keys s hs
    · exact hc.keys s hs
  rw [hn] at hla ⊢
  rw [hm] at hlb ⊢
  rw [hr] at hlc ⊢
  obtain ⟨i1, hi1, hz0, hz1, hz2⟩ := info_parts info_s
  have HI1 := Lib.hid hi1; have HZ0 := Lib.hid hz0; have HZ1 := Lib.hid hz1; have HZ2 := Lib.hid hz2
  have H0 : Hid (AlS [] (ksK a) w (.slice none 0 0) (.int .i64 0) w) := Lib.hid ⟨0, Nat.zero_le _, rfl, World.ownsRow_nil _ _ _ _, Below.refl _ _⟩
  clear hi1 hz0 hz1 hz2 hn hm hr ha hb hc
  go_enter Try.func13, Try.ntmps13
  go_wp2_with fail
  go_loopw [7, 9] (fun v i wr => AlS ([]) (ksK a) w v i wr) (fun _ i _ => n - (intOf i).toNat)
  case atStart => exact H0.out
  case round =>
    obtain ⟨k, hk, rfl, hrow, hb⟩ := hrel
    rw [HN.out] at hk
    have HROW := Lib.hid hrow; have HBB := Lib.hid hb
    clear hrow hb H0
    by_cases hlt : k < n
    · obtain ⟨s, hs⟩ : ∃ s, (ksK a)[k]? = some s := ⟨_, List.getElem?_eq_getElem (by rw [HN.out]; exact hlt)⟩
      obtain ⟨b0, i0, ho, c0⟩ := kv_key (HA.out.below HBB.out) hs
      subst ho
      have HS := Lib.hid hs
      have hlen : (([]) ++ (ksK a).take k).length ≤ 3000 := by simp only [List.length_append, List.length_take, List.length_nil, HN.out, HM.out, HR.out]; omega
      clear hs
      obtain ⟨z, hz⟩ : ∃ z, (([]) ++ (ksK a).take k).length = z := ⟨_, rfl⟩
      have HZZ := Lib.hid hz
      have HR2 := HROW
      rw [hz] at HR2 hlen
      clear hz
      go_wp2_with (at_builtin; (refine wpList_append_own _ rfl _ _ 34 rfl w.heap.size 9 i1 (.string ⟨#[]⟩) 1 16 Try.underlying34 HI1.out HZ0.out HZ1.out HZ2.out rfl (by decide) _ _ _ rfl (HR2.out.alloc _) ⟨wr.heap.size, 0, none⟩ 1 1 [.string s] rfl rfl (by simpa using cell_one_new wr 9 (.string s)) one_memS (by unfold maxLen; omega) (by omega) (by have h1 := HBB.out.size; simp; omega) ?_); intro v' w4 hown hgrow _; have HO4 := Lib.hid hown; have HG4 := Lib.hid hgrow; clear hown hgrow)
      go_roundw
      case rel => exact AlS.more HS.out HROW.out HBB.out (by rw [HZZ.out]; exact HO4.out) HG4.out
      case measure => simp [intOf]; omega
    · obtain rfl : k = n := by omega
      have H0 : Hid (AlS (ksK a) (ksK b) w u7 (.int .i64 0) wr) := Lib.hid ⟨0, Nat.zero_le _, rfl, by have h := HROW.out; rw [List.take_of_length_le (by rw [HN.out]; exact Nat.le_refl _), List.nil_append] at h; rw [List.take_zero, List.append_nil]; exact h, HBB.out⟩
      clear HROW HBB hlt hk
      obtain ⟨n, hkn⟩ : ∃ n, n = k := ⟨_, rfl⟩
      subst hkn
      go_wp2_with fail
      obtain ⟨wo9, hwo9⟩ : ∃ wo, wo = wr := ⟨_, rfl⟩
      subst hwo9
      go_loopw [7, 10] (fun v i wr => AlS (ksK a) (ksK b) w v i wr) (fun _ i _ => m - (intOf i).toNat)
      case atStart => exact H0.out
      case round =>
        obtain ⟨k, hk, rfl, hrow, hb⟩ := hrel
        rw [HM.out] at hk
        have HROW := Lib.hid hrow; have HBB := Lib.hid hb
        clear hrow hb H0
        by_cases hlt : k < m
        · obtain ⟨s, hs⟩ : ∃ s, (ksK b)[k]? = some s := ⟨_, List.getElem?_eq_getElem (by rw [HM.out]; exact hlt)⟩
          obtain ⟨b0, i0, ho, c0⟩ := kv_key (HB.out.below HBB.out) hs
          subst ho
          have HS := Lib.hid hs
          have hlen : ((ksK a) ++ (ksK b).take k).length ≤ 3000 := by simp only [List.length_append, List.length_take, List.length_nil, HN.out, HM.out, HR.out]; omega
          clear hs
          obtain ⟨z, hz⟩ : ∃ z, ((ksK a) ++ (ksK b).take k).length = z := ⟨_, rfl⟩
          have HZZ := Lib.hid hz
          have HR2 := HROW
          rw [hz] at HR2 hlen
          clear hz
          go_wp2_with (at_builtin; (refine wpList_append_own _ rfl _ _ 34 rfl w.heap.size 9 i1 (.string ⟨#[]⟩) 1 16 Try.underlying34 HI1.out HZ0.out HZ1.out HZ2.out rfl (by decide) _ _ _ rfl (HR2.out.alloc _) ⟨wr.heap.size, 0, none⟩ 1 1 [.string s] rfl rfl (by simpa using cell_one_new wr 9 (.string s)) one_memS (by unfold maxLen; omega) (by omega) (by have h1 := HBB.out.size; simp; omega) ?_); intro v' w4 hown hgrow _; have HO4 := Lib.hid hown; have HG4 := Lib.hid hgrow; clear hown hgrow)
          go_roundw
          case rel => exact AlS.more HS.out HROW.out HBB.out (by rw [HZZ.out]; exact HO4.out) HG4.out
          case measure => simp [intOf]; omega
        · obtain rfl : k = m := by omega
          have H0 : Hid (AlS (ksK a ++ ksK b) (ksK c) w u7 (.int .i64 0) wr) := Lib.hid ⟨0, Nat.zero_le _, rfl, by have h := HROW.out; rw [List.take_of_length_le (by rw [HM.out]; exact Nat.le_refl _)] at h; rw [List.take_zero, List.append_nil]; exact h, HBB.out⟩
          clear HROW HBB hlt hk
          obtain ⟨m, hkn⟩ : ∃ m, m = k := ⟨_, rfl⟩
          subst hkn
          go_wp2_with fail
          obtain ⟨wo10, hwo10⟩ : ∃ wo, wo = wr := ⟨_, rfl⟩
          subst hwo10
          go_loopw [7, 11] (fun v i wr => AlS (ksK a ++ ksK b) (ksK c) w v i wr) (fun _ i _ => r - (intOf i).toNat)
          case atStart => exact H0.out
          case round =>
            obtain ⟨k, hk, rfl, hrow, hb⟩ := hrel
            rw [HR.out] at hk
            have HROW := Lib.hid hrow; have HBB := Lib.hid hb
            clear hrow hb H0
            by_cases hlt : k < r
            · obtain ⟨s, hs⟩ : ∃ s, (ksK c)[k]? = some s := ⟨_, List.getElem?_eq_getElem (by rw [HR.out]; exact hlt)⟩
              obtain ⟨b0, i0, ho, c0⟩ := kv_key (HC.out.below HBB.out) hs
              subst ho
              have HS := Lib.hid hs
              have hlen : ((ksK a ++ ksK b) ++ (ksK c).take k).length ≤ 3000 := by simp only [List.length_append, List.length_take, List.length_nil, HN.out, HM.out, HR.out]; omega
              clear hs
              obtain ⟨z, hz⟩ : ∃ z, ((ksK a ++ ksK b) ++ (ksK c).take k).length = z := ⟨_, rfl⟩
              have HZZ := Lib.hid hz
              have HR2 := HROW
              rw [hz] at HR2 hlen
              clear hz
              go_wp2_with (at_builtin; (refine wpList_append_own _ rfl _ _ 34 rfl w.heap.size 9 i1 (.string ⟨#[]⟩) 1 16 Try.underlying34 HI1.out HZ0.out HZ1.out HZ2.out rfl (by decide) _ _ _ rfl (HR2.out.alloc _) ⟨wr.heap.size, 0, none⟩ 1 1 [.string s] rfl rfl (by simpa using cell_one_new wr 9 (.string s)) one_memS (by unfold maxLen; omega) (by omega) (by have h1 := HBB.out.size; simp; omega) ?_); intro v' w4 hown hgrow _; have HO4 := Lib.hid hown; have HG4 := Lib.hid hgrow; clear hown hgrow)
              go_roundw
              case rel => exact AlS.more HS.out HROW.out HBB.out (by rw [HZZ.out]; exact HO4.out) HG4.out
              case measure => simp [intOf]; omega
            · obtain rfl : k = r := by omega
              have HALL : Hid (wr.ownsRow w.heap.size 9 1 u7 (ksK a ++ ksK b ++ ksK c).length (strV (ksK a ++ ksK b ++ ksK c))) := Lib.hid (by have h := HROW.out; rw [List.take_of_length_le (by rw [HR.out]; exact Nat.le_refl _)] at h; exact h)
              have HB4 := HBB
              clear HROW HBB hlt hk
              obtain ⟨r, hkn⟩ : ∃ r, r = k := ⟨_, rfl⟩
              subst hkn
              go_wp2_with fail
              obtain ⟨wo11, hwo11⟩ : ∃ wo, wo = wr := ⟨_, rfl⟩
              subst hwo11
              obtain ⟨q, hq⟩ : ∃ q, (ksK a ++ ksK b ++ ksK c).length = q := ⟨_, rfl⟩
              have hqb : q ≤ 3000 := by rw [← hq]; simp only [List.length_append, HN.out, HM.out, HR.out]; omega
              have HE : Hid (ks3 a b c = keyL (ksK a ++ ksK b ++ ksK c)) := Lib.hid (by unfold ks3; rw [List.append_assoc])
              obtain ⟨ALL, hALL⟩ : ∃ L, ksK a ++ ksK b ++ ksK c = L := ⟨_, rfl⟩
              have hall := HALL.out
              rw [hALL] at hall hq HE HZ
              obtain ⟨oA, cA, rfl, htx, _⟩ := own_texts hall HZ.out
              have HTA := Lib.hid htx; have HQ := Lib.hid hq
              rw [HQ.out]
              have H0 : Hid (KoS ALL w wo11 (.slice none 0 0) (.int .i64 0) wo11) := Lib.hid ⟨0, Nat.zero_le _, rfl, World.ownsRow_nil _ _ _ _, Below.refl _ _⟩
              clear hall hALL htx hq HALL HN HM HR HA HB HC hla hlb hlc
              go_loopw [8, 12] (fun v i wr => KoS ALL w wo11 v i wr) (fun _ i _ => q - (intOf i).toNat)
              case atStart => exact H0.out
              case round =>
                obtain ⟨k, hk, rfl, hrow, hb⟩ := hrel
                rw [HQ.out] at hk
                have HROW := Lib.hid hrow; have HBB := Lib.hid hb
                clear hrow hb H0
                by_cases hlt : k < q
                · obtain ⟨s, hs⟩ : ∃ s, ALL[k]? = some s := ⟨_, List.getElem?_eq_getElem (by rw [HQ.out]; exact hlt)⟩
                  obtain ⟨hss, b0, i0, ho, c0⟩ := tx_get (HTA.out.below HBB.out) hs
                  subst ho
                  have HS : Hid (keyL (ALL.take (k + 1)) = insB s (keyL (ALL.take k))) := Lib.hid (by rw [take_get hs, keyL_snoc])
                  have HSS := Lib.hid hss
                  have hzl : ∀ x ∈ keyL (ALL.take k), x.size ≤ maxLen := fun x hx => HZ.out x (List.mem_of_mem_take ((mem_keyL _ _).1 hx))
                  obtain ⟨oo, co, rfl, hto, _⟩ := own_texts HROW.out hzl
                  have hlen : (keyL (ALL.take k)).length ≤ 3000 := Nat.le_trans (keyL_len _) (by rw [List.length_take]; omega)
                  have hcap : (keyL (ALL.take k)).length ≤ co := by
                    rcases HROW.out.2 with ⟨h1, h2⟩ | ⟨g, cap, cur, h1, _, _, h2, _⟩
                    · omega
                    · injection h1 with _ _ h3; omega
                  obtain ⟨OUT, hOUT⟩ : ∃ L, keyL (ALL.take k) = L := ⟨_, rfl⟩
                  rw [hOUT] at HROW HS hzl hto hlen hcap ⊢
                  have HZL := Lib.hid hzl; have HTO := Lib.hid hto
                  obtain ⟨p, hp⟩ : ∃ p, OUT.length = p := ⟨_, rfl⟩
                  have HP := Lib.hid hp
                  rw [hp] at hlen hcap HROW ⊢
                  have hcapi : (p : Int) ≤ co := by omega
                  clear hs hss hzl hto hOUT hp
                  go_wp2_with fail
                  obtain ⟨wk, hwk⟩ : ∃ wo, wo = wr := ⟨_, rfl⟩
                  subst hwk
                  go_loopw [13] (fun i wr => ∃ j y : Nat, j ≤ p ∧ i = .int .i64 j ∧ (∀ t z, t < j → OUT[t]? = some z → ltB z s) ∧ wr = wk.drewN y) (fun i _ => p - (intOf i).toNat)
                  case atStart => exact ⟨0, 0, Nat.zero_le _, rfl, fun t z ht => by omega, rfl⟩
                  case round =>
                    obtain ⟨j, y, hj, rfl, hlow, rfl⟩ := hrel
                    have HLOW := Lib.hid hlow
                    clear hlow
                    by_cases hjp : j < p
                    · obtain ⟨z, hz⟩ : ∃ z, OUT[j]? = some z := ⟨_, List.getElem?_eq_getElem (by rw [HP.out]; exact hjp)⟩
                      obtain ⟨hzs, b1, i1', ho1, d0⟩ := tx_get HTO.out hz
                      subst ho1
                      have hjpi : (j : Int) < p := by omega
                      have c0d : (wk.drewN y).cell? ⟨b0, i0 + k, none⟩ = some (.string s) := c0
                      have d0d : (wk.drewN y).cell? ⟨b1, i1' + j, none⟩ = some (.string z) := d0
                      have HZJ := Lib.hid hz
                      have hqi : (k : Int) < q := by omega
                      clear hz hzs
                      cases hzl : Op.bytesLess z.toList s.toList with
                      | true =>
                        have HLT : Hid (ltB z s) := Lib.hid hzl
                        generalize hwd : wk.drewN y = wd at c0d d0d ⊢
                        have HWD := Lib.hid hwd
                        clear hwd c0 d0
                        go_wp2_with fail
                        go_quiet (fail)
                        (first | (have _h : Nat := nq; clear _h) | rename_i nq)
                        go_wp2_with fail
                        go_roundw
                        case rel => exact ⟨j + 1, y + nq, hjp, by go_num, fun t u ht hu => by
                          by_cases e : t = j
                          · subst e; rw [HZJ.out] at hu; injection hu with hu; rw [← hu]; exact HLT.out
                          · exact HLOW.out t u (by omega) hu, by rw [← HWD.out, World.drewN_drewN]⟩
                        case measure => simp [intOf]; omega
                      | false =>
                        have HNL : Hid (¬ ltB z s) := Lib.hid (by unfold ltB; rw [hzl]; decide)
                        generalize hwd : wk.drewN y = wd at c0d d0d ⊢
                        have HWD := Lib.hid hwd
                        clear hwd
                        go_wp2_with fail
                        go_quiet (fail)
                        (first | (have _h : Nat := nq; clear _h) | rename_i nq)
                        have c0e : (wd.drewN nq).cell? ⟨b0, i0 + k, none⟩ = some (.string s) := c0d
                        have d0e : (wd.drewN nq).cell? ⟨b1, i1' + j, none⟩ = some (.string z) := d0d
                        obtain ⟨nq0, hnq0⟩ : ∃ z, z = nq := ⟨_, rfl⟩
                        rw [← hnq0] at c0e d0e ⊢
                        clear hnq0
                        generalize hwe : wd.drewN nq0 = we at c0e d0e ⊢
                        have HWE : Hid (we = wk.drewN (y + nq0)) := Lib.hid (by rw [← hwe, ← HWD.out, World.drewN_drewN])
                        clear hwe c0d d0d
                        by_cases hzs : z = s
                        · subst hzs
                          have HI : Hid (insB z OUT = OUT) := Lib.hid (by rw [(ins_at (by rw [HP.out]; omega) HLOW.out).2 z HZJ.out HNL.out, if_pos rfl])
                          go_wp2_with fail
                          go_quiet (fail)
                          (first | (have _h : Nat := nq; clear _h) | rename_i nq)
                          go_wp2_with fail
                          have HWF : Hid (we.drewN nq = wk.drewN (y + nq0 + nq)) := Lib.hid (by rw [HWE.out, World.drewN_drewN])
                          go_roundw
                          case rel => exact ⟨k + 1, by rw [HQ.out]; exact hlt, by go_num, by rw [HS.out, HI.out, HWF.out, HP.out]; exact own_below HROW.out (below_drewN (Below.refl _ _) _), by rw [HWF.out]; exact below_drewN HBB.out _⟩
                          case measure => simp [intOf]; omega
                        · have hn1 := ba_ne hzs
                          have hn2 : (z.toList == s.toList) = false := beq_eq_false_iff_ne.2 hn1
                          have HI : Hid (insB s OUT = OUT.take j ++ s :: OUT.drop j) := Lib.hid (by rw [(ins_at (by rw [HP.out]; omega) HLOW.out).2 z HZJ.out HNL.out, if_neg hzs])
                          go_wp2_with fail
                          go_quiet (fail)
                          (first | (have _h : Nat := nq; clear _h) | rename_i nq)
                          have c0f : (we.drewN nq).cell? ⟨b0, i0 + k, none⟩ = some (.string s) := c0e
                          have HWF0 : Hid (we.drewN nq = wk.drewN (y + nq0 + nq)) := Lib.hid (by rw [HWE.out, World.drewN_drewN])
                          generalize we.drewN nq = wf at c0f HWF0 ⊢
                          have HWF : Hid (wf = wk.drewN (y + nq0 + nq)) := HWF0
                          clear HWF0 c0e d0e c0 d0
                          have hcne : ¬ co = j := by omega
                          have hcni : ¬ (co : Int) = j := by omega
                          have hjpl : (j : Int) ≤ p := by omega
                          have hjco : (j : Int) ≤ co := by omega
                          have TXF := HTO.out.below (show Below wk.heap.size wk wf from by rw [HWF.out]; exact below_drewN (Below.refl _ _) _)
                          obtain ⟨v1, w1, hrun1, hb1, hown1⟩ := app_src (w := wf) (B := wf.heap.size) (v := .slice none 0 0) (xs := []) co (World.ownsRow_nil _ _ _ _) (TXF.take j) (by first | (simp [HP.out]; done) | (simp [HP.out]; omega)) (Nat.le_refl _)
                          rw [show (OUT.take j).length = j by rw [List.length_take, HP.out]; omega] at hrun1
                          rw [List.nil_append] at hown1
                          have c0w := (hb1.cell (World.block_lt_of_cell? wf _ c0f)).trans c0f
                          have HO1 := Lib.hid hown1; have HB1 := Lib.hid hb1; have HRUN1 := Lib.hid hrun1
                          have HTXD : Hid (∀ W, Below wf.heap.size wf W → TxAt W (some ⟨b1, i1' + j, none⟩) (OUT.drop j)) := Lib.hid fun W hW => (TXF.drop j).below hW
                          have hj3 : (OUT.take j).length = j := by rw [List.length_take, HP.out]; omega
                          have hd3 : (OUT.drop j).length = p - j := by rw [List.length_drop, HP.out]
                          obtain ⟨TK, hTK⟩ : ∃ L, OUT.take j = L := ⟨_, rfl⟩
                          obtain ⟨DK, hDK⟩ : ∃ L, OUT.drop j = L := ⟨_, rfl⟩
                          rw [hTK] at HO1 HI hj3
                          rw [hDK] at HTXD HI hd3
                          have HJ3 := Lib.hid hj3; have HD3 := Lib.hid hd3
                          rw [HJ3.out] at HO1
                          obtain ⟨oo1, cc1, rfl⟩ := own_slice HO1.out
                          clear TXF hrun1 hb1 hown1 hj3 hd3 hTK hDK
                          go_wp2_with (at_builtin; first
                            | (refine wpList_append_eq rfl _ _ 34 rfl _ _ rfl rfl _ _ HRUN1.out ?_; clear HRUN1)
                            | (refine wpList_append_eq rfl _ _ 34 rfl _ _ rfl rfl _ _ HRUN3.out ?_; clear HRUN3)
                            | ((refine wpList_append_own _ rfl _ _ 34 rfl wf.heap.size 9 i1 (.string ⟨#[]⟩) 1 16 Try.underlying34 HI1.out HZ0.out HZ1.out HZ2.out rfl (by decide) _ _ _ rfl (HO1.out.alloc _) ⟨w1.heap.size, 0, none⟩ 1 1 [.string s] rfl rfl (by simpa using cell_one_new w1 9 (.string s)) one_memS (by unfold maxLen; omega) (by omega) (by have h1 := HB1.out.size; simp; omega) ?_); intro v2 w2 hown hgrow _; have hb2 : Below wf.heap.size wf w2 := (HB1.out.alloc HB1.out.size _).grown hgrow (by have := HB1.out.size; simp; omega) (fun j hj => (HO1.out.lt j hj).1); obtain ⟨v3, w3, hrun3, hb3, hown3⟩ := app_src (w := w2) (B := wf.heap.size) (v := v2) (xs := TK ++ [s]) (co - j) (by rw [List.length_append, HJ3.out, show strV (TK ++ [s]) = strV TK ++ [.string s] by unfold strV; rw [List.map_append]; rfl]; exact hown) (HTXD.out w2 hb2) (by rw [List.length_append, HJ3.out, HD3.out]; first | (simp; done) | (simp; omega)) hb2.size; rw [HD3.out] at hrun3; have HRUN3 := Lib.hid hrun3; have HO3 := Lib.hid hown3; have HB3 := Lib.hid (hb2.trans hb3); clear hown hgrow hrun3 hown3 hb2 hb3))
                          go_roundw
                          case rel =>
                            have e : TK ++ [s] ++ DK = insB s OUT := by rw [HI.out, List.append_assoc]; rfl
                            have hwf : wf.heap.size = wk.heap.size := by rw [HWF.out]; rfl
                            have hkf : Below wk.heap.size wk wf := by rw [HWF.out]; exact below_drewN (Below.refl _ _) _
                            refine ⟨k + 1, by rw [HQ.out]; exact hlt, by go_num, ?_, HBB.out.trans ((hkf.trans (HB3.out.mono (by omega))).mono HBB.out.size)⟩
                            rw [HS.out, ← e]
                            exact own_lower HO3.out (by have := HBB.out.size; omega)
                          case measure => simp [intOf]; omega
                    · have HJP : Hid (j = p) := Lib.hid (by omega)
                      have hjpi : ¬ (j : Int) < p := by omega
                      have hjpd : decide (j < p) = false := decide_eq_false hjp
                      have hjpe : decide ((j : Int) < (p : Int)) = false := decide_eq_false hjpi
                      have hjpl : (j : Int) ≤ p := by omega
                      have hjco : (j : Int) ≤ co := by omega
                      have c0d : (wk.drewN y).cell? ⟨b0, i0 + k, none⟩ = some (.string s) := c0
                      have HI : Hid (insB s OUT = OUT.take j ++ s :: OUT.drop j) := Lib.hid (by
                        rw [(ins_at (x := s) (by rw [HP.out]; exact hj) HLOW.out).1 (HJP.out.trans HP.out.symm), List.take_of_length_le (by rw [HP.out, HJP.out]; exact Nat.le_refl _), List.drop_of_length_le (by rw [HP.out, HJP.out]; exact Nat.le_refl _)])
                      generalize hwd : wk.drewN y = wd at c0d ⊢
                      have HWD := Lib.hid hwd
                      clear hwd c0
                      have hqi : (k : Int) < q := by omega
                      go_wp2_with fail
                      go_quiet (fail)
                      (first | (have _h : Nat := nq; clear _h) | rename_i nq)
                      have c0e : (wd.drewN nq).cell? ⟨b0, i0 + k, none⟩ = some (.string s) := c0d
                      obtain ⟨nq0, hnq0⟩ : ∃ z, z = nq := ⟨_, rfl⟩
                      rw [← hnq0] at c0e ⊢
                      clear hnq0 c0d
                      generalize hwe : wd.drewN nq0 = we at c0e ⊢
                      have HWE : Hid (we = wk.drewN (y + nq0)) := Lib.hid (by rw [← hwe, ← HWD.out, World.drewN_drewN])
                      clear hwe
                      go_wp2_with fail
                      go_quiet (fail)
                      (first | (have _h : Nat := nq; clear _h) | rename_i nq)
                      have c0f : (we.drewN nq).cell? ⟨b0, i0 + k, none⟩ = some (.string s) := c0e
                      have HWF0 : Hid (we.drewN nq = wk.drewN (y + nq0 + nq)) := Lib.hid (by rw [HWE.out, World.drewN_drewN])
                      generalize we.drewN nq = wf at c0f HWF0 ⊢
                      have HWF : Hid (wf = wk.drewN (y + nq0 + nq)) := HWF0
                      clear HWF0 c0e
                      rcases HROW.out.2 with ⟨h1, h2⟩ | ⟨g, cap, cur, h1, _, _, h2, _⟩
                      · injection h1 with e1 _ e3
                        have hj0 : j = 0 := by rw [HJP.out]; exact h2
                        subst e1 e3 h2 hj0
                        clear hjp hjpi hjpd hjpe hjpl hjco hcapi hcap
                        have ho0 : OUT = [] := List.length_eq_zero_iff.1 HP.out
                        subst ho0
                        have TXF := HTO.out.below (show Below wk.heap.size wk wf from by rw [HWF.out]; exact below_drewN (Below.refl _ _) _)
                        obtain ⟨v1, w1, hrun1, hb1, hown1⟩ := app_src (w := wf) (B := wf.heap.size) (v := .slice none 0 0) (xs := []) 0 (World.ownsRow_nil _ _ _ _) (TXF.take 0) (by first | (simp [HP.out]; done) | (simp [HP.out]; omega)) (Nat.le_refl _)
                        rw [show (([] : List ByteArray).take 0).length = 0 by simp] at hrun1
                        rw [List.nil_append] at hown1
                        have c0w := (hb1.cell (World.block_lt_of_cell? wf _ c0f)).trans c0f
                        have HO1 := Lib.hid hown1; have HB1 := Lib.hid hb1; have HRUN1 := Lib.hid hrun1
                        have HTXD : Hid (∀ W, Below wf.heap.size wf W → TxAt W none (([] : List ByteArray).drop 0)) := Lib.hid fun W hW => fun q hq => by simp at hq
                        have hj3 : (([] : List ByteArray).take 0).length = 0 := by simp
                        have hd3 : (([] : List ByteArray).drop 0).length = 0 := by simp
                        obtain ⟨TK, hTK⟩ : ∃ L, ([] : List ByteArray).take 0 = L := ⟨_, rfl⟩
                        obtain ⟨DK, hDK⟩ : ∃ L, ([] : List ByteArray).drop 0 = L := ⟨_, rfl⟩
                        rw [hTK] at HO1 HI hj3
                        rw [hDK] at HTXD HI hd3
                        have HJ3 := Lib.hid hj3; have HD3 := Lib.hid hd3
                        rw [HJ3.out] at HO1
                        obtain ⟨oo1, cc1, rfl⟩ := own_slice HO1.out
                        clear TXF hrun1 hb1 hown1 hj3 hd3 hTK hDK
                        go_wp2_with (at_builtin; first
                          | (refine wpList_append_eq rfl _ _ 34 rfl _ _ rfl rfl _ _ HRUN1.out ?_; clear HRUN1)
                          | (refine wpList_append_eq rfl _ _ 34 rfl _ _ rfl rfl _ _ HRUN3.out ?_; clear HRUN3)
                          | ((refine wpList_append_own _ rfl _ _ 34 rfl wf.heap.size 9 i1 (.string ⟨#[]⟩) 1 16 Try.underlying34 HI1.out HZ0.out HZ1.out HZ2.out rfl (by decide) _ _ _ rfl (HO1.out.alloc _) ⟨w1.heap.size, 0, none⟩ 1 1 [.string s] rfl rfl (by simpa using cell_one_new w1 9 (.string s)) one_memS (by unfold maxLen; omega) (by omega) (by have h1 := HB1.out.size; simp; omega) ?_); intro v2 w2 hown hgrow _; have hb2 : Below wf.heap.size wf w2 := (HB1.out.alloc HB1.out.size _).grown hgrow (by have := HB1.out.size; simp; omega) (fun j hj => (HO1.out.lt j hj).1); obtain ⟨v3, w3, hrun3, hb3, hown3⟩ := app_src (w := w2) (B := wf.heap.size) (v := v2) (xs := TK ++ [s]) (0) (by rw [List.length_append, HJ3.out, show strV (TK ++ [s]) = strV TK ++ [.string s] by unfold strV; rw [List.map_append]; rfl]; exact hown) (HTXD.out w2 hb2) (by rw [List.length_append, HJ3.out, HD3.out]; first | (simp; done) | (simp; omega)) hb2.size; rw [HD3.out] at hrun3; have HRUN3 := Lib.hid hrun3; have HO3 := Lib.hid hown3; have HB3 := Lib.hid (hb2.trans hb3); clear hown hgrow hrun3 hown3 hb2 hb3))
                        go_roundw
                        case rel =>
                          have e : TK ++ [s] ++ DK = insB s [] := by rw [HI.out, List.append_assoc]; rfl
                          have hwf : wf.heap.size = wk.heap.size := by rw [HWF.out]; rfl
                          have hkf : Below wk.heap.size wk wf := by rw [HWF.out]; exact below_drewN (Below.refl _ _) _
                          refine ⟨k + 1, by rw [HQ.out]; exact hlt, by go_num, ?_, HBB.out.trans ((hkf.trans (HB3.out.mono (by omega))).mono HBB.out.size)⟩
                          rw [HS.out, ← e]
                          exact own_lower HO3.out (by have := HBB.out.size; omega)
                        case measure => simp [intOf]; omega
                      · injection h1 with e1 _ e3
                        obtain ⟨i1', hi1'⟩ : ∃ z : Nat, z = 0 := ⟨_, rfl⟩
                        rw [← hi1'] at e1
                        subst e1
                        clear hi1' e3
                        clear hjpd hjpe hjpi
                        by_cases hcne : co = j
                        · subst hcne
                          have hpc : co = p := HJP.out
                          subst hpc
                          clear hcap hcapi hjco hjpl
                          have TXF := HTO.out.below (show Below wk.heap.size wk wf from by rw [HWF.out]; exact below_drewN (Below.refl _ _) _)
                          obtain ⟨v1, w1, hrun1, hb1, hown1⟩ := app_src (w := wf) (B := wf.heap.size) (v := .slice none 0 0) (xs := []) co (World.ownsRow_nil _ _ _ _) (TXF.take co) (by first | (simp [HP.out]; done) | (simp [HP.out]; omega)) (Nat.le_refl _)
                          rw [show (OUT.take co).length = co by rw [List.length_take, HP.out]; omega] at hrun1
                          rw [List.nil_append] at hown1
                          have c0w := (hb1.cell (World.block_lt_of_cell? wf _ c0f)).trans c0f
                          have HO1 := Lib.hid hown1; have HB1 := Lib.hid hb1; have HRUN1 := Lib.hid hrun1
                          have HTXD : Hid (∀ W, Below wf.heap.size wf W → TxAt W (some ⟨g, i1', none⟩) (OUT.drop co)) := Lib.hid fun W hW => fun q hq => by exfalso; rw [List.length_drop, HP.out] at hq; omega
                          have hj3 : (OUT.take co).length = co := by rw [List.length_take, HP.out]; omega
                          have hd3 : (OUT.drop co).length = 0 := by rw [List.length_drop, HP.out]; omega
                          obtain ⟨TK, hTK⟩ : ∃ L, OUT.take co = L := ⟨_, rfl⟩
                          obtain ⟨DK, hDK⟩ : ∃ L, OUT.drop co = L := ⟨_, rfl⟩
                          rw [hTK] at HO1 HI hj3
                          rw [hDK] at HTXD HI hd3
                          have HJ3 := Lib.hid hj3; have HD3 := Lib.hid hd3
                          rw [HJ3.out] at HO1
                          obtain ⟨oo1, cc1, rfl⟩ := own_slice HO1.out
                          clear TXF hrun1 hb1 hown1 hj3 hd3 hTK hDK
                          go_wp2_with (at_builtin; first
                            | (refine wpList_append_eq rfl _ _ 34 rfl _ _ rfl rfl _ _ HRUN1.out ?_; clear HRUN1)
                            | (refine wpList_append_eq rfl _ _ 34 rfl _ _ rfl rfl _ _ HRUN3.out ?_; clear HRUN3)
                            | ((refine wpList_append_own _ rfl _ _ 34 rfl wf.heap.size 9 i1 (.string ⟨#[]⟩) 1 16 Try.underlying34 HI1.out HZ0.out HZ1.out HZ2.out rfl (by decide) _ _ _ rfl (HO1.out.alloc _) ⟨w1.heap.size, 0, none⟩ 1 1 [.string s] rfl rfl (by simpa using cell_one_new w1 9 (.string s)) one_memS (by unfold maxLen; omega) (by omega) (by have h1 := HB1.out.size; simp; omega) ?_); intro v2 w2 hown hgrow _; have hb2 : Below wf.heap.size wf w2 := (HB1.out.alloc HB1.out.size _).grown hgrow (by have := HB1.out.size; simp; omega) (fun j hj => (HO1.out.lt j hj).1); obtain ⟨v3, w3, hrun3, hb3, hown3⟩ := app_src (w := w2) (B := wf.heap.size) (v := v2) (xs := TK ++ [s]) (0) (by rw [List.length_append, HJ3.out, show strV (TK ++ [s]) = strV TK ++ [.string s] by unfold strV; rw [List.map_append]; rfl]; exact hown) (HTXD.out w2 hb2) (by rw [List.length_append, HJ3.out, HD3.out]; first | (simp; done) | (simp; omega)) hb2.size; rw [HD3.out] at hrun3; have HRUN3 := Lib.hid hrun3; have HO3 := Lib.hid hown3; have HB3 := Lib.hid (hb2.trans hb3); clear hown hgrow hrun3 hown3 hb2 hb3))
                          go_roundw
                          case rel =>
                            have e : TK ++ [s] ++ DK = insB s OUT := by rw [HI.out, List.append_assoc]; rfl
                            have hwf : wf.heap.size = wk.heap.size := by rw [HWF.out]; rfl
                            have hkf : Below wk.heap.size wk wf := by rw [HWF.out]; exact below_drewN (Below.refl _ _) _
                            refine ⟨k + 1, by rw [HQ.out]; exact hlt, by go_num, ?_, HBB.out.trans ((hkf.trans (HB3.out.mono (by omega))).mono HBB.out.size)⟩
                            rw [HS.out, ← e]
                            exact own_lower HO3.out (by have := HBB.out.size; omega)
                          case measure => simp [intOf]; omega
                        · have hcni : ¬ (co : Int) = j := by omega
                          have TXF := HTO.out.below (show Below wk.heap.size wk wf from by rw [HWF.out]; exact below_drewN (Below.refl _ _) _)
                          obtain ⟨v1, w1, hrun1, hb1, hown1⟩ := app_src (w := wf) (B := wf.heap.size) (v := .slice none 0 0) (xs := []) co (World.ownsRow_nil _ _ _ _) (TXF.take j) (by first | (simp [HP.out]; done) | (simp [HP.out]; omega)) (Nat.le_refl _)
                          rw [show (OUT.take j).length = j by rw [List.length_take, HP.out]; omega] at hrun1
                          rw [List.nil_append] at hown1
                          have c0w := (hb1.cell (World.block_lt_of_cell? wf _ c0f)).trans c0f
                          have HO1 := Lib.hid hown1; have HB1 := Lib.hid hb1; have HRUN1 := Lib.hid hrun1
                          have HTXD : Hid (∀ W, Below wf.heap.size wf W → TxAt W (some ⟨g, i1' + j, none⟩) (OUT.drop j)) := Lib.hid fun W hW => (TXF.drop j).below hW
                          have hj3 : (OUT.take j).length = j := by rw [List.length_take, HP.out]; omega
                          have hd3 : (OUT.drop j).length = p - j := by rw [List.length_drop, HP.out]
                          obtain ⟨TK, hTK⟩ : ∃ L, OUT.take j = L := ⟨_, rfl⟩
                          obtain ⟨DK, hDK⟩ : ∃ L, OUT.drop j = L := ⟨_, rfl⟩
                          rw [hTK] at HO1 HI hj3
                          rw [hDK] at HTXD HI hd3
                          have HJ3 := Lib.hid hj3; have HD3 := Lib.hid hd3
                          rw [HJ3.out] at HO1
                          obtain ⟨oo1, cc1, rfl⟩ := own_slice HO1.out
                          clear TXF hrun1 hb1 hown1 hj3 hd3 hTK hDK
                          go_wp2_with (at_builtin; first
                            | (refine wpList_append_eq rfl _ _ 34 rfl _ _ rfl rfl _ _ HRUN1.out ?_; clear HRUN1)
                            | (refine wpList_append_eq rfl _ _ 34 rfl _ _ rfl rfl _ _ HRUN3.out ?_; clear HRUN3)
                            | ((refine wpList_append_own _ rfl _ _ 34 rfl wf.heap.size 9 i1 (.string ⟨#[]⟩) 1 16 Try.underlying34 HI1.out HZ0.out HZ1.out HZ2.out rfl (by decide) _ _ _ rfl (HO1.out.alloc _) ⟨w1.heap.size, 0, none⟩ 1 1 [.string s] rfl rfl (by simpa using cell_one_new w1 9 (.string s)) one_memS (by unfold maxLen; omega) (by omega) (by have h1 := HB1.out.size; simp; omega) ?_); intro v2 w2 hown hgrow _; have hb2 : Below wf.heap.size wf w2 := (HB1.out.alloc HB1.out.size _).grown hgrow (by have := HB1.out.size; simp; omega) (fun j hj => (HO1.out.lt j hj).1); obtain ⟨v3, w3, hrun3, hb3, hown3⟩ := app_src (w := w2) (B := wf.heap.size) (v := v2) (xs := TK ++ [s]) (co - j) (by rw [List.length_append, HJ3.out, show strV (TK ++ [s]) = strV TK ++ [.string s] by unfold strV; rw [List.map_append]; rfl]; exact hown) (HTXD.out w2 hb2) (by rw [List.length_append, HJ3.out, HD3.out]; first | (simp; done) | (simp; omega)) hb2.size; rw [HD3.out] at hrun3; have HRUN3 := Lib.hid hrun3; have HO3 := Lib.hid hown3; have HB3 := Lib.hid (hb2.trans hb3); clear hown hgrow hrun3 hown3 hb2 hb3))
                          go_roundw
                          case rel =>
                            have e : TK ++ [s] ++ DK = insB s OUT := by rw [HI.out, List.append_assoc]; rfl
                            have hwf : wf.heap.size = wk.heap.size := by rw [HWF.out]; rfl
                            have hkf : Below wk.heap.size wk wf := by rw [HWF.out]; exact below_drewN (Below.refl _ _) _
                            refine ⟨k + 1, by rw [HQ.out]; exact hlt, by go_num, ?_, HBB.out.trans ((hkf.trans (HB3.out.mono (by omega))).mono HBB.out.size)⟩
                            rw [HS.out, ← e]
                            exact own_lower HO3.out (by have := HBB.out.size; omega)
                          case measure => simp [intOf]; omega
                · obtain rfl : k = q := by omega
                  have hfin : Hid (ks3 a b c = keyL (ALL.take k)) := Lib.hid (by rw [HE.out, List.take_of_length_le (by rw [HQ.out]; exact Nat.le_refl _)])
                  obtain ⟨oo, co, rfl⟩ := own_slice HROW.out
                  go_wp2_with fail
                  refine bodyPost_ret (v := .slice oo _ co) (by simp [results, Try.results13, go_sem]; rfl) rfl ⟨_, rfl, ?_, HB4.out.trans (HBB.out.mono HB4.out.size)⟩
                  rw [hfin.out]
                  exact own_lower HROW.out HB4.out.size
end Go.Proofs.Ythkcmdlfdaggmaa
