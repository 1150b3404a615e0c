/- Keyed lists: sides compared; changes in memory; Diff. -/
import Derived.Test.YthkcmdlfdaggmaaHg
import Derived.Laws.StructEq
set_option linter.unusedVariables false
set_option linter.unusedSimpArgs false
namespace Go.Proofs.Ythkcmdlfdaggmaa
open Go.RowKit Go.Maps Go.WideShapes
variable {w w' : World}

theorem under_sd : Try.prog.underlying 39 = some (.struct (Try.prog.fieldsOf 39)) := by kernel_rfl
theorem held_sd : Try.prog.stoodInHeld 39 = false := by kernel_rfl
theorem sd_eq_bool (u v : SdB) : (u.1.toList == v.1.toList && u.2 == v.2) = decide (u = v) := by
  obtain ⟨a, s⟩ := u; obtain ⟨b, t⟩ := v
  by_cases h : a = b
  · subst h
    by_cases h2 : s = t
    · subst h2; simp
    · have : ((a, s) : SdB) ≠ (a, t) := fun e => h2 (congrArg Prod.snd e)
      simp [h2, this]
  · have h1 := ba_ne h
    have : ((a, s) : SdB) ≠ (b, t) := fun e => h (congrArg Prod.fst e)
    simp [h1, this]
theorem run_ne_sd (u v : SdB) (w : World) : (binOp .neq 39 (sdV u) (sdV v)).run Try.prog w = .ok (.bool (!decide (u = v))) w := by
  rw [run_neq_struct, run_equalIn_agg _ _ _ _ _ under_sd held_sd, ← sd_eq_bool]
  cases h : (u.1.toList == v.1.toList) <;> simp [Op.eqFields, Program.fieldsOf, Try.underlying39, part, go_sem, Try.underlying9, Try.underlying4, h] <;> (try (by_cases h2 : u.2 = v.2 <;> simp [h2]))
theorem run_eq_sd (u v : SdB) (w : World) : (binOp .eql 39 (sdV u) (sdV v)).run Try.prog w = .ok (.bool (decide (u = v))) w := by
  rw [run_eql_struct, run_equalIn_agg _ _ _ _ _ under_sd held_sd, ← sd_eq_bool]
  cases h : (u.1.toList == v.1.toList) <;> simp [Op.eqFields, Program.fieldsOf, Try.underlying39, part, go_sem, Try.underlying9, Try.underlying4, h] <;> (try (by_cases h2 : u.2 = v.2 <;> simp [h2]))
theorem info_ch : (Try.prog.info? 41).map (fun i => (i.zero, i.size, i.bytes)) = some (some (.agg #[.string ⟨#[]⟩, .string ⟨#[]⟩, .bool false, .string ⟨#[]⟩, .bool false]), 5, 64) := by kernel_rfl
/-! Changes. -/
abbrev ChB := ByteArray × SdB × SdB
def cells5 (p : ChB) : List Value := [.string p.1, .string p.2.1.1, .bool p.2.1.2, .string p.2.2.1, .bool p.2.2.2]
abbrev chV (p : ChB) : Value := .agg #[.string p.1, .string p.2.1.1, .bool p.2.1.2, .string p.2.2.1, .bool p.2.2.2]
def flatC (l : List ChB) : List Value := l.flatMap cells5
theorem flatC_snoc (l : List ChB) (p : ChB) : flatC (l ++ [p]) = flatC l ++ cells5 p := by unfold flatC; rw [List.flatMap_append]; simp
theorem flatC_get : ∀ (l : List ChB) (k : Nat) (p : ChB), l[k]? = some p → (flatC l)[k * 5]? = some (.string p.1) ∧ (flatC l)[k * 5 + 1]? = some (.string p.2.1.1) ∧ (flatC l)[k * 5 + 2]? = some (.bool p.2.1.2) ∧ (flatC l)[k * 5 + 3]? = some (.string p.2.2.1) ∧ (flatC l)[k * 5 + 4]? = some (.bool p.2.2.2)
  | [], k, p, h => by simp at h
  | q :: l, 0, p, h => by simp at h; subst h; exact ⟨rfl, rfl, rfl, rfl, rfl⟩
  | q :: l, k + 1, p, h => by
    rw [List.getElem?_cons_succ] at h
    have := flatC_get l k p h
    have e : flatC (q :: l) = Value.string q.1 :: Value.string q.2.1.1 :: Value.bool q.2.1.2 :: Value.string q.2.2.1 :: Value.bool q.2.2.2 :: flatC l := rfl
    rw [e, show (k + 1) * 5 = k * 5 + 1 + 1 + 1 + 1 + 1 by omega]
    simpa only [List.getElem?_cons_succ] using this
def ChAt (w : World) (o : Option Addr) (l : List ChB) : Prop :=
  ∀ k p, l[k]? = some p → ∃ b i, o = some ⟨b, i, none⟩ ∧ w.cell? ⟨b, i + k * 5, none⟩ = some (.string p.1) ∧ w.cell? ⟨b, i + k * 5 + 1, none⟩ = some (.string p.2.1.1) ∧ w.cell? ⟨b, i + k * 5 + 2, none⟩ = some (.bool p.2.1.2) ∧ w.cell? ⟨b, i + k * 5 + 3, none⟩ = some (.string p.2.2.1) ∧ w.cell? ⟨b, i + k * 5 + 4, none⟩ = some (.bool p.2.2.2)
theorem ChAt.below {o : Option Addr} {l : List ChB} (h : ChAt w o l) (hb : Below w.heap.size w w') : ChAt w' o l := fun k p hk => by
  obtain ⟨b, i, h2, h3, h4, h5, h6, h7⟩ := h k p hk
  have e := hb.block b (World.block_lt_of_cell? w _ h3)
  exact ⟨b, i, h2, (cell_keep e).trans h3, (cell_keep e).trans h4, (cell_keep e).trans h5, (cell_keep e).trans h6, (cell_keep e).trans h7⟩
theorem own_chs {B : Nat} {v : Value} {l : List ChB} {e : TypeId} (h : w.ownsRow B e 5 v l.length (flatC l)) : ∃ a cap, v = .slice a l.length cap ∧ ChAt w a l ∧ ∀ b i, a = some ⟨b, i, none⟩ → B ≤ b := by
  obtain ⟨a, cap, rfl, h0 | ⟨g, rfl, hB, hg, hc⟩⟩ := own_at h
  · refine ⟨a, cap, rfl, fun k p hk => by have := (List.getElem?_eq_some_iff.1 hk).1; omega, fun b i e => ?_⟩
    subst e
    exact (h.lt b rfl).1
  · exact ⟨_, cap, rfl, fun k p hk => by
      obtain ⟨h2, h3, h4, h5, h6⟩ := flatC_get l k p hk
      exact ⟨g, 0, rfl, by rw [Nat.zero_add]; exact hc _ _ h2, by rw [Nat.zero_add]; exact hc _ _ h3, by rw [Nat.zero_add]; exact hc _ _ h4, by rw [Nat.zero_add]; exact hc _ _ h5, by rw [Nat.zero_add]; exact hc _ _ h6⟩, fun b i e => by injection e with e; injection e with e; omega⟩
theorem mem5 {p : ChB} : ∀ u ∈ cells5 p, u.oneCell' = true := by
  intro u hu; simp [cells5] at hu; rcases hu with rfl | rfl | rfl | rfl | rfl <;> rfl
theorem cell_five_new (w : World) (t : TypeId) (a b c d e : Value) : ∀ (j : Nat) (u : Value), [a, b, c, d, e][j]? = some u → (w.alloc (.cells #[a, b, c, d, e] t)).cell? ((⟨w.heap.size, 0, none⟩ : Addr).add j) = some u := fun j u h => by
  have hg : (w.alloc (.cells #[a, b, c, d, e] t)).heap[w.heap.size]? = some (.cells #[a, b, c, d, e] t (0, 0)) := World.alloc_heap_new w _
  rw [addr_at, cell_of_row hg]
  match j, h with
  | 0, h => exact h
  | 1, h => exact h
  | 2, h => exact h
  | 3, h => exact h
  | 4, h => exact h
def chK (ks : List ByteArray) (U V : ByteArray → SdB) : List ChB := (ks.filter fun s => !decide (U s = V s)).map fun s => (s, U s, V s)
theorem ch_snoc {ks : List ByteArray} {U V : ByteArray → SdB} {k : Nat} {s : ByteArray} (h : ks[k]? = some s) : chK (ks.take (k + 1)) U V = chK (ks.take k) U V ++ (if (!decide (U s = V s)) = true then [(s, U s, V s)] else []) := by
  rw [take_get h]; unfold chK
  rw [List.filter_append, List.map_append]
  congr 1
  by_cases hs : (!decide (U s = V s)) = true
  · rw [if_pos hs]; simp only [List.filter_cons, hs, if_true, List.filter_nil, List.map_cons, List.map_nil]
  · rw [if_neg hs]; simp only [List.filter_cons, if_neg hs, List.filter_nil, List.map_nil]
theorem ch_len (ks : List ByteArray) (U V : ByteArray → SdB) : (chK ks U V).length ≤ ks.length := by unfold chK; rw [List.length_map]; exact List.length_filter_le _ _
def diffK (a b : List KvB) : List ChB := chK (keyL (ksK a ++ ksK b)) (sayK a) (sayK b)
def DfS (KS : List ByteArray) (U V : ByteArray → SdB) (w2 : World) (v i : Value) (wr : World) : Prop :=
  ∃ k : Nat, k ≤ KS.length ∧ i = .int .i64 k ∧ wr.ownsRow w2.heap.size 41 5 v (chK (KS.take k) U V).length (flatC (chK (KS.take k) U V)) ∧ Below w2.heap.size w2 wr
def diffEnd (a b : List KvB) (w : World) (e : Ending) (w' : World) : Prop :=
  ∃ v, e = .returned (.tuple #[v, .int .i64 (if RightK a ∧ RightK b then 0 else 12)]) ∧ w'.ownsRow w.heap.size 41 5 v (if RightK a ∧ RightK b then diffK a b else []).length (flatC (if RightK a ∧ RightK b then diffK a b else [])) ∧ Below w.heap.size w w'
theorem lk_two (w : World) (oa ob : Option Addr) (a b : List KvB) (ca cb : Nat) (hla : a.length ≤ 1000000) (hlb : b.length ≤ 1000000) (ha : KvAt w oa a) (hb : KvAt w ob b) :
    LkAt (w.alloc (.cells #[.slice oa a.length ca, .slice ob b.length cb] 24)) (some ⟨w.heap.size, 0, none⟩) [(oa, a, ca), (ob, b, cb)] := fun k p hk => by
  have h0 : Below w.heap.size w (w.alloc (.cells #[.slice oa a.length ca, .slice ob b.length cb] 24)) := (Below.refl _ w).alloc (Nat.le_refl _) _
  match k, hk with
  | 0, hk => simp at hk; subst hk; exact ⟨hla, ha.below h0, _, rfl, cell_of_row (World.alloc_heap_new w _)⟩
  | 1, hk => simp at hk; subst hk; exact ⟨hlb, hb.below h0, _, rfl, cell_of_row (World.alloc_heap_new w _)⟩
theorem mp_two (w : World) (m n nm nn : Nat) (ks kt : List ByteArray) (U V : ByteArray → SdB) (hU : IsSd m nm ks U w) (hV : IsSd n nn kt V w) (hs : ks.length ≤ 1000000) (ht : kt.length ≤ 1000000) (hzs : ∀ s ∈ ks, s.size ≤ maxLen) (hzt : ∀ s ∈ kt, s.size ≤ maxLen) :
    MpAt (w.alloc (.cells #[.map (some m), .map (some n)] 61)) (some ⟨w.heap.size, 0, none⟩) [(m, nm, ks, U), (n, nn, kt, V)] := fun k p hk => by
  have h0 : Below w.heap.size w (w.alloc (.cells #[.map (some m), .map (some n)] 61)) := (Below.refl _ w).alloc (Nat.le_refl _) _
  match k, hk with
  | 0, hk => simp at hk; subst hk; exact ⟨hU.below h0, hs, hzs, _, rfl, cell_of_row (World.alloc_heap_new w _)⟩
  | 1, hk => simp at hk; subst hk; exact ⟨hV.below h0, ht, hzt, _, rfl, cell_of_row (World.alloc_heap_new w _)⟩
theorem KvAt.keys {o : Option Addr} {l : List KvB} (h : KvAt w o l) : ∀ s ∈ ksK l, s.size ≤ maxLen := fun s hs => by
  obtain ⟨p, hp, rfl⟩ := List.mem_map.1 hs
  exact (h.sizes p hp).1
set_option maxHeartbeats 4000000 in
set_option maxRecDepth 100000 in
theorem Diff_any (oa ob : Option Addr) (a b : List KvB) (ca cb : Nat) (w : World) (hla : a.length ≤ 1000000) (hlb : b.length ≤ 1000000) (ha : KvAt w oa a) (hb : KvAt w ob b) :
    Calls Try.prog 10 #[.slice oa a.length ca, .slice ob b.length cb] w fun e w' => diffEnd a b w e w' := by
  have HA := Lib.hid ha; have HBB := Lib.hid hb
  have hb0 : Below w.heap.size w (w.alloc (.cells #[.slice oa a.length ca, .slice ob b.length cb] 24)) := (Below.refl _ w).alloc (Nat.le_refl _) _
  have HR := Lib.hid (allRight_any (some ⟨w.heap.size, 0, none⟩) [(oa, a, ca), (ob, b, cb)] 2 _ (by simp) (lk_two w oa ob a b ca cb hla hlb ha hb))
  have HB0 := Lib.hid hb0
  obtain ⟨n, hn⟩ : ∃ n, a.length = n := ⟨_, rfl⟩
  obtain ⟨m, hm⟩ : ∃ n, b.length = n := ⟨_, rfl⟩
  have HN := Lib.hid hn; have HM := Lib.hid hm
  simp only [hn, hm] at HR HB0
  rw [hn] at hla ⊢
  rw [hm] at hlb ⊢
  have HLA := Lib.hid hla; have HLB := Lib.hid hlb
  obtain ⟨i1, hi1, hz0, hz1, hz2⟩ := info_parts info_ch
  have HI1 := Lib.hid hi1; have HZ0 := Lib.hid hz0; have HZ1 := Lib.hid hz1; have HZ2 := Lib.hid hz2
  clear hi1 hz0 hz1 hz2 ha hb hb0 hn hm
  go_enter Try.func10, Try.ntmps10
  go_wp2_with (go_at_call 18; refine HR.out.mono ?_)
  rintro e w1 ⟨⟨x, rfl, hx⟩, hb1⟩
  have HB1 := Lib.hid (HB0.out.trans (hb1.mono (by simp)))
  cases x with
  | false =>
    have HX : Hid (¬ (RightK a ∧ RightK b)) := Lib.hid fun ⟨h1, h2⟩ => by
      have := hx.2 (fun p hp => by simp at hp; rcases hp with rfl | rfl <;> assumption)
      cases this
    clear hx hb1 HR
    go_wp2_with fail
    exact bodyPost_ret (v := .tuple #[.slice none 0 0, .int .i64 12]) (by simp [results, Try.results10, go_sem]) rfl ⟨_, by rw [if_neg HX.out], by rw [if_neg HX.out]; exact World.ownsRow_nil _ _ _ _, HB1.out⟩
  | true =>
    have hra : RightK a := hx.1 rfl (oa, a, ca) (by simp)
    have hrb : RightK b := hx.1 rfl (ob, b, cb) (by simp)
    have HRA := Lib.hid hra; have HRB := Lib.hid hrb
    have h1 := sides_any oa a ca w1 (by rw [HN.out]; exact HLA.out) hra ((HA.out.below HB0.out).below hb1)
    rw [HN.out] at h1
    have HS1 := Lib.hid h1
    have HA1 := Lib.hid ((HBB.out.below HB0.out).below hb1)
    clear hx hb1 hra hrb h1 HR
    go_wp2_with (go_at_call 19; (with_reducible refine HS1.out.mono ?_))
    rintro e w2 ⟨rfl, hU, hb2⟩
    have h2 := sides_any ob b cb w2 (by rw [HM.out]; exact HLB.out) HRB.out (HA1.out.below hb2)
    rw [HM.out] at h2
    have HS2 := Lib.hid h2
    have HU := Lib.hid hU; have HB2 := Lib.hid (HB1.out.trans (hb2.mono HB1.out.size))
    have HZA := Lib.hid HA.out.keys; have HZB := Lib.hid HBB.out.keys
    clear hU hb2 h2 HS1
    go_wp2_with (go_at_call 19; (with_reducible refine HS2.out.mono ?_))
    rintro e w3 ⟨rfl, hV, hb3⟩
    have hU3 := HU.out.below hb3
    have HU3 := Lib.hid hU3; have HV3 := Lib.hid hV; have HB3 := Lib.hid (HB2.out.trans (hb3.mono HB2.out.size))
    have hK := keys_any (some ⟨w3.heap.size, 0, none⟩) _ 2 _ (by simp) (mp_two w3 w1.heap.size w2.heap.size n m (ksK a) (ksK b) (sayK a) (sayK b) hU3 hV (by rw [List.length_map, HN.out]; exact HLA.out) (by rw [List.length_map, HM.out]; exact HLB.out) HZA.out HZB.out)
    rw [show mpKs [(w1.heap.size, n, ksK a, sayK a), (w2.heap.size, m, ksK b, sayK b)] = ksK a ++ ksK b by simp [mpKs]] at hK
    change Calls _ _ #[.slice _ 2 2] _ _ at hK
    have HK := Lib.hid hK
    have hb4 : Below w3.heap.size w3 (w3.alloc (.cells #[.map (some w1.heap.size), .map (some w2.heap.size)] 61)) := (Below.refl _ w3).alloc (Nat.le_refl _) _
    have HU4 := Lib.hid (hU3.below hb4); have HV4 := Lib.hid (hV.below hb4); have HB4 := Lib.hid (HB3.out.trans (hb4.mono HB3.out.size))
    clear hU3 hV hb3 hK hb4 HS2 HU
    go_wp2_with (go_at_call 20; (with_reducible refine HK.out.mono ?_))
    rintro e w5 ⟨v, rfl, hr, hb5⟩
    have hz : ∀ s ∈ keyL (ksK a ++ ksK b), s.size ≤ maxLen := fun s hs => by
      rw [mem_keyL, List.mem_append] at hs
      exact hs.elim (HZA.out s) (HZB.out s)
    obtain ⟨o5, c5, rfl, htx, _⟩ := own_texts hr hz
    have HT := Lib.hid htx; have HB5 := Lib.hid (HB4.out.trans (hb5.mono (by have := HB3.out.size; simp; omega)))
    have HU5 := Lib.hid (HU4.out.below hb5); have HV5 := Lib.hid (HV4.out.below hb5)
    have hkl : (keyL (ksK a ++ ksK b)).length ≤ 2000000 := by
      have := keyL_len (ksK a ++ ksK b)
      rw [List.length_append, List.length_map, List.length_map, HN.out, HM.out] at this
      have := HLA.out; have := HLB.out; omega
    have HD : Hid (diffK a b = chK (keyL (ksK a ++ ksK b)) (sayK a) (sayK b)) := Lib.hid rfl
    obtain ⟨KS, hKS⟩ : ∃ KS, keyL (ksK a ++ ksK b) = KS := ⟨_, rfl⟩
    rw [hKS] at HT HD hkl ⊢
    obtain ⟨q, hq⟩ : ∃ q, KS.length = q := ⟨_, rfl⟩
    have HQ := Lib.hid hq
    rw [hq] at hkl ⊢
    have H0 : Hid (DfS KS (sayK a) (sayK b) w5 (.slice none 0 0) (.int .i64 0) w5) := Lib.hid ⟨0, Nat.zero_le _, rfl, World.ownsRow_nil _ _ _ _, Below.refl _ _⟩
    obtain ⟨mu, hmu⟩ : ∃ z, w1.heap.size = z := ⟨_, rfl⟩
    obtain ⟨mv, hmv⟩ : ∃ z, w2.heap.size = z := ⟨_, rfl⟩
    simp only [hmu] at HU5 ⊢
    simp only [hmv] at HV5 ⊢
    clear hr hb5 hz htx hq hKS HK HU4 HV4 HU3 HV3 hmu hmv HA1 HB1 HB2 HB3 HB4
    go_wp2_with fail
    go_loopw [8, 25] (fun v i wr => DfS KS (sayK a) (sayK b) w5 v i wr) (fun _ i _ => q - (intOf i).toNat)
    case atStart => exact H0.out
    case round =>
      obtain ⟨k, hk, rfl, hrow, hb⟩ := hrel
      rw [HQ.out] at hk
      have HROW := Lib.hid hrow; have HB := Lib.hid hb
      clear hrow hb H0
      by_cases hlt : k < q
      · obtain ⟨s, hs⟩ : ∃ s, KS[k]? = some s := ⟨_, List.getElem?_eq_getElem (by rw [HQ.out]; omega)⟩
        obtain ⟨hss, b0, i0, ho, c0⟩ := tx_get (HT.out.below HB.out) hs
        subst ho
        have HIT := Lib.hid (ch_snoc (U := sayK a) (V := sayK b) hs)
        have hlk1 := (HU5.out.below HB.out).look hss
        have hlk2 := (HV5.out.below HB.out).look hss
        obtain ⟨u, hu⟩ : ∃ u, sayK a s = u := ⟨_, rfl⟩
        obtain ⟨y, hy⟩ : ∃ u, sayK b s = u := ⟨_, rfl⟩
        rw [hu] at hlk1 HIT
        rw [hy] at hlk2 HIT
        obtain ⟨x1, t1⟩ := u
        obtain ⟨x2, t2⟩ := y
        have hne := run_ne_sd (x1, t1) (x2, t2)
        have hilen : (chK (KS.take k) (sayK a) (sayK b)).length ≤ 2000000 := Nat.le_trans (ch_len _ _ _) (by rw [List.length_take]; omega)
        obtain ⟨L, hL⟩ : ∃ L, chK (KS.take k) (sayK a) (sayK b) = L := ⟨_, rfl⟩
        rw [hL] at HROW HIT hilen
        (try dsimp only at HIT); (try dsimp only at hlk1); (try dsimp only at hlk2); (try dsimp only at hne)
        clear hu hy hs hss hL
        cases hd : (!decide (((x1, t1) : SdB) = (x2, t2))) with
        | true =>
          rw [hd] at HIT hne
          have HIT2 := Lib.hid (HIT.out.trans (by rw [if_pos rfl]))
          clear HIT hd
          go_wp2_with (at_builtin; (refine wpList_append_own _ rfl _ _ 28 rfl w5.heap.size 41 i1 (.agg #[.string ⟨#[]⟩, .string ⟨#[]⟩, .bool false, .string ⟨#[]⟩, .bool false]) 5 64 Try.underlying28 HI1.out HZ0.out HZ1.out HZ2.out rfl (by decide) _ _ _ rfl (HROW.out.alloc _) ⟨wr.heap.size, 0, none⟩ 1 1 (cells5 (s, (x1, t1), (x2, t2))) rfl rfl (by simpa [cells5] using cell_five_new wr 41 (.string s) (.string x1) (.bool t1) (.string x2) (.bool t2)) mem5 (by unfold maxLen; omega) (by omega) (by have := HB.out.size; simp; omega) ?_); intro v' w4 hown hgrow _; have HO4 := Lib.hid hown; have HG4 := Lib.hid hgrow; clear hown hgrow)
          go_roundw
          case rel => exact ⟨k + 1, by rw [HQ.out]; exact hlt, by go_num, by rw [HIT2.out, List.length_append, flatC_snoc]; exact HO4.out, (HB.out.alloc HB.out.size _).grown HG4.out (by have := HB.out.size; simp at this ⊢; omega) (fun j hj => (HROW.out.lt j hj).1)⟩
          case measure => simp [intOf]; omega
        | false =>
          rw [hd] at HIT hne
          have HIT2 := Lib.hid (HIT.out.trans (by rw [if_neg (by decide), List.append_nil]))
          clear HIT hd
          go_wp2_with fail
          go_roundw
          case rel => exact ⟨k + 1, by rw [HQ.out]; exact hlt, by go_num, by rw [HIT2.out]; exact HROW.out, HB.out⟩
          case measure => simp [intOf]; omega
      · obtain rfl : k = q := by omega
        have HF : Hid (KS.take k = KS) := Lib.hid (List.take_of_length_le (by rw [HQ.out]; exact Nat.le_refl _))
        go_wp2_with fail
        obtain ⟨oo, cc, rfl⟩ := own_slice HROW.out
        refine bodyPost_ret (v := .tuple #[_, .int .i64 0]) (by simp [results, Try.results10, go_sem]; rfl) rfl ?_
        refine ⟨_, by rw [if_pos ⟨HRA.out, HRB.out⟩], ?_, HB5.out.trans (HB.out.mono HB5.out.size)⟩
        rw [if_pos ⟨HRA.out, HRB.out⟩, HD.out]
        have h := HROW.out
        rw [HF.out] at h ⊢
        exact own_lower h HB5.out.size
end Go.Proofs.Ythkcmdlfdaggmaa
