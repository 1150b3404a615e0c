/- Keyed lists: Merge. -/
import Derived.Test.YthkcmdlfdaggmaaHk
set_option linter.unusedVariables false
set_option linter.unusedSimpArgs false
namespace Go.Proofs.Ythkcmdlfdaggmaa
open Go.RowKit Go.Maps Go.WideShapes
variable {w w' : World}

section
variable (P O T : ByteArray → SdB)
def okK (s : ByteArray) : Bool := (settleK (P s) (O s) (T s)).2
def setU (s : ByteArray) : SdB := (settleK (P s) (O s) (T s)).1
def setL (ks : List ByteArray) : List ChB := (ks.filter (okK P O T)).map fun s => (s, sd0, setU P O T s)
def confK (ks : List ByteArray) : List CfB := (ks.filter fun s => !okK P O T s).map fun s => (s, P s, O s, T s)
end
section
variable {P O T : ByteArray → SdB} {ks : List ByteArray} {k : Nat} {s : ByteArray}
theorem set_keys (ks : List ByteArray) : ksC (setL P O T ks) = ks.filter (okK P O T) := by unfold setL ksC; rw [List.map_map]; exact List.map_id _
theorem set_yes (h : ks[k]? = some s) (hs : okK P O T s = true) : setL P O T (ks.take (k + 1)) = setL P O T (ks.take k) ++ [(s, sd0, setU P O T s)] := by
  rw [take_get h]; unfold setL; rw [List.filter_append, List.map_append]; congr 1; simp [hs]
theorem set_no (h : ks[k]? = some s) (hs : okK P O T s = false) : setL P O T (ks.take (k + 1)) = setL P O T (ks.take k) := by
  rw [take_get h]; unfold setL; rw [List.filter_append, List.map_append]; simp [hs]
theorem conf_yes (h : ks[k]? = some s) (hs : okK P O T s = true) : confK P O T (ks.take (k + 1)) = confK P O T (ks.take k) := by
  rw [take_get h]; unfold confK; rw [List.filter_append, List.map_append]; simp [hs]
theorem conf_no (h : ks[k]? = some s) (hs : okK P O T s = false) : confK P O T (ks.take (k + 1)) = confK P O T (ks.take k) ++ [(s, P s, O s, T s)] := by
  rw [take_get h]; unfold confK; rw [List.filter_append, List.map_append]; congr 1; simp [hs]
theorem conf_len (ks : List ByteArray) : (confK P O T ks).length ≤ ks.length := by unfold confK; rw [List.length_map]; exact List.length_filter_le _ _
theorem set_len (ks : List ByteArray) : (setL P O T ks).length ≤ ks.length := by unfold setL; rw [List.length_map]; exact List.length_filter_le _ _
theorem set_fresh (ha : Asc ks) (h : ks[k]? = some s) : s ∉ ksC (setL P O T (ks.take k)) := fun hm => by
  rw [set_keys, List.mem_filter] at hm
  have h1 : Asc (ks.take (k + 1)) := List.Pairwise.sublist (List.take_sublist _ _) ha
  rw [take_get h] at h1
  exact ltB_irrefl _ ((List.pairwise_append.1 h1).2.2 s hm.1 s (by simp))
end
theorem settle_none : settleK sd0 sd0 sd0 = (sd0, true) := by unfold settleK; rw [if_pos (.inl rfl)]
/-- The keys of three lists. -/
def ks3 (b o t : List KvB) : List ByteArray := keyL (ksK b ++ (ksK o ++ ksK t))
def cfs3 (b o t : List KvB) : List CfB := confK (sayK b) (sayK o) (sayK t) (ks3 b o t)
def mergeK (b o t : List KvB) : List KvB × List CfB × Int :=
  if ¬ (RightK b ∧ RightK o ∧ RightK t) then ([], [], 12)
  else if cfs3 b o t = [] then (itemK (ks3 b o t) (setU (sayK b) (sayK o) (sayK t)), [], 0) else ([], cfs3 b o t, 0)
theorem ks3_asc (b o t : List KvB) : Asc (ks3 b o t) := asc_keyL _
theorem mem_ks3 (b o t : List KvB) (s : ByteArray) : s ∈ ks3 b o t ↔ s ∈ ksK b ∨ s ∈ ksK o ∨ s ∈ ksK t := by unfold ks3; rw [mem_keyL, List.mem_append, List.mem_append]
theorem setU_out {b o t : List KvB} {s : ByteArray} (h : s ∉ ks3 b o t) : setU (sayK b) (sayK o) (sayK t) s = sd0 := by
  rw [mem_ks3, not_or, not_or] at h
  unfold setU
  rw [say_not h.1, say_not h.2.1, say_not h.2.2, settle_none]
theorem conf_nil {P O T : ByteArray → SdB} {ks : List ByteArray} (h : confK P O T ks = []) : ks.filter (okK P O T) = ks := by
  unfold confK at h
  rw [List.map_eq_nil_iff, List.filter_eq_nil_iff] at h
  exact List.filter_eq_self.2 fun s hs => by have := h s hs; simpa using this
theorem new_all {b o t : List KvB} (h : cfs3 b o t = []) (s : ByteArray) : newU [] (setL (sayK b) (sayK o) (sayK t) (ks3 b o t)) s = setU (sayK b) (sayK o) (sayK t) s := by
  have hk := conf_nil h
  rcases Classical.em (s ∈ ks3 b o t) with hs | hs
  · have hm : (s, sd0, setU (sayK b) (sayK o) (sayK t) s) ∈ setL (sayK b) (sayK o) (sayK t) (ks3 b o t) := by
      unfold setL; rw [hk]; exact List.mem_map_of_mem (f := fun s => (s, sd0, setU (sayK b) (sayK o) (sayK t) s)) hs
    exact new_mem (by rw [set_keys, hk]; exact ks3_asc b o t) hm
  · rw [new_not (by rw [set_keys, hk]; exact hs), setU_out hs]; rfl
theorem Keeps.of_grown {r : Option Nat} (h : w.grownBy w' r) : Keeps (fun k => k < w.heap.size ∧ some k ≠ r) w w' :=
  ⟨⟨h.os, h.tape, h.output, h.size, fun k hk => absurd hk (Nat.not_lt_zero k)⟩, h.size, fun k hk => h.block k hk.1 hk.2⟩
theorem Keeps.weak {k1 k2 : Nat → Prop} (h : Keeps k1 w w') (hk : ∀ k, k2 k → k1 k) : Keeps k2 w w' := ⟨h.low, h.size, fun k h2 => h.block k (hk k h2)⟩
theorem Keeps.more {g : Nat} {w5 wr w8 w9 : World} (h : Keeps (fun j => j < w5.heap.size ∧ j ≠ g) w5 wr) (hb : Below wr.heap.size wr w8) {r : Option Nat} (hg : w8.grownBy w9 r) (hr : ∀ j, r = some j → j = g ∨ w5.heap.size ≤ j) : Keeps (fun j => j < w5.heap.size ∧ j ≠ g) w5 w9 := by
  refine ⟨(h.low.trans (hb.mono (Nat.zero_le _))).grown hg (Nat.zero_le _) (fun _ _ => Nat.zero_le _), Nat.le_trans h.size (Nat.le_trans hb.size hg.size), fun j hj => ?_⟩
  have h1 := h.size; have h2 := hb.size
  exact (hg.block j (by omega) (fun e => by rcases hr j e.symm with h3 | h3 <;> omega)).trans ((hb.block j (by omega)).trans (h.block j hj))
theorem lk_three (w : World) (oa ob oc : Option Addr) (a b c : List KvB) (ca cb cc : Nat) (hla : a.length ≤ 1000000) (hlb : b.length ≤ 1000000) (hlc : c.length ≤ 1000000) (ha : KvAt w oa a) (hb : KvAt w ob b) (hc : KvAt w oc c) :
    LkAt (w.alloc (.cells #[.slice oa a.length ca, .slice ob b.length cb, .slice oc c.length cc] 24)) (some ⟨w.heap.size, 0, none⟩) [(oa, a, ca), (ob, b, cb), (oc, c, cc)] := fun k p hk => by
  have h0 : Below w.heap.size w (w.alloc (.cells #[.slice oa a.length ca, .slice ob b.length cb, .slice oc c.length cc] 24)) := (Below.refl _ w).alloc (Nat.le_refl _) _
  match k, hk with
  | 0, hk => simp at hk; subst hk; exact ⟨hla, ha.below h0, _, rfl, cell_of_row (World.alloc_heap_new w _)⟩
  | 1, hk => simp at hk; subst hk; exact ⟨hlb, hb.below h0, _, rfl, cell_of_row (World.alloc_heap_new w _)⟩
  | 2, hk => simp at hk; subst hk; exact ⟨hlc, hc.below h0, _, rfl, cell_of_row (World.alloc_heap_new w _)⟩
theorem mp_three (w : World) (m n q nm nn nq : Nat) (ks kt kr : List ByteArray) (U V Z : ByteArray → SdB) (hU : IsSd m nm ks U w) (hV : IsSd n nn kt V w) (hZ : IsSd q nq kr Z w) (hs : ks.length ≤ 1000000) (ht : kt.length ≤ 1000000) (hr : kr.length ≤ 1000000) (hzs : ∀ s ∈ ks, s.size ≤ maxLen) (hzt : ∀ s ∈ kt, s.size ≤ maxLen) (hzr : ∀ s ∈ kr, s.size ≤ maxLen) :
    MpAt (w.alloc (.cells #[.map (some m), .map (some n), .map (some q)] 61)) (some ⟨w.heap.size, 0, none⟩) [(m, nm, ks, U), (n, nn, kt, V), (q, nq, kr, Z)] := fun k p hk => by
  have h0 : Below w.heap.size w (w.alloc (.cells #[.map (some m), .map (some n), .map (some q)] 61)) := (Below.refl _ w).alloc (Nat.le_refl _) _
  match k, hk with
  | 0, hk => simp at hk; subst hk; exact ⟨hU.below h0, hs, hzs, _, rfl, cell_of_row (World.alloc_heap_new w _)⟩
  | 1, hk => simp at hk; subst hk; exact ⟨hV.below h0, ht, hzt, _, rfl, cell_of_row (World.alloc_heap_new w _)⟩
  | 2, hk => simp at hk; subst hk; exact ⟨hZ.below h0, hr, hzr, _, rfl, cell_of_row (World.alloc_heap_new w _)⟩
/-- Between two of Merge's rounds. -/
def MgS (KS : List ByteArray) (P O T : ByteArray → SdB) (g : Nat) (w w5 : World) (v i : Value) (wr : World) : Prop :=
  ∃ k nn : Nat, k ≤ KS.length ∧ nn ≤ k ∧ i = .int .i64 k ∧ IsSd g nn (ksC (setL P O T (KS.take k))) (newU [] (setL P O T (KS.take k))) wr ∧ wr.ownsRow w5.heap.size 57 7 v (confK P O T (KS.take k)).length (flatF (confK P O T (KS.take k))) ∧ Keeps (fun j => j < w5.heap.size ∧ j ≠ g) w5 wr ∧ Below w.heap.size w wr
def mgEnd (b o t : List KvB) (w : World) (e : Ending) (w' : World) : Prop :=
  ∃ v u, e = .returned (.tuple #[v, u, .int .i64 (mergeK b o t).2.2]) ∧ w'.ownsRow w.heap.size 51 2 v (mergeK b o t).1.length (flatK (mergeK b o t).1) ∧ w'.ownsRow w.heap.size 57 7 u (mergeK b o t).2.1.length (flatF (mergeK b o t).2.1) ∧ Below w.heap.size w w'
theorem cell_seven_new (w : World) (t : TypeId) (a b c d e f g : Value) : ∀ (j : Nat) (u : Value), [a, b, c, d, e, f, g][j]? = some u → (w.alloc (.cells #[a, b, c, d, e, f, g] t)).cell? ((⟨w.heap.size, 0, none⟩ : Addr).add j) = some u := fun j u h => by
  have hg : (w.alloc (.cells #[a, b, c, d, e, f, g] t)).heap[w.heap.size]? = some (.cells #[a, b, c, d, e, f, g] t (0, 0)) := World.alloc_heap_new w _
  rw [addr_at, cell_of_row hg]
  match j, h with
  | 0, h => exact h
  | 1, h => exact h
  | 2, h => exact h
  | 3, h => exact h
  | 4, h => exact h
  | 5, h => exact h
  | 6, h => exact h
set_option maxHeartbeats 8000000 in
set_option maxRecDepth 100000 in
theorem Merge_any (oa ob oc : Option Addr) (a b c : List KvB) (ca cb cc : Nat) (w : World) (hla : a.length ≤ 300000) (hlb : b.length ≤ 300000) (hlc : c.length ≤ 300000) (ha : KvAt w oa a) (hb : KvAt w ob b) (hc : KvAt w oc c) :
    Calls Try.prog 17 #[.slice oa a.length ca, .slice ob b.length cb, .slice oc c.length cc] w fun e w' => mgEnd a b c w e w' := by
  have HA := Lib.hid ha; have HBB := Lib.hid hb; have HCC := Lib.hid hc
  have hb0 : Below w.heap.size w (w.alloc (.cells #[.slice oa a.length ca, .slice ob b.length cb, .slice oc c.length cc] 24)) := (Below.refl _ w).alloc (Nat.le_refl _) _
  have HR := Lib.hid (allRight_any (some ⟨w.heap.size, 0, none⟩) [(oa, a, ca), (ob, b, cb), (oc, c, cc)] 3 _ (by simp) (lk_three w oa ob oc a b c ca cb cc (by omega) (by omega) (by omega) ha hb hc))
  have HB0 := Lib.hid hb0
  obtain ⟨n, hn⟩ : ∃ n, a.length = n := ⟨_, rfl⟩
  obtain ⟨m, hm⟩ : ∃ n, b.length = n := ⟨_, rfl⟩
  obtain ⟨r, hr⟩ : ∃ n, c.length = n := ⟨_, rfl⟩
  have HN := Lib.hid hn; have HM := Lib.hid hm; have HRR := Lib.hid hr
  simp only [hn, hm, hr] at HR HB0
  rw [hn] at hla ⊢
  rw [hm] at hlb ⊢
  rw [hr] at hlc ⊢
  have HLA := Lib.hid hla; have HLB := Lib.hid hlb; have HLC := Lib.hid hlc
  obtain ⟨i1, hi1, hz0, hz1, hz2⟩ := info_parts info_cf
  have HI1 := Lib.hid hi1; have HZ0 := Lib.hid hz0; have HZ1 := Lib.hid hz1; have HZ2 := Lib.hid hz2
  clear hi1 hz0 hz1 hz2 ha hb hc hb0 hn hm hr
  have hmm := @run_makeMap Try.prog
  go_enter Try.func17, Try.ntmps17
  go_wp2_with (go_at_call 18; refine HR.out.mono ?_)
  rintro e w1 ⟨⟨x, rfl, hx⟩, hb1⟩
  have HB1 := Lib.hid (HB0.out.trans (hb1.mono (by simp)))
  cases x with
  | false =>
    have HX : Hid (mergeK a b c = ([], [], 12)) := Lib.hid (by
      unfold mergeK
      rw [if_pos]
      rintro ⟨h1, h2, h3⟩
      have := hx.2 (fun p hp => by simp at hp; rcases hp with rfl | rfl | rfl <;> assumption)
      cases this)
    clear hx hb1 HR
    go_wp2_with fail
    exact bodyPost_ret (v := .tuple #[.slice none 0 0, .slice none 0 0, .int .i64 12]) (by simp [results, Try.results17, go_sem]) rfl ⟨_, _, by rw [HX.out], by rw [HX.out]; exact World.ownsRow_nil _ _ _ _, by rw [HX.out]; exact World.ownsRow_nil _ _ _ _, HB1.out⟩
  | true =>
    have hra : RightK a := hx.1 rfl (oa, a, ca) (by simp)
    have hrb : RightK b := hx.1 rfl (ob, b, cb) (by simp)
    have hrc : RightK c := hx.1 rfl (oc, c, cc) (by simp)
    have HRA := Lib.hid hra; have HRB := Lib.hid hrb; have HRC := Lib.hid hrc
    have HZA := Lib.hid HA.out.keys; have HZB := Lib.hid HBB.out.keys; have HZC := Lib.hid HCC.out.keys
    have hS1 := fun (W : World) (hb : Below w.heap.size w W) => sides_any oa a ca W (by rw [HN.out]; have := HLA.out; omega) HRA.out (HA.out.below hb)
    have hS2 := fun (W : World) (hb : Below w.heap.size w W) => sides_any ob b cb W (by rw [HM.out]; have := HLB.out; omega) HRB.out (HBB.out.below hb)
    have hS3 := fun (W : World) (hb : Below w.heap.size w W) => sides_any oc c cc W (by rw [HRR.out]; have := HLC.out; omega) HRC.out (HCC.out.below hb)
    simp only [HN.out, HM.out, HRR.out] at hS1 hS2 hS3
    have HS1 := Lib.hid hS1; have HS2 := Lib.hid hS2; have HS3 := Lib.hid hS3
    clear hx hb1 hra hrb hrc HR hS1 hS2 hS3
    have TOK1 : Hid (1 = 1) := Lib.hid rfl
    go_wp2_with (go_at_call 19; (with_reducible refine (HS1.out _ HB1.out).mono ?_))
    rintro e w2 ⟨rfl, hU, hb2⟩
    have HB2 := Lib.hid (HB1.out.trans (hb2.mono HB1.out.size)); have HU := Lib.hid hU
    clear hU hb2 HS1
    go_wp2_with (go_at_call 19; (with_reducible refine (HS2.out _ HB2.out).mono ?_))
    rintro e w3 ⟨rfl, hV, hb3⟩
    have HB3 := Lib.hid (HB2.out.trans (hb3.mono HB2.out.size)); have HV := Lib.hid hV; have HU3 := Lib.hid (HU.out.below hb3)
    clear hV hb3 HS2 HU
    go_wp2_with (go_at_call 19; (with_reducible refine (HS3.out _ HB3.out).mono ?_))
    rintro e w4 ⟨rfl, hZ, hb4⟩
    have HB4 := Lib.hid (HB3.out.trans (hb4.mono HB3.out.size)); have HT := Lib.hid hZ; have HU4 := Lib.hid (HU3.out.below hb4); have HV4 := Lib.hid (HV.out.below hb4)
    clear hZ hb4 HS3 HU3 HV
    obtain ⟨mu, hmu⟩ : ∃ z, w1.heap.size = z := ⟨_, rfl⟩
    obtain ⟨mv, hmv⟩ : ∃ z, w2.heap.size = z := ⟨_, rfl⟩
    obtain ⟨mt, hmt⟩ : ∃ z, w3.heap.size = z := ⟨_, rfl⟩
    simp only [hmu] at HU4 ⊢
    simp only [hmv] at HV4 ⊢
    simp only [hmt] at HT ⊢
    have hba : Below w4.heap.size w4 (w4.alloc (.map #[] 0)) := (Below.refl _ w4).alloc (Nat.le_refl _) _
    have hbb : Below (w4.heap.size + 1) (w4.alloc (.map #[] 0)) ((w4.alloc (.map #[] 0)).alloc (.cells #[.map (some mu), .map (some mv), .map (some mt)] 61)) := (Below.refl _ _).alloc (by simp) _
    have hK := keys_any (some ⟨w4.heap.size + 1, 0, none⟩) [(mu, n, ksK a, sayK a), (mv, m, ksK b, sayK b), (mt, r, ksK c, sayK c)] 3 ((w4.alloc (.map #[] 0)).alloc (.cells #[.map (some mu), .map (some mv), .map (some mt)] 61)) (by simp) (by have h := mp_three (w4.alloc (.map #[] 0)) mu mv mt n m r (ksK a) (ksK b) (ksK c) (sayK a) (sayK b) (sayK c) (HU4.out.below hba) (HV4.out.below hba) (HT.out.below hba) (by rw [List.length_map, HN.out]; have := HLA.out; omega) (by rw [List.length_map, HM.out]; have := HLB.out; omega) (by rw [List.length_map, HRR.out]; have := HLC.out; omega) HZA.out HZB.out HZC.out; rw [World.size_alloc] at h; exact h)
    rw [show mpKs [(mu, n, ksK a, sayK a), (mv, m, ksK b, sayK b), (mt, r, ksK c, sayK c)] = ksK a ++ (ksK b ++ ksK c) by simp [mpKs]] at hK
    change Calls _ _ #[.slice _ 3 3] _ _ at hK
    have HK := Lib.hid hK
    have hb5 := hba.trans (hbb.mono (Nat.le_succ _))
    have HU5 := Lib.hid (HU4.out.below hb5); have HV5 := Lib.hid (HV4.out.below hb5); have HT5 := Lib.hid (HT.out.below hb5)
    have HG5 := Lib.hid ((IsSd.new w4).below (hbb.mono (Nat.le_of_eq (World.size_alloc _ _))))
    have HB5 := Lib.hid (HB4.out.trans (hb5.mono HB4.out.size))
    have hgu : mu < w4.heap.size ∧ mv < w4.heap.size ∧ mt < w4.heap.size := ⟨HU4.out.lt, HV4.out.lt, HT.out.lt⟩
    have HGU0 := Lib.hid hgu
    clear hK hba hbb hb5 HU4 HV4 HT hmu hmv hmt hgu
    go_wp2_with (go_at_call 20; (with_reducible refine HK.out.mono ?_))
    rintro e w5 ⟨v, rfl, hr, hb6⟩
    have hz : ∀ s ∈ keyL (ksK a ++ (ksK b ++ ksK c)), s.size ≤ maxLen := fun s hs => by
      rw [mem_keyL, List.mem_append, List.mem_append] at hs
      exact hs.elim (HZA.out s) (fun h => h.elim (HZB.out s) (HZC.out s))
    obtain ⟨o5, c5, rfl, htx, hrb⟩ := own_texts hr hz
    have HTX := Lib.hid htx; have HRB := Lib.hid hrb
    have HB6 := Lib.hid (HB5.out.trans (hb6.mono (by have := HB4.out.size; simp; omega)))
    have HU6 := Lib.hid (HU5.out.below hb6); have HV6 := Lib.hid (HV5.out.below hb6); have HT6 := Lib.hid (HT5.out.below hb6); have HG6 := Lib.hid (HG5.out.below hb6)
    have hkl : (keyL (ksK a ++ (ksK b ++ ksK c))).length ≤ 900000 := by
      have h := keyL_len (ksK a ++ (ksK b ++ ksK c))
      rw [List.length_append, List.length_append, List.length_map, List.length_map, List.length_map, HN.out, HM.out, HRR.out] at h
      have h1 := HLA.out; have h2 := HLB.out; have h3 := HLC.out; omega
    have HKS : Hid (ks3 a b c = keyL (ksK a ++ (ksK b ++ ksK c))) := Lib.hid rfl
    obtain ⟨KS, hKS⟩ : ∃ KS, keyL (ksK a ++ (ksK b ++ ksK c)) = KS := ⟨_, rfl⟩
    rw [hKS] at HTX HKS hkl ⊢
    have HASC : Hid (Asc KS) := Lib.hid (by rw [← hKS]; exact asc_keyL _)
    obtain ⟨q, hq⟩ : ∃ q, KS.length = q := ⟨_, rfl⟩
    have HQ := Lib.hid hq
    rw [hq] at hkl ⊢
    obtain ⟨g, hg⟩ : ∃ g, w4.heap.size = g := ⟨_, rfl⟩
    have HGW : Hid (w.heap.size ≤ g) := Lib.hid (by rw [← hg]; exact HB4.out.size)
    have HGK : Hid (∀ b i, o5 = some ⟨b, i, none⟩ → g < b) := Lib.hid fun b i h => by have := HRB.out b i h; simp [hg] at this; omega
    simp only [hg] at HG6 ⊢
    have HGU : Hid (mu < g ∧ mv < g ∧ mt < g) := Lib.hid (by rw [← hg]; exact HGU0.out)
    have HGS : Hid (g < w5.heap.size) := Lib.hid HG6.out.lt
    have H0 : Hid (MgS KS (sayK a) (sayK b) (sayK c) g w w5 (.slice none 0 0) (.int .i64 0) w5) := Lib.hid ⟨0, 0, Nat.zero_le _, Nat.le_refl _, rfl, HG6.out, World.ownsRow_nil _ _ _ _, Keeps.refl _ _, HB6.out⟩
    clear hr hb6 hz htx hrb hq hKS hg HK HU5 HV5 HT5 HG5 HG6 HB5 HB4 HB3 HB2 HB1 HB0 HRB hmm
    go_wp2_with fail
    go_loopw [13, 38] (fun v i wr => MgS KS (sayK a) (sayK b) (sayK c) g w w5 v i wr) (fun _ i _ => q - (intOf i).toNat)
    case atStart => exact H0.out
    case round =>
      obtain ⟨k, nn, hk, hnn, rfl, hG, hrow, hkp, hb⟩ := hrel
      rw [HQ.out] at hk
      have HG := Lib.hid hG; have HROW := Lib.hid hrow; have HKP := Lib.hid hkp; have HB := Lib.hid hb
      clear hG hrow hkp hb H0
      by_cases hlt : k < q
      · obtain ⟨s, hs⟩ : ∃ s, KS[k]? = some s := ⟨_, List.getElem?_eq_getElem (by rw [HQ.out]; omega)⟩
        obtain ⟨hss, b0, i0, ho, c0⟩ := tx_get (HTX.out.keep (w' := wr) fun b i h hl _ => HKP.out.block b ⟨hl, by have := HGK.out b i h; omega⟩) hs
        subst ho
        have hg1 := HGU.out; have hg2 := HGS.out
        have hlk1 := (HU6.out.keep (w' := wr) (HKP.out.block mu ⟨by omega, by omega⟩)).look hss
        have hlk2 := (HV6.out.keep (w' := wr) (HKP.out.block mv ⟨by omega, by omega⟩)).look hss
        have hlk3 := (HT6.out.keep (w' := wr) (HKP.out.block mt ⟨by omega, by omega⟩)).look hss
        have HS := Lib.hid hs; have HSS := Lib.hid hss
        have HOK : Hid (okK (sayK a) (sayK b) (sayK c) s = (settleK (sayK a s) (sayK b s) (sayK c s)).2) := Lib.hid rfl
        have HSU : Hid (setU (sayK a) (sayK b) (sayK c) s = (settleK (sayK a s) (sayK b s) (sayK c s)).1) := Lib.hid rfl
        have HCN := Lib.hid (conf_no (P := sayK a) (O := sayK b) (T := sayK c) hs)
        obtain ⟨u1, hu1⟩ : ∃ u, sayK a s = u := ⟨_, rfl⟩
        obtain ⟨u2, hu2⟩ : ∃ u, sayK b s = u := ⟨_, rfl⟩
        obtain ⟨u3, hu3⟩ : ∃ u, sayK c s = u := ⟨_, rfl⟩
        rw [hu1] at hlk1; rw [hu2] at hlk2; rw [hu3] at hlk3
        rw [hu1, hu2, hu3] at HOK HSU HCN
        obtain ⟨x1, t1⟩ := u1; obtain ⟨x2, t2⟩ := u2; obtain ⟨x3, t3⟩ := u3
        have HSET := fun W => settled_any (s, (x1, t1), (x2, t2), (x3, t3)) W
        (try dsimp only at hlk1); (try dsimp only at hlk2); (try dsimp only at hlk3); (try dsimp only at HSET)
        obtain ⟨⟨y, ok⟩, hyo⟩ : ∃ r, settleK (x1, t1) (x2, t2) (x3, t3) = r := ⟨_, rfl⟩
        rw [hyo] at HOK HSU HSET
        obtain ⟨y1, y2⟩ := y
        (try dsimp only at HOK); (try dsimp only at HSU); (try dsimp only at HSET)
        have HSET := Lib.hid HSET
        have hc7 := cell_seven_new wr 57 (.string s) (.string x1) (.bool t1) (.string x2) (.bool t2) (.string x3) (.bool t3)
        have HW1 := Lib.hid ((Below.refl wr.heap.size wr).alloc (Nat.le_refl _) (.cells #[.string s, .string x1, .bool t1, .string x2, .bool t2, .string x3, .bool t3] 57))
        clear hs hss hu1 hu2 hu3 hyo hg1 hg2 hc7
        go_wp2_with (go_at_call 29; (with_reducible refine (HSET.out _).mono ?_))
        rintro e w7 ⟨rfl, hb7⟩
        have HW7 := Lib.hid (HW1.out.trans (hb7.mono (by simp)))
        have hcb := fun (j : Nat) (u : Value) (hu : (cells7 (s, (x1, t1), (x2, t2), (x3, t3)))[j]? = some u) => (hb7.cell (p := ⟨wr.heap.size, j, none⟩) (by simp)).trans (show (wr.alloc (.cells #[.string s, .string x1, .bool t1, .string x2, .bool t2, .string x3, .bool t3] 57)).cell? ⟨wr.heap.size, j, none⟩ = some u by rw [cell_of_row (World.alloc_heap_new wr _), ← Array.getElem?_toList]; exact hu)
        have e0 := hcb 0 _ rfl; have e1 := hcb 1 _ rfl; have e2 := hcb 2 _ rfl; have e3 := hcb 3 _ rfl; have e4 := hcb 4 _ rfl; have e5 := hcb 5 _ rfl; have e6 := hcb 6 _ rfl
        have HW8 := Lib.hid (HW7.out.trans (((Below.refl w7.heap.size w7).alloc (Nat.le_refl _) (.cells #[.string y1, .bool y2] 39)).mono HW7.out.size))
        have HKY := Lib.hid (keyS HSS.out)
        obtain ⟨D, hD, hD2⟩ := HG.out.below HW7.out
        have HD := Lib.hid hD; have HD2 := Lib.hid hD2
        have hml := hD.lt
        have hclen : (confK (sayK a) (sayK b) (sayK c) (KS.take k)).length ≤ 900000 := Nat.le_trans (conf_len _) (by rw [List.length_take]; omega)
        clear hb7 hcb hD hD2 HSET
        cases ok with
        | true =>
          have HC2 := Lib.hid (conf_yes HS.out HOK.out)
          have HS2 := Lib.hid (set_yes HS.out HOK.out)
          clear HCN
          go_wp2_with (at_mapUpdate; (refine wpList_mapUpdate_in _ rfl _ _ _ 61 rfl 9 39 keyedS Try.underlying61 sdElem g nn D rfl (HD.out.alloc _) (by unfold maxLen; omega) _ _ (.string s.data.toList) rfl rfl HKY.out (sdD (y1, y2)) [] rfl ?_); intro w9 hown1 hturn1; have HO := Lib.hid hown1; have HT1 := Lib.hid hturn1; clear hown1 hturn1)
          go_roundw
          case rel =>
            have hG2 := HGS.out; have hG1 := HGW.out
            have hkk := HKP.out.size
            refine ⟨k + 1, nn + 1, by rw [HQ.out]; exact hlt, by omega, by go_num, ?_, ?_, HKP.out.more HW8.out HT1.out.grown (fun j hj => .inl (by injection hj with hj; exact hj.symm)), mapTurned_below HT1.out (HB.out.trans (HW8.out.mono HB.out.size)) hG1 (by have := HB.out.size; have := HW8.out.size; omega)⟩
            · have h1 : IsSd g (nn + 1) (ksC (setL (sayK a) (sayK b) (sayK c) (KS.take k)) ++ [s]) (fun q => if s = q then (y1, y2) else newU [] (setL (sayK a) (sayK b) (sayK c) (KS.take k)) q) w9 := ⟨_, HO.out, HD2.out.put HSS.out⟩
              have e : ksC (setL (sayK a) (sayK b) (sayK c) (KS.take (k + 1))) = ksC (setL (sayK a) (sayK b) (sayK c) (KS.take k)) ++ [s] := by rw [HS2.out]; unfold ksC; rw [List.map_append]; rfl
              exact h1.congr (by rw [e]; exact Nat.le_refl _) (fun q => by rw [e]) (fun q _ => by rw [HS2.out, new_snoc (set_fresh HASC.out HS.out), HSU.out])
            · rw [HC2.out]
              refine own_keep HROW.out fun j hj => ?_
              have h5 := HROW.out.lt j hj
              exact (HT1.out.grown.block j (by have := HW8.out.size; omega) (fun e => by injection e with e; omega)).trans (HW8.out.block j h5.2)
          case measure => simp [intOf]; omega
        | false =>
          have HC2 := Lib.hid (HCN.out HOK.out)
          have HS2 := Lib.hid (set_no HS.out HOK.out)
          have HR8 := Lib.hid (own_below HROW.out HW8.out)
          obtain ⟨LC, hLC⟩ : ∃ L, confK (sayK a) (sayK b) (sayK c) (KS.take k) = L := ⟨_, rfl⟩
          rw [hLC] at HC2 HR8 hclen
          have f0 := kv_kept (o := .cells #[.string y1, .bool y2] 39) e0
          have f1 := kv_kept (o := .cells #[.string y1, .bool y2] 39) e1
          have f2 := kv_kept (o := .cells #[.string y1, .bool y2] 39) e2
          have f3 := kv_kept (o := .cells #[.string y1, .bool y2] 39) e3
          have f4 := kv_kept (o := .cells #[.string y1, .bool y2] 39) e4
          have f5 := kv_kept (o := .cells #[.string y1, .bool y2] 39) e5
          have f6 := kv_kept (o := .cells #[.string y1, .bool y2] 39) e6
          clear e0 e1 e2 e3 e4 e5 e6
          clear HCN hLC
          go_wp2_with (at_builtin; (refine wpList_append_own _ rfl _ _ 53 rfl w5.heap.size 57 i1 (.agg #[.string ⟨#[]⟩, .string ⟨#[]⟩, .bool false, .string ⟨#[]⟩, .bool false, .string ⟨#[]⟩, .bool false]) 7 88 Try.underlying53 HI1.out HZ0.out HZ1.out HZ2.out rfl (by decide) _ _ _ rfl (HR8.out.alloc _) ⟨w7.heap.size + 1, 0, none⟩ 1 1 (cells7 (s, (x1, t1), (x2, t2), (x3, t3))) rfl rfl (by simpa [cells7] using cell_seven_new (w7.alloc (.cells #[.string y1, .bool y2] 39)) 57 (.string s) (.string x1) (.bool t1) (.string x2) (.bool t2) (.string x3) (.bool t3)) mem7 (by unfold maxLen; omega) (by omega) (by have := HKP.out.size; have := HW7.out.size; simp; omega) ?_); intro v' w9 hown hgrow _; have HO4 := Lib.hid hown; have HG4 := Lib.hid hgrow; clear hown hgrow)
          go_roundw
          case rel =>
            have hG2 := HGS.out; have hG1 := HGW.out
            have hkk := HKP.out.size; have hww := HW8.out.size
            have HW9 := HW8.out.trans (((Below.refl _ (w7.alloc (.cells #[.string y1, .bool y2] 39))).alloc (Nat.le_refl _) (.cells #[.string s, .string x1, .bool t1, .string x2, .bool t2, .string x3, .bool t3] 57)).mono HW8.out.size)
            refine ⟨k + 1, nn, by rw [HQ.out]; exact hlt, by omega, by go_num, ?_, by rw [HC2.out, List.length_append, flatF_snoc]; exact HO4.out, HKP.out.more HW9 HG4.out (fun j hj => .inr (HR8.out.lt j hj).1), (HB.out.trans (HW9.mono HB.out.size)).grown HG4.out (by have := HB.out.size; have := HW9.size; omega) (fun j hj => by have := (HR8.out.lt j hj).1; have := HGS.out; omega)⟩
            rw [HS2.out]
            exact HG.out.keep ((HG4.out.block g (by have := HW9.size; have := HG.out.lt; omega) (fun e => by have := (HR8.out.lt g e.symm).1; omega)).trans (HW9.block g HG.out.lt))
          case measure => simp [intOf]; omega
      · obtain rfl : k = q := by omega
        have hF : KS.take k = KS := List.take_of_length_le (by rw [HQ.out]; exact Nat.le_refl _)
        have hG := HG.out; have hrow := HROW.out
        rw [hF] at hG hrow
        have hall : RightK a ∧ RightK b ∧ RightK c := ⟨HRA.out, HRB.out, HRC.out⟩
        have hcf : cfs3 a b c = confK (sayK a) (sayK b) (sayK c) KS := by unfold cfs3; rw [HKS.out]
        have hgw := HGS.out; have hgw2 := HGW.out; have hkk := HKP.out.size
        have HBW : Hid (w.heap.size ≤ w5.heap.size) := Lib.hid (by omega)
        by_cases h0 : cfs3 a b c = []
        · have HE : Hid (mergeK a b c = (itemK KS (setU (sayK a) (sayK b) (sayK c)), [], 0)) := Lib.hid (by unfold mergeK; rw [if_neg (fun h => h hall), if_pos h0, HKS.out])
          have hn := conf_nil (hcf ▸ h0)
          have hna := fun s => new_all h0 s
          rw [HKS.out] at hna
          have hG2 : IsSd g nn KS (setU (sayK a) (sayK b) (sayK c)) wr := hG.congr (by rw [set_keys, hn]; exact Nat.le_refl _) (fun s => by rw [set_keys, hn]) (fun s _ => hna s)
          have hzz : ∀ s ∈ KS, s.size ≤ maxLen := fun s hs => by
            rw [← HKS.out, mem_ks3] at hs
            exact hs.elim (HZA.out s) (fun h => h.elim (HZB.out s) (HZC.out s))
          have hIT := items_any g nn KS (setU (sayK a) (sayK b) (sayK c)) wr (by rw [HQ.out]; omega) hzz hG2
          rw [keyL_asc HASC.out] at hIT
          have HIT := Lib.hid hIT
          rw [← hcf, h0] at hrow
          obtain ⟨oo, cc, rfl⟩ := own_slice hrow
          have HRW := Lib.hid hrow
          clear hG hrow hall hcf h0 hn hna hG2 hzz hIT hF hgw hgw2 hkk
          go_wp2_with (go_at_call 28; (with_reducible refine HIT.out.mono ?_))
          rintro e w6 ⟨v, rfl, hr, hb6⟩
          have HR6 := Lib.hid hr; have HB6 := Lib.hid (HB.out.trans (hb6.mono HB.out.size))
          obtain ⟨oo2, cc2, rfl⟩ := own_slice hr
          clear hr hb6
          go_wp2_with fail
          refine bodyPost_ret (v := .tuple #[_, .slice none 0 0, .int .i64 0]) (by simp [results, Try.results17, go_sem]; rfl) rfl ?_
          unfold mgEnd; rw [HE.out]
          exact ⟨_, _, rfl, own_lower HR6.out HB.out.size, World.ownsRow_nil _ _ _ _, HB6.out⟩
        · have HE : Hid (mergeK a b c = ([], cfs3 a b c, 0)) := Lib.hid (by unfold mergeK; rw [if_neg (fun h => h hall), if_neg h0])
          have hpos : 0 < (cfs3 a b c).length := List.length_pos_iff.2 h0
          rw [← hcf] at hrow
          obtain ⟨L, hL⟩ : ∃ L, cfs3 a b c = L := ⟨_, rfl⟩
          rw [hL] at hrow hpos HE
          obtain ⟨ln, hln⟩ : ∃ z, L.length = z := ⟨_, rfl⟩
          have HLN := Lib.hid hln
          rw [hln] at hrow hpos
          obtain ⟨oo, cc, rfl⟩ := own_slice hrow
          have HRW := Lib.hid hrow
          have hpi : (0 : Int) < ln := by omega
          clear hG hrow hall hcf h0 hL hF hgw hgw2 hkk hln
          go_wp2_with fail
          refine bodyPost_ret (v := .tuple #[.slice none 0 0, _, .int .i64 0]) (by simp [results, Try.results17, go_sem]; rfl) rfl ?_
          unfold mgEnd; rw [HE.out]
          exact ⟨_, _, rfl, World.ownsRow_nil _ _ _ _, by rw [HLN.out]; exact own_lower HRW.out HBW.out, HB.out⟩
end Go.Proofs.Ythkcmdlfdaggmaa
