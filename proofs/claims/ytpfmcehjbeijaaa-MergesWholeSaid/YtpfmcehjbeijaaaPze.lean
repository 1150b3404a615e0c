/- Merges: the parts of a word are the word, each a byte or a pair's result, no two a pair. -/
import Derived.Test.YtpfmcehjbeijaaaPzd
namespace Go.Proofs.Ytpfmcehjbeijaaa
open Go.RowKit
variable {w w' : World}

def knB (t : List PairB) (p : ByteArray) (m : Nat) : Bool := decide ((p.size : Int) = 1) || (t.take m).any fun q => decide (q.1 ++ q.2 = p)
theorem knB_succ {t : List PairB} {p : ByteArray} {m : Nat} {q : PairB} (h : t[m]? = some q) : knB t p (m + 1) = (knB t p m || decide (q.1 ++ q.2 = p)) := by
  unfold knB
  rw [List.take_add_one, h, List.any_append]
  simp [Bool.or_assoc]
theorem knB_end {t : List PairB} {p : ByteArray} (h : Part t p) : knB t p t.length = true := by
  unfold knB
  rw [List.take_length]
  rcases h.2 with h1 | ⟨q, hq, he⟩
  · have : decide ((p.size : Int) = 1) = true := decide_eq_true (by omega)
    rw [this]; rfl
  · have : (t.any fun q => decide (q.1 ++ q.2 = p)) = true := List.any_eq_true.2 ⟨q, hq, decide_eq_true he⟩
    rw [this, Bool.or_true]
theorem cat_take (P : List ByteArray) {k : Nat} {p : ByteArray} (h : P[k]? = some p) : catB (P.take (k + 1)) = catB (P.take k) ++ p.data.toList := by
  rw [List.take_add_one, h, catB_append]; simp [catB]
theorem cat_step {P : List ByteArray} {k : Nat} {p x : ByteArray} (h : P[k]? = some p) (hx : x.data.toList = catB (P.take k)) : (x ++ p).data.toList = catB (P.take (k + 1)) := by
  rw [cat_take P h, ← hx, ByteArray.data_append, Array.toList_append]
def WhS (P : List ByteArray) (w : World) (s i : Value) (wr : World) : Prop :=
  ∃ (k : Nat) (x : ByteArray), k ≤ P.length ∧ i = .int .i64 k ∧ s = .string x ∧ x.data.toList = catB (P.take k) ∧ Below w.heap.size w wr
def WkS (t : List PairB) (p : ByteArray) (w : World) (kn j : Value) (wr : World) : Prop :=
  ∃ m : Nat, m ≤ t.length ∧ j = .int .i64 m ∧ kn = .bool (knB t p m) ∧ Below w.heap.size w wr
theorem knB_zero (t : List PairB) (p : ByteArray) : knB t p 0 = decide ((p.size : Int) = 1) := by unfold knB; simp
theorem bn_ne {a b : ByteArray} (h : a ≠ b) : (a.toList == b.toList) = false := by rw [ba_beq]; exact decide_eq_false h
theorem bl_ne {a b : ByteArray} (h : a ≠ b) : ¬ a.toList = b.toList := fun e => h (by have := ba_beq a b; rw [beq_iff_eq.2 e] at this; exact of_decide_eq_true this.symm)
theorem bn_eq {a b : ByteArray} (h : a = b) : (a.toList == b.toList) = true := by rw [ba_beq]; exact decide_eq_true h
theorem toL_len (s : ByteArray) : s.data.toList.length = s.size := Array.length_toList
theorem size_take {P : List ByteArray} {x s : ByteArray} {k : Nat} (hx : x.data.toList = catB (P.take k)) (hs : catB P = s.data.toList) : x.size ≤ s.size := by
  have h1 := offB_le P k
  unfold offB at h1
  rw [← hx, hs, toL_len, toL_len] at h1
  exact h1
theorem size_part {P : List ByteArray} {p s : ByteArray} {k : Nat} (h : P[k]? = some p) (hs : catB P = s.data.toList) : p.size ≤ s.size := by
  have h1 := offB_le P (k + 1)
  have h2 := offB_succ h
  rw [hs, toL_len] at h1
  omega
set_option maxHeartbeats 4000000 in
set_option maxRecDepth 100000 in
theorem LWhole_any (o : Option Addr) (l : List PairB) (cap : Nat) (s : ByteArray) (w : World) (hl : l.length ≤ maxLen) (hi : InAt w o l) (hok : ∀ q ∈ l, SmP q) (hs : s.size ≤ maxLen) :
    Calls Try.prog 8 #[.slice o l.length cap, .string s] w fun e w' => e = .returned (.bool true) ∧ Below w.heap.size w w' := by
  unfold maxLen at hs
  obtain ⟨n, hn⟩ : ∃ n, l.length = n := ⟨_, rfl⟩
  obtain ⟨t, ht⟩ : ∃ t, l.take 60 = t := ⟨_, rfl⟩
  have ht60 : t.length ≤ 60 := by rw [← ht, List.length_take]; omega
  have hokt : ∀ q ∈ t, SmP q := by rw [← ht]; exact fun q hq => take_sm hok 60 q hq
  have HF := Lib.hid (fun W (hW : Below w.heap.size w W) => ht ▸ hn ▸ front_any o l cap W hl (hi.below hW))
  have HO := Lib.hid hokt
  clear hi hok hokt hl ht
  rw [hn]
  go_enter Try.func8, Try.ntmps8
  go_wp2_with (go_at_call 12; refine (speaks_any w).mono ?_)
  first | rintro e w1 ⟨rfl, hb1⟩ | rintro e w1 rfl hb1
  have HB1 := Lib.hid hb1
  clear hb1
  by_cases h : 2000 < s.size
  · have hq : (s.extract 0 2000).size = 2000 := by rw [ByteArray.size_extract]; omega
    go_wp2_with (go_at_call 16; refine (HF.out _ HB1.out).mono ?_)
    first | rintro e w2 ⟨o1, c1, o2, c2, rfl, p1, p2, hb2⟩ | rintro e w2 o1 c1 o2 c2 rfl p1 p2 hb2
    have HB2 := Lib.hid (HB1.out.trans (hb2.mono HB1.out.size)); have HP1 := Lib.hid p1
    clear p1 p2 hb2
    go_wp2_with (go_at_call 22; refine (Split_any o1 t c1 (s.extract 0 2000) w2 (by omega) HP1.out (fun q hq => (HO.out q hq).ok)).mono ?_)
    first | rintro e w3 ⟨o3, c3, rfl, s3, hb3⟩ | rintro e w3 o3 c3 rfl s3 hb3
    obtain ⟨P, hP⟩ : ∃ P, splitP t (s.extract 0 2000) = P := ⟨_, rfl⟩
    have hPB : splitP t (s.extract 0 2000) = splitB t (s.extract 0 2000) := by unfold splitP; rw [if_neg (by omega)]
    have hPl := splitP_le t (s.extract 0 2000)
    have HCT := Lib.hid (show catB P = ((s.extract 0 2000)).data.toList by rw [← hP, hPB]; exact splitB_cat _ _)
    have HPT := Lib.hid (show ∀ p ∈ P, Part t p by rw [← hP, hPB]; exact splitB_part (by omega) _)
    have HAP := Lib.hid (show ∀ (k : Nat) (a b : ByteArray), P[k]? = some a → P[k + 1]? = some b → (a, b) ∉ t by rw [← hP, hPB]; exact splitB_apart (by omega) _)
    obtain ⟨g, hg⟩ : ∃ g, t.length = g := ⟨_, rfl⟩
    obtain ⟨m, hm⟩ : ∃ m, P.length = m := ⟨_, rfl⟩
    rw [hP] at s3 hPl ⊢
    rw [hg] at ht60 ⊢
    rw [hm] at hPl ⊢
    have HG := Lib.hid hg; have HM := Lib.hid hm
    have HS3 := Lib.hid s3; have HB3 := Lib.hid (HB2.out.trans (hb3.mono HB2.out.size)); have HR3 := Lib.hid (HP1.out.below hb3)
    have H0 : Hid (WhS P w3 (.string ⟨#[]⟩) (.int .i64 0) w3) := Lib.hid ⟨0, _, Nat.zero_le _, rfl, rfl, rfl, Below.refl _ _⟩
    obtain ⟨qq, hqq⟩ : ∃ qq, (s.extract 0 2000) = qq := ⟨_, rfl⟩
    have HQ2 := Lib.hid (show qq.size ≤ 2000 by rw [← hqq]; omega)
    rw [hqq] at HCT ⊢
    clear s3 hb3 hP hPB hg hm HP1 HB2 HB1 hqq
    go_wp2_with fail
    go_loopw [8, 9] (fun x i wr => WhS P w3 x i wr) (fun _ i _ => m - (intOf i).toNat)
    case atStart => exact H0.out
    case round =>
      obtain ⟨k, x, hk, rfl, rfl, hx, hb⟩ := hrel
      rw [HM.out] at hk
      have HX := Lib.hid hx; have HB := Lib.hid hb
      clear hx hb H0
      by_cases hlt : k < m
      · obtain ⟨p, hp⟩ : ∃ p, P[k]? = some p := ⟨_, List.getElem?_eq_getElem (by rw [HM.out]; exact hlt)⟩
        obtain ⟨gb, hob, d0, _⟩ := (HS3.out.below HB.out).cell hp
        subst hob
        have hz1 := size_take HX.out HCT.out
        have hz2 := size_part hp HCT.out
        have hz3 := HQ2.out
        have hsum : ¬ (9223372036854775807 < x.size + p.size) := by omega
        have HPK := Lib.hid hp
        have HKZ := Lib.hid (knB_zero t p)
        have HPP := Lib.hid (HPT.out p (List.mem_of_getElem? hp))
        have H1 : Hid (WkS t p w3 (.bool (decide ((p.size : Int) = 1))) (.int .i64 0) wr) := Lib.hid ⟨0, Nat.zero_le _, rfl, by rw [HKZ.out], HB.out⟩
        obtain ⟨wo, hwo⟩ : ∃ wo, wo = wr := ⟨_, rfl⟩
        subst hwo
        clear hp hz1 hz2 hz3
        go_wp2_with fail
        go_loopw [10, 11] (fun kn j wr => WkS t p w3 kn j wr) (fun _ j _ => g - (intOf j).toNat)
        case atStart => first | exact H1.out | (simpa using H1.out)
        case round =>
          obtain ⟨j, hj, rfl, rfl, hb⟩ := hrel
          rw [HG.out] at hj
          have HB4 := Lib.hid hb
          clear hb H1
          by_cases hjg : j < g
          · obtain ⟨q, hq⟩ : ∃ q, t[j]? = some q := ⟨_, List.getElem?_eq_getElem (by rw [HG.out]; exact hjg)⟩
            obtain ⟨gc, cur, hoc, _, q0, q1⟩ := (HR3.out.below HB4.out) j q hq
            have hsm := (HO.out q (List.mem_of_getElem? hq)).sum
            have hmem := List.mem_of_getElem? hq
            have HKS := Lib.hid (knB_succ (p := p) hq)
            obtain ⟨gb2, hob2, d1, _⟩ := (HS3.out.below HB4.out).cell HPK.out
            obtain rfl : gb = gb2 := by injection hob2 with h; injection h
            obtain ⟨qa, qb⟩ := q
            subst hoc
            simp only at q0 q1 hsm
            unfold maxLen at hsm
            have hs2 : ¬ (9223372036854775807 < qa.size + qb.size) := by omega
            have HBQ := Lib.hid (ba_beq (qa ++ qb) p)
            clear hq hob2
            rcases Nat.eq_zero_or_pos k with hk0 | hk0
            · subst hk0
              cases ek : knB t p j
              all_goals
                have HEK := Lib.hid ek
                clear ek
                go_wp2_with fail
                go_quiet (fail)
                go_wp2_with fail
                go_quiet (fail)
                have HREL := Lib.hid (fun (W : World) (v : Value) (hv : v = .bool (knB t p (j + 1))) (hW : Below w3.heap.size w3 W) => (show WkS t p w3 v (.int .i64 ((j : Int) + 1)) W from ⟨j + 1, by rw [HG.out]; omega, by rw [Int.natCast_succ], hv, hW⟩))
                have HV := Lib.hid (show Value.bool (knB t p j || ((qa ++ qb).toList == p.toList)) = .bool (knB t p (j + 1)) by rw [HKS.out, HBQ.out])
                rw [HEK.out] at HV
                go_wp2_with fail
                go_roundw
                case rel => first | exact HREL.out _ _ HV.out (below_drewN HB4.out _) | exact HREL.out _ _ HV.out (below_drewN (below_drewN HB4.out _) _) | ((repeat (apply Exists.intro)); first | exact ⟨HREL.out _ _ HV.out (below_drewN HB4.out _), rfl⟩ | exact ⟨HREL.out _ _ HV.out (below_drewN (below_drewN HB4.out _) _), rfl⟩)
                case measure => simp [intOf]; omega
            · obtain ⟨k1, hk1⟩ : ∃ k1, k = k1 + 1 := ⟨k - 1, by omega⟩
              have hK1 : (k : Int) - 1 = (k1 : Int) := by omega
              obtain ⟨pv, hpv⟩ : ∃ pv, P[k1]? = some pv := ⟨_, List.getElem?_eq_getElem (by rw [HM.out]; omega)⟩
              have HAX := Lib.hid (fun (ha : pv = qa) (hb : p = qb) => HAP.out k1 qa qb (by rw [hpv, ha]) (by rw [← hk1, HPK.out, hb]) hmem)
              obtain ⟨gb3, hob3, d2, _⟩ := (HS3.out.below HB4.out).cell hpv
              obtain rfl : gb = gb3 := by injection hob3 with h; injection h
              have hki : (0 : Int) < k := by omega
              have hk1m : k1 < m := by omega
              clear hpv hob3 hk1
              by_cases hqa : qa = pv
              · have hqb : qb ≠ p := fun e => HAX.out hqa.symm e.symm
                have hne1 := bn_ne hqb
                have hne2 := bl_ne hqb
                subst hqa
                cases ek : knB t p j
                all_goals
                  have HEK := Lib.hid ek
                  clear ek
                  go_wp2_with fail
                  go_quiet (fail)
                  go_wp2_with fail
                  go_quiet (fail)
                  have HREL := Lib.hid (fun (W : World) (v : Value) (hv : v = .bool (knB t p (j + 1))) (hW : Below w3.heap.size w3 W) => (show WkS t p w3 v (.int .i64 ((j : Int) + 1)) W from ⟨j + 1, by rw [HG.out]; omega, by rw [Int.natCast_succ], hv, hW⟩))
                  have HV := Lib.hid (show Value.bool (knB t p j || ((qa ++ qb).toList == p.toList)) = .bool (knB t p (j + 1)) by rw [HKS.out, HBQ.out])
                  rw [HEK.out] at HV
                  go_wp2_with fail
                  go_roundw
                  case rel => first | exact HREL.out _ _ HV.out (below_drewN HB4.out _) | exact HREL.out _ _ HV.out (below_drewN (below_drewN HB4.out _) _) | ((repeat (apply Exists.intro)); first | exact ⟨HREL.out _ _ HV.out (below_drewN HB4.out _), rfl⟩ | exact ⟨HREL.out _ _ HV.out (below_drewN (below_drewN HB4.out _) _), rfl⟩)
                  case measure => simp [intOf]; omega
              · have hne1 := bn_ne hqa
                have hne2 := bl_ne hqa
                cases ek : knB t p j
                all_goals
                  have HEK := Lib.hid ek
                  clear ek
                  go_wp2_with fail
                  go_quiet (fail)
                  go_wp2_with fail
                  go_quiet (fail)
                  have HREL := Lib.hid (fun (W : World) (v : Value) (hv : v = .bool (knB t p (j + 1))) (hW : Below w3.heap.size w3 W) => (show WkS t p w3 v (.int .i64 ((j : Int) + 1)) W from ⟨j + 1, by rw [HG.out]; omega, by rw [Int.natCast_succ], hv, hW⟩))
                  have HV := Lib.hid (show Value.bool (knB t p j || ((qa ++ qb).toList == p.toList)) = .bool (knB t p (j + 1)) by rw [HKS.out, HBQ.out])
                  rw [HEK.out] at HV
                  go_wp2_with fail
                  go_roundw
                  case rel => first | exact HREL.out _ _ HV.out (below_drewN HB4.out _) | exact HREL.out _ _ HV.out (below_drewN (below_drewN HB4.out _) _) | ((repeat (apply Exists.intro)); first | exact ⟨HREL.out _ _ HV.out (below_drewN HB4.out _), rfl⟩ | exact ⟨HREL.out _ _ HV.out (below_drewN (below_drewN HB4.out _) _), rfl⟩)
                  case measure => simp [intOf]; omega
          · have hjg2 : j = g := by omega
            have hkt := knB_end HPP.out
            rw [HG.out] at hkt
            obtain ⟨gb2, hob2, d1, _⟩ := (HS3.out.below HB4.out).cell HPK.out
            obtain rfl : gb = gb2 := by injection hob2 with h; injection h
            subst hjg2
            have e1 : p.toList.isEmpty = false := ba_some p (by have := HPP.out.1; omega)
            have e2 : p.toList ≠ [] := fun e => by rw [e] at e1; cases e1
            rw [hkt]
            clear hkt hob2
            have HEND := Lib.hid (cat_step HPK.out HX.out)
            go_wp2_with fail
            go_roundw
            case rel => exact ⟨k + 1, x ++ p, by rw [HM.out]; omega, by rw [Int.natCast_succ], rfl, HEND.out, HB4.out⟩
            case measure => simp [intOf]; omega
      · have hkn : k = m := by omega
        have hxe : x = qq := ByteArray.ext (Array.ext' (by rw [HX.out, List.take_of_length_le (by rw [HM.out]; omega)]; exact HCT.out))
        have HE := Lib.hid (bn_eq hxe)
        go_wp2_with fail
        go_ret
        exact ⟨ret_bool (by first | exact HE.out | simp [hxe]), HB3.out.trans (HB.out.mono HB3.out.size)⟩
  · have hq : s.size = s.size := rfl
    go_wp2_with (go_at_call 16; refine (HF.out _ HB1.out).mono ?_)
    first | rintro e w2 ⟨o1, c1, o2, c2, rfl, p1, p2, hb2⟩ | rintro e w2 o1 c1 o2 c2 rfl p1 p2 hb2
    have HB2 := Lib.hid (HB1.out.trans (hb2.mono HB1.out.size)); have HP1 := Lib.hid p1
    clear p1 p2 hb2
    go_wp2_with (go_at_call 22; refine (Split_any o1 t c1 s w2 (by omega) HP1.out (fun q hq => (HO.out q hq).ok)).mono ?_)
    first | rintro e w3 ⟨o3, c3, rfl, s3, hb3⟩ | rintro e w3 o3 c3 rfl s3 hb3
    obtain ⟨P, hP⟩ : ∃ P, splitP t s = P := ⟨_, rfl⟩
    have hPB : splitP t s = splitB t s := by unfold splitP; rw [if_neg (by omega)]
    have hPl := splitP_le t s
    have HCT := Lib.hid (show catB P = (s).data.toList by rw [← hP, hPB]; exact splitB_cat _ _)
    have HPT := Lib.hid (show ∀ p ∈ P, Part t p by rw [← hP, hPB]; exact splitB_part (by omega) _)
    have HAP := Lib.hid (show ∀ (k : Nat) (a b : ByteArray), P[k]? = some a → P[k + 1]? = some b → (a, b) ∉ t by rw [← hP, hPB]; exact splitB_apart (by omega) _)
    obtain ⟨g, hg⟩ : ∃ g, t.length = g := ⟨_, rfl⟩
    obtain ⟨m, hm⟩ : ∃ m, P.length = m := ⟨_, rfl⟩
    rw [hP] at s3 hPl ⊢
    rw [hg] at ht60 ⊢
    rw [hm] at hPl ⊢
    have HG := Lib.hid hg; have HM := Lib.hid hm
    have HS3 := Lib.hid s3; have HB3 := Lib.hid (HB2.out.trans (hb3.mono HB2.out.size)); have HR3 := Lib.hid (HP1.out.below hb3)
    have H0 : Hid (WhS P w3 (.string ⟨#[]⟩) (.int .i64 0) w3) := Lib.hid ⟨0, _, Nat.zero_le _, rfl, rfl, rfl, Below.refl _ _⟩
    obtain ⟨qq, hqq⟩ : ∃ qq, s = qq := ⟨_, rfl⟩
    have HQ2 := Lib.hid (show qq.size ≤ 2000 by rw [← hqq]; omega)
    rw [hqq] at HCT ⊢
    clear s3 hb3 hP hPB hg hm HP1 HB2 HB1 hqq
    go_wp2_with fail
    go_loopw [8, 9] (fun x i wr => WhS P w3 x i wr) (fun _ i _ => m - (intOf i).toNat)
    case atStart => exact H0.out
    case round =>
      obtain ⟨k, x, hk, rfl, rfl, hx, hb⟩ := hrel
      rw [HM.out] at hk
      have HX := Lib.hid hx; have HB := Lib.hid hb
      clear hx hb H0
      by_cases hlt : k < m
      · obtain ⟨p, hp⟩ : ∃ p, P[k]? = some p := ⟨_, List.getElem?_eq_getElem (by rw [HM.out]; exact hlt)⟩
        obtain ⟨gb, hob, d0, _⟩ := (HS3.out.below HB.out).cell hp
        subst hob
        have hz1 := size_take HX.out HCT.out
        have hz2 := size_part hp HCT.out
        have hz3 := HQ2.out
        have hsum : ¬ (9223372036854775807 < x.size + p.size) := by omega
        have HPK := Lib.hid hp
        have HKZ := Lib.hid (knB_zero t p)
        have HPP := Lib.hid (HPT.out p (List.mem_of_getElem? hp))
        have H1 : Hid (WkS t p w3 (.bool (decide ((p.size : Int) = 1))) (.int .i64 0) wr) := Lib.hid ⟨0, Nat.zero_le _, rfl, by rw [HKZ.out], HB.out⟩
        obtain ⟨wo, hwo⟩ : ∃ wo, wo = wr := ⟨_, rfl⟩
        subst hwo
        clear hp hz1 hz2 hz3
        go_wp2_with fail
        go_loopw [10, 11] (fun kn j wr => WkS t p w3 kn j wr) (fun _ j _ => g - (intOf j).toNat)
        case atStart => first | exact H1.out | (simpa using H1.out)
        case round =>
          obtain ⟨j, hj, rfl, rfl, hb⟩ := hrel
          rw [HG.out] at hj
          have HB4 := Lib.hid hb
          clear hb H1
          by_cases hjg : j < g
          · obtain ⟨q, hq⟩ : ∃ q, t[j]? = some q := ⟨_, List.getElem?_eq_getElem (by rw [HG.out]; exact hjg)⟩
            obtain ⟨gc, cur, hoc, _, q0, q1⟩ := (HR3.out.below HB4.out) j q hq
            have hsm := (HO.out q (List.mem_of_getElem? hq)).sum
            have hmem := List.mem_of_getElem? hq
            have HKS := Lib.hid (knB_succ (p := p) hq)
            obtain ⟨gb2, hob2, d1, _⟩ := (HS3.out.below HB4.out).cell HPK.out
            obtain rfl : gb = gb2 := by injection hob2 with h; injection h
            obtain ⟨qa, qb⟩ := q
            subst hoc
            simp only at q0 q1 hsm
            unfold maxLen at hsm
            have hs2 : ¬ (9223372036854775807 < qa.size + qb.size) := by omega
            have HBQ := Lib.hid (ba_beq (qa ++ qb) p)
            clear hq hob2
            rcases Nat.eq_zero_or_pos k with hk0 | hk0
            · subst hk0
              cases ek : knB t p j
              all_goals
                have HEK := Lib.hid ek
                clear ek
                go_wp2_with fail
                go_quiet (fail)
                go_wp2_with fail
                go_quiet (fail)
                have HREL := Lib.hid (fun (W : World) (v : Value) (hv : v = .bool (knB t p (j + 1))) (hW : Below w3.heap.size w3 W) => (show WkS t p w3 v (.int .i64 ((j : Int) + 1)) W from ⟨j + 1, by rw [HG.out]; omega, by rw [Int.natCast_succ], hv, hW⟩))
                have HV := Lib.hid (show Value.bool (knB t p j || ((qa ++ qb).toList == p.toList)) = .bool (knB t p (j + 1)) by rw [HKS.out, HBQ.out])
                rw [HEK.out] at HV
                go_wp2_with fail
                go_roundw
                case rel => first | exact HREL.out _ _ HV.out (below_drewN HB4.out _) | exact HREL.out _ _ HV.out (below_drewN (below_drewN HB4.out _) _) | ((repeat (apply Exists.intro)); first | exact ⟨HREL.out _ _ HV.out (below_drewN HB4.out _), rfl⟩ | exact ⟨HREL.out _ _ HV.out (below_drewN (below_drewN HB4.out _) _), rfl⟩)
                case measure => simp [intOf]; omega
            · obtain ⟨k1, hk1⟩ : ∃ k1, k = k1 + 1 := ⟨k - 1, by omega⟩
              have hK1 : (k : Int) - 1 = (k1 : Int) := by omega
              obtain ⟨pv, hpv⟩ : ∃ pv, P[k1]? = some pv := ⟨_, List.getElem?_eq_getElem (by rw [HM.out]; omega)⟩
              have HAX := Lib.hid (fun (ha : pv = qa) (hb : p = qb) => HAP.out k1 qa qb (by rw [hpv, ha]) (by rw [← hk1, HPK.out, hb]) hmem)
              obtain ⟨gb3, hob3, d2, _⟩ := (HS3.out.below HB4.out).cell hpv
              obtain rfl : gb = gb3 := by injection hob3 with h; injection h
              have hki : (0 : Int) < k := by omega
              have hk1m : k1 < m := by omega
              clear hpv hob3 hk1
              by_cases hqa : qa = pv
              · have hqb : qb ≠ p := fun e => HAX.out hqa.symm e.symm
                have hne1 := bn_ne hqb
                have hne2 := bl_ne hqb
                subst hqa
                cases ek : knB t p j
                all_goals
                  have HEK := Lib.hid ek
                  clear ek
                  go_wp2_with fail
                  go_quiet (fail)
                  go_wp2_with fail
                  go_quiet (fail)
                  have HREL := Lib.hid (fun (W : World) (v : Value) (hv : v = .bool (knB t p (j + 1))) (hW : Below w3.heap.size w3 W) => (show WkS t p w3 v (.int .i64 ((j : Int) + 1)) W from ⟨j + 1, by rw [HG.out]; omega, by rw [Int.natCast_succ], hv, hW⟩))
                  have HV := Lib.hid (show Value.bool (knB t p j || ((qa ++ qb).toList == p.toList)) = .bool (knB t p (j + 1)) by rw [HKS.out, HBQ.out])
                  rw [HEK.out] at HV
                  go_wp2_with fail
                  go_roundw
                  case rel => first | exact HREL.out _ _ HV.out (below_drewN HB4.out _) | exact HREL.out _ _ HV.out (below_drewN (below_drewN HB4.out _) _) | ((repeat (apply Exists.intro)); first | exact ⟨HREL.out _ _ HV.out (below_drewN HB4.out _), rfl⟩ | exact ⟨HREL.out _ _ HV.out (below_drewN (below_drewN HB4.out _) _), rfl⟩)
                  case measure => simp [intOf]; omega
              · have hne1 := bn_ne hqa
                have hne2 := bl_ne hqa
                cases ek : knB t p j
                all_goals
                  have HEK := Lib.hid ek
                  clear ek
                  go_wp2_with fail
                  go_quiet (fail)
                  go_wp2_with fail
                  go_quiet (fail)
                  have HREL := Lib.hid (fun (W : World) (v : Value) (hv : v = .bool (knB t p (j + 1))) (hW : Below w3.heap.size w3 W) => (show WkS t p w3 v (.int .i64 ((j : Int) + 1)) W from ⟨j + 1, by rw [HG.out]; omega, by rw [Int.natCast_succ], hv, hW⟩))
                  have HV := Lib.hid (show Value.bool (knB t p j || ((qa ++ qb).toList == p.toList)) = .bool (knB t p (j + 1)) by rw [HKS.out, HBQ.out])
                  rw [HEK.out] at HV
                  go_wp2_with fail
                  go_roundw
                  case rel => first | exact HREL.out _ _ HV.out (below_drewN HB4.out _) | exact HREL.out _ _ HV.out (below_drewN (below_drewN HB4.out _) _) | ((repeat (apply Exists.intro)); first | exact ⟨HREL.out _ _ HV.out (below_drewN HB4.out _), rfl⟩ | exact ⟨HREL.out _ _ HV.out (below_drewN (below_drewN HB4.out _) _), rfl⟩)
                  case measure => simp [intOf]; omega
          · have hjg2 : j = g := by omega
            have hkt := knB_end HPP.out
            rw [HG.out] at hkt
            obtain ⟨gb2, hob2, d1, _⟩ := (HS3.out.below HB4.out).cell HPK.out
            obtain rfl : gb = gb2 := by injection hob2 with h; injection h
            subst hjg2
            have e1 : p.toList.isEmpty = false := ba_some p (by have := HPP.out.1; omega)
            have e2 : p.toList ≠ [] := fun e => by rw [e] at e1; cases e1
            rw [hkt]
            clear hkt hob2
            have HEND := Lib.hid (cat_step HPK.out HX.out)
            go_wp2_with fail
            go_roundw
            case rel => exact ⟨k + 1, x ++ p, by rw [HM.out]; omega, by rw [Int.natCast_succ], rfl, HEND.out, HB4.out⟩
            case measure => simp [intOf]; omega
      · have hkn : k = m := by omega
        have hxe : x = qq := ByteArray.ext (Array.ext' (by rw [HX.out, List.take_of_length_le (by rw [HM.out]; omega)]; exact HCT.out))
        have HE := Lib.hid (bn_eq hxe)
        go_wp2_with fail
        go_ret
        exact ⟨ret_bool (by first | exact HE.out | simp [hxe]), HB3.out.trans (HB.out.mono HB3.out.size)⟩
end Go.Proofs.Ytpfmcehjbeijaaa
