/- Rules: the law of rules that are shown and read again. -/
import Derived.Test.YtlfjlkmikmajaaaRh
import Derived.Test.YtlfjlkmikmajaaaRj
import Derived.Test.YtlfjlkmikmajaaaRp
import Derived.Test.YtlfjlkmikmajaaaMm
import Derived.Test.YtlfjlkmikmajaaaRv
import Derived.Laws.StructEq
namespace Go.Proofs.Ytlfjlkmikmajaaa
open Go.RowKit
variable {w w' : World}

theorem GoodN_q (s : ByteArray) (g : Bool) (hg : goodN s = g) (hs : s.size ≤ maxLen) (w : World) (y : Nat) :
    Calls Try.prog 19 #[.string s] (w.drewN y) fun e w'' => e = .returned (.bool g) ∧ ∃ m, w'' = w.drewN m :=
  (GoodN_any s (w.drewN y) hs).mono fun e w'' ⟨h1, h2⟩ => ⟨by rw [h1, hg], y, h2⟩
theorem under_rr : Try.prog.underlying 52 = some (.struct (Try.prog.fieldsOf 52)) := by kernel_rfl
theorem held_rr : Try.prog.stoodInHeld 52 = false := by kernel_rfl
theorem run_neq_rr (a b : ByteArray) (w : World) : (binOp .neq 52 (.agg #[.string a, .string b]) (.agg #[.string a, .string b])).run Try.prog w = .ok (.bool false) w := by
  rw [run_neq_struct, run_equalIn_agg _ _ _ _ _ under_rr held_rr]
  simp [Op.eqFields, Program.fieldsOf, Try.underlying52, part, go_sem, Try.underlying9]
theorem one_u8 {a : Int} : ∀ u ∈ [Value.int .u8 a], u.oneCell' = true := by
  intro u hu; simp at hu; subst hu; rfl
theorem own_form {B s n : Nat} {T : TypeId} {v : Value} {xs : List Value} (h : w.ownsRow B T s v n xs) : ∃ o c, v = .slice o n c := by
  rcases h.2 with ⟨h1, h2⟩ | ⟨g, c, cur, h1, _⟩
  · exact ⟨none, 0, by rw [h1, h2]⟩
  · exact ⟨_, c, h1⟩
def CkS (w : World) (n : Nat) (i : Value) (wr : World) : Prop := ∃ k : Nat, k ≤ n ∧ i = .int .i64 k ∧ Below w.heap.size w wr
def BkS (w : World) (nb : Nat) (v i : Value) (wr : World) : Prop :=
  ∃ (k m : Nat) (L : List PairB), k ≤ nb ∧ k ≤ 40 ∧ i = .int .i64 k ∧ L.length = m ∧ m ≤ k ∧ Ris L ∧ wr.ownsRow w.heap.size 52 2 v m (flatP L) ∧ Below w.heap.size w wr
def BpS (w : World) (wo : World) (vl : Value) (m : Nat) (L : List PairB) (ps : Nat) (v i : Value) (wr : World) : Prop :=
  ∃ (k : Nat) (B : List UInt8), k ≤ ps ∧ k ≤ 256 ∧ i = .int .i64 k ∧ B.length = k ∧ B.all patC = true ∧ wr.ownsRow w.heap.size 5 1 v k (Lib.byteCells B) ∧ wr.ownsRow w.heap.size 52 2 vl m (flatP L) ∧ Below w.heap.size w wr ∧ wo.heap.size ≤ wr.heap.size
theorem pat_byte (c : UInt8) : patC (UInt8.ofNat (32 + c.toNat % 95)) = true ∧ (((UInt8.ofNat (32 + c.toNat % 95)).toNat : Nat) : Int) = 32 + (c.toNat : Int) % 95 := by
  have h := toN (32 + c.toNat % 95) (by omega)
  refine ⟨?_, by rw [h]; omega⟩
  unfold patC
  rw [h]
  simp; omega
theorem showM_len_le {L : List PairB} (h : ∀ p ∈ L, p.1.size ≤ 32 ∧ p.2.size ≤ 256) : (showM L).length ≤ 290 * L.length := by
  induction L with
  | nil => simp [showM]
  | cons p r ih =>
    have h1 := h p (by simp)
    have h2 := ih (fun q hq => h q (by simp [hq]))
    rw [showM_cons, List.length_append, List.length_cons, List.length_cons]
    have : (lineB p).data.toList.length = p.1.size + (1 + p.2.size) := by
      show (p.1.data.toList ++ 32 :: p.2.data.toList).length = _
      rw [List.length_append, List.length_cons, size_len, size_len]; omega
    omega
theorem Ris.sizes {L : List PairB} (h : Ris L) : ∀ p ∈ L, p.1.size ≤ 32 ∧ p.2.size ≤ 256 := fun p hp => by
  obtain ⟨j, hj⟩ := List.getElem?_of_mem hp
  obtain ⟨a, b, _⟩ := h j p hj
  exact ⟨(goodN_size a).2, (goodQ_size b).2⟩
set_option maxHeartbeats 4000000 in
set_option maxRecDepth 100000 in
theorem LBack_any (o1 : Option Addr) (P : List ByteArray) (c1 : Nat) (o2 : Option Addr) (N : List ByteArray) (c2 : Nat) (w : World) (hP : P.length ≤ maxLen) (h1 : SIn w o1 P) (hN : N.length ≤ maxLen) (h2 : SIn w o2 N) :
    Calls Try.prog 8 #[.slice o1 P.length c1, .slice o2 N.length c2] w fun e w' => e = .returned (.bool true) ∧ Below w.heap.size w w' := by
  obtain ⟨na, hna⟩ : ∃ n, P.length = n := ⟨_, rfl⟩
  obtain ⟨nb, hnb⟩ : ∃ n, N.length = n := ⟨_, rfl⟩
  have HNA := Lib.hid hna; have HNB := Lib.hid hnb
  rw [hna] at hP ⊢
  rw [hnb] at hN ⊢
  unfold maxLen at hP hN
  obtain ⟨i1, hi1, hz0, hz1, hz2⟩ := info_parts info_rr
  have HI1 := Lib.hid hi1; have HZ0 := Lib.hid hz0; have HZ1 := Lib.hid hz1; have HZ2 := Lib.hid hz2
  obtain ⟨i2, hi2, hy0, hy1, hy2⟩ := info_parts byteInfo
  have HI2 := Lib.hid hi2; have HY0 := Lib.hid hy0; have HY1 := Lib.hid hy1; have HY2 := Lib.hid hy2
  have HP := Lib.hid h1; have HNM := Lib.hid h2
  clear h1 h2 hna hnb hi1 hz0 hz1 hz2 hi2 hy0 hy1 hy2
  go_enter Try.func8, Try.ntmps8
  go_wp2_with (go_at_call 16; refine (speaksR_any w).mono ?_)
  first | rintro e w1 ⟨rfl, hb1⟩ | rintro e w1 rfl hb1
  have HB1 := Lib.hid hb1
  have HP1 := Lib.hid (HP.out.below hb1); have HNM1 := Lib.hid (HNM.out.below hb1)
  clear hb1 HP HNM
  go_wp2_with fail
  go_loopw [5, 6] (fun v i wr => BkS w1 nb v i wr) (fun _ i _ => nb - (intOf i).toNat)
  case atStart => exact ⟨0, 0, [], Nat.zero_le _, by omega, rfl, rfl, Nat.le_refl _, Ris.nil, World.ownsRow_nil _ _ _ _, Below.refl _ _⟩
  case round =>
    obtain ⟨k, m, L, hk, hk40, rfl, hLm, hmk, hR, hrow, hb⟩ := hrel
    have HR := Lib.hid hR; have HROW := Lib.hid hrow; have HB := Lib.hid hb; have HM := Lib.hid hLm
    clear hR hrow hb hLm
    by_cases hlt : k < nb ∧ k < na ∧ k < 40
    · obtain ⟨hl1, hl2, hl3⟩ := hlt
      have hl1i : (k : Int) < nb := by omega
      have hl2i : (k : Int) < na := by omega
      have hl3i : (k : Int) < 40 := by omega
      obtain ⟨ps, hps⟩ : ∃ p, P[k]? = some p := ⟨_, List.getElem?_eq_getElem (by rw [HNA.out]; exact hl2)⟩
      obtain ⟨nm, hnm⟩ : ∃ p, N[k]? = some p := ⟨_, List.getElem?_eq_getElem (by rw [HNB.out]; exact hl1)⟩
      obtain ⟨hs1, b1, j1, rfl, d1⟩ := (HP1.out.below HB.out) k ps hps
      obtain ⟨hs2, b2, j2, rfl, d2⟩ := (HNM1.out.below HB.out) k nm hnm
      have HPS := Lib.hid hps; have HNMS := Lib.hid hnm
      clear hps hnm
      unfold maxLen at hs1
      have HS2 := Lib.hid hs2
      clear hs2
      obtain ⟨ol, cl, rfl⟩ := own_form HROW.out
      obtain ⟨wo, hwo⟩ : ∃ wo, wo = wr := ⟨_, rfl⟩
      subst hwo
      go_wp2_with fail
      go_loopw [7, 8] (fun v i wq => BpS w1 wo (.slice ol m cl) m L ps.size v i wq) (fun _ i _ => ps.size - (intOf i).toNat)
      case atStart => exact ⟨0, [], Nat.zero_le _, by omega, rfl, rfl, rfl, World.ownsRow_nil _ _ _ _, HROW.out, HB.out, Nat.le_refl _⟩
      case round =>
        obtain ⟨j, B, hj, h256, rfl, hBl, hpat, hrp, hrl, hb', hsz⟩ := hrel
        have HRP := Lib.hid hrp; have HRL := Lib.hid hrl; have HB' := Lib.hid hb'; have HPAT := Lib.hid hpat; have HBL := Lib.hid hBl
        obtain ⟨_, b3, j3, hob3, e1⟩ := (HP1.out.below HB'.out) k ps HPS.out
        obtain ⟨_, b4, j4, hob4, e2⟩ := (HNM1.out.below HB'.out) k nm HNMS.out
        obtain ⟨rfl, rfl⟩ : b1 = b3 ∧ j1 = j3 := by injection hob3 with h; injection h with h1 h2; exact ⟨h1, h2⟩
        obtain ⟨rfl, rfl⟩ : b2 = b4 ∧ j2 = j4 := by injection hob4 with h; injection h with h1 h2; exact ⟨h1, h2⟩
        clear hrp hrl hb' hpat hob3 hob4 hBl
        by_cases hjj : j < ps.size ∧ j < 256
        · obtain ⟨hja, hjb⟩ := hjj
          have hjai : (j : Int) < ps.size := by omega
          have hjbi : (j : Int) < 256 := by omega
          obtain ⟨hp1, hp2⟩ := pat_byte ps[j]
          obtain ⟨c, hc⟩ : ∃ c, UInt8.ofNat (32 + ps[j].toNat % 95) = c := ⟨_, rfl⟩
          rw [hc] at hp1 hp2
          have HP2 := Lib.hid hp2; have HPC := Lib.hid hp1
          have hx0 : 0 ≤ (ps[j].toNat : Int) := by omega
          have hx1 : (ps[j].toNat : Int) < 256 := by have := ps[j].toNat_lt; omega
          clear hp1 hp2 hc
          go_wp2_with (at_builtin; refine wpList_append_own _ rfl _ _ 35 rfl w1.heap.size 5 i2 (.int .u8 0) 1 1 Try.underlying35 HI2.out HY0.out HY1.out HY2.out rfl (by decide) _ _ _ rfl (HRP.out.alloc _) ⟨wr.heap.size, 0, none⟩ 1 1 [.int .u8 (32 + (ps[j].toNat : Int) % 95)] rfl rfl (World.news_of_block (World.alloc_heap_new _ _)) one_u8 (by unfold maxLen; omega) (by omega) (by have := HB'.out.size; simp; omega) ?_; intro v' w2 hown hgrow _)
          have HEND : Hid (BpS w1 wo (.slice ol m cl) m L ps.size v' (.int .i64 ((j : Int) + 1)) w2) := Lib.hid ⟨j + 1, B ++ [c], by omega, by omega, by rw [Int.natCast_succ], by rw [List.length_append, HBL.out]; rfl, by rw [List.all_append, HPAT.out]; simp [HPC.out], by
            have e : Lib.byteCells (B ++ [c]) = Lib.byteCells B ++ [.int .u8 (32 + (ps[j].toNat : Int) % 95)] := by rw [byteCells_app, ← HP2.out]; rfl
            rw [e]; exact hown, (HRL.out.alloc _).kept hgrow (row_apart HRL.out HRP.out (by decide)), (HB'.out.alloc HB'.out.size _).grown hgrow (by have := HB'.out.size; simp; omega) (own_base HRP.out), by have := hgrow.size; simp at this; omega⟩
          clear hown hgrow
          go_wp2_with fail
          go_roundw
          case rel => first | exact HEND.out | ((repeat (apply Exists.intro)); exact ⟨HEND.out, rfl⟩)
          case measure => first | (simp [intOf]; done) | (simp [intOf]; omega)
        · obtain ⟨op, cp, rfl⟩ := own_form HRP.out
          rcases (show ¬ j < ps.size ∨ (j < ps.size ∧ ¬ j < 256) by omega) with hje | ⟨hja, hjb⟩
          · have hjf : ¬ (j : Int) < ps.size := by omega
            cases hg : goodN nm with
            | false =>
              have HGQ := Lib.hid (GoodN_q nm false hg HS2.out)
              clear hg
              go_wp2_with fail
              go_quiet ((go_at_call 19; exact HGQ.out _ _))
              have HB3 := Lib.hid (below_drewN HB'.out nq)
              have HR3 := Lib.hid (show (wr.drewN nq).ownsRow w1.heap.size 52 2 (.slice ol m cl) m (flatP L) from HRL.out)
              generalize wr.drewN nq = wd at HB3 HR3 ⊢
              go_wp2_with fail
              go_roundw
              case rel => exact ⟨k + 1, m, L, by omega, by omega, by rw [Int.natCast_succ], HM.out, by omega, HR.out, HR3.out, HB3.out⟩
              case measure => first | (simp [intOf]; done) | (simp [intOf]; omega)
            | true =>
              have HGQ := Lib.hid (GoodN_q nm true hg HS2.out)
              have HGN := Lib.hid hg
              clear hg
              by_cases hj0 : j = 0
              · have hj0i : ¬ (0 : Int) < (j : Int) := by omega
                go_wp2_with fail
                go_quiet ((go_at_call 19; exact HGQ.out _ _))
                have HB3 := Lib.hid (below_drewN HB'.out nq)
                have HR3 := Lib.hid (show (wr.drewN nq).ownsRow w1.heap.size 52 2 (.slice ol m cl) m (flatP L) from HRL.out)
                generalize wr.drewN nq = wd at HB3 HR3 ⊢
                go_wp2_with fail
                go_roundw
                case rel => exact ⟨k + 1, m, L, by omega, by omega, by rw [Int.natCast_succ], HM.out, by omega, HR.out, HR3.out, HB3.out⟩
                case measure => first | (simp [intOf]; done) | (simp [intOf]; omega)
              · have hj0i : (0 : Int) < (j : Int) := by omega
                have hj0n : 0 < j := by omega
                have hj0d : decide ((0 : Int) < (j : Int)) = true := decide_eq_true hj0i
                by_cases hm0 : m = 0
                · have hL0 : L = [] := List.eq_nil_of_length_eq_zero (by rw [HM.out, hm0])
                  subst hm0
                  have hle0 : leB nm (lastN L) = false := by rw [hL0]; exact leB_nil (goodN_size HGN.out).1
                  have HLE := Lib.hid hle0
                  clear hle0
                  obtain ⟨gp, cp', hvp, hcv⟩ := own_bytes HRP.out HBL.out (by omega)
                  obtain ⟨T, hT⟩ : ∃ T : ByteArray, (⟨B.toArray⟩ : ByteArray) = T := ⟨_, rfl⟩
                  obtain ⟨rfl, rfl⟩ : op = some ⟨gp, 0, none⟩ ∧ cp = cp' := by injection hvp with a b c; exact ⟨a, c⟩
                  have HTQ : Hid (goodQ T = true) := Lib.hid (by
                    have hTd : T.data.toList = B := by rw [← hT]
                    have hTs : T.size = j := by rw [← size_len, hTd, HBL.out]
                    unfold goodQ
                    rw [List.drop_zero, hTd, hTs, HPAT.out, Bool.and_true, Bool.and_eq_true]
                    exact ⟨decide_eq_true (by omega), decide_eq_true (by omega)⟩)
                  rw [hT] at hcv
                  clear hvp hT
                  go_wp2_with fail
                  go_quiet ((go_at_call 19; exact HGQ.out _ _))
                  have HB3 := Lib.hid (below_drewN HB'.out nq)
                  have HR3 := Lib.hid (show (wr.drewN nq).ownsRow w1.heap.size 52 2 (.slice ol 0 cl) 0 (flatP L) from HRL.out)
                  have f2 : (wr.drewN nq).cell? ⟨b2, j2 + k, none⟩ = some (.string nm) := e2
                  have hcv2 := hcv (World.drew (wr.drewN nq)) rfl
                  generalize wr.drewN nq = wd at HB3 HR3 f2 hcv2 ⊢
                  have HOW : Hid (((World.drew wd).alloc (.cells #[.string nm, .string T] 52)).ownsRow w1.heap.size 52 2 (.slice ol 0 cl) 0 (flatP L)) := Lib.hid (World.ownsRow.alloc (show (World.drew wd).ownsRow w1.heap.size 52 2 (.slice ol 0 cl) 0 (flatP L) from HR3.out) _)
                  have HNEW := Lib.hid (World.news_of_block (w := (World.drew wd).alloc (.cells #[.string nm, .string T] 52)) (show ((World.drew wd).alloc (.cells #[.string nm, .string T] 52)).heap[wd.heap.size]? = _ from World.alloc_heap_new (World.drew wd) (.cells #[.string nm, .string T] 52)))
                  have HWS : Hid (((World.drew wd).alloc (.cells #[.string nm, .string T] 52)).heap.size = wd.heap.size + 1) := Lib.hid (by show (wd.heap.push _).size = _; simp)
                  have HBS2 : Hid (w1.heap.size ≤ ((World.drew wd).alloc (.cells #[.string nm, .string T] 52)).heap.size) := Lib.hid (by rw [HWS.out]; have := HB3.out.size; omega)
                  have HMX : Hid (1 ≤ maxLen) := Lib.hid (by unfold maxLen; omega)
                  have HBY : Hid (1 * 32 ≤ 140737488355328) := Lib.hid (by omega)
                  go_wp2_with fail
                  go_region_law (refine step_append_lies ((World.drew wd).alloc (.cells #[.string nm, .string T] 52)) rfl (.tmp 84) (.tmp 92) 44 rfl w1.heap.size 52 i1 _ 2 32 Try.underlying44 HI1.out HZ0.out HZ1.out HZ2.out rfl (by decide) (.slice ol 0 cl) 0 (flatP L) (by simp [Act.eval]) HOW.out ⟨wd.heap.size, 0, none⟩ 1 1 [Value.string nm, Value.string T] (by simp [Act.eval]) rfl HNEW.out two_mem (by decide) HMX.out HBY.out HBS2.out (wd.heap.size + 1) HWS.out ?_; intro gx cx w3 hown hgrow hat hlt; have HOWN := Lib.hid hown; have HG3 := Lib.hid hgrow; clear hown hgrow hat hlt)
                  all_goals
                    have hend : Hid (BkS w1 nb (.slice (some ⟨gx, 0, none⟩) 1 cx) (.int .i64 ((k : Int) + 1)) w3) := Lib.hid ⟨k + 1, 1, L ++ [(nm, T)], by omega, by omega, by rw [Int.natCast_succ], by rw [List.length_append, HM.out]; rfl, by omega, HR.out.snoc HGN.out HTQ.out HLE.out, by rw [flatP_snoc]; exact HOWN.out, ((below_drewN HB3.out 1).alloc HB3.out.size _).grown HG3.out (by have := HB3.out.size; simp; omega) (own_base HR3.out)⟩
                    go_wp2_with fail
                    go_roundw
                    case rel => exact hend.out
                    case measure => first | (simp [intOf]; done) | (simp [intOf]; omega)
                · obtain ⟨m', hm'⟩ : ∃ m', m = m' + 1 := ⟨m - 1, by omega⟩
                  obtain ⟨q, hq⟩ : ∃ q, L[m']? = some q := ⟨_, List.getElem?_eq_getElem (by rw [HM.out]; omega)⟩
                  have hla := lastN_at (HM.out.trans hm') hq
                  obtain ⟨o9, c9, h9, hpr9⟩ := own_pairs (t := 52) (l := L) (by rw [HM.out]; exact HRL.out)
                  obtain ⟨g9, cur9, ho9, _, q0, q1⟩ := hpr9 m' q hq
                  obtain rfl : ol = some ⟨g9, 0, none⟩ := by injection h9 with a b c; rw [a, ho9]
                  have hmi : ¬ (m : Int) = 0 := by omega
                  have hn2 : (m : Int) - 1 = (m' : Int) := by omega
                  have hml : m' < m := by omega
                  have hwm : IntKind.i64.wrap (m' : Int) = (m' : Int) := IntWalk.i64_in _ (by omega)
                  have hmli : (m' : Int) < m := by omega
                  clear hq h9 hpr9 ho9 hm' q1
                  cases hle : leB nm q.1 with
                  | true =>
                    have hgt : (!Op.bytesLess nm.toList q.1.toList && !(nm.toList == q.1.toList)) = false := by
                      have h := hle
                      unfold leB at h
                      cases h1 : Op.bytesLess nm.toList q.1.toList <;> cases h2 : (nm.toList == q.1.toList) <;> simp_all
                    clear hle hla
                    go_wp2_with fail
                    go_quiet ((go_at_call 19; exact HGQ.out _ _))
                    have HB3 := Lib.hid (below_drewN HB'.out nq)
                    have HR3 := Lib.hid (show (wr.drewN nq).ownsRow w1.heap.size 52 2 (.slice (some ⟨g9, 0, none⟩) m cl) m (flatP L) from HRL.out)
                    generalize wr.drewN nq = wd at HB3 HR3 ⊢
                    go_wp2_with fail
                    go_roundw
                    case rel => exact ⟨k + 1, m, L, by omega, by omega, by rw [Int.natCast_succ], HM.out, by omega, HR.out, HR3.out, HB3.out⟩
                    case measure => first | (simp [intOf]; done) | (simp [intOf]; omega)
                  | false =>
                    have hgt : (!Op.bytesLess nm.toList q.1.toList && !(nm.toList == q.1.toList)) = true := by
                      have h := hle
                      unfold leB at h
                      cases h1 : Op.bytesLess nm.toList q.1.toList <;> cases h2 : (nm.toList == q.1.toList) <;> simp_all
                    have hle0 : leB nm (lastN L) = false := by rw [hla]; exact hle
                    have HLE := Lib.hid hle0
                    clear hle0 hle hla
                    obtain ⟨gp, cp', hvp, hcv⟩ := own_bytes HRP.out HBL.out (by omega)
                    obtain ⟨T, hT⟩ : ∃ T : ByteArray, (⟨B.toArray⟩ : ByteArray) = T := ⟨_, rfl⟩
                    obtain ⟨rfl, rfl⟩ : op = some ⟨gp, 0, none⟩ ∧ cp = cp' := by injection hvp with a b c; exact ⟨a, c⟩
                    have HTQ : Hid (goodQ T = true) := Lib.hid (by
                      have hTd : T.data.toList = B := by rw [← hT]
                      have hTs : T.size = j := by rw [← size_len, hTd, HBL.out]
                      unfold goodQ
                      rw [List.drop_zero, hTd, hTs, HPAT.out, Bool.and_true, Bool.and_eq_true]
                      exact ⟨decide_eq_true (by omega), decide_eq_true (by omega)⟩)
                    rw [hT] at hcv
                    clear hvp hT
                    go_wp2_with fail
                    go_quiet ((go_at_call 19; exact HGQ.out _ _))
                    have HB3 := Lib.hid (below_drewN HB'.out nq)
                    have HR3 := Lib.hid (show (wr.drewN nq).ownsRow w1.heap.size 52 2 (.slice (some ⟨g9, 0, none⟩) m cl) m (flatP L) from HRL.out)
                    have f2 : (wr.drewN nq).cell? ⟨b2, j2 + k, none⟩ = some (.string nm) := e2
                    have hcv2 := hcv (World.drew (wr.drewN nq)) rfl
                    generalize wr.drewN nq = wd at HB3 HR3 f2 hcv2 ⊢
                    have HOW : Hid (((World.drew wd).alloc (.cells #[.string nm, .string T] 52)).ownsRow w1.heap.size 52 2 (.slice (some ⟨g9, 0, none⟩) m cl) m (flatP L)) := Lib.hid (World.ownsRow.alloc (show (World.drew wd).ownsRow w1.heap.size 52 2 (.slice (some ⟨g9, 0, none⟩) m cl) m (flatP L) from HR3.out) _)
                    have HNEW := Lib.hid (World.news_of_block (w := (World.drew wd).alloc (.cells #[.string nm, .string T] 52)) (show ((World.drew wd).alloc (.cells #[.string nm, .string T] 52)).heap[wd.heap.size]? = _ from World.alloc_heap_new (World.drew wd) (.cells #[.string nm, .string T] 52)))
                    have HWS : Hid (((World.drew wd).alloc (.cells #[.string nm, .string T] 52)).heap.size = wd.heap.size + 1) := Lib.hid (by show (wd.heap.push _).size = _; simp)
                    have HBS2 : Hid (w1.heap.size ≤ ((World.drew wd).alloc (.cells #[.string nm, .string T] 52)).heap.size) := Lib.hid (by rw [HWS.out]; have := HB3.out.size; omega)
                    have HMX : Hid (m + 1 ≤ maxLen) := Lib.hid (by unfold maxLen; omega)
                    have HBY : Hid ((m + 1) * 32 ≤ 140737488355328) := Lib.hid (by omega)
                    go_wp2_with fail
                    go_region_law (refine step_append_lies ((World.drew wd).alloc (.cells #[.string nm, .string T] 52)) rfl (.tmp 84) (.tmp 92) 44 rfl w1.heap.size 52 i1 _ 2 32 Try.underlying44 HI1.out HZ0.out HZ1.out HZ2.out rfl (by decide) (.slice (some ⟨g9, 0, none⟩) m cl) m (flatP L) (by simp [Act.eval]) HOW.out ⟨wd.heap.size, 0, none⟩ 1 1 [Value.string nm, Value.string T] (by simp [Act.eval]) rfl HNEW.out two_mem (by decide) HMX.out HBY.out HBS2.out (wd.heap.size + 1) HWS.out ?_; intro gx cx w3 hown hgrow hat hlt; have HOWN := Lib.hid hown; have HG3 := Lib.hid hgrow; clear hown hgrow hat hlt)
                    all_goals
                      have hend : Hid (BkS w1 nb (.slice (some ⟨gx, 0, none⟩) (m + 1) cx) (.int .i64 ((k : Int) + 1)) w3) := Lib.hid ⟨k + 1, m + 1, L ++ [(nm, T)], by omega, by omega, by rw [Int.natCast_succ], by rw [List.length_append, HM.out]; rfl, by omega, HR.out.snoc HGN.out HTQ.out HLE.out, by rw [flatP_snoc]; exact HOWN.out, ((below_drewN HB3.out 1).alloc HB3.out.size _).grown HG3.out (by have := HB3.out.size; simp; omega) (own_base HR3.out)⟩
                      go_wp2_with fail
                      go_roundw
                      case rel => exact hend.out
                      case measure => first | (simp [intOf]; done) | (simp [intOf]; omega)
          · have hjai : (j : Int) < ps.size := by omega
            have hjbi : ¬ (j : Int) < 256 := by omega
            cases hg : goodN nm with
            | false =>
              have HGQ := Lib.hid (GoodN_q nm false hg HS2.out)
              clear hg
              go_wp2_with fail
              go_quiet ((go_at_call 19; exact HGQ.out _ _))
              have HB3 := Lib.hid (below_drewN HB'.out nq)
              have HR3 := Lib.hid (show (wr.drewN nq).ownsRow w1.heap.size 52 2 (.slice ol m cl) m (flatP L) from HRL.out)
              generalize wr.drewN nq = wd at HB3 HR3 ⊢
              go_wp2_with fail
              go_roundw
              case rel => exact ⟨k + 1, m, L, by omega, by omega, by rw [Int.natCast_succ], HM.out, by omega, HR.out, HR3.out, HB3.out⟩
              case measure => first | (simp [intOf]; done) | (simp [intOf]; omega)
            | true =>
              have HGQ := Lib.hid (GoodN_q nm true hg HS2.out)
              have HGN := Lib.hid hg
              clear hg
              by_cases hj0 : j = 0
              · exfalso; omega
              · have hj0i : (0 : Int) < (j : Int) := by omega
                have hj0n : 0 < j := by omega
                have hj0d : decide ((0 : Int) < (j : Int)) = true := decide_eq_true hj0i
                by_cases hm0 : m = 0
                · have hL0 : L = [] := List.eq_nil_of_length_eq_zero (by rw [HM.out, hm0])
                  subst hm0
                  have hle0 : leB nm (lastN L) = false := by rw [hL0]; exact leB_nil (goodN_size HGN.out).1
                  have HLE := Lib.hid hle0
                  clear hle0
                  obtain ⟨gp, cp', hvp, hcv⟩ := own_bytes HRP.out HBL.out (by omega)
                  obtain ⟨T, hT⟩ : ∃ T : ByteArray, (⟨B.toArray⟩ : ByteArray) = T := ⟨_, rfl⟩
                  obtain ⟨rfl, rfl⟩ : op = some ⟨gp, 0, none⟩ ∧ cp = cp' := by injection hvp with a b c; exact ⟨a, c⟩
                  have HTQ : Hid (goodQ T = true) := Lib.hid (by
                    have hTd : T.data.toList = B := by rw [← hT]
                    have hTs : T.size = j := by rw [← size_len, hTd, HBL.out]
                    unfold goodQ
                    rw [List.drop_zero, hTd, hTs, HPAT.out, Bool.and_true, Bool.and_eq_true]
                    exact ⟨decide_eq_true (by omega), decide_eq_true (by omega)⟩)
                  rw [hT] at hcv
                  clear hvp hT
                  go_wp2_with fail
                  go_quiet ((go_at_call 19; exact HGQ.out _ _))
                  have HB3 := Lib.hid (below_drewN HB'.out nq)
                  have HR3 := Lib.hid (show (wr.drewN nq).ownsRow w1.heap.size 52 2 (.slice ol 0 cl) 0 (flatP L) from HRL.out)
                  have f2 : (wr.drewN nq).cell? ⟨b2, j2 + k, none⟩ = some (.string nm) := e2
                  have hcv2 := hcv (World.drew (wr.drewN nq)) rfl
                  generalize wr.drewN nq = wd at HB3 HR3 f2 hcv2 ⊢
                  have HOW : Hid (((World.drew wd).alloc (.cells #[.string nm, .string T] 52)).ownsRow w1.heap.size 52 2 (.slice ol 0 cl) 0 (flatP L)) := Lib.hid (World.ownsRow.alloc (show (World.drew wd).ownsRow w1.heap.size 52 2 (.slice ol 0 cl) 0 (flatP L) from HR3.out) _)
                  have HNEW := Lib.hid (World.news_of_block (w := (World.drew wd).alloc (.cells #[.string nm, .string T] 52)) (show ((World.drew wd).alloc (.cells #[.string nm, .string T] 52)).heap[wd.heap.size]? = _ from World.alloc_heap_new (World.drew wd) (.cells #[.string nm, .string T] 52)))
                  have HWS : Hid (((World.drew wd).alloc (.cells #[.string nm, .string T] 52)).heap.size = wd.heap.size + 1) := Lib.hid (by show (wd.heap.push _).size = _; simp)
                  have HBS2 : Hid (w1.heap.size ≤ ((World.drew wd).alloc (.cells #[.string nm, .string T] 52)).heap.size) := Lib.hid (by rw [HWS.out]; have := HB3.out.size; omega)
                  have HMX : Hid (1 ≤ maxLen) := Lib.hid (by unfold maxLen; omega)
                  have HBY : Hid (1 * 32 ≤ 140737488355328) := Lib.hid (by omega)
                  go_wp2_with fail
                  go_region_law (refine step_append_lies ((World.drew wd).alloc (.cells #[.string nm, .string T] 52)) rfl (.tmp 84) (.tmp 92) 44 rfl w1.heap.size 52 i1 _ 2 32 Try.underlying44 HI1.out HZ0.out HZ1.out HZ2.out rfl (by decide) (.slice ol 0 cl) 0 (flatP L) (by simp [Act.eval]) HOW.out ⟨wd.heap.size, 0, none⟩ 1 1 [Value.string nm, Value.string T] (by simp [Act.eval]) rfl HNEW.out two_mem (by decide) HMX.out HBY.out HBS2.out (wd.heap.size + 1) HWS.out ?_; intro gx cx w3 hown hgrow hat hlt; have HOWN := Lib.hid hown; have HG3 := Lib.hid hgrow; clear hown hgrow hat hlt)
                  all_goals
                    have hend : Hid (BkS w1 nb (.slice (some ⟨gx, 0, none⟩) 1 cx) (.int .i64 ((k : Int) + 1)) w3) := Lib.hid ⟨k + 1, 1, L ++ [(nm, T)], by omega, by omega, by rw [Int.natCast_succ], by rw [List.length_append, HM.out]; rfl, by omega, HR.out.snoc HGN.out HTQ.out HLE.out, by rw [flatP_snoc]; exact HOWN.out, ((below_drewN HB3.out 1).alloc HB3.out.size _).grown HG3.out (by have := HB3.out.size; simp; omega) (own_base HR3.out)⟩
                    go_wp2_with fail
                    go_roundw
                    case rel => exact hend.out
                    case measure => first | (simp [intOf]; done) | (simp [intOf]; omega)
                · obtain ⟨m', hm'⟩ : ∃ m', m = m' + 1 := ⟨m - 1, by omega⟩
                  obtain ⟨q, hq⟩ : ∃ q, L[m']? = some q := ⟨_, List.getElem?_eq_getElem (by rw [HM.out]; omega)⟩
                  have hla := lastN_at (HM.out.trans hm') hq
                  obtain ⟨o9, c9, h9, hpr9⟩ := own_pairs (t := 52) (l := L) (by rw [HM.out]; exact HRL.out)
                  obtain ⟨g9, cur9, ho9, _, q0, q1⟩ := hpr9 m' q hq
                  obtain rfl : ol = some ⟨g9, 0, none⟩ := by injection h9 with a b c; rw [a, ho9]
                  have hmi : ¬ (m : Int) = 0 := by omega
                  have hn2 : (m : Int) - 1 = (m' : Int) := by omega
                  have hml : m' < m := by omega
                  have hwm : IntKind.i64.wrap (m' : Int) = (m' : Int) := IntWalk.i64_in _ (by omega)
                  have hmli : (m' : Int) < m := by omega
                  clear hq h9 hpr9 ho9 hm' q1
                  cases hle : leB nm q.1 with
                  | true =>
                    have hgt : (!Op.bytesLess nm.toList q.1.toList && !(nm.toList == q.1.toList)) = false := by
                      have h := hle
                      unfold leB at h
                      cases h1 : Op.bytesLess nm.toList q.1.toList <;> cases h2 : (nm.toList == q.1.toList) <;> simp_all
                    clear hle hla
                    go_wp2_with fail
                    go_quiet ((go_at_call 19; exact HGQ.out _ _))
                    have HB3 := Lib.hid (below_drewN HB'.out nq)
                    have HR3 := Lib.hid (show (wr.drewN nq).ownsRow w1.heap.size 52 2 (.slice (some ⟨g9, 0, none⟩) m cl) m (flatP L) from HRL.out)
                    generalize wr.drewN nq = wd at HB3 HR3 ⊢
                    go_wp2_with fail
                    go_roundw
                    case rel => exact ⟨k + 1, m, L, by omega, by omega, by rw [Int.natCast_succ], HM.out, by omega, HR.out, HR3.out, HB3.out⟩
                    case measure => first | (simp [intOf]; done) | (simp [intOf]; omega)
                  | false =>
                    have hgt : (!Op.bytesLess nm.toList q.1.toList && !(nm.toList == q.1.toList)) = true := by
                      have h := hle
                      unfold leB at h
                      cases h1 : Op.bytesLess nm.toList q.1.toList <;> cases h2 : (nm.toList == q.1.toList) <;> simp_all
                    have hle0 : leB nm (lastN L) = false := by rw [hla]; exact hle
                    have HLE := Lib.hid hle0
                    clear hle0 hle hla
                    obtain ⟨gp, cp', hvp, hcv⟩ := own_bytes HRP.out HBL.out (by omega)
                    obtain ⟨T, hT⟩ : ∃ T : ByteArray, (⟨B.toArray⟩ : ByteArray) = T := ⟨_, rfl⟩
                    obtain ⟨rfl, rfl⟩ : op = some ⟨gp, 0, none⟩ ∧ cp = cp' := by injection hvp with a b c; exact ⟨a, c⟩
                    have HTQ : Hid (goodQ T = true) := Lib.hid (by
                      have hTd : T.data.toList = B := by rw [← hT]
                      have hTs : T.size = j := by rw [← size_len, hTd, HBL.out]
                      unfold goodQ
                      rw [List.drop_zero, hTd, hTs, HPAT.out, Bool.and_true, Bool.and_eq_true]
                      exact ⟨decide_eq_true (by omega), decide_eq_true (by omega)⟩)
                    rw [hT] at hcv
                    clear hvp hT
                    go_wp2_with fail
                    go_quiet ((go_at_call 19; exact HGQ.out _ _))
                    have HB3 := Lib.hid (below_drewN HB'.out nq)
                    have HR3 := Lib.hid (show (wr.drewN nq).ownsRow w1.heap.size 52 2 (.slice (some ⟨g9, 0, none⟩) m cl) m (flatP L) from HRL.out)
                    have f2 : (wr.drewN nq).cell? ⟨b2, j2 + k, none⟩ = some (.string nm) := e2
                    have hcv2 := hcv (World.drew (wr.drewN nq)) rfl
                    generalize wr.drewN nq = wd at HB3 HR3 f2 hcv2 ⊢
                    have HOW : Hid (((World.drew wd).alloc (.cells #[.string nm, .string T] 52)).ownsRow w1.heap.size 52 2 (.slice (some ⟨g9, 0, none⟩) m cl) m (flatP L)) := Lib.hid (World.ownsRow.alloc (show (World.drew wd).ownsRow w1.heap.size 52 2 (.slice (some ⟨g9, 0, none⟩) m cl) m (flatP L) from HR3.out) _)
                    have HNEW := Lib.hid (World.news_of_block (w := (World.drew wd).alloc (.cells #[.string nm, .string T] 52)) (show ((World.drew wd).alloc (.cells #[.string nm, .string T] 52)).heap[wd.heap.size]? = _ from World.alloc_heap_new (World.drew wd) (.cells #[.string nm, .string T] 52)))
                    have HWS : Hid (((World.drew wd).alloc (.cells #[.string nm, .string T] 52)).heap.size = wd.heap.size + 1) := Lib.hid (by show (wd.heap.push _).size = _; simp)
                    have HBS2 : Hid (w1.heap.size ≤ ((World.drew wd).alloc (.cells #[.string nm, .string T] 52)).heap.size) := Lib.hid (by rw [HWS.out]; have := HB3.out.size; omega)
                    have HMX : Hid (m + 1 ≤ maxLen) := Lib.hid (by unfold maxLen; omega)
                    have HBY : Hid ((m + 1) * 32 ≤ 140737488355328) := Lib.hid (by omega)
                    go_wp2_with fail
                    go_region_law (refine step_append_lies ((World.drew wd).alloc (.cells #[.string nm, .string T] 52)) rfl (.tmp 84) (.tmp 92) 44 rfl w1.heap.size 52 i1 _ 2 32 Try.underlying44 HI1.out HZ0.out HZ1.out HZ2.out rfl (by decide) (.slice (some ⟨g9, 0, none⟩) m cl) m (flatP L) (by simp [Act.eval]) HOW.out ⟨wd.heap.size, 0, none⟩ 1 1 [Value.string nm, Value.string T] (by simp [Act.eval]) rfl HNEW.out two_mem (by decide) HMX.out HBY.out HBS2.out (wd.heap.size + 1) HWS.out ?_; intro gx cx w3 hown hgrow hat hlt; have HOWN := Lib.hid hown; have HG3 := Lib.hid hgrow; clear hown hgrow hat hlt)
                    all_goals
                      have hend : Hid (BkS w1 nb (.slice (some ⟨gx, 0, none⟩) (m + 1) cx) (.int .i64 ((k : Int) + 1)) w3) := Lib.hid ⟨k + 1, m + 1, L ++ [(nm, T)], by omega, by omega, by rw [Int.natCast_succ], by rw [List.length_append, HM.out]; rfl, by omega, HR.out.snoc HGN.out HTQ.out HLE.out, by rw [flatP_snoc]; exact HOWN.out, ((below_drewN HB3.out 1).alloc HB3.out.size _).grown HG3.out (by have := HB3.out.size; simp; omega) (own_base HR3.out)⟩
                      go_wp2_with fail
                      go_roundw
                      case rel => exact hend.out
                      case measure => first | (simp [intOf]; done) | (simp [intOf]; omega)
    · have HRZ := Lib.hid (HR.out.sizes)
      have hlen := showM_len_le HRZ.out
      rw [HM.out] at hlen
      obtain ⟨o, cap, hv, hpr⟩ := own_pairs (t := 52) (l := L) (by rw [HM.out]; exact HROW.out)
      have HPR := Lib.hid hpr
      rw [HM.out] at hv
      subst hv
      have HSA := Lib.hid (ShowR_any o L cap wr (by rw [HM.out]; omega) HPR.out (by omega))
      rw [HM.out] at HSA
      obtain ⟨S1, hS1⟩ : ∃ S1 : ByteArray, (⟨(showM L).toArray⟩ : ByteArray) = S1 := ⟨_, rfl⟩
      have hd1 : S1.data.toList = showM L := by rw [← hS1]
      have hz1 : S1.size ≤ 20000 := by rw [← size_len, hd1]; omega
      have hp1 : parseR S1 = (L, 0, 0) := showR_parse hd1 (by omega) (by rw [HM.out]; omega) HR.out
      have HP2 : Hid (∀ W, Calls Try.prog 17 #[.string S1] W fun e w' => ∃ v, e = .returned (.tuple #[v, .int .i64 0, .int .i64 0]) ∧ w'.ownsRow W.heap.size 52 2 v L.length (flatP L) ∧ Below W.heap.size W w') := Lib.hid (fun W => by have := ParseR_any S1 W (by unfold maxLen; omega); rw [hp1] at this; exact this)
      rw [hS1] at HSA
      clear hS1 hd1 hz1 hp1 hlen hpr HROW HRZ
      rcases (show ¬ k < nb ∨ (k < nb ∧ ¬ k < na) ∨ (k < nb ∧ k < na ∧ k = 40) by omega) with h | ⟨h, h'⟩ | ⟨h, h', h''⟩
      all_goals
        first
          | (have hA : (k : Int) < nb := by omega
             first
               | (have hB : (k : Int) < na := by omega
                  have hC : ¬ (k : Int) < 40 := by omega
                  clear h h')
               | (have hB : ¬ (k : Int) < na := by omega
                  clear h h'))
          | (have hA : ¬ (k : Int) < nb := by omega
             clear h)
        go_wp2_with (go_at_call 21; (with_reducible refine HSA.out.mono ?_); rintro e w3 ⟨rfl, hb3⟩; have HB3 := Lib.hid (HB.out.trans (hb3.mono HB.out.size)); have HPR3 := Lib.hid (HPR.out.below hb3); clear hb3 HSA)
        refine (HP2.out _).mono ?_
        first | rintro e w4 v4 rfl ho4 hb4 | rintro e w4 ⟨v4, rfl, ho4, hb4⟩
        obtain ⟨o4, c4, rfl, hpr4⟩ := own_pairs ho4
        have HQR := Lib.hid hpr4; have HB4 := Lib.hid (HB3.out.trans (hb4.mono HB3.out.size)); have HPR4 := Lib.hid (HPR3.out.below hb4)
        rw [HM.out]
        clear hb4 ho4 HPR3 HP2 hpr4
        go_wp2_with fail
        go_loopw [12] (fun i wq => CkS w4 m i wq) (fun i _ => m - (intOf i).toNat)
        case atStart => exact ⟨0, Nat.zero_le _, rfl, Below.refl _ _⟩
        case round =>
          obtain ⟨x, hx, rfl, hbx⟩ := hrel
          have HX := Lib.hid hbx
          clear hbx
          by_cases hlx : x < m
          · obtain ⟨p, hp⟩ : ∃ p, L[x]? = some p := ⟨_, List.getElem?_eq_getElem (by rw [HM.out]; exact hlx)⟩
            obtain ⟨g1, cur1, ho1, _, d0, d1⟩ := (HPR4.out.below HX.out) x p hp
            obtain ⟨g2, cur2, ho2, _, e0, e1⟩ := (HQR.out.below HX.out) x p hp
            subst ho1 ho2
            obtain ⟨p1, p2⟩ := p
            simp only at d0 d1 e0 e1
            have hgd : Try.prog.eqGuardType Try.prog.depth 52 = false := by kernel_rfl
            have hnq := run_neq_rr p1 p2
            clear hp
            go_wp2_with fail
            go_quiet (fail)
            first | (have _h : Below w4.heap.size w4 (wr.drewN nq) := below_drewN HX.out nq) | rename_i nq
            have HX2 := Lib.hid (below_drewN HX.out nq)
            generalize wr.drewN nq = wd at HX2 ⊢
            clear hnq
            go_wp2_with fail
            go_roundw
            case rel => exact ⟨x + 1, by omega, by rw [Int.natCast_succ], HX2.out⟩
            case measure => first | (simp [intOf]; done) | (simp [intOf]; omega)
          · have hxm : x = m := by omega
            subst hxm
            go_wp2_with fail
            go_ret
            exact ⟨rfl, HB1.out.trans ((HB4.out.trans (HX.out.mono HB4.out.size)).mono HB1.out.size)⟩
end Go.Proofs.Ytlfjlkmikmajaaa
