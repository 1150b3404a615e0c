/- Parse against the document's: the law. -/
import Derived.Test.YtlfjlkmikmajaaaMp
import Derived.Test.YtlfjlkmikmajaaaRi
import Derived.Test.YtlfjlkmikmajaaaRn2
import Derived.Test.YtlfjlkmikmajaaaPy
import Derived.Test.YtlfjlkmikmajaaaPf
import Derived.Laws.StructEq
namespace Go.Proofs.Ytlfjlkmikmajaaa
open Go.RowKit
variable {w w' : World}

theorem under_dM : Try.prog.underlying 31 = some (.struct (Try.prog.fieldsOf 31)) := by kernel_rfl
theorem held_dM : Try.prog.stoodInHeld 31 = false := by kernel_rfl
theorem run_neq_dM (a b : ByteArray) (w : World) : (binOp .neq 31 (.agg #[.string a, .string b]) (.agg #[.string a, .string b])).run Try.prog w = .ok (.bool false) w := by
  rw [run_neq_struct, run_equalIn_agg _ _ _ _ _ under_dM held_dM]
  simp [Op.eqFields, Program.fieldsOf, Try.underlying31, part, go_sem, Try.underlying9]
def PlSM (w : World) (n : Nat) (i : Value) (wr : World) : Prop := ∃ k : Nat, k ≤ n ∧ i = .int .i64 k ∧ Below w.heap.size w wr
set_option maxHeartbeats 2000000 in
set_option maxRecDepth 100000 in
theorem LParseM_any (s : ByteArray) (w : World) (hs : s.size ≤ maxLen) :
    Calls Try.prog 3 #[.string s] w fun e w' => e = .returned (.bool true) ∧ Below w.heap.size w w' := by
  go_enter Try.func3, Try.ntmps3
  go_wp2_with (go_at_call 10; refine (speaks_any w).mono ?_)
  first | rintro e w1 ⟨rfl, hb1⟩ | rintro e w1 rfl hb1
  have HB1 := Lib.hid hb1
  clear hb1
  by_cases h3 : 3000 < s.size
  · unfold maxLen at hs
    go_wp2_with fail
    go_ret
    exact ⟨rfl, HB1.out⟩
  · have h3' : (s.size : Int) ≤ 3000 := by omega
    have HP := Lib.hid (Parse_any s w1 hs)
    go_wp2_with (go_at_call 11; refine HP.out.mono ?_)
    first | rintro e w2 v rfl ho hb2 | rintro e w2 ⟨v, rfl, ho, hb2⟩
    obtain ⟨o, cap, rfl, hpr⟩ := own_pairs ho
    have HPR := Lib.hid hpr; have HB2 := Lib.hid (HB1.out.trans (hb2.mono HB1.out.size))
    clear ho hpr hb2 HP
    have HD := Lib.hid (RParseM_any s w2 (by omega))
    go_wp2_with (go_at_call 12; refine HD.out.mono ?_)
    first | rintro e w3 v2 rfl ho2 hb3 | rintro e w3 ⟨v2, rfl, ho2, hb3⟩
    obtain ⟨o2, cap2, rfl, hpr2⟩ := own_pairs ho2
    have HQR := Lib.hid hpr2; have HPR3 := Lib.hid (HPR.out.below hb3); have HB3 := Lib.hid (HB2.out.trans (hb3.mono HB2.out.size))
    clear ho2 hpr2 hb3 HD HPR
    have HSH : Hid (∀ L N, parseM s = (L, N, 0) → showM L = s.data.toList ∧ L.length ≤ 4096) := Lib.hid (fun L N h => parseM_show h)
    obtain ⟨⟨L, N, E⟩, hr⟩ : ∃ r, parseM s = r := ⟨_, rfl⟩
    have HLE : Hid (L.length ≤ 4096) := Lib.hid (by
      have h1 := parseL_eq (rd := rdM) (s := s) (by omega)
      have h2 : restF rdM s 0 [] = (L, N, E) := by rw [← h1]; exact hr
      exact (parse_len s _ _ _ _ _ _ rfl (by simp) h2).1)
    rw [hr] at HPR3 HQR ⊢
    have HSH := Lib.hid (HSH.out L N)
    rw [hr] at HSH
    simp only at HPR3 HQR ⊢
    obtain ⟨n, hn⟩ : ∃ n, L.length = n := ⟨_, rfl⟩
    have HN := Lib.hid hn
    rw [hn] at HLE ⊢
    have hn4 : n ≤ 4096 := HLE.out
    clear hr hn
    go_wp2_with fail
    go_loopw [9] (fun i wr => PlSM w3 n i wr) (fun i _ => n - (intOf i).toNat)
    case atStart => exact ⟨0, Nat.zero_le _, rfl, Below.refl _ _⟩
    case round =>
      obtain ⟨k, hk, rfl, hb⟩ := hrel
      have HB := Lib.hid hb
      clear hb
      by_cases hlt : k < n
      · obtain ⟨p, hp⟩ : ∃ p, L[k]? = some p := ⟨_, List.getElem?_eq_getElem (by rw [HN.out]; exact hlt)⟩
        obtain ⟨g1, cur1, ho1, _, d0, d1⟩ := (HPR3.out.below HB.out) k p hp
        obtain ⟨g2, cur2, ho2, _, e0, e1⟩ := (HQR.out.below HB.out) k p hp
        subst ho1 ho2
        obtain ⟨p1, p2⟩ := p
        simp only at d0 d1 e0 e1
        have hgd : Try.prog.eqGuardType Try.prog.depth 31 = false := by kernel_rfl
        have hnq := run_neq_dM p1 p2
        clear hp
        go_wp2_with fail
        go_quiet (fail)
        first | (have _h : Below w3.heap.size w3 (wr.drewN nq) := below_drewN HB.out nq) | rename_i nq
        have HB4 := Lib.hid (below_drewN HB.out nq)
        generalize wr.drewN nq = wd at HB4 ⊢
        clear hnq
        go_wp2_with fail
        go_roundw
        case rel => exact ⟨k + 1, by omega, by rw [Int.natCast_succ], HB4.out⟩
        case measure => simp [intOf]; omega
      · have hkn : k = n := by omega
        subst hkn
        by_cases hE : E = 0
        · subst hE
          obtain ⟨hsh, _⟩ := HSH.out rfl
          have hsl : (showM L).length = s.size := by rw [hsh, size_len]
          have HSA := Lib.hid (ShowM_any o L cap wr (by rw [HN.out]; omega) (HPR3.out.below HB.out) (by omega))
          rw [HN.out] at HSA
          have hse : (⟨(showM L).toArray⟩ : ByteArray) = s := by apply ByteArray.ext; apply Array.ext'; exact hsh
          have HSE := Lib.hid hse
          clear hsh hsl hse
          go_wp2_with (go_at_call 13; refine HSA.out.mono ?_; rintro e w6 ⟨rfl, hb6⟩; rw [HSE.out]; have HB6 := Lib.hid (HB.out.trans (hb6.mono HB.out.size)); clear hb6)
          go_ret
          exact ⟨rfl, HB3.out.trans (HB6.out.mono HB3.out.size)⟩
        · have hE2 : (E == 0) = false := by simpa using hE
          go_wp2_with fail
          go_ret
          exact ⟨ret_bool (by simp [hE]), HB3.out.trans (HB.out.mono HB3.out.size)⟩
end Go.Proofs.Ytlfjlkmikmajaaa
