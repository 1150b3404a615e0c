/- The contract of crc.Next. -/
import Derived.Test.YtaionhdamdhjjabDoorKf
import Derived.IntWalk
namespace Go.Proofs.YtaionhdamdhjjabDoor
open Go.RowKit
attribute [local go_sem ↓] Go.wp_at_zero Go.wp_at_succ

theorem ret4 {a b c d : Value} {x : Value} (h : x = .tuple #[a, b, c, d]) : Ending.returned x = .returned (.tuple #[a, b, c, d]) := by rw [h]
theorem nil_str : ({ data := #[] } : ByteArray) = ByteArray.empty := rfl
theorem results_tmp4 {fn : Func} {t u v x : Tmp} (h : fn.results = #[.tmp t, .tmp u, .tmp v, .tmp x]) (tmps : Array Value) (P : Program) (w : World) :
    (results fn tmps).run P w = .ok (.tuple #[tmps.getD t undef, tmps.getD u undef, tmps.getD v undef, tmps.getD x undef]) w := by simp [results, h]

theorem next_vars (s t : ByteArray) (n er : Int) (w : World) (hm : s.size ≤ maxLen) (h : nextI s = (t, n, er)) :
    Calls Tryd.prog 32 #[.string s] w fun e w' => e = .returned (.tuple #[.string t, .int .i64 n, .int .i64 er]) ∧ Below w.heap.size w w' :=
  (next_any s w hm).mono fun e w' ⟨a, b⟩ => ⟨by rw [a, h], b⟩
def NextIs (a : Int) (b : ByteArray) (c d : Int) (w : World) (e : Ending) (w' : World) : Prop :=
  e = .returned (.tuple #[.int .u8 a, .string b, .int .i64 c, .int .i64 d]) ∧ Below w.heap.size w w'

set_option maxHeartbeats 1000000 in
set_option maxRecDepth 100000 in
theorem FNext_none (s : ByteArray) (w : World) (h : s.size = 0) :
    Calls Tryd.prog 13 #[.string s] w (NextIs 0 ⟨#[]⟩ 0 9 w) := by
  have he := ba_empty s h
  clear h
  go_enter Tryd.func13, Tryd.ntmps13
  go_wp2_with fail
  refine bodyPost_ret (results_tmp4 rfl _ _ _) rfl ?_
  exact ⟨rfl, Below.refl _ _⟩

set_option maxHeartbeats 1000000 in
set_option maxRecDepth 100000 in
theorem FNext_err (s t : ByteArray) (n er : Int) (w : World) (h : 0 < s.size) (hm : s.size ≤ maxLen) (hn : nextI (s.extract 1 s.size) = (t, n, er)) (her : er ≠ 0) :
    Calls Tryd.prog 13 #[.string s] w (NextIs 0 ⟨#[]⟩ 0 er w) := by
  have he := ba_some s h
  have hne : (er != 0) = true := by rw [bne_iff_ne]; exact her
  unfold maxLen at hm
  have HN := Lib.hid hn
  clear hn her
  go_enter Tryd.func13, Tryd.ntmps13
  go_wp2_with fail
  refine (next_vars _ t n er _ (by rw [ByteArray.size_extract]; unfold maxLen; omega) HN.out).mono ?_
  rintro e w1 ⟨rfl, hw1⟩
  go_wp2_with fail
  refine bodyPost_ret (results_tmp4 rfl _ _ _) rfl ?_
  exact ⟨rfl, hw1⟩

set_option maxHeartbeats 1000000 in
set_option maxRecDepth 100000 in
theorem FNext_short (s t : ByteArray) (n : Int) (w : World) (h : 0 < s.size) (hm : s.size ≤ maxLen) (hn : nextI (s.extract 1 s.size) = (t, n, 0)) (hs : (s.size : Int) < n + 5) :
    Calls Tryd.prog 13 #[.string s] w (NextIs 0 ⟨#[]⟩ 0 3 w) := by
  have he := ba_some s h
  have hok := nextI_ok _ _ _ hn
  rw [ByteArray.size_extract] at hok
  unfold maxLen at hm
  have n0 : 0 ≤ n := by omega
  have n1 : n ≤ s.size := by omega
  have n2 : (s.size : Int) - (1 + n) < 4 := by omega
  have n5 : 1 + n ≤ (s.size : Int) := by omega
  have n8 : 1 + n ≤ 9223372036854775807 := by omega
  have n4 : 0 ≤ 1 + n := by omega
  have HN := Lib.hid hn
  clear hn hok
  go_enter Tryd.func13, Tryd.ntmps13
  go_wp2_with fail
  refine (next_vars _ t n 0 _ (by rw [ByteArray.size_extract]; unfold maxLen; omega) HN.out).mono ?_
  rintro e w1 ⟨rfl, hw1⟩
  go_wp2_with fail
  refine bodyPost_ret (results_tmp4 rfl _ _ _) rfl ?_
  exact ⟨rfl, hw1⟩

set_option maxHeartbeats 2000000 in
set_option maxRecDepth 100000 in
theorem FNext_long (s t : ByteArray) (n : Int) (q : Bool) (w : World) (h : 0 < s.size) (hm : s.size ≤ maxLen) (hn : nextI (s.extract 1 s.size) = (t, n, 0)) (hs : n + 5 ≤ (s.size : Int)) (hV : CrcVars w)
    (hq : ((s.extract (1 + n).toNat (1 + n + 4).toNat).toList == (leB (crcL (s.data.toList.take (1 + n).toNat))).toList) = q) :
    Calls Tryd.prog 13 #[.string s] w (if q then NextIs (s[0].toNat) t (n + 5) 0 w else NextIs 0 ⟨#[]⟩ 0 5 w) := by
  have he := ba_some s h
  have hok := nextI_ok _ _ _ hn
  rw [ByteArray.size_extract] at hok
  have hix := idx_u8 s 0 h
  unfold maxLen at hm
  have n0 : 0 ≤ n := by omega
  have n1 : n ≤ s.size := by omega
  have n2 : ¬ (s.size : Int) - (1 + n) < 4 := by omega
  have n3 : 1 + n + 4 ≤ (s.size : Int) := by omega
  have n4 : 0 ≤ 1 + n := by omega
  have n5 : 1 + n ≤ (s.size : Int) := by omega
  have n6 : 0 ≤ 1 + n + 4 := by omega
  have n7 : 1 + n ≤ 1 + n + 4 := by omega
  have HN := Lib.hid hn; have HV := Lib.hid hV; have HQ := Lib.hid hq
  clear hn hok hV hq
  go_enter Tryd.func13, Tryd.ntmps13
  go_wp2_with fail
  refine (next_vars _ t n 0 _ (by rw [ByteArray.size_extract]; unfold maxLen; omega) HN.out).mono ?_
  rintro e w1 ⟨rfl, hw1⟩
  go_wp2_with fail
  have hv1 : CrcVars w1.drew := HV.out.below hw1.drew
  have HV1 := Lib.hid hv1
  have HSZ : Hid ((s.extract 0 (1 + n).toNat).size ≤ maxLen) := Lib.hid (by rw [ByteArray.size_extract]; unfold maxLen; omega)
  have hwr : IntKind.i64.wrap (1 + n + 4) = 1 + n + 4 := IntWalk.i64_in _ (by omega)
  clear hv1
  go_cut [39] (fun c wx => c = .bool (!q) ∧ Below w.heap.size w wx)
  case first =>
    go_region_with (first | (go_at_call 21; refine (Sum_any (s.extract 0 (1 + n).toNat) w1.drew HSZ.out HV1.out).mono ?_; rintro e w2 ⟨rfl, rfl⟩) | (go_at_call 20; refine (le_any _ _).mono ?_; rintro e w3 ⟨rfl, hw3⟩))
    all_goals
      go_wp2_with fail
      go_meet
      exact ⟨by rw [← HQ.out], (hw1.drew).trans (hw3.mono hw1.size)⟩
  case rest =>
    obtain ⟨rfl, hB⟩ := hcut
    cases q
    · clear hwr n3 n6 n7
      go_wp2_with fail
      refine bodyPost_ret (results_tmp4 rfl _ _ _) rfl ?_
      exact ⟨rfl, hB⟩
    · clear hwr
      have n9 : n + 5 ≤ 9223372036854775807 := by omega
      go_wp2_with fail
      refine bodyPost_ret (results_tmp4 rfl _ _ _) rfl ?_
      exact ⟨by rw [show n + 5 = 1 + n + 4 by omega]; rfl, hB⟩

/-- The frame at the beginning of any bytes. -/
def nextF (s : ByteArray) : Int × ByteArray × Int × Int :=
  if s.size = 0 then (0, ⟨#[]⟩, 0, 9)
  else if (nextI (s.extract 1 s.size)).2.2 ≠ 0 then (0, ⟨#[]⟩, 0, (nextI (s.extract 1 s.size)).2.2)
  else if (s.size : Int) < (nextI (s.extract 1 s.size)).2.1 + 5 then (0, ⟨#[]⟩, 0, 3)
  else if (s.extract (1 + (nextI (s.extract 1 s.size)).2.1).toNat (1 + (nextI (s.extract 1 s.size)).2.1 + 4).toNat).toList == (leB (crcL (s.data.toList.take (1 + (nextI (s.extract 1 s.size)).2.1).toNat))).toList
    then (byt s 0, (nextI (s.extract 1 s.size)).1, (nextI (s.extract 1 s.size)).2.1 + 5, 0) else (0, ⟨#[]⟩, 0, 5)
theorem byt_zero (s : ByteArray) (h : 0 < s.size) : byt s 0 = (s[0].toNat : Int) := by
  have h' : 0 < s.data.size := h
  unfold byt
  rw [Array.getD_eq_getD_getElem?, Array.getElem?_eq_getElem h']
  rfl

theorem FNext_any (s : ByteArray) (w : World) (hm : s.size ≤ maxLen) (hV : CrcVars w) :
    Calls Tryd.prog 13 #[.string s] w (NextIs (nextF s).1 (nextF s).2.1 (nextF s).2.2.1 (nextF s).2.2.2 w) := by
  unfold nextF
  obtain ⟨t, n, er, hn⟩ : ∃ t n er, nextI (s.extract 1 s.size) = (t, n, er) := ⟨_, _, _, rfl⟩
  rw [hn]
  dsimp only
  by_cases h0 : s.size = 0
  · rw [if_pos h0]; exact FNext_none s w h0
  rw [if_neg h0]
  by_cases h1 : er = 0
  · subst h1
    rw [if_neg (by decide)]
    by_cases h2 : (s.size : Int) < n + 5
    · rw [if_pos h2]; exact FNext_short s t n w (by omega) hm hn h2
    · rw [if_neg h2, byt_zero s (by omega)]
      obtain ⟨q, hq⟩ : ∃ q, ((s.extract (1 + n).toNat (1 + n + 4).toNat).toList == (leB (crcL (s.data.toList.take (1 + n).toNat))).toList) = q := ⟨_, rfl⟩
      have := FNext_long s t n q w (by omega) hm hn (by omega) hV hq
      rw [hq]
      cases q
      · rw [if_neg (by decide)] at this ⊢; exact this
      · rw [if_pos rfl] at this ⊢; exact this
  · rw [if_pos h1]; exact FNext_err s t n er w (by omega) hm hn h1
end Go.Proofs.YtaionhdamdhjjabDoor
