/- Sector: the law on no disk. -/
import Derived.Test.YtppnaajeogkkeaaSt
namespace Go.Proofs.Ytppnaajeogkkeaa
open Go.RowKit
variable {B n g gd gc cd cc : Nat} {vw vk : Value} {S : DS} {w : World}

theorem nil_cut (c : Int) (h0 : 0 ≤ c) (h1 : c ≤ 1) : (begS (cutS c [] (newS 3))).1 = false := by
  have : max c 1 = 1 := by omega
  unfold begS cutS
  simp only [this]
  rfl
theorem nil_cut2 (c : Int) (h0 : 0 ≤ c) (h1 : c ≤ 1) : (begS (cutS c [] (newS 3))).2 = failS [] (newS 3) := by
  have : max c 1 = 1 := by omega
  unfold begS cutS
  simp only [this]
  rfl
theorem OffD (h : IsD B n g gd gc cd cc vw vk S w) :
    Calls Try.prog 25 #[.pointer (some ⟨g, 0, none⟩)] w fun e w' => e = .returned (.bool S.off) ∧ w' = w := Off_any g _ _ _ _ _ _ _ w h.d
theorem and_one (i : Int) : 0 ≤ bits .and .i64 i 1 ∧ bits .and .i64 i 1 ≤ 1 := by
  have h1 : (BitVec.ofInt 64 1).toNat = 2 ^ 1 - 1 := by decide
  have key : (BitVec.ofInt 64 i &&& BitVec.ofInt 64 1).toNat = (i % ((2 ^ 64 : Nat) : Int)).toNat % 2 ^ 1 := by
    rw [BitVec.toNat_and, BitVec.toNat_ofInt, h1, Nat.and_two_pow_sub_one_eq_mod]
  have e : bits .and .i64 i 1 = i % 2 := by
    show IntKind.i64.wrap ((BitVec.ofInt 64 i &&& BitVec.ofInt 64 1).toNat : Nat) = i % 2
    rw [key, IntKind.wrap_i64]
    omega
  rw [e]; omega
set_option maxHeartbeats 1000000 in
set_option maxRecDepth 100000 in
theorem nil_any (i : Int) (s : ByteArray) (w : World) :
    Calls Try.prog 5 #[.int .i64 i, .string s] w fun e w' => e = .returned (.bool true) ∧ Below w.heap.size w w' := by
  go_enter Try.func5, Try.ntmps5
  go_wp2_with (go_at_call 8; refine (speaks_any w).mono ?_)
  rintro e w1 ⟨rfl, hb1⟩
  have HB1 := Lib.hid hb1
  clear hb1
  go_wp2_with (first | (go_at_call 23; refine (Read_nil i w1).mono ?_; rintro e w' ⟨rfl, rfl⟩) | (go_at_call 13; refine (Cut_nil i _ _).mono ?_; rintro e w' ⟨rfl, rfl⟩) | (go_at_call 14; refine (Crash_nil _ _).mono ?_; rintro e w' ⟨rfl, rfl⟩) | (go_at_call 16; refine (On_nil _).mono ?_; rintro e w' ⟨rfl, rfl⟩) | (go_at_call 24; refine (Counts_nil _).mono ?_; rintro e w' ⟨rfl, rfl⟩) | (go_at_call 19; refine (Write_nil i s _).mono ?_; rintro e w' ⟨rfl, rfl⟩) | (go_at_call 11; refine (Sync_nil _).mono ?_; rintro e w' ⟨rfl, rfl⟩) | (go_at_call 26; refine (Size_nil _).mono ?_; rintro e w' ⟨rfl, rfl⟩) | (go_at_call 25; refine (Off_nil _).mono ?_; rintro e w' ⟨rfl, rfl⟩))
  refine (Spoil_nil i s _).mono ?_
  rintro e w2 ⟨rfl, hb2⟩
  have HB2 := Lib.hid (show Below w.heap.size w w2 from (HB1.out.alloc HB1.out.size _).trans (hb2.mono (Nat.le_trans HB1.out.size (by show _ ≤ (w'.heap.push _).size; simp))))
  clear hb2
  obtain ⟨c, hc⟩ : ∃ c, bits .and .i64 i 1 = c := ⟨_, rfl⟩
  have hc0 : 0 ≤ c ∧ c ≤ 1 := by rw [← hc]; exact and_one i
  go_wp2_with (first | (go_at_call 26; refine (Size_nil _).mono ?_; rintro e w' ⟨rfl, rfl⟩) | (go_at_call 25; refine (Off_nil _).mono ?_; rintro e w' ⟨rfl, rfl⟩) | (go_at_call 9; refine (NewD 3 _ (by decide) (by decide)).mono ?_))
  rintro e w3 ⟨g, gd, gc, cd, cc, rfl, h3, hb3⟩
  have H3 := Lib.hid h3; have HB3 := Lib.hid (show Below w.heap.size w w3 from HB2.out.trans (hb3.mono HB2.out.size))
  clear h3 hb3
  go_wp2_with (go_at_call 13; refine (CutD_none H3.out c 0).mono ?_)
  rintro e w4 ⟨rfl, h4, f4⟩
  have H4 := Lib.hid h4; have HB4 := Lib.hid (HB3.out.trans (f4.below.mono HB2.out.size))
  clear h4 f4
  have hok : OkS 3 (cutS c [] (newS 3)) := ⟨by decide, by decide, Nat.zero_le _, Nat.zero_le _, Nat.zero_le _, by show 0 ≤ max c 1; omega, by show max c 1 ≤ _; omega⟩
  have hwr : writeS 1 ⟨#[120]⟩ (cutS c [] (newS 3)) = (7, failS [] (newS 3)) := by
    unfold writeS
    rw [nil_cut c hc0.1 hc0.2, nil_cut2 c hc0.1 hc0.2]; rfl
  have hw4 := WriteD H4.out hok 1 ⟨#[120]⟩ (by decide) (by decide)
  rw [hwr] at hw4
  have HW4 := Lib.hid hw4
  clear hw4 hwr hok
  go_wp2_with (go_at_call 19; refine HW4.out.mono ?_)
  rintro e w5 ⟨rfl, vw5, vk5, h5, hv5, f5⟩
  have H5 := Lib.hid (show IsD _ 3 g gd gc cd cc vw5 vk5 (failS [] (newS 3)) w5 from h5); have HB5 := Lib.hid (HB4.out.trans (f5.below.mono HB2.out.size))
  clear h5 f5 hv5
  have hr5 := ReadD H5.out 1
  rw [show readS 3 1 (failS [] (newS 3)) = (⟨#[]⟩, 7) from rfl] at hr5
  have hs5 := SyncD H5.out (((Bd.new 3).fail []).ok (by decide) (by decide) (by decide))
  rw [show syncS (failS [] (newS 3)) = (7, failS [] (newS 3)) from rfl] at hs5
  have HR5 := Lib.hid hr5; have HS5 := Lib.hid hs5
  clear hr5 hs5
  go_wp2_with (first | (go_at_call 23; refine HR5.out.mono ?_; rintro e w' ⟨rfl, rfl⟩) | (go_at_call 11; refine HS5.out.mono ?_))
  rintro e w6 ⟨rfl, vw6, vk6, h6, hv6, f6⟩
  have HO6 := Lib.hid (OffD h6); have HB6 := Lib.hid (HB5.out.trans (f6.below.mono HB2.out.size))
  clear h6 f6 hv6
  go_wp2_with (go_at_call 25; refine HO6.out.mono ?_; rintro e w' ⟨rfl, rfl⟩)
  go_ret
  exact ⟨rfl, HB6.out⟩
end Go.Proofs.Ytppnaajeogkkeaa
