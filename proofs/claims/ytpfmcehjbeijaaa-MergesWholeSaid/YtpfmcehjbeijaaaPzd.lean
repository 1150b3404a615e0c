/- Merges: Invalid and Good against the plain ones. -/
import Derived.Test.YtpfmcehjbeijaaaPzc
import Derived.Test.YtpfmcehjbeijaaaPzb
namespace Go.Proofs.Ytpfmcehjbeijaaa
open Go.RowKit
variable {w w' : World}

theorem SmP.sum {p : PairB} (h : SmP p) : p.1.size + p.2.size ≤ maxLen := by have := h.1; have := h.2; unfold maxLen; omega
set_option maxHeartbeats 1000000 in
set_option maxRecDepth 100000 in
theorem LInvalid_any (o : Option Addr) (l : List PairB) (cap : Nat) (s : ByteArray) (w : World) (hl : l.length ≤ maxLen) (hi : InAt w o l) (hok : ∀ q ∈ l, SmP q) (hs : s.size ≤ maxLen) :
    Calls Try.prog 6 #[.slice o l.length cap, .string s] w fun e w' => e = .returned (.bool true) ∧ Below w.heap.size w w' := by
  obtain ⟨n, hn⟩ : ∃ n, l.length = n := ⟨_, rfl⟩
  obtain ⟨t, ht⟩ : ∃ t, l.take 60 = t := ⟨_, rfl⟩
  have ht60 : t.length ≤ 60 := by rw [← ht, List.length_take]; omega
  have hokt : ∀ q ∈ t, q.1.size + q.2.size ≤ maxLen := by rw [← ht]; exact fun q hq => (take_sm hok 60 q hq).sum
  have HF := Lib.hid (fun W (hW : Below w.heap.size w W) => ht ▸ hn ▸ front_any o l cap W hl (hi.below hW))
  have HO := Lib.hid hokt
  clear hi hok hokt hl ht
  rw [hn]
  go_enter Try.func6, Try.ntmps6
  go_wp2_with (go_at_call 12; refine (speaks_any w).mono ?_)
  first | rintro e w1 ⟨rfl, hb1⟩ | rintro e w1 rfl hb1
  have HB1 := Lib.hid hb1
  clear hb1
  go_wp2_with (go_at_call 16; refine (HF.out _ HB1.out).mono ?_)
  first | rintro e w2 ⟨o1, c1, o2, c2, rfl, p1, p2, hb2⟩ | rintro e w2 o1 c1 o2 c2 rfl p1 p2 hb2
  have HB2 := Lib.hid (HB1.out.trans (hb2.mono HB1.out.size))
  have HI1 := Lib.hid (Invalid_any o1 t c1 w2 (by omega) p1 HO.out); have HP2 := Lib.hid p2
  clear p1 p2 hb2
  go_wp2_with (go_at_call 17; refine HI1.out.mono ?_)
  first | rintro e w3 ⟨rfl, hb3⟩ | rintro e w3 rfl hb3
  have HI2 := Lib.hid (RInvalid_any o2 t c2 w3 (by omega) (HP2.out.below hb3) HO.out); have HB3 := Lib.hid (HB2.out.trans (hb3.mono HB2.out.size))
  clear hb3
  go_wp2_with (go_at_call 18; refine HI2.out.mono ?_)
  first | rintro e w4 ⟨rfl, hb4⟩ | rintro e w4 rfl hb4
  have HB4 := Lib.hid (HB3.out.trans (hb4.mono HB3.out.size))
  clear hb4
  go_wp2_with (first
    | (go_at_call 19; refine (Good_any s _ hs).mono ?_; rintro e w5 ⟨rfl, hw5⟩; (try subst w5))
    | (go_at_call 20; refine (RGood_any s _ hs).mono ?_; rintro e w5 ⟨rfl, hw5⟩; (try subst w5)))
  go_ret
  exact ⟨by simp, HB4.out⟩
end Go.Proofs.Ytpfmcehjbeijaaa
