/- Wal: apply. -/
import Derived.Test.YtbpaiiljhdohfaaDoorWf
namespace Go.Proofs.YtbpaiiljhdohfaaDoor
open Go.RowKit
variable {B n g gd gc cd cc l f m t : Nat} {vw vk : Value} {S : DS} {w : World}

theorem one_row (k : Nat) (s : ByteArray) : ChRow (w.alloc (.cells #[.int .i64 k, .string s] 55)) (.slice (some ⟨w.heap.size, 0, none⟩) 1 1) (intC [(k, s)]) := by
  refine ⟨rfl, .inr ⟨w.heap.size, 1, _, rfl, Nat.zero_le _, heap_alloc_new w _, Nat.le_refl _, by unfold maxLen; decide, rfl, rfl⟩⟩
theorem applyS_eq (f : Nat) (x : List (Nat × ByteArray)) (S : DS) : applyS f x S = thenS (makeS x S) (makeS [(f, ⟨#[]⟩)]) := rfl
/-- A world between, and a further step. -/
theorem Stepped.after {r : Int × DS} {vw1 : Value} {w1 : World} {e : Ending} {w' : World} (hv : ∀ y, vw1.ownBlock = some y → vw.ownBlock = some y ∨ w.heap.size ≤ y) (fr : FrD B g gd gc vw w w1) (h : Stepped B n g gd gc cd cc vw1 r w1 e w') : Stepped B n g gd gc cd cc vw r w e w' := by
  obtain ⟨h1, vw', vk', h2, h3, h4⟩ := h
  refine ⟨h1, vw', vk', h2, fun y hy => ?_, fr.trans h4 hv⟩
  rcases h3 y hy with h | h
  · exact hv y h
  · exact .inr (Nat.le_trans fr.size h)
set_option maxHeartbeats 2000000 in
set_option maxRecDepth 100000 in
theorem apply_any (hL : LogAt l g f m w) (hI : IsD B n g gd gc cd cc vw vk S w) (hf : f < n) (hn : n ≤ 4096) (bd : Bd t S) (v : Value) (x : List (Nat × ByteArray)) (hx : ChRow w v (intC x)) (hk : ∀ c ∈ x, c.1 < n ∧ c.2.size ≤ 512) (ht : t + x.length + 3 ≤ 10000000) :
    Calls Tryd.prog 26 #[.pointer (some ⟨l, 0, none⟩), v] w (Stepped B n g gd gc cd cc vw (applyS f x S) w) := by
  have HS := Lib.hid (store_any hL hI (by omega) hn bd v x hx hk (by omega))
  have HL := Lib.hid hL; have HI := Lib.hid hI; have HB := Lib.hid bd
  obtain ⟨ox, k, cx, hv⟩ : ∃ ox k cx, v = .slice ox k cx := by obtain ⟨ox, cx, hv, _⟩ := hx.opened; exact ⟨_, _, _, hv⟩
  subst hv
  clear hL hI bd hx hk
  go_enter Tryd.func26, Tryd.ntmps26
  go_wp2_with (go_at_call 48; refine HS.out.mono ?_)
  rintro e w1 ⟨rfl, va, ka, h1, hv1, f1⟩
  have HI1 := Lib.hid h1; have HV1 := Lib.hid hv1; have HF1 := Lib.hid f1
  clear h1 hv1 f1 HS
  rcases makeS_err x S with he | he
  · have hL1 := HL.out.disk HI.out HF1.out
    have c1 := hL1.c1
    have hL2 : LogAt l g f m (w1.alloc (.cells #[.int .i64 f, .string ⟨#[]⟩] 55)) := hL1.below ((Below.refl _ _).alloc (Nat.le_refl _) _)
    have hS2 := store_any hL2 (HI1.out.below ((Below.refl _ _).alloc (Nat.le_refl _) _)) (by omega) hn (HB.out.make x) _ [(f, ⟨#[]⟩)] (one_row f _) (fun c hc => by simp at hc; subst hc; exact ⟨hf, Nat.zero_le _⟩) (by simp; omega)
    have HS2 := Lib.hid hS2
    have HFA := Lib.hid (FrD.alloc HI1.out (.cells #[.int .i64 f, .string ⟨#[]⟩] 55))
    rw [he]
    clear hL1 hL2 hS2
    go_wp2_with (go_at_call 48; refine HS2.out.mono ?_)
    intro e w3 h3
    have hend := Lib.hid ((h3.after (fun y hy => .inl hy) HFA.out).after HV1.out HF1.out)
    rw [show makeS [(f, ⟨#[]⟩)] (makeS x S).2 = applyS f x S from (thenS_ok _ he).symm] at hend
    obtain ⟨rfl, hr⟩ := hend.out
    clear h3
    go_wp2_with fail
    go_ret
    exact hend.out
  · have hend : Hid (Stepped B n g gd gc cd cc vw (applyS f x S) w (.returned (.int .i64 7)) w1) := Lib.hid (by
      rw [applyS_eq, thenS_no _ (by rw [he]; decide)]
      exact ⟨by rw [he], va, ka, HI1.out, HV1.out, HF1.out⟩)
    rw [he]
    go_wp2_with fail
    go_ret
    exact hend.out
end Go.Proofs.YtbpaiiljhdohfaaDoor
