/- Wal, the document's side: Say. -/
import Derived.Test.YtbpaiiljhdohfaaDoorXa
namespace Go.Proofs.YtbpaiiljhdohfaaDoor
open Go.RowKit
variable {B n g gl cl : Nat} {vw vk : Value} {S : DS} {w : World} {t : Nat}

/-- A step of the document's disk. -/
def RStepped (B n g gl cl : Nat) (vw vk : Value) (r : Int × DS) (w : World) (e : Ending) (w' : World) : Prop :=
  e = .returned (.int .i64 r.1) ∧ ∃ vw', IsR B n g gl cl vw' vk r.2 w' ∧ (∀ x, vw'.ownBlock = some x → vw.ownBlock = some x ∨ w.heap.size ≤ x) ∧ FrR B g gl vw w w'
theorem make_one (k : Nat) (s : ByteArray) (S : DS) : makeS [(k, s)] S = if (writeS k s S).1 = 0 then syncS (writeS k s S).2 else writeS k s S := by
  unfold makeS thenS putsS putsS
  by_cases h : (writeS k s S).1 = 0
  · rw [if_pos h]; simp [h]
  · rw [if_neg h]; try simp [h]

set_option maxRecDepth 100000 in
theorem RSay (h : IsR B n g gl cl vw vk S w) (hn0 : 1 ≤ n) (hn : n ≤ 4096) (bd : Bd t S) (ht : t + 3 ≤ 10000000) (hP : ∀ w', Below B w w' → Pend w' vk S) (f : Nat) (z : Int) (s : ByteArray) (hf : f < n) (hs : s.size ≤ 512) :
    Calls Tryd.prog 32 #[.pointer (some ⟨g, 0, none⟩), .agg #[.int .i64 f, .int .i64 z], .string s] w fun e w' => RStepped B n g gl cl vw vk (makeS [(f, s)] S) w e w' := by
  have hb0 : Below w.heap.size w (w.alloc (.cells #[.int .i64 f, .int .i64 z] 32)) := (Below.refl _ _).alloc (Nat.le_refl _) _
  have hBz : B ≤ w.heap.size := by have := h.d.lt; have := h.b1; omega
  have H0 := Lib.hid (h.below hb0); have F0 : Hid (FrR B g gl vw w (w.alloc (.cells #[.int .i64 f, .int .i64 z] 32))) := Lib.hid (FrR.of_below hBz hb0)
  have HP := Lib.hid hP; have HBD := Lib.hid bd
  rw [make_one]
  obtain ⟨p, hp⟩ : ∃ p, writeS f s S = p := ⟨_, rfl⟩
  have HPE := Lib.hid hp
  have hpo : p.1 = 0 ∨ p.1 = 7 := by rw [← hp]; unfold writeS; split <;> simp
  rw [hp]
  obtain ⟨p1, P2⟩ := p
  clear h bd hP hb0 hBz hp
  go_enter Tryd.func32, Tryd.ntmps32
  go_wp2_with (go_at_call 14; refine (RPut H0.out (HBD.out.ok hn0 hn (by omega)) (fun h1 w' hb => HP.out w' (F0.out.below.trans hb) (by rw [h1]; decide)) f s hf hs).mono ?_)
  first | rintro e w1 rfl vw1 h1 hv1 f1 | rintro e w1 ⟨rfl, vw1, h1, hv1, f1⟩
  rw [HPE.out] at h1
  rw [HPE.out]
  have H1 := Lib.hid h1; have F1 := Lib.hid (F0.out.trans f1 (fun x hx => .inl hx)); have HV1 := Lib.hid hv1
  clear h1 f1 hv1
  try dsimp only at hpo
  rcases hpo with rfl | rfl
  · have hb1 : Bd (t + 1) P2 := by have := HBD.out.write f s; rw [HPE.out] at this; exact this
    have hp1 : ∀ w', Below B w w' → Pend w' vk P2 := fun w' hb => by have := (HP.out w' hb).write HBD.out.l0 f s; rw [HPE.out] at this; exact this
    have HB1 := Lib.hid hb1; have HP1 := Lib.hid hp1
    clear hb1 hp1
    go_wp2_with (go_at_call 41; refine (RSync H1.out (HB1.out.ok hn0 hn (by omega)) (fun h1 w' hb => HP1.out w' (F1.out.below.trans hb) (by rw [h1]; decide))).mono ?_)
    first | rintro e w2 rfl vw2 h2 hv2 f2 | rintro e w2 ⟨rfl, vw2, h2, hv2, f2⟩
    have HE : Hid (RStepped B n g gl cl vw vk (syncS P2) w (.returned (.int .i64 (syncS P2).1)) w2) := Lib.hid ⟨rfl, vw2, h2, fun x hx => by
      rcases HV1.out x (hv2 x hx) with h | h
      · exact .inl h
      · exact .inr (by first | omega | exact Nat.le_trans F0.out.size h), F1.out.trans f2 (fun x hx => by
      rcases HV1.out x hx with h | h
      · exact .inl h
      · exact .inr (by first | omega | exact Nat.le_trans F0.out.size h))⟩
    clear h2 hv2 f2
    go_wp2_with fail
    go_ret
    simpa using HE.out
  · have HE : Hid (RStepped B n g gl cl vw vk (7, P2) w (.returned (.int .i64 7)) w1) := Lib.hid ⟨rfl, vw1, H1.out, fun x hx => by
      rcases HV1.out x hx with h | h
      · exact .inl h
      · exact .inr (by first | omega | exact Nat.le_trans F0.out.size h), F1.out⟩
    go_wp2_with fail
    go_ret
    simpa using HE.out
end Go.Proofs.YtbpaiiljhdohfaaDoor
