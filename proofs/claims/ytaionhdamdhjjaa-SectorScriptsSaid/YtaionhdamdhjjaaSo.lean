/- Sector: begin, Sync, Crash over a disk as data. -/
import Derived.Test.YtaionhdamdhjjaaSn
namespace Go.Proofs.Ytaionhdamdhjjaa
open Go.RowKit
variable {B n g gd gc cd cc : Nat} {vw vk : Value} {S : DS} {w : World}

/-- Bounds that hold along a script. -/
structure OkS (n : Nat) (S : DS) : Prop where
  n0 : 0 < n
  n1 : n ≤ 4096
  ws : S.ws.length ≤ 10000000
  kp : S.kp.length ≤ 17592186044416
  done : S.done ≤ 1000000000
  l0 : 0 ≤ S.left
  l1 : S.left ≤ 9223372036854775807
/-- A command that changes: is it executed, and the disk. -/
def begS (S : DS) : Bool × DS := if S.off = true then (false, S) else if S.left = 1 then (false, failS S.kp S) else (true, { S with done := S.done + 1, left := max (S.left - 1) 0 })
theorem IsD.keepArg (h : IsD B n g gd gc cd cc vw vk S w) : KeepArg vk S.kp vw w := by
  rcases h.vk.2 with ⟨h1, h2⟩ | ⟨x, cap, cur, h1, h2, h3, h4⟩
  · exact .inl ⟨List.length_eq_zero_iff.1 h2, _, _, h1⟩
  · by_cases h0 : 0 < S.kp.length
    · refine .inr ⟨x, 0, cap, h1, h0, (h.kg (by rw [h1]; rfl)).2.2.2, fun j hj => ?_⟩
      have := h.vk.cells (g := x) (by rw [h1]; rfl) j (.int .i64 (S.kp.getD j 0)) (by rw [List.getElem?_map, List.getD_eq_getElem?_getD, List.getElem?_eq_getElem hj]; rfl)
      rw [addr_at] at this
      rw [Nat.zero_add]; exact this
    · have : S.kp = [] := by
        cases hs : S.kp with
        | nil => rfl
        | cons a b => rw [hs] at h0; simp at h0
      exact .inl ⟨this, some ⟨x, 0, none⟩, cap, by rw [h1, this]; rfl⟩
theorem beginD (h : IsD B n g gd gc cd cc vw vk S w) (ok : OkS n S) :
    Calls Try.prog 26 #[.pointer (some ⟨g, 0, none⟩)] w fun e w' => e = .returned (.bool (begS S).1) ∧ ∃ vw' vk', IsD B n g gd gc cd cc vw' vk' (begS S).2 w' ∧ (∀ x, vw'.ownBlock = some x → vw.ownBlock = some x) ∧ FrD B g gd gc vw w w' := by
  cases ho : S.off
  · by_cases hl : S.left = 1
    · have e0 : begS S = (false, failS S.kp S) := by unfold begS; rw [if_neg (by rw [ho]; decide), if_pos hl]
      rw [e0]
      have c6 := h.d.c6
      have c4 := h.d.c4
      have c5 := h.d.c5
      rw [ho] at c6
      rw [hl] at c4
      have HF := Lib.hid (failD h vk S.kp (Nat.le_trans ok.kp (by decide)) h.keepArg ok.n0 ok.n1 (Nat.le_trans ok.ws (by decide)))
      clear h ok e0
      go_enter Try.func26, Try.ntmps26
      go_wp2_with (go_at_call 30; refine HF.out.mono ?_)
      rintro e w1 ⟨rfl, h1, f1⟩
      have H1 := Lib.hid h1; have F1 := Lib.hid f1
      clear h1 f1
      go_wp2_with fail
      go_ret
      exact ⟨rfl, _, _, H1.out, fun x hx => by (cases hx), F1.out⟩
    · have e0 : begS S = (true, { S with done := S.done + 1, left := max (S.left - 1) 0 }) := by unfold begS; rw [if_neg (by rw [ho]; decide), if_neg hl]
      rw [e0]
      have hd := h.d
      rw [ho] at hd
      refine (begin_go2 g _ _ _ _ _ _ w hd hl ok.l0 ok.l1 (Int.natCast_nonneg _) (by have := ok.done; omega)).mono ?_
      rintro e w1 ⟨rfl, h1, hb, hs, hz⟩
      have hK : Kept2 B g g w w1 := ⟨hb.mono h.b1, Nat.le_of_eq hz.symm, fun b _ h1 _ => hs b h1⟩
      obtain ⟨r1, r2, r3, r4, r5⟩ := h.disk hK
      refine ⟨rfl, vw, vk, ⟨?_, r2, r3, h.ld, h.lc, r4, h.wb, r5, h.ne, h.b1, h.b2, h.b3⟩, fun x hx => hx, r1⟩
      have : DiskAt g (.slice (some ⟨gd, 0, none⟩) n cd) (.slice (some ⟨gc, 0, none⟩) n cc) vw ((S.done + 1 : Nat) : Int) (max (S.left - 1) 0) vk false w1 := by rw [Int.natCast_succ]; exact h1
      exact ho ▸ this
  · have e0 : begS S = (false, S) := by unfold begS; rw [if_pos ho]
    rw [e0]
    have hd := h.d
    rw [ho] at hd
    refine (begin_off g _ _ _ _ _ _ w hd).mono ?_
    rintro e w1 ⟨rfl, rfl⟩
    exact ⟨rfl, vw, vk, h, fun x hx => hx, FrD.refl _ _ _ _ _ _⟩
/-- Sync. -/
def syncS (S : DS) : Int × DS := if (begS S).1 = true then (0, { (begS S).2 with dur := putW (begS S).2.dur (begS S).2.ws, ws := [] }) else (7, (begS S).2)
theorem begS_ws (S : DS) : (begS S).2.ws.length ≤ S.ws.length := by
  unfold begS
  split
  · exact Nat.le_refl _
  · split
    · exact Nat.zero_le _
    · exact Nat.le_refl _
theorem SyncD (h : IsD B n g gd gc cd cc vw vk S w) (ok : OkS n S) :
    Calls Try.prog 8 #[.pointer (some ⟨g, 0, none⟩)] w fun e w' => e = .returned (.int .i64 (syncS S).1) ∧ ∃ vw' vk', IsD B n g gd gc cd cc vw' vk' (syncS S).2 w' ∧ (∀ x, vw'.ownBlock = some x → vw.ownBlock = some x) ∧ FrD B g gd gc vw w w' := by
  have HB := Lib.hid (beginD h ok)
  have hws := Lib.hid (Nat.le_trans (begS_ws S) ok.ws)
  have hn1 := Lib.hid ok.n1
  clear h ok
  cases hb : (begS S).1
  · have e0 : syncS S = (7, (begS S).2) := by unfold syncS; rw [if_neg (by rw [hb]; decide)]
    rw [e0]
    rw [hb] at HB
    go_enter Try.func8, Try.ntmps8
    go_wp2_with (go_at_call 26; refine HB.out.mono ?_)
    rintro e w1 ⟨rfl, hr⟩
    have HR := Lib.hid hr
    clear hr
    go_wp2_with fail
    go_ret
    exact ⟨rfl, HR.out⟩
  · have e0 : syncS S = (0, { (begS S).2 with dur := putW (begS S).2.dur (begS S).2.ws, ws := [] }) := by unfold syncS; rw [if_pos hb]
    rw [e0]
    rw [hb] at HB
    go_enter Try.func8, Try.ntmps8
    go_wp2_with (go_at_call 26; refine HB.out.mono ?_)
    rintro e w1 rfl vw1 vk1 h1 hv1 f1
    have H1 := Lib.hid h1; have F1 := Lib.hid f1; have V1 := Lib.hid hv1
    clear h1 f1 hv1
    go_wp2_with (go_at_call 27; refine (settleD H1.out (Nat.le_trans hws.out (by decide)) hn1.out).mono ?_)
    rintro e w2 ⟨rfl, h2, f2⟩
    have H2 := Lib.hid h2; have F2 := Lib.hid (F1.out.trans f2 (fun x hx => .inl (V1.out x hx)))
    clear h2 f2
    go_wp2_with fail
    go_ret
    exact ⟨rfl, _, _, H2.out, fun x hx => by (cases hx), F2.out⟩
/-- Crash. -/
def crashS (zs : List Int) (S : DS) : DS := { failS zs S with off := false }
theorem CrashD (h : IsD B n g gd gc cd cc vw vk S w) (ok : OkS n S) (ka : Value) (zs : List Int) (hz : zs.length ≤ 100000000000000) (hk : KeepArg ka zs vw w) :
    Calls Try.prog 11 #[.pointer (some ⟨g, 0, none⟩), ka] w fun e w' => e = .returned (.tuple #[]) ∧ IsD B n g gd gc cd cc (.slice none 0 0) (.slice none 0 0) (crashS zs S) w' ∧ FrD B g gd gc vw w w' := by
  have HF := Lib.hid (failD h ka zs hz hk ok.n0 ok.n1 (Nat.le_trans ok.ws (by decide)))
  clear h ok hk
  go_enter Try.func11, Try.ntmps11
  go_wp2_with (go_at_call 30; refine HF.out.mono ?_)
  rintro e w1 ⟨rfl, h1, f1⟩
  have H1 := Lib.hid h1; have F1 := Lib.hid f1
  clear h1 f1 HF
  go_wp2_with (go_at_call 13; refine (On2 (B := B) _ _ _ _ _ _ _ H1.out.d H1.out.b1).mono ?_)
  rintro e w2 ⟨rfl, h2, hK⟩
  obtain ⟨r1, r2, r3, r4, r5⟩ := H1.out.disk hK
  have hend := Lib.hid (show IsD B n g gd gc cd cc (.slice none 0 0) (.slice none 0 0) (crashS zs S) w2 ∧ FrD B g gd gc vw w w2 from ⟨⟨h2, r2, r3, H1.out.ld, H1.out.lc, r4, H1.out.wb, World.ownsRow_nil _ _ _ _, H1.out.ne, H1.out.b1, H1.out.b2, H1.out.b3⟩, F1.out.trans r1 (fun x hx => by (cases hx))⟩)
  clear h2 hK r1 r2 r3 r4 r5
  go_wp2_with fail
  go_end0
  exact ⟨rfl, hend.out.1, hend.out.2⟩
end Go.Proofs.Ytaionhdamdhjjaa
