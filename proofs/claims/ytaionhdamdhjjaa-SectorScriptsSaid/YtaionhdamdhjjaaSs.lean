/- Sector: calls on no disk; Read, Cut, On, Counts over a disk as data; bounds. -/
import Derived.Test.YtaionhdamdhjjaaSr
namespace Go.Proofs.Ytaionhdamdhjjaa
open Go.RowKit
variable {B n g gd gc cd cc : Nat} {vw vk : Value} {S : DS} {w : World}

theorem has_nil (i : Int) (w : World) :
    Calls Try.prog 43 #[.pointer none, .int .i64 i] w fun e w' => e = .returned (.bool false) ∧ w' = w := by
  by_cases h0 : 0 ≤ i
  · have hd : decide (0 ≤ i) = true := decide_eq_true h0
    go_enter Try.func43, Try.ntmps43
    go_wp2_with (go_at_call 37; refine (Size_nil w).mono ?_)
    rintro e w' ⟨rfl, rfl⟩
    go_wp2_with fail
    go_ret
    simp; omega
  · have hd : decide (0 ≤ i) = false := decide_eq_false h0
    go_enter Try.func43, Try.ntmps43
    go_wp2_with fail
    go_ret
    simp
theorem fits_nil (i : Int) (s : ByteArray) (w : World) :
    Calls Try.prog 32 #[.pointer none, .int .i64 i, .string s] w fun e w' => e = .returned (.bool false) ∧ w' = w := by
  go_enter Try.func32, Try.ntmps32
  go_wp2_with (go_at_call 43; refine (has_nil i w).mono ?_)
  rintro e w' ⟨rfl, rfl⟩
  go_wp2_with fail
  go_ret
  exact ⟨rfl, rfl⟩
theorem Read_nil (i : Int) (w : World) :
    Calls Try.prog 21 #[.pointer none, .int .i64 i] w fun e w' => e = .returned (.tuple #[.string ⟨#[]⟩, .int .i64 1]) ∧ w' = w := by
  go_enter Try.func21, Try.ntmps21
  go_wp2_with (go_at_call 43; refine (has_nil i w).mono ?_)
  rintro e w' ⟨rfl, rfl⟩
  go_wp2_with fail
  go_ret2
  exact ⟨rfl, rfl⟩
theorem Write_nil (i : Int) (s : ByteArray) (w : World) :
    Calls Try.prog 16 #[.pointer none, .int .i64 i, .string s] w fun e w' => e = .returned (.int .i64 1) ∧ w' = w := by
  go_enter Try.func16, Try.ntmps16
  go_wp2_with (go_at_call 32; refine (fits_nil i s w).mono ?_)
  rintro e w' ⟨rfl, rfl⟩
  go_wp2_with fail
  go_ret
  exact ⟨rfl, rfl⟩
theorem Spoil_nil (i : Int) (s : ByteArray) (w : World) :
    Calls Try.prog 14 #[.pointer none, .int .i64 i, .string s] w fun e w' => e = .returned (.int .i64 1) ∧ Below w.heap.size w w' := by
  go_enter Try.func14, Try.ntmps14
  go_wp2_with (go_at_call 32; refine (fits_nil i s _).mono ?_)
  rintro e w' ⟨rfl, rfl⟩
  go_wp2_with fail
  go_ret
  exact ⟨rfl, (Below.refl _ _).alloc (Nat.le_refl _) _⟩
theorem Counts_nil (w : World) :
    Calls Try.prog 35 #[.pointer none] w fun e w' => e = .returned (.tuple #[.int .i64 0, .int .i64 0]) ∧ w' = w := by
  go_enter Try.func35, Try.ntmps35
  go_wp2_with fail
  go_ret2
  exact ⟨rfl, rfl⟩
/-- What is read. -/
def readS (n : Nat) (i : Int) (S : DS) : ByteArray × Int := if 0 ≤ i ∧ i < n then (if S.off = true then (⟨#[]⟩, 7) else (S.cur.getD i.toNat ⟨#[]⟩, 0)) else (⟨#[]⟩, 1)
theorem ReadD (h : IsD B n g gd gc cd cc vw vk S w) (i : Int) :
    Calls Try.prog 21 #[.pointer (some ⟨g, 0, none⟩), .int .i64 i] w fun e w' => e = .returned (.tuple #[.string (readS n i S).1, .int .i64 (readS n i S).2]) ∧ w' = w := by
  by_cases hi : 0 ≤ i ∧ i < n
  · have hd := h.d
    cases ho : S.off
    · obtain ⟨k, rfl⟩ : ∃ k : Nat, i = k := ⟨i.toNat, by omega⟩
      have hk : k < n := by omega
      obtain ⟨x, hx⟩ : ∃ x, S.cur[k]? = some x := ⟨_, List.getElem?_eq_getElem (by rw [h.lc]; exact hk)⟩
      have e0 : readS n k S = (x, 0) := by
        unfold readS
        rw [if_pos hi, if_neg (by rw [ho]; decide), Int.toNat_natCast, List.getD_eq_getElem?_getD, hx]; rfl
      rw [e0]
      rw [ho] at hd
      exact Read_any g n cd gc cc _ _ _ _ _ k k x w hd rfl hk (h.rc.cell k x hx)
    · have e0 : readS n i S = (⟨#[]⟩, 7) := by unfold readS; rw [if_pos hi, if_pos ho]
      rw [e0]
      rw [ho] at hd
      exact Read_off g n cd _ _ _ _ _ _ i w hd hi
  · have e0 : readS n i S = (⟨#[]⟩, 1) := by unfold readS; rw [if_neg hi]
    rw [e0]
    exact Read_bad g n cd _ _ _ _ _ _ _ i w h.d hi
theorem OnD (h : IsD B n g gd gc cd cc vw vk S w) :
    Calls Try.prog 13 #[.pointer (some ⟨g, 0, none⟩)] w fun e w' => e = .returned (.tuple #[]) ∧ IsD B n g gd gc cd cc vw (.slice none 0 0) { S with left := 0, kp := [], off := false } w' ∧ FrD B g gd gc vw w w' := by
  refine (On2 (B := B) _ _ _ _ _ _ _ h.d h.b1).mono ?_
  rintro e w2 ⟨rfl, h2, hK⟩
  obtain ⟨r1, r2, r3, r4, r5⟩ := h.disk hK
  exact ⟨rfl, ⟨h2, r2, r3, h.ld, h.lc, r4, h.wb, World.ownsRow_nil _ _ _ _, h.ne, h.b1, h.b2, h.b3⟩, r1⟩
theorem CountsD (h : IsD B n g gd gc cd cc vw vk S w) :
    Calls Try.prog 35 #[.pointer (some ⟨g, 0, none⟩)] w fun e w' => e = .returned (.tuple #[.int .i64 S.done, .int .i64 S.ws.length]) ∧ Below w.heap.size w w' := by
  obtain ⟨o, cap, rfl⟩ : ∃ o cap, vw = .slice o S.ws.length cap := by
    rcases h.vw.2 with ⟨h1, h2⟩ | ⟨x, cap, cur, h1, _⟩
    · exact ⟨none, 0, by rw [h1, h2]⟩
    · exact ⟨_, _, h1⟩
  exact Counts_any g _ _ _ _ _ _ _ _ _ w h.d
/-- A pending cut. -/
def cutS (n : Int) (zs : List Int) (S : DS) : DS := { S with left := max n 1, kp := zs }
theorem CutD_none (h : IsD B n g gd gc cd cc vw vk S w) (i : Int) (cx : Nat) :
    Calls Try.prog 10 #[.pointer (some ⟨g, 0, none⟩), .int .i64 i, .slice none 0 cx] w fun e w' => e = .returned (.tuple #[]) ∧ IsD B n g gd gc cd cc vw (.slice none 0 0) (cutS i [] S) w' ∧ FrD B g gd gc vw w w' := by
  have f4 := h.d.free 4
  have f5 := h.d.free 5
  have c4 := h.d.c4
  have c5 := h.d.c5
  have HH := Lib.hid h
  clear h
  go_enter Try.func10, Try.ntmps10
  go_wp2_with (go_at_call 29; refine (Try.slices_Clone_int_nil 0 cx w).mono ?_)
  rintro e w' ⟨rfl, rfl⟩
  go_wp2_with fail
  go_end0
  have hK : Kept2 B g g w' ((w'.setCell ⟨g, 4, none⟩ (.int .i64 (max i 1))).setCell ⟨g, 5, none⟩ (.slice none 0 0)) := ((Kept2.refl B g g w').setg HH.out.b1 4 _).setg HH.out.b1 5 _
  have h2 : DiskAt g (.slice (some ⟨gd, 0, none⟩) n cd) (.slice (some ⟨gc, 0, none⟩) n cc) vw S.done (max i 1) vk S.off (w'.setCell ⟨g, 4, none⟩ (.int .i64 (max i 1))) := HH.out.d.set 4 _
  obtain ⟨r1, r2, r3, r4, r5⟩ := HH.out.disk hK
  exact ⟨rfl, ⟨h2.set 5 (.slice none 0 0), r2, r3, HH.out.ld, HH.out.lc, r4, HH.out.wb, World.ownsRow_nil _ _ _ _, HH.out.ne, HH.out.b1, HH.out.b2, HH.out.b3⟩, r1⟩
/-- Bounds behind t commands. -/
structure Bd (t : Nat) (S : DS) : Prop where
  ws : S.ws.length ≤ t
  kp : S.kp.length ≤ 17592186044416
  done : S.done ≤ t
  l0 : 0 ≤ S.left
  l1 : S.left ≤ 9223372036854775807
theorem Bd.ok {t : Nat} (h : Bd t S) (n0 : 1 ≤ n) (n1 : n ≤ 4096) (ht : t ≤ 10000000) : OkS n S := ⟨n0, n1, Nat.le_trans h.ws ht, h.kp, by have := h.done; omega, h.l0, h.l1⟩
theorem Bd.fail {t : Nat} (h : Bd t S) (zs : List Int) : Bd t (failS zs S) := ⟨Nat.zero_le _, Nat.zero_le _, h.done, Int.le_refl 0, by show (0 : Int) ≤ _; omega⟩
theorem Bd.crash {t : Nat} (h : Bd t S) (zs : List Int) : Bd t (crashS zs S) := ⟨Nat.zero_le _, Nat.zero_le _, h.done, Int.le_refl 0, by show (0 : Int) ≤ _; omega⟩
theorem Bd.beg {t : Nat} (h : Bd t S) : Bd (t + 1) (begS S).2 ∧ (begS S).2.ws.length ≤ t := by
  have h1 := h.ws; have h2 := h.done; have h3 := h.l0; have h4 := h.l1
  unfold begS
  split
  · exact ⟨⟨by show S.ws.length ≤ _; omega, h.kp, by show S.done ≤ _; omega, h.l0, h.l1⟩, h1⟩
  · split
    · exact ⟨⟨Nat.zero_le _, Nat.zero_le _, by show S.done ≤ _; omega, Int.le_refl 0, by show (0 : Int) ≤ _; omega⟩, Nat.zero_le _⟩
    · exact ⟨⟨by show S.ws.length ≤ _; omega, h.kp, by show S.done + 1 ≤ _; omega, by show 0 ≤ max (S.left - 1) 0; omega, by show max (S.left - 1) 0 ≤ _; omega⟩, h1⟩
theorem Bd.write {t : Nat} (h : Bd t S) (k : Nat) (s : ByteArray) : Bd (t + 1) (writeS k s S).2 := by
  obtain ⟨h1, h2⟩ := h.beg
  unfold writeS
  split
  · exact ⟨by show (_ ++ [_]).length ≤ _; rw [List.length_append, List.length_singleton]; omega, h1.kp, h1.done, h1.l0, h1.l1⟩
  · exact h1
theorem Bd.sync {t : Nat} (h : Bd t S) : Bd (t + 1) (syncS S).2 := by
  obtain ⟨h1, h2⟩ := h.beg
  unfold syncS
  split
  · exact ⟨Nat.zero_le _, h1.kp, h1.done, h1.l0, h1.l1⟩
  · exact h1
theorem Bd.new (n : Nat) : Bd 0 (newS n) := ⟨Nat.le_refl 0, Nat.zero_le _, Nat.le_refl 0, Int.le_refl 0, by show (0 : Int) ≤ _; omega⟩
theorem padB_size (s : ByteArray) (h : s.size ≤ 512) : (padB s).size = 512 := by
  unfold padB
  rw [ByteArray.size_append]
  have : ByteArray.size ⟨(Lib.repeatL [0] (512 - s.size)).toArray⟩ = 512 - s.size := by
    show ((Lib.repeatL [0] (512 - s.size)).toArray).size = _
    rw [List.size_toArray, Lib.repeatL_length]; simp
  omega
end Go.Proofs.Ytaionhdamdhjjaa
