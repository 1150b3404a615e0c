/- Sector: settle without writes; Sync; Cut with choices. -/
import Derived.Test.YtaionhdamdhjjaaSe
namespace Go.Proofs.Ytaionhdamdhjjaa
open Go.RowKit

theorem settle_nil (B g gd : Nat) (cw : Nat) (o : Option Addr) (du cu : Value) (done left : Int) (kp : Value) (off : Bool) (w : World) (h : DiskAt g du cu (.slice o 0 cw) done left kp off w) (hB1 : B ≤ g) :
    Calls Try.prog 27 #[.pointer (some ⟨g, 0, none⟩)] w fun e w' => e = .returned (.tuple #[]) ∧ DiskAt g du cu (.slice none 0 0) done left kp off w' ∧ Kept2 B g gd w w' := by
  have c2 := h.c2
  have f2 := h.free 2
  have hD2 : DiskAt g du cu (.slice none 0 0) done left kp off (w.setCell ⟨g, 2, none⟩ (.slice none 0 0)) := h.set 2 _
  have HD2 := Lib.hid hD2
  clear hD2 h
  go_enter Try.func27, Try.ntmps27
  go_wp2_with fail
  go_loopw [9] (fun i wr => i = .int .i64 0 ∧ wr = w) (fun i _ => 0)
  case atStart => exact ⟨rfl, rfl⟩
  case round =>
    obtain ⟨rfl, rfl⟩ := hrel
    go_wp2_with fail
    go_end0
    exact ⟨rfl, HD2.out, (Kept2.refl B g gd wr).setg hB1 2 _⟩
theorem Kept2.trans {B g gd : Nat} {a b c : World} (h : Kept2 B g gd a b) (h' : Kept2 B g gd b c) : Kept2 B g gd a c :=
  ⟨h.1.trans h'.1, Nat.le_trans h.2.1 h'.2.1, fun x hx h1 h2 => (h'.2.2 x (Nat.lt_of_lt_of_le hx h.2.1) h1 h2).trans (h.2.2 x hx h1 h2)⟩
theorem begin_go2 (g : Nat) (du cu wr : Value) (done left : Int) (kp : Value) (w : World) (h : DiskAt g du cu wr done left kp false w) (hl : left ≠ 1) (hl0 : 0 ≤ left) (hl1 : left ≤ 9223372036854775807) (hd0 : 0 ≤ done) (hd1 : done < 9223372036854775807) :
    Calls Try.prog 26 #[.pointer (some ⟨g, 0, none⟩)] w fun e w' => e = .returned (.bool true) ∧ DiskAt g du cu wr (done + 1) (max (left - 1) 0) kp false w' ∧ Below g w w' ∧ (∀ b, b ≠ g → w'.heap[b]? = w.heap[b]?) ∧ w'.heap.size = w.heap.size := by
  have c6 := h.c6
  have c4 := h.c4
  have f4 := h.free 4
  have hne : (left == 1) = false := beq_eq_false_iff_ne.2 hl
  have hw : IntKind.i64.wrap (left - 1) = left - 1 := IntWalk.i64_in _ (by omega)
  have h1 : DiskAt g du cu wr done (max (left - 1) 0) kp false (w.setCell ⟨g, 4, none⟩ (.int .i64 (max (left - 1) 0))) := h.set 4 _
  have H1 := Lib.hid h1
  have HD := Lib.hid hd1
  have HH := Lib.hid h
  clear h1 hd1 h
  go_enter Try.func26, Try.ntmps26
  go_wp2_with (go_at_call 46; refine (Add_any g done _ H1.out.c3 (H1.out.free 3) hd0 HD.out).mono ?_)
  rintro e w' ⟨rfl, rfl⟩
  have h2 : DiskAt g du cu wr (done + 1) (max (left - 1) 0) kp false ((w.setCell ⟨g, 4, none⟩ (.int .i64 (max (left - 1) 0))).setCell ⟨g, 3, none⟩ (.int .i64 (done + 1))) := H1.out.set 3 _
  have H2 := Lib.hid h2
  clear h2
  go_wp2_with fail
  go_ret
  refine ⟨rfl, H2.out, ((Below.refl g w).setCell (p := ⟨g, 4, none⟩) (Nat.le_refl g) _).setCell (p := ⟨g, 3, none⟩) (Nat.le_refl g) _, fun b hb => ?_, ?_⟩
  · exact (Below.heap_setCell _ _ _ _ (by show b ≠ g; exact hb)).trans (Below.heap_setCell _ _ _ _ (by show b ≠ g; exact hb))
  · have e1 : ∀ (w : World) (i : Nat) (v : Value), (w.setCell ⟨g, i, none⟩ v).heap.size = w.heap.size := fun w i v => by
      show (w.heap.modify g _).size = _
      rw [Array.size_modify]
    rw [e1, e1]
theorem Sync_go (B g gd gw n m cd cw : Nat) (l : List ByteArray) (ws : List (Nat × ByteArray)) (cu : Value) (done left : Int) (kp : Value) (w : World) (h : DiskAt g (.slice (some ⟨gd, 0, none⟩) n cd) cu (.slice (some ⟨gw, 0, none⟩) m cw) done left kp false w) (hd : RowS gd l w) (hl : l.length = n) (hw : WrAt gw ws w) (hm : ws.length = m) (hgw : gw < w.heap.size) (hb : ∀ p ∈ ws, p.1 < n) (h1 : g ≠ gd) (h2 : gw ≠ gd) (h3 : gw ≠ g) (hB1 : B ≤ g) (hB2 : B ≤ gd) (hn : n ≤ 4096) (hmm : m ≤ 100000000)
    (hle : left ≠ 1) (hl0 : 0 ≤ left) (hl1 : left ≤ 9223372036854775807) (hd0 : 0 ≤ done) (hd1 : done < 9223372036854775807) :
    Calls Try.prog 8 #[.pointer (some ⟨g, 0, none⟩)] w fun e w' => e = .returned (.int .i64 0) ∧ DiskAt g (.slice (some ⟨gd, 0, none⟩) n cd) cu (.slice none 0 0) (done + 1) (max (left - 1) 0) kp false w' ∧ RowS gd (putW l ws) w' ∧ Kept2 B g gd w w' := by
  have HH := Lib.hid h; have HL := Lib.hid hl; have HM := Lib.hid hm; have HW := Lib.hid hw; have HB := Lib.hid hb; have HR := Lib.hid hd; have HG := Lib.hid hgw
  have H0 := Lib.hid hd0; have H1 := Lib.hid hd1; have H2 := Lib.hid hl0; have H3 := Lib.hid hl1; have H4 := Lib.hid hn; have H5 := Lib.hid hmm
  clear h hl hm hw hb hd hgw hd0 hd1 hl0 hl1 hn hmm
  go_enter Try.func8, Try.ntmps8
  go_wp2_with (go_at_call 26; refine (begin_go2 g _ cu _ done left kp w HH.out hle H2.out H3.out H0.out H1.out).mono ?_)
  rintro e w1 ⟨rfl, hD1, hb1, hs1, hz⟩
  have hR1 : RowS gd l w1 := HR.out.same (hs1 gd (Ne.symm h1))
  have hW1 : WrAt gw ws w1 := fun j p hp => by
    have hbk : ∀ c, (w1.cell? ⟨gw, c, none⟩ = w.cell? ⟨gw, c, none⟩) := fun c => by unfold World.cell?; simp only [hs1 gw h3]
    rw [hbk, hbk]; exact HW.out j p hp
  have hz1 : w.heap.size ≤ w1.heap.size := Nat.le_of_eq hz.symm
  have K1 : Kept2 B g gd w w1 := ⟨hb1.mono hB1, hz1, fun b _ hb2 _ => hs1 b hb2⟩
  have HK1 := Lib.hid K1; have HR1 := Lib.hid hR1; have HW1 := Lib.hid hW1; have HD1 := Lib.hid hD1; have HZ1 := Lib.hid (Nat.lt_of_lt_of_le HG.out hz1)
  clear K1 hR1 hW1 hD1 hz1 hb1 hs1 hz
  go_wp2_with (go_at_call 27; refine (settle_any B g gd gw n m cd cw l ws cu (done + 1) _ kp false w1 HD1.out HR1.out HL.out HW1.out HM.out HZ1.out HB.out h1 h2 h3 hB1 hB2 H4.out H5.out).mono ?_)
  rintro e w2 ⟨rfl, hD2, hR2, hK2⟩
  have HD2 := Lib.hid hD2; have HR2 := Lib.hid hR2; have HK2 := Lib.hid (HK1.out.trans hK2)
  clear hD2 hR2 hK2
  go_wp2_with fail
  go_ret
  exact ⟨rfl, HD2.out, HR2.out, HK2.out⟩
end Go.Proofs.Ytaionhdamdhjjaa
