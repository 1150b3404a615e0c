/- Sector: Cut with choices. -/
import Derived.Test.YtaionhdamdhjjaaSf
namespace Go.Proofs.Ytaionhdamdhjjaa
open Go.RowKit

theorem own_setCell {w : World} {B e size n g i : Nat} {v u : Value} {xs : List Value} (h : w.ownsRow B e size v n xs) (hg : g < B) : (w.setCell ⟨g, i, none⟩ u).ownsRow B e size v n xs := by
  refine ⟨h.1, ?_⟩
  rcases h.2 with hv | ⟨g', cap, cur, hv, hB, hg', r⟩
  · exact .inl hv
  · exact .inr ⟨g', cap, cur, hv, hB, (Below.heap_setCell _ _ _ _ (by show g' ≠ g; omega)).trans hg', r⟩
theorem Cut_some (g b o kn kc : Nat) (zs : List Int) (du cu wr : Value) (done left : Int) (kp : Value) (off : Bool) (n : Int) (w : World) (h : DiskAt g du cu wr done left kp off w) (hz : kn ≤ zs.length) (hbig : kn * 8 ≤ 140737488355328) (hc : ∀ j, j < zs.length → w.cell? ⟨b, o + j, none⟩ = some (.int .i64 (zs.getD j 0))) :
    Calls Try.prog 10 #[.pointer (some ⟨g, 0, none⟩), .int .i64 n, .slice (some ⟨b, o, none⟩) kn kc] w fun e w' => e = .returned (.tuple #[]) ∧ ∃ v', DiskAt g du cu wr done (max n 1) v' off w' ∧ w'.ownsRow w.heap.size 3 1 v' kn ((zs.take kn).map (Value.int .i64)) ∧ Below g w w' := by
  have HH := Lib.hid h
  clear h
  go_enter Try.func10, Try.ntmps10
  go_wp2_with (go_at_call 29; refine (Try.slices_Clone_int b o kn kc zs w hz hbig hc).mono ?_)
  rintro e w1 ⟨v', rfl, hown, hne, hb⟩
  obtain ⟨ao, n', cp, rfl⟩ : ∃ ao n' cp, v' = .slice ao n' cp := by
    rcases hown.2 with ⟨hv, _⟩ | ⟨g', cap, cur, hv, _⟩
    · exact ⟨_, _, _, hv⟩
    · exact ⟨_, _, _, hv⟩
  have hD := HH.out.below hb
  have hgl := HH.out.lt
  have f4 := hD.free 4
  have f5 := hD.free 5
  have c4 := hD.c4
  have c5 := hD.c5
  have h2 : DiskAt g du cu wr done (max n 1) kp off (w1.setCell ⟨g, 4, none⟩ (.int .i64 (max n 1))) := hD.set 4 _
  have h3 : DiskAt g du cu wr done (max n 1) (.slice ao n' cp) off ((w1.setCell ⟨g, 4, none⟩ (.int .i64 (max n 1))).setCell ⟨g, 5, none⟩ (.slice ao n' cp)) := h2.set 5 _
  have H3 := Lib.hid h3; have HO := Lib.hid (own_setCell (i := 5) (u := .slice ao n' cp) (own_setCell (i := 4) (u := .int .i64 (max n 1)) hown hgl) hgl); have HB := Lib.hid (hb.mono (Nat.le_of_lt hgl))
  clear h2 h3 hown hD hb
  go_wp2_with fail
  go_end0
  exact ⟨rfl, _, H3.out, HO.out, (HB.out.setCell (p := ⟨g, 4, none⟩) (Nat.le_refl g) _).setCell (p := ⟨g, 5, none⟩) (Nat.le_refl g) _⟩
end Go.Proofs.Ytaionhdamdhjjaa
