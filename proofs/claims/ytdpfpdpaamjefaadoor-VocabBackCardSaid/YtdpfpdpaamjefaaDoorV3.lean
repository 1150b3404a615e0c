/- Vocabularies: speaks. -/
import Derived.Test.YtdpfpdpaamjefaaDoorY9
import Derived.Test.YtdpfpdpaamjefaaDoorY5
namespace Go.Proofs.YtdpfpdpaamjefaaDoor
open Go.RowKit Go.Shelf Go.Maps
variable {w w' : World}

def aB : ByteArray := ⟨#[97]⟩
def bB : ByteArray := ⟨#[98]⟩
def abB : ByteArray := ⟨#[97, 98]⟩
theorem l95_len : (ofP [(aB, bB)]).length = 95 := by decide +kernel
theorem l95_look : lookE (fun e : EntB => e.2) (ofP [(aB, bB)]) abB = some (94, abB) := by decide +kernel
theorem l95_drop : (ofP [(aB, bB)]).drop 94 = [(94, abB)] := by decide +kernel
theorem dec94 : Lib.decDigits 94 = [57, 52] := by
  rw [dec_unfold, if_neg (by decide), dec_unfold, if_pos (by decide)]
  rfl
theorem show94 : showV [(94, abB)] = [57, 52, 32, 97, 98, 10] := by
  rw [showV_one, dec94]; rfl
theorem Voc.okL {l : List EntB} (h : Voc l) (hl : l.length ≤ 50000) : OkL l := by
  have key : ∀ e ∈ l, e.1 < l.length ∧ e.2.size ≤ 64 := fun e he => by
    obtain ⟨j, hj⟩ := List.getElem?_of_mem he
    obtain ⟨a, b, _⟩ := h j e hj
    have := (List.getElem?_eq_some_iff.1 hj).1
    exact ⟨by omega, (goodB_size b).2⟩
  exact ⟨hl, fun e he => by have := (key e he).2; unfold maxLen; omega, fun e he => by have := (key e he).1; omega⟩
theorem own_entC {B : Nat} {t : TypeId} {v : Value} {l : List EntB} (h : w.ownsRow B t 2 v l.length (flatE l)) (h0 : 0 < l.length) : ∃ g cap, v = .slice (some ⟨g, 0, none⟩) l.length cap ∧ EnAt w t (some ⟨g, 0, none⟩) l ∧ l.length ≤ cap ∧ B ≤ g ∧ g < w.heap.size := by
  obtain ⟨o, cap, hv, hen⟩ := own_entries h
  rcases h.2 with ⟨h1, h2⟩ | ⟨g, cap, cur, h1, hB, hg, hn, _, hz, ht⟩
  · omega
  · rw [h1] at hv
    injection hv with e1 e2 e3
    subst e1
    exact ⟨g, cap, h1, hen, hn, hB, lt_of_some hg⟩
set_option maxHeartbeats 2000000 in
set_option maxRecDepth 100000 in
theorem speaks9_any (w : World) (hw : StrAt w) : Calls Tryd.prog 4 #[] w fun e w' => e = .returned (.bool true) ∧ Below w.heap.size w w' := by
  have hb1 := (Below.refl w.heap.size w).alloc (Nat.le_refl _) (.cells #[.string ⟨#[97]⟩, .string ⟨#[98]⟩] 31)
  have hnew := World.alloc_heap_new w (.cells #[.string ⟨#[97]⟩, .string ⟨#[98]⟩] 31)
  generalize hW1 : w.alloc (.cells #[.string ⟨#[97]⟩, .string ⟨#[98]⟩] 31) = W1 at hb1 hnew
  have hp : PrAt W1 31 (some ⟨w.heap.size, 0, none⟩) [(aB, bB)] := fun k p hk => by
    match k, hk with
    | 0, hk =>
      injection hk with hk
      subst hk
      exact ⟨_, _, rfl, hnew, cell_of_row hnew, cell_of_row hnew⟩
  have HOF := Lib.hid (Of_any (some ⟨w.heap.size, 0, none⟩) [(aB, bB)] 1 W1 (by decide) hp (by decide))
  have HB1 := Lib.hid hb1; have HW := Lib.hid hw
  clear hp hnew hb1 hw
  go_enter Tryd.func4, Tryd.ntmps4
  go_wp2_with (go_at_call 9; refine HOF.out.mono ?_)
  first | rintro e w2 ⟨v, rfl, h1, h2⟩ | rintro e w2 v rfl h1 h2
  have hlen := l95_len
  have HL := Lib.hid l95_look
  have HD := Lib.hid l95_drop
  have HV := Lib.hid ((ofP_voc [(aB, bB)]).okL (by rw [hlen]; decide))
  generalize ofP [(aB, bB)] = L at h1 hlen HL HD HV
  obtain ⟨g, cap, rfl, hen, hcap, hBg, hgl⟩ := own_entC h1 (by omega)
  have HB2 := Lib.hid (HB1.out.trans (h2.mono HB1.out.size))
  have HN := Lib.hid (New_any g cap L w2 (by omega) hen)
  have HE := Lib.hid hen; have HLEN := Lib.hid hlen; have HGL := Lib.hid hgl
  rw [hlen] at HN hcap ⊢
  have hcapi : (95 : Int) ≤ cap := by omega
  clear h1 h2 hen hBg hgl hlen hW1 HOF
  go_wp2_with (go_at_call 8; refine HN.out.mono ?_)
  first | rintro e w3 ⟨N, v, rfl, hNs, hrow, hown, hb3⟩ | rintro e w3 N v rfl hNs hrow hown hb3
  obtain ⟨g2, c2, rfl, hen2, _, hBg2, hgl2⟩ := own_entC (l := L) (by rw [HLEN.out]; exact hown) (by rw [HLEN.out]; decide)
  have hNg : g2 ≠ N := fun e => by
    subst e
    obtain ⟨gg, cur, e1, e2, _, _⟩ := hen2 0 (L[0]'(by rw [HLEN.out]; decide)) (List.getElem?_eq_getElem _)
    injection e1 with e1
    have e1 : g2 = gg := congrArg Addr.block e1
    subst e1
    rw [hrow] at e2
    injection e2 with e2
    injection e2 with _ e2
    exact absurd e2 (by decide)
  have HF : Hid (IxSt N L 0 w3) := Lib.hid (.inl ⟨g2, c2, hrow, hen2, hgl2, hNg⟩)
  have HID := Lib.hid (ID_some N L 0 abB (94, abB) w3 (by decide) (by decide) HV.out (by decide) HL.out HF.out)
  have HB3 := Lib.hid (HB2.out.trans (hb3.mono HB2.out.size))
  have HE3 := Lib.hid (HE.out.below hb3)
  have HNS := Lib.hid hNs; have HS3 := Lib.hid hb3.size
  clear hrow hown hb3 hen2 hBg2 hgl2 hNg hNs
  go_wp2_with (go_at_call 13; refine HID.out.mono ?_)
  first | rintro e w4 ⟨rfl, hi, hf⟩ | rintro e w4 rfl hi hf
  have hgN : g ≠ N := by have := HNS.out; have := HGL.out; omega
  have HE4 : Hid (EnAt w4 55 (some ⟨g, 0, none⟩) L) := Lib.hid (HE3.out.row (hf.block g (by have := HGL.out; have := HS3.out; omega) hgN))
  have HB4 : Hid (Below w.heap.size w w4) := Lib.hid (HB3.out.trans (by
    have h1 := HNS.out; have h2 := HB2.out.size; have h3 := HB3.out.size
    exact ⟨hf.low.os, hf.low.tape, hf.low.output, hf.size, fun k hk => hf.block k (by omega) (by omega)⟩))
  have HSH := Lib.hid (ShowV_any (some ⟨g, 94 * 2, none⟩) (L.drop 94) (cap - 94) w4 (by rw [HD.out]; decide) HE4.out.dropO (fun e he => HV.out.2.2 e (List.mem_of_mem_drop he)) (HW.out.below HB4.out) (by rw [HD.out, show94]; decide))
  rw [HD.out, show94] at HSH
  clear hi hf hgN
  go_wp2_with (go_at_call 14; refine HSH.out.mono ?_; rintro e w5 ⟨rfl, h5⟩; have HB5 := Lib.hid (HB4.out.trans (h5.mono HB4.out.size)); clear h5)

  go_ret
  exact ⟨rfl, HB5.out⟩
end Go.Proofs.YtdpfpdpaamjefaaDoor
