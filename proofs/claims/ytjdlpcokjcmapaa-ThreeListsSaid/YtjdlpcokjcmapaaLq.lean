/- Lists' edits: the document's Match and Once; the law's short and texts. -/
import Derived.Test.YtjdlpcokjcmapaaLp
import Derived.Deep.AppendLies
set_option linter.unusedVariables false
set_option linter.unusedSimpArgs false
namespace Go.Proofs.Ytjdlpcokjcmapaa
open Go.RowKit
variable {w w' : World}

theorem keep_cell {wr w4 : World} {o : Obj} {B n s : Nat} {v : Value} {xs : List Value} {e : TypeId} {b j : Nat} {u : Value} (hg : (wr.alloc o).grownBy w4 v.ownBlock) (hc : wr.cell? ⟨b, j, none⟩ = some u) (hrow : wr.ownsRow B e s v n xs) (hb : b < B) : w4.cell? ⟨b, j, none⟩ = some u := by
  have hlt := World.block_lt_of_cell? wr _ hc
  exact (cell_keep (a := ⟨b, j, none⟩) ((hg.block b (by simp; exact Nat.lt_succ_of_lt hlt) (fun e => by have := (hrow.lt b e.symm).1; omega)).trans (Lib.alloc_old _ _ _ hlt))).trans hc
def RmS (l : List EdB) (B : Nat) (W : World) (v j i : Value) (wr : World) : Prop :=
  ∃ (k q : Nat) (out : List Int), k ≤ l.length ∧ q ≤ k ∧ out.length ≤ k ∧ i = .int .i64 k ∧ j = .int .i64 q ∧ wr.ownsRow B 3 1 v out.length (intV out) ∧ mtD 0 l = out ++ mtD q (l.drop k) ∧ Below W.heap.size W wr
theorem RmS.more {l : List EdB} {B k q q' : Nat} {W wr w4 : World} {v v' : Value} {out : List Int} {x : Int} {o : Obj} (hk : k < l.length) (hq : q' ≤ k + 1) (ho : out.length ≤ k) (hB : B = W.heap.size) (hrow : wr.ownsRow B 3 1 v out.length (intV out)) (hm : mtD 0 l = out ++ mtD q (l.drop k)) (hst : mtD q (l.drop k) = x :: mtD q' (l.drop (k + 1))) (hb : Below W.heap.size W wr)
    (hown : w4.ownsRow B 3 1 v' (out.length + 1) (intV out ++ [.int .i64 x])) (hg : (wr.alloc o).grownBy w4 v.ownBlock) : RmS l B W v' (.int .i64 q') (.int .i64 (k + 1 : Nat)) w4 :=
  ⟨k + 1, q', out ++ [x], hk, hq, by simp; omega, rfl, rfl, by rw [List.length_append]; unfold intV; rw [List.map_append]; exact hown, by rw [hm, hst, List.append_assoc]; rfl, (hb.alloc hb.size _).grown hg (by have := hb.size; simp; omega) (fun j hj => by have := (hrow.lt j hj).1; omega)⟩
set_option maxHeartbeats 4000000 in
set_option maxRecDepth 100000 in
theorem RMatch_any (oa ob : Option Addr) (a b : List ByteArray) (ca cb : Nat) (w : World) (hla : a.length ≤ 4096) (hlb : b.length ≤ 4096) (ha : TxAt w oa a) (hb : TxAt w ob b) :
    Calls Try.prog 28 #[.slice oa a.length ca, .slice ob b.length cb] w fun e w' => ∃ v, e = .returned v ∧ w'.ownsRow w.heap.size 3 1 v (matchL a b).length (intV (matchL a b)) ∧ Below w.heap.size w w' := by
  have H1 := Lib.hid (RDiff_any oa ob a b ca cb w hla hlb ha hb)
  have hll : (diffL a b).length ≤ 8192 := by unfold diffL; rw [List.length_map]; have := edI_len a b _ 0 0 (Nat.zero_le _) (Nat.zero_le _) (Nat.le_refl _); omega
  have HMD := Lib.hid (matchL_doc a b)
  obtain ⟨i1, hi1, hz0, hz1, hz2⟩ := info_parts info_i
  have HI1 := Lib.hid hi1; have HZ0 := Lib.hid hz0; have HZ1 := Lib.hid hz1; have HZ2 := Lib.hid hz2
  generalize a.length = na at *
  generalize b.length = nb at *
  obtain ⟨l, hl⟩ : ∃ l, diffL a b = l := ⟨_, rfl⟩
  rw [hl] at H1 hll HMD
  clear hi1 hz0 hz1 hz2 ha hb hla hlb hl
  rw [HMD.out]
  go_enter Try.func28, Try.ntmps28
  go_wp2_with (go_at_call 40; refine H1.out.mono ?_)
  rintro e W ⟨v, rfl, hrow, hb1⟩
  obtain ⟨n, hn⟩ : ∃ n, l.length = n := ⟨_, rfl⟩
  have hrow' : W.ownsRow w.heap.size 72 2 v (l.map edZ).length (flatZ (l.map edZ)) := by rw [List.length_map]; exact hrow
  obtain ⟨ol, cl, rfl, hed, _⟩ := own_edits hrow'
  rw [List.length_map, hn]
  have HN := Lib.hid hn; have HED := Lib.hid hed; have HB1 := Lib.hid hb1
  have H0 : Hid (RmS l W.heap.size W (.slice none 0 0) (.int .i64 0) (.int .i64 0) W) := Lib.hid ⟨0, 0, [], Nat.zero_le _, Nat.le_refl _, Nat.le_refl _, rfl, rfl, World.ownsRow_nil _ _ _ _, rfl, Below.refl _ _⟩
  have HL0 : Hid (∀ x : Addr, ol = some x → 0 < l.length → x.block < W.heap.size) := Lib.hid (fun x hx h0 => by
    obtain ⟨p, hp⟩ : ∃ p, l[0]? = some p := ⟨_, List.getElem?_eq_getElem h0⟩
    obtain ⟨b', i', h2, h3, _⟩ := hed 0 (edZ p) (by rw [List.getElem?_map, hp]; rfl)
    rw [hx] at h2; injection h2 with h2; subst h2
    exact World.block_lt_of_cell? W _ h3)
  rw [hn] at hll
  clear hrow hrow' hed hb1 H1 HMD hn
  go_wp2_with fail
  go_loopw [5, 6, 8] (fun v j i wr => RmS l W.heap.size W v j i wr) (fun _ _ i _ => n - (intOf i).toNat)
  case atStart => exact H0.out
  case round =>
    obtain ⟨k, q, out, hk, hq, ho, rfl, rfl, hrow, hm, hb⟩ := hrel
    rw [HN.out] at hk
    have HROW := Lib.hid hrow; have HM := Lib.hid hm; have HBB := Lib.hid hb
    clear hrow hm hb H0
    by_cases hlt : k < n
    · obtain ⟨p, hp⟩ : ∃ p, l[k]? = some p := ⟨_, List.getElem?_eq_getElem (by rw [HN.out]; exact hlt)⟩
      obtain ⟨bl, il, hol, c0, c1⟩ := (HED.out.below HBB.out) k (edZ p) (by rw [List.getElem?_map, hp]; rfl)
      subst hol
      have hdr := drop_cons hp
      obtain ⟨op, s⟩ := p
      have hnp : 0 < l.length := by rw [HN.out]; omega
      have c0' : wr.cell? ⟨bl, il + k * 2, none⟩ = some (.int .i64 (op : Nat)) := c0
      have HDR := Lib.hid hdr
      clear hp hdr c0 c1
      by_cases h0 : op = 0
      · subst h0
        have HST : Hid (mtD q (l.drop k) = (q : Int) :: mtD (q + 1) (l.drop (k + 1))) := Lib.hid (by rw [HDR.out]; rfl)
        have hbl : bl < W.heap.size := HL0.out ⟨bl, il, none⟩ rfl hnp
        go_wp2_with (at_builtin; (refine wpList_append_own _ rfl _ _ 52 rfl W.heap.size 3 i1 (.int .i64 0) 1 8 Try.underlying52 HI1.out HZ0.out HZ1.out HZ2.out rfl (by decide) _ _ _ rfl (HROW.out.alloc _) ⟨wr.heap.size, 0, none⟩ 1 1 [.int .i64 (q : Nat)] rfl rfl (cell_one_new _ _ _) one_memI (by unfold maxLen; omega) (by omega) (by have := HBB.out.size; simp; omega) ?_); intro v' w4 hown hgrow _; have HO4 := Lib.hid hown; have HG4 := Lib.hid hgrow; clear hown hgrow; (have c4 : w4.cell? ⟨bl, il + k * 2, none⟩ = some (.int .i64 0) := keep_cell HG4.out c0' (HROW.out) hbl))
        go_roundw
        case rel => exact RmS.more (q' := q + 1) (by rw [HN.out]; exact hlt) (by omega) ho rfl HROW.out HM.out HST.out HBB.out HO4.out HG4.out
        case measure => simp [intOf]; omega
      · by_cases h1 : op = 1
        · subst h1
          have HST : Hid (mtD q (l.drop k) = (-1) :: mtD q (l.drop (k + 1))) := Lib.hid (by rw [HDR.out]; rfl)
          have hbl : bl < W.heap.size := HL0.out ⟨bl, il, none⟩ rfl hnp
          go_wp2_with (at_builtin; (refine wpList_append_own _ rfl _ _ 52 rfl W.heap.size 3 i1 (.int .i64 0) 1 8 Try.underlying52 HI1.out HZ0.out HZ1.out HZ2.out rfl (by decide) _ _ _ rfl (HROW.out.alloc _) ⟨wr.heap.size, 0, none⟩ 1 1 [.int .i64 (-1)] rfl rfl (cell_one_new _ _ _) one_memI (by unfold maxLen; omega) (by omega) (by have := HBB.out.size; simp; omega) ?_); intro v' w4 hown hgrow _; have HO4 := Lib.hid hown; have HG4 := Lib.hid hgrow; clear hown hgrow; (have c4 : w4.cell? ⟨bl, il + k * 2, none⟩ = some (.int .i64 1) := keep_cell HG4.out c0' (HROW.out) hbl))
          go_roundw
          case rel => exact RmS.more (by rw [HN.out]; exact hlt) (by omega) ho rfl HROW.out HM.out HST.out HBB.out HO4.out HG4.out
          case measure => simp [intOf]; omega
        · have HST : Hid (mtD q (l.drop k) = mtD (q + 1) (l.drop (k + 1))) := Lib.hid (by rw [HDR.out]; show (if op = 0 then _ else if op = 1 then _ else _) = _; rw [if_neg h0, if_neg h1])
          have b0 : ((op : Int) == 0) = false := beq_eq_false_iff_ne.2 (by omega)
          have b1 : ((op : Int) == 1) = false := beq_eq_false_iff_ne.2 (by omega)
          have d0 : (op == 0) = false := beq_eq_false_iff_ne.2 h0
          have d1 : (op == 1) = false := beq_eq_false_iff_ne.2 h1
          clear h0 h1
          go_wp2_with fail
          go_roundw
          case rel => exact ⟨k + 1, q + 1, out, by rw [HN.out]; exact hlt, by omega, by omega, by go_num, by go_num, HROW.out, by rw [HM.out, HST.out], HBB.out⟩
          case measure => simp [intOf]; omega
    · obtain rfl : k = n := by omega
      have hdr : l.drop k = [] := List.drop_of_length_le (by rw [HN.out]; exact Nat.le_refl _)
      have HF : Hid (mtD 0 l = out) := Lib.hid (by rw [HM.out, hdr]; simp [mtD])
      clear hdr
      go_wp2_with fail
      exact bodyPost_ret (v := u5) (by simp [results, Try.results28, go_sem]) rfl ⟨u5, rfl, by rw [HF.out]; exact own_lower HROW.out HB1.out.size, HB1.out.trans (HBB.out.mono HB1.out.size)⟩
def OnS (l : List ByteArray) (s : ByteArray) (w : World) (a i : Value) (wr : World) : Prop :=
  ∃ k : Nat, k ≤ l.length ∧ i = .int .i64 k ∧ wr = w ∧ ((cntB (l.take k) s = 0 ∧ a = .int .i64 (-1)) ∨ (cntB (l.take k) s = 1 ∧ a = .int .i64 (lastB (l.take k) s : Nat)))
theorem cnt_mono (l : List ByteArray) (s : ByteArray) (k : Nat) : cntB (l.take k) s ≤ cntB l s := by
  conv => rhs; rw [← List.take_append_drop k l]
  unfold cntB; rw [List.countP_append]; omega
def TeS (w : World) (P : List ByteArray) (i : Value) (wr : World) : Prop :=
  ∃ k : Nat, k ≤ P.length ∧ i = .int .i64 k ∧ Below w.heap.size w wr
end Go.Proofs.Ytjdlpcokjcmapaa
