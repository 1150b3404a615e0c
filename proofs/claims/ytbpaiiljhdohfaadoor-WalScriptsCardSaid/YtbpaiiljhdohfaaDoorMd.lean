/- The document's disk: its block, its functions without loops. The document's disk: Full. The document's disk: Fail, Step. -/
import Derived.Test.YtbpaiiljhdohfaaDoorMc
import Derived.Laws.BytesString
namespace Go.Proofs.YtbpaiiljhdohfaaDoor
open Go.RowKit

def rcells (la si : Value) (left : Int) (kp : Value) (off : Bool) (done : Int) : Array Value := #[la, si, .int .i64 left, kp, .bool off, .int .i64 done]
/-- The block at g is a disk of the document with these fields. -/
def RefAt (g : Nat) (la si : Value) (left : Int) (kp : Value) (off : Bool) (done : Int) (w : World) : Prop := w.heap[g]? = some (.cells (rcells la si left kp off done) 51 (0, 0))
section
variable {g : Nat} {la si : Value} {left : Int} {kp : Value} {off : Bool} {done : Int} {w : World}
theorem RefAt.c0 (h : RefAt g la si left kp off done w) : w.cell? ⟨g, 0, none⟩ = some la := by unfold World.cell?; simp only [show w.heap[g]? = _ from h]; rfl
theorem RefAt.c1 (h : RefAt g la si left kp off done w) : w.cell? ⟨g, 1, none⟩ = some si := by unfold World.cell?; simp only [show w.heap[g]? = _ from h]; rfl
theorem RefAt.c2 (h : RefAt g la si left kp off done w) : w.cell? ⟨g, 2, none⟩ = some (.int .i64 left) := by unfold World.cell?; simp only [show w.heap[g]? = _ from h]; rfl
theorem RefAt.c3 (h : RefAt g la si left kp off done w) : w.cell? ⟨g, 3, none⟩ = some kp := by unfold World.cell?; simp only [show w.heap[g]? = _ from h]; rfl
theorem RefAt.c4 (h : RefAt g la si left kp off done w) : w.cell? ⟨g, 4, none⟩ = some (.bool off) := by unfold World.cell?; simp only [show w.heap[g]? = _ from h]; rfl
theorem RefAt.c5 (h : RefAt g la si left kp off done w) : w.cell? ⟨g, 5, none⟩ = some (.int .i64 done) := by unfold World.cell?; simp only [show w.heap[g]? = _ from h]; rfl
theorem RefAt.free (h : RefAt g la si left kp off done w) (i : Nat) : w.frozen? ⟨g, i, none⟩ = false := by simp [World.frozen?, show w.heap[g]? = _ from h]
theorem RefAt.lt (h : RefAt g la si left kp off done w) : g < w.heap.size := (Array.getElem?_eq_some_iff.1 (show w.heap[g]? = _ from h)).1
theorem RefAt.set (h : RefAt g la si left kp off done w) (i : Nat) (v : Value) : (w.setCell ⟨g, i, none⟩ v).heap[g]? = some (.cells ((rcells la si left kp off done).setIfInBounds i v) 51 (0, 0)) := by
  show (w.heap.modify g _)[g]? = _
  rw [Array.getElem?_modify, if_pos rfl, show w.heap[g]? = _ from h]
  rfl
end
/-- What the document's disk holds: what lasts, the writes since. -/
structure IsR (B n g gl cl : Nat) (vw : Value) (vk : Value) (S : DS) (w : World) : Prop where
  d : RefAt g (.slice (some ⟨gl, 0, none⟩) n cl) vw S.left vk S.off S.done w
  rd : RowS gl S.dur w
  ld : S.dur.length = n
  vw : w.ownsRow B 88 2 vw S.ws.length (flat S.ws)
  wb : ∀ p ∈ S.ws, p.1 < n
  b1 : B ≤ g
  b2 : B ≤ gl
/-- All blocks are as they were but the disk's. -/
structure FrR (B g gl : Nat) (vw : Value) (w w' : World) : Prop where
  below : Below B w w'
  size : w.heap.size ≤ w'.heap.size
  block : ∀ b, b < w.heap.size → b ≠ g → b ≠ gl → vw.ownBlock ≠ some b → w'.heap[b]? = w.heap[b]?
section
variable {B n g gl cl : Nat} {vw vk : Value} {S : DS} {w : World}
theorem FrR.refl (B g gl : Nat) (vw : Value) (w : World) : FrR B g gl vw w w := ⟨Below.refl _ _, Nat.le_refl _, fun _ _ _ _ _ => rfl⟩
theorem FrR.trans {vw vw' : Value} {a b c : World} (h : FrR B g gl vw a b) (h' : FrR B g gl vw' b c) (hv : ∀ x, vw'.ownBlock = some x → vw.ownBlock = some x ∨ a.heap.size ≤ x) : FrR B g gl vw a c :=
  ⟨h.below.trans h'.below, Nat.le_trans h.size h'.size, fun x hx h1 h2 h4 => (h'.block x (Nat.lt_of_lt_of_le hx h.size) h1 h2 (fun e => by
    rcases hv x e with h5 | h5
    · exact h4 h5
    · omega)).trans (h.block x hx h1 h2 h4)⟩
theorem FrR.of_kept2 {x : Nat} {w' : World} (h : Kept2 B g x w w') (hx : x = gl ∨ x = g ∨ vw.ownBlock = some x) : FrR B g gl vw w w' :=
  ⟨h.1, h.2.1, fun b hb h1 h2 h4 => h.2.2 b hb h1 (fun e => by subst e; rcases hx with h5 | h5 | h5 <;> contradiction)⟩
theorem FrR.undrew {w' : World} (h : FrR B g gl vw w.drew w') : FrR B g gl vw w w' := ⟨⟨h.below.os, h.below.tape, h.below.output, h.below.size, h.below.block⟩, h.size, h.block⟩
theorem FrR.of_below {w' : World} (hB : B ≤ w.heap.size) (hb : Below w.heap.size w w') : FrR B g gl vw w w' := ⟨hb.mono hB, hb.size, fun b hb' _ _ _ => hb.block b hb'⟩
theorem IsR.glg (h : IsR B n g gl cl vw vk S w) : gl ≠ g := fun e => by
  obtain ⟨cur, h1, _⟩ := h.rd
  rw [e, show w.heap[g]? = _ from h.d] at h1
  injection h1 with h1
  injection h1 with _ h1
  exact absurd h1 (by decide)
theorem IsR.wg (h : IsR B n g gl cl vw vk S w) {x : Nat} (hx : vw.ownBlock = some x) : x ≠ g ∧ x ≠ gl := by
  obtain ⟨c1, h1, _⟩ := h.rd
  exact ⟨own_ne h.vw hx (show w.heap[g]? = _ from h.d) (by decide), own_ne h.vw hx h1 (by decide)⟩
theorem IsR.keep (h : IsR B n g gl cl vw vk S w) {w' : World} (hb : ∀ b, b = g ∨ b = gl ∨ vw.ownBlock = some b → w'.heap[b]? = w.heap[b]?) : IsR B n g gl cl vw vk S w' :=
  ⟨(hb g (.inl rfl)).trans h.d, h.rd.same (hb gl (.inr (.inl rfl))), h.ld, own_same h.vw fun b e => hb b (.inr (.inr e)), h.wb, h.b1, h.b2⟩
theorem IsR.lts (h : IsR B n g gl cl vw vk S w) {b : Nat} (hb : b = g ∨ b = gl ∨ vw.ownBlock = some b) : B ≤ b ∧ b < w.heap.size := by
  rcases hb with rfl | rfl | e
  · exact ⟨h.b1, h.d.lt⟩
  · exact ⟨h.b2, h.rd.lt⟩
  · exact h.vw.lt b e
theorem IsR.below (h : IsR B n g gl cl vw vk S w) {w' : World} (hb : Below w.heap.size w w') : IsR B n g gl cl vw vk S w' := h.keep fun b e => hb.block b (h.lts e).2
/-- A disk of which its own block alone was written. -/
theorem IsR.disk (h : IsR B n g gl cl vw vk S w) {w' : World} (hk : Kept2 B g g w w') : FrR B g gl vw w w' ∧ RowS gl S.dur w' ∧ w'.ownsRow B 88 2 vw S.ws.length (flat S.ws) :=
  ⟨FrR.of_kept2 hk (.inr (.inl rfl)), h.rd.same (hk.2.2 gl h.rd.lt h.glg h.glg), own_same h.vw fun b e => hk.2.2 b (h.vw.lt b e).2 (h.wg e).1 (h.wg e).1⟩
theorem IsR.wr (h : IsR B n g gl cl vw vk S w) : ∃ o cw, vw = .slice o S.ws.length cw ∧ ∀ j p, S.ws[j]? = some p → ∃ gw, o = some ⟨gw, 0, none⟩ ∧ gw ≠ g ∧ gw ≠ gl ∧ gw < w.heap.size ∧ w.cell? ⟨gw, j * 2, none⟩ = some (.int .i64 p.1) ∧ w.cell? ⟨gw, j * 2 + 1, none⟩ = some (.string p.2) := by
  rcases h.vw.2 with ⟨h1, h2⟩ | ⟨gw, cw, cur, h1, h3, h4, h5, h6, h7, h8⟩
  · exact ⟨none, 0, by rw [h1, h2], fun j p hp => by rw [List.length_eq_zero_iff.1 h2] at hp; cases hp⟩
  · refine ⟨_, cw, h1, fun j p hp => ⟨gw, rfl, (h.wg (by rw [h1]; rfl)).1, (h.wg (by rw [h1]; rfl)).2, (Array.getElem?_eq_some_iff.1 h4).1, ?_⟩⟩
    have hj : j < S.ws.length := (List.getElem?_eq_some_iff.1 hp).1
    have hf := flat_get S.ws j p hp
    rw [← h8, List.getElem?_take, if_pos (by omega), List.getElem?_take, if_pos (by omega)] at hf
    unfold World.cell?
    simp only [h4]
    rw [show j * 2 = 2 * j by omega]
    exact ⟨by rw [← Array.getElem?_toList]; exact hf.1, by rw [← Array.getElem?_toList]; exact hf.2⟩
end
end Go.Proofs.YtbpaiiljhdohfaaDoor
namespace Go.Proofs.YtbpaiiljhdohfaaDoor
open Go.RowKit

theorem repeat_zero : ∀ c, Lib.repeatL [0] c = List.replicate c (0 : UInt8)
  | 0 => rfl
  | c + 1 => by show [0] ++ Lib.repeatL [0] c = _; rw [repeat_zero c]; rfl
theorem fold_zero : ∀ (c : Nat) (l : List UInt8), (List.replicate c (0 : Int)).foldl (fun r n => r.push (UInt8.ofNat n.toNat)) (⟨l.toArray⟩ : ByteArray) = ⟨(l ++ List.replicate c (0 : UInt8)).toArray⟩
  | 0, l => by simp
  | c + 1, l => by
    rw [List.replicate_succ, List.foldl_cons]
    have e : (⟨l.toArray⟩ : ByteArray).push (UInt8.ofNat (0 : Int).toNat) = ⟨(l ++ [0]).toArray⟩ := by
      show ByteArray.mk (l.toArray.push _) = _
      simp
    rw [e, fold_zero c]
    simp [List.replicate_succ]
theorem info_u8 : (Tryd.prog.info? 5).map (fun i => (i.zero, i.size, i.bytes)) = some (some (.int .u8 0), 1, 1) := by kernel_rfl
theorem conv_zero (g c : Nat) (w : World) (xs : List Value) (hown : w.ownsRow 0 5 1 (.slice (some ⟨g, 0, none⟩) c c) c xs) (hx : ∀ j, j < c → xs[j]? = some (.int .u8 0)) :
    (convert 100 9 (.slice (some ⟨g, 0, none⟩) c c)).run Tryd.prog w = .ok (.string ⟨(List.replicate c (0 : UInt8)).toArray⟩) w := by
  rw [run_convert_bytes_string w _ _ _ _ _ _ Tryd.underlying100 Tryd.underlying5 Tryd.underlying9]
  have hl := run_loadCells_list (P := Tryd.prog) w ⟨g, 0, none⟩ ((List.replicate c (0 : Int)).map (Value.int .u8)) (fun j v hv => by
    rw [List.getElem?_map, List.getElem?_replicate] at hv
    split at hv
    · injection hv with hv; subst hv
      exact hown.cells (g := g) rfl j _ (hx j (by assumption))
    · cases hv)
  rw [List.length_map, List.length_replicate] at hl
  rw [run_bytesToString w _ _ _ (List.replicate c (0 : Int)) hl]
  have := fold_zero c []
  rw [List.nil_append] at this
  exact congrArg (fun b => Result.ok (Value.string b) w) this
set_option maxRecDepth 100000 in
theorem Full_any (s : ByteArray) (w : World) (hs : s.size ≤ 512) :
    Calls Tryd.prog 23 #[.string s] w fun e w' => e = .returned (.string (padB s)) ∧ Below w.heap.size w w' := by
  obtain ⟨i0, hi0, hz0, hs0, hy0⟩ := info_parts info_u8
  by_cases h : s.size < 512
  · obtain ⟨c, hc⟩ : ∃ c, 512 - s.size = c := ⟨_, rfl⟩
    have hsi : (s.size : Int) < 512 := by omega
    have hw : IntKind.i64.wrap (512 - (s.size : Int)) = (c : Int) := by rw [IntWalk.i64_in _ (by omega)]; omega
    have hb2 : i0.bytes * c ≤ 281474976710656 := by rw [hy0]; omega
    have hb3 : c ≤ maxLen := by unfold maxLen; omega
    obtain ⟨Z, hZ⟩ : ∃ Z : ByteArray, (⟨(List.replicate c (0 : UInt8)).toArray⟩ : ByteArray) = Z := ⟨_, rfl⟩
    have hp : padB s = s ++ Z := by unfold padB; rw [hc, repeat_zero, hZ]
    have hpz : (s ++ Z).size = 512 := by rw [← hp]; exact padB_size s hs
    have hpi : ¬ ((s.size : Int) + (Z.size : Int) < 512) := by rw [ByteArray.size_append] at hpz; omega
    have hno : ¬ 9223372036854775807 < s.size + Z.size := by
      have : Z.size = c := by rw [← hZ]; show (List.replicate c (0 : UInt8)).toArray.size = c; simp
      omega
    have HP := Lib.hid hp; have HPZ := Lib.hid hpz; have HZZ := Lib.hid hZ
    clear hp hc hpz hZ
    go_enter Tryd.func23, Tryd.ntmps23
    go_wp2_with fail
    refine wp_loop_rounds 2 ?_
    rw [rounds_succ]
    go_wp2_with (refine wpList_make_full _ rfl _ _ 100 rfl w.heap.size 5 i0 _ 1 Tryd.underlying100 hi0 hz0 hs0 .i64 .i64 c c c rfl rfl rfl rfl hb2 hb3 (Nat.le_refl _) ?_; intro w1 hown hgrow; have hcv := conv_zero w.heap.size c w1 _ ⟨hown.1, hown.2.imp id (fun ⟨g, cap, cur, h1, _, h2⟩ => ⟨g, cap, cur, h1, Nat.zero_le _, h2⟩)⟩ (fun j hj => by simp [madeCells, Value.cells, hj, Nat.mod_one]); rw [HZZ.out] at hcv; have HG := Lib.hid hgrow; clear hown hgrow)
    rw [rounds_succ]
    go_wp2_with fail
    go_ret
    exact ⟨by rw [HP.out]; rfl, ⟨HG.out.os, HG.out.tape, HG.out.output, HG.out.size, fun k hk => HG.out.block k hk (by simp)⟩⟩
  · have hsz : s.size = 512 := by omega
    have hsi : (s.size : Int) = 512 := by omega
    have hp : padB s = s := by
      unfold padB; rw [hsz]
      show s ++ ⟨#[]⟩ = s
      exact ByteArray.append_empty
    rw [hp]
    go_enter Tryd.func23, Tryd.ntmps23
    go_wp2_with fail
    refine wp_loop_rounds 1 ?_
    rw [rounds_succ]
    go_wp2_with fail
    go_ret
    exact ⟨rfl, Below.refl _ _⟩
end Go.Proofs.YtbpaiiljhdohfaaDoor
namespace Go.Proofs.YtbpaiiljhdohfaaDoor
open Go.RowKit
variable {B n g gl cl : Nat} {vw vk : Value} {S : DS} {w : World}

def RfS (B g gl n cl : Nat) (vw vk : Value) (S : DS) (lost : Nat → Int → Bool) (w : World) (i : Value) (wr : World) : Prop :=
  ∃ k : Nat, k ≤ S.ws.length ∧ i = .int .i64 k ∧ RefAt g (.slice (some ⟨gl, 0, none⟩) n cl) vw S.left vk S.off S.done wr ∧ RowS gl (putW S.dur (keepTo lost S.ws k)) wr ∧ Kept2 B gl gl w wr
theorem putW_append (l : List ByteArray) (a : List (Nat × ByteArray)) (p : Nat × ByteArray) : putW l (a ++ [p]) = (putW l a).set p.1 p.2 := by
  unfold putW
  rw [List.foldl_append]; rfl
set_option maxHeartbeats 2000000 in
set_option maxRecDepth 100000 in
theorem RFail (h : IsR B n g gl cl vw vk S w) (ka : Value) (zs : List Int) (hk : ∀ w', Below B w w' → IsInts w' ka zs) (hn : n ≤ 4096) (hm : S.ws.length ≤ 10000000) :
    Calls Tryd.prog 11 #[.pointer (some ⟨g, 0, none⟩), ka] w fun e w' => e = .returned (.tuple #[]) ∧ IsR B n g gl cl (.slice none 0 0) vk (failS zs S) w' ∧ FrR B g gl vw w w' := by
  obtain ⟨o, cw, hvw, hcell⟩ := h.wr
  obtain ⟨ak, ck, hka, hkl, hkc⟩ := hk w (Below.refl _ _)
  obtain ⟨m, hmm⟩ : ∃ m, S.ws.length = m := ⟨_, rfl⟩
  obtain ⟨kn, hkn⟩ : ∃ kn, zs.length = kn := ⟨_, rfl⟩
  have hmi : (m : Int) ≤ 10000000 := by omega
  have c1 : w.cell? ⟨g, 1, none⟩ = some (.slice o m cw) := by rw [h.d.c1, hvw, hmm]
  have hS : RfS B g gl n cl vw vk S (fun k _ => lostB zs k) w (.int .i64 0) w := ⟨0, Nat.zero_le _, rfl, h.d, h.rd, Kept2.refl _ _ _ _⟩
  have HS := Lib.hid hS; have HH := Lib.hid h; have HC := Lib.hid hcell; have HK := Lib.hid hk; have HVW := Lib.hid hvw; have HM := Lib.hid hmm; have HKN := Lib.hid hkn; have HKA := Lib.hid hka; have HKC := Lib.hid hkc; have HKL := Lib.hid hkl
  rw [hkn] at hka
  clear hS h hcell hk hvw hmm hkc hkn hkl hm
  subst hka
  go_enter Tryd.func11, Tryd.ntmps11
  go_wp2_with fail
  clear c1
  go_loopw [4] (fun i wr => RfS B g gl n cl vw vk S (fun k _ => lostB zs k) w i wr) (fun i _ => m - (intOf i).toNat)
  case atStart => exact HS.out
  case round =>
    obtain ⟨k, hkm, rfl, hD, hR, hK⟩ := hrel
    rw [HM.out] at hkm
    have c1 : wr.cell? ⟨g, 1, none⟩ = some (.slice o m cw) := by rw [hD.c1, HVW.out, HM.out]
    have c0 := hD.c0
    have HD := Lib.hid hD; have HR := Lib.hid hR; have HKK := Lib.hid hK
    clear hD hR hK
    by_cases hlt : k < m
    · have hki : (k : Int) < m := by omega
      have hk9 : (k : Int) ≤ 10000000 := by omega
      obtain ⟨p, hp⟩ : ∃ p, S.ws[k]? = some p := ⟨_, List.getElem?_eq_getElem (by rw [HM.out]; exact hlt)⟩
      obtain ⟨gw, hgw, q1, q2, q3, d0, d1⟩ := HC.out k p hp
      have hsame : ∀ i, wr.cell? ⟨gw, i, none⟩ = w.cell? ⟨gw, i, none⟩ := fun i => by unfold World.cell?; simp only [HKK.out.2.2 gw q3 q2 q2]
      rw [← hsame] at d0 d1
      have hpn : p.1 < n := HH.out.wb p (List.mem_of_getElem? hp)
      have hstepNo : lostB zs k = true → Hid (RfS B g gl n cl vw vk S (fun k _ => lostB zs k) w (.int .i64 ((k : Int) + 1)) wr) := fun hl => Lib.hid
        ⟨k + 1, by rw [HM.out]; omega, by rw [Int.natCast_succ], HD.out, by rw [keepTo_succ _ _ k p hp, hl]; simpa using HR.out, HKK.out⟩
      have hstepYes : lostB zs k = false → Hid (RfS B g gl n cl vw vk S (fun k _ => lostB zs k) w (.int .i64 ((k : Int) + 1)) ((wr.setCell ⟨gl, p.1, none⟩ (.string p.2)).drew)) := fun hl => Lib.hid
        ⟨k + 1, by rw [HM.out]; omega, by rw [Int.natCast_succ], (Below.heap_setCell _ _ _ _ (by show g ≠ gl; exact Ne.symm HH.out.glg)).trans HD.out, by rw [keepTo_succ _ _ k p hp, hl, if_neg (by decide), putW_append]; exact HR.out.set p.1 p.2, (HKK.out.setd HH.out.b2 _ _).drew⟩
      have hIk := HK.out wr HKK.out.1
      by_cases h0 : kn = 0
      · have hz : zs = [] := List.length_eq_zero_iff.1 (HKN.out.trans h0)
        have hl : lostB zs k = true := by rw [hz]; rfl
        have hst := hstepNo hl
        have hkn0 : (kn : Int) = 0 := by omega
        clear hstepNo hstepYes hIk hsame hp hpn d0 d1
        subst h0
        go_wp2_with fail
        exact ⟨hst.out, by simp [intOf]; omega⟩
      · have hkn1 : (0 : Int) < kn := by omega
        obtain ⟨a', c', hka', hkl', hkc'⟩ := hIk
        injection hka' with ha' hn' hc'
        obtain ⟨b, ob, hb, hblt, hbc⟩ := hkc' (by rw [HKN.out]; omega)
        have hab : ak = some ⟨b, ob, none⟩ := ha'.trans hb
        subst hab
        have hmod : k % kn < kn := Nat.mod_lt _ (by omega)
        obtain ⟨q, hq⟩ : ∃ q, k % kn = q := ⟨_, rfl⟩
        have hrem : (k : Int).tmod (kn : Int) = (q : Int) := by rw [← hq]; rfl
        rw [hq] at hmod
        have hq1 : (q : Int) < kn := by omega
        obtain ⟨v, hv⟩ : ∃ v, zs.getD q 0 = v := ⟨_, rfl⟩
        have hcq : wr.cell? ⟨b, ob + q, none⟩ = some (.int .i64 v) := by rw [hbc q (by rw [HKN.out]; exact hmod), hv]
        have hn0 : ((kn : Int) == 0) = false := beq_eq_false_iff_ne.2 (by omega)
        have hlv : lostB zs k = (v.tmod 2 == 0) := by
          unfold lostB
          rw [HKN.out, hq, hv]
          cases hzs : zs with
          | nil => have := HKN.out; rw [hzs] at this; simp at this; omega
          | cons _ _ => rfl
        have hkl2 : (kn : Int) ≤ 17592186044415 := by have := HKL.out; have := HKN.out; omega
        clear hkc' hbc hv hq ha' hn' hc' hb hblt hsame hkl'
        by_cases hvv : v.tmod 2 = 0
        · have hst := hstepNo (by rw [hlv, hvv]; rfl)
          clear hstepNo hstepYes hlv d0 d1 hp
          go_wp2_with fail
          exact ⟨hst.out, by simp [intOf]; omega⟩
        · have hvb : (v.tmod 2 == 0) = false := beq_eq_false_iff_ne.2 hvv
          have hst := hstepYes (by rw [hlv, hvb])
          have hgo : o = some ⟨gw, 0, none⟩ := hgw
          subst hgo
          obtain ⟨pi, ps⟩ := p
          have hpi : (pi : Int) < n := by omega
          obtain ⟨x, hx⟩ : ∃ x, (putW S.dur (keepTo (fun k _ => lostB zs k) S.ws k))[pi]? = some x := ⟨_, List.getElem?_eq_getElem (by rw [putW_length, HH.out.ld]; exact hpn)⟩
          have e1 := HR.out.cell _ _ hx
          have fd := HR.out.free pi
          clear hstepNo hstepYes hlv hp hx hpn
          go_wp2_with fail
          refine wp_region_still_tail 21 (by kernel_rfl) (by kernel_rfl) ?_
          change wpStill _ _ (World.drew _) _ _ _
          simp only [List.take_succ_cons, List.take_zero, List.drop_succ_cons, List.drop_zero]
          repeat still_step
          try refine wpStill_nil ?_
          change wpList _ _ _ _ _ (World.drew _)
          go_wp2_with fail
          exact ⟨hst.out, by simp [intOf]; omega⟩
    · have hkm' : k = m := by omega
      subst hkm'
      have f1 := HD.out.free 1
      have f2 := HD.out.free 2
      have f4 := HD.out.free 4
      have c2 := HD.out.c2
      have c4 := HD.out.c4
      have hD1 : RefAt g (.slice (some ⟨gl, 0, none⟩) n cl) (.slice none 0 0) S.left vk S.off S.done (wr.setCell ⟨g, 1, none⟩ (.slice none 0 0)) := HD.out.set 1 _
      have hD2 : RefAt g (.slice (some ⟨gl, 0, none⟩) n cl) (.slice none 0 0) 0 vk S.off S.done ((wr.setCell ⟨g, 1, none⟩ (.slice none 0 0)).setCell ⟨g, 2, none⟩ (.int .i64 0)) := hD1.set 2 _
      have hD3 : RefAt g (.slice (some ⟨gl, 0, none⟩) n cl) (.slice none 0 0) 0 vk true S.done (((wr.setCell ⟨g, 1, none⟩ (.slice none 0 0)).setCell ⟨g, 2, none⟩ (.int .i64 0)).setCell ⟨g, 4, none⟩ (.bool true)) := hD2.set 4 _
      have hs3 : ∀ b, b ≠ g → (((wr.setCell ⟨g, 1, none⟩ (.slice none 0 0)).setCell ⟨g, 2, none⟩ (.int .i64 0)).setCell ⟨g, 4, none⟩ (.bool true)).heap[b]? = wr.heap[b]? := fun b hb =>
        (Below.heap_setCell _ _ _ _ (by show b ≠ g; exact hb)).trans ((Below.heap_setCell _ _ _ _ (by show b ≠ g; exact hb)).trans (Below.heap_setCell _ _ _ _ (by show b ≠ g; exact hb)))
      have hK3 : Kept2 B g gl w (((wr.setCell ⟨g, 1, none⟩ (.slice none 0 0)).setCell ⟨g, 2, none⟩ (.int .i64 0)).setCell ⟨g, 4, none⟩ (.bool true)) := (((Kept2.mix HKK.out).setg HH.out.b1 1 _).setg HH.out.b1 2 _).setg HH.out.b1 4 _
      have hend : Hid (IsR B n g gl cl (.slice none 0 0) vk (failS zs S) (((wr.setCell ⟨g, 1, none⟩ (.slice none 0 0)).setCell ⟨g, 2, none⟩ (.int .i64 0)).setCell ⟨g, 4, none⟩ (.bool true)) ∧ FrR B g gl vw w (((wr.setCell ⟨g, 1, none⟩ (.slice none 0 0)).setCell ⟨g, 2, none⟩ (.int .i64 0)).setCell ⟨g, 4, none⟩ (.bool true))) := Lib.hid
        ⟨⟨hD3, (show RowS gl (putW S.dur (keepTo (fun k _ => lostB zs k) S.ws S.ws.length)) wr by rw [HM.out]; exact HR.out).same (hs3 gl HH.out.glg), (putW_length _ _).trans HH.out.ld, World.ownsRow_nil _ _ _ _, (fun p hp => by cases hp), HH.out.b1, HH.out.b2⟩, FrR.of_kept2 hK3 (.inl rfl)⟩
      clear hD1 hD2 hD3 hs3 hK3
      go_wp2_with fail
      go_end0
      exact ⟨rfl, hend.out.1, hend.out.2⟩
end Go.Proofs.YtbpaiiljhdohfaaDoor
