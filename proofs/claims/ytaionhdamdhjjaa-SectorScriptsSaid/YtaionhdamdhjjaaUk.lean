/- Sector: what a script's commands keep; the two sides beside one another; acts of a script. -/
import Derived.Test.YtaionhdamdhjjaaUj
namespace Go.Proofs.Ytaionhdamdhjjaa
open Go.ChangeShapes Go.WideShapes Go.ChangeAt Go.RowKit
variable {B n g gd gc cd cc gr gl cl : Nat} {vw vk vr kr : Value} {S : DS} {w : World}

/-- The row in use is the durable one with the writes over it. -/
def Cu (S : DS) : Prop := S.cur = putW S.dur S.ws
theorem Cu.fail (zs : List Int) : Cu (failS zs S) := rfl
theorem Cu.crash (zs : List Int) : Cu (crashS zs S) := rfl
theorem Cu.beg (h : Cu S) : Cu (begS S).2 := by
  unfold begS
  split
  · exact h
  · split
    · exact Cu.fail _
    · exact h
theorem Cu.write (h : Cu S) (k : Nat) (s : ByteArray) : Cu (writeS k s S).2 := by
  unfold writeS
  split
  · show (begS S).2.cur.set k (padB s) = putW (begS S).2.dur ((begS S).2.ws ++ [(k, padB s)])
    rw [h.beg, putW_append]
  · exact h.beg
theorem Cu.sync (h : Cu S) : Cu (syncS S).2 := by
  unfold syncS
  split
  · exact h.beg
  · exact h.beg
theorem putW_set (k : Nat) (x : ByteArray) : ∀ (ws : List (Nat × ByteArray)) (L : List ByteArray), (putW L ws).set k x = putW (L.set k x) (ws.filter fun p => !(p.1 == k))
  | [], L => rfl
  | p :: ws, L => by
    show (putW (L.set p.1 p.2) ws).set k x = _
    rw [putW_set k x ws]
    by_cases e : p.1 = k
    · rw [List.filter_cons_of_neg (by simp [e]), e, List.set_set]
    · rw [List.filter_cons_of_pos (by simp [e])]
      show _ = putW ((L.set k x).set p.1 p.2) _
      rw [List.set_comm _ _ (by omega)]
theorem Cu.spoil (h : Cu S) (k : Nat) (s : ByteArray) : Cu (spoilS k s S) := by
  show S.cur.set k (padB s) = putW (S.dur.set k (padB s)) (S.ws.filter fun p => !(p.1 == k))
  rw [h, putW_set]
theorem Cu.cut (h : Cu S) (i : Int) (zs : List Int) : Cu (cutS i zs S) := h
def onS (S : DS) : DS := { S with left := 0, kp := [], off := false }
theorem Cu.on (h : Cu S) : Cu (onS S) := h
theorem Bd.spoil {t : Nat} (h : Bd t S) (k : Nat) (s : ByteArray) : Bd t (spoilS k s S) := ⟨Nat.le_trans (List.length_filter_le _ _) h.ws, h.kp, h.done, h.l0, h.l1⟩
theorem Bd.on {t : Nat} (h : Bd t S) : Bd t (onS S) := ⟨h.ws, Nat.zero_le _, h.done, Int.le_refl 0, by show (0 : Int) ≤ _; omega⟩
theorem Bd.cut {t : Nat} (h : Bd t S) (i : Int) (zs : List Int) (hz : zs.length ≤ 17592186044416) (hi : i ≤ 9223372036854775807) : Bd t (cutS i zs S) := ⟨h.ws, hz, h.done, by show 0 ≤ max i 1; omega, by show max i 1 ≤ _; omega⟩
theorem Bd.more {t u : Nat} (h : Bd t S) (hu : t ≤ u) : Bd u S := ⟨Nat.le_trans h.ws hu, h.kp, Nat.le_trans h.done hu, h.l0, h.l1⟩
/-- What a pending cut keeps is among the arguments. -/
def Pend (w : World) (kr : Value) (S : DS) : Prop := S.left ≠ 0 → IsInts w kr S.kp
theorem Pend.beg (h : Pend w kr S) (h0 : 0 ≤ S.left) : Pend w kr (begS S).2 := by
  unfold begS
  split
  · exact h
  · split
    · exact fun e => absurd rfl e
    · exact fun e => h (fun e2 => e (by show max (S.left - 1) 0 = 0; omega))
theorem Pend.write (h : Pend w kr S) (h0 : 0 ≤ S.left) (k : Nat) (s : ByteArray) : Pend w kr (writeS k s S).2 := by
  unfold writeS
  split
  · exact h.beg h0
  · exact h.beg h0
theorem Pend.sync (h : Pend w kr S) (h0 : 0 ≤ S.left) : Pend w kr (syncS S).2 := by
  unfold syncS
  split
  · exact h.beg h0
  · exact h.beg h0
theorem IsR.other {va ka : Value} {Sa : DS} {w' : World} (ha : IsD B n g gd gc cd cc va ka Sa w) (hr : IsR B n gr gl cl vr kr S w) (n1 : gd ≠ gl) (n2 : gc ≠ gl) (f : FrD B g gd gc va w w') : IsR B n gr gl cl vr kr S w' := by
  obtain ⟨c1, h1, _⟩ := ha.rd
  obtain ⟨c2, h2, _⟩ := ha.rc
  obtain ⟨c3, h3, _⟩ := hr.rd
  have h0 : w.heap[g]? = _ := ha.d
  have h5 : w.heap[gr]? = _ := hr.d
  have ne : ∀ {x y : Nat} {c c' : Array Value} {t t' : TypeId}, w.heap[x]? = some (.cells c t (0, 0)) → w.heap[y]? = some (.cells c' t' (0, 0)) → t ≠ t' → x ≠ y := fun {x y c c' t t'} hx hy ht e => by
    subst e
    rw [hx] at hy
    injection hy with hy
    injection hy with _ hy
    exact ht hy
  have nv : ∀ {y : Nat} {c' : Array Value} {t' : TypeId}, w.heap[y]? = some (.cells c' t' (0, 0)) → t' ≠ 70 → va.ownBlock ≠ some y := fun hy ht e => by
    obtain ⟨c, hc⟩ := own_block ha.vw e
    exact ne hc hy (Ne.symm ht) rfl
  refine hr.keep fun b e => ?_
  have hl := (hr.lts e).2
  rcases e with rfl | rfl | e
  · exact f.block b hl (ne h5 h0 (by decide)) (ne h5 h1 (by decide)) (ne h5 h2 (by decide)) (nv h5 (by decide))
  · exact f.block b hl (ne h3 h0 (by decide)) (Ne.symm n1) (Ne.symm n2) (nv h3 (by decide))
  · obtain ⟨c, hc⟩ := own_block hr.vw e
    exact f.block b hl (ne hc h0 (by decide)) (ne hc h1 (by decide)) (ne hc h2 (by decide)) (nv hc (by decide))
theorem IsD.otherR {va ka : Value} {Sa : DS} {w' : World} (ha : IsD B n g gd gc cd cc va ka Sa w) (hr : IsR B n gr gl cl vr kr S w) (n1 : gd ≠ gl) (n2 : gc ≠ gl) (f : FrR B gr gl vr w w') : IsD B n g gd gc cd cc va ka Sa w' := by
  obtain ⟨c1, h1, _⟩ := ha.rd
  obtain ⟨c2, h2, _⟩ := ha.rc
  obtain ⟨c3, h3, _⟩ := hr.rd
  have h0 : w.heap[g]? = _ := ha.d
  have h5 : w.heap[gr]? = _ := hr.d
  have ne : ∀ {x y : Nat} {c c' : Array Value} {t t' : TypeId}, w.heap[x]? = some (.cells c t (0, 0)) → w.heap[y]? = some (.cells c' t' (0, 0)) → t ≠ t' → x ≠ y := fun {x y c c' t t'} hx hy ht e => by
    subst e
    rw [hx] at hy
    injection hy with hy
    injection hy with _ hy
    exact ht hy
  have nv : ∀ {y : Nat} {c' : Array Value} {t' : TypeId}, w.heap[y]? = some (.cells c' t' (0, 0)) → t' ≠ 65 → vr.ownBlock ≠ some y := fun hy ht e => by
    obtain ⟨c, hc⟩ := own_block hr.vw e
    exact ne hc hy (Ne.symm ht) rfl
  refine ha.keep fun b e => ?_
  have hl := (ha.lts e).2
  rcases e with rfl | rfl | rfl | e | e
  · exact f.block b hl (ne h0 h5 (by decide)) (ne h0 h3 (by decide)) (nv h0 (by decide))
  · exact f.block b hl (ne h1 h5 (by decide)) n1 (nv h1 (by decide))
  · exact f.block b hl (ne h2 h5 (by decide)) n2 (nv h2 (by decide))
  · obtain ⟨c, hc⟩ := own_block ha.vw e
    exact f.block b hl (ne hc h5 (by decide)) (ne hc h3 (by decide)) (nv hc (by decide))
  · obtain ⟨c, hc⟩ := own_block ha.vk e
    exact f.block b hl (ne hc h5 (by decide)) (ne hc h3 (by decide)) (nv hc (by decide))
/-- An act of a script. -/
structure ActD where
  what : Int
  at_ : Int
  data : ByteArray
  kv : Value
  keep : List Int
def IsActs4 (w : World) (a : Option Addr) (len : Nat) (zs : List ActD) : Prop :=
  zs.length = len ∧ (0 < len → ∃ b o, a = some ⟨b, o, none⟩ ∧ b < w.heap.size ∧ ∀ i z, zs[i]? = some z → (z.at_ ≤ 9223372036854775807 ∧ IsInts w z.kv z.keep) ∧ w.cell? ⟨b, o + i * 4, none⟩ = some (.int .i64 z.what) ∧ w.cell? ⟨b, o + i * 4 + 1, none⟩ = some (.int .i64 z.at_) ∧ w.cell? ⟨b, o + i * 4 + 2, none⟩ = some (.string z.data) ∧ w.cell? ⟨b, o + i * 4 + 3, none⟩ = some z.kv)
section
variable {H : Type} {enc : TypeId × Value → H} {W : World} {spare : Nat → Bool} {held : Bool} {fuel : Nat}
theorem open_acts4 {a : Option Addr} {len cap : Nat} {d : DataW H} {p : List MemPlace} (h : DataW.trod enc Try.prog W 0 spare held fuel 22 [.slice a len cap] = some (d, p)) (hr : ∀ y ∈ d.weights Try.prog 22, y ≤ reachBytes) : ∃ zs, IsActs4 W a len zs ∧ len ≤ 9223372036854775807 := by
  rcases Deep.open_slice Try.underlying22 h with ⟨hcs, _⟩ | ⟨x, l, c, m, n, D, Pl, hcs, _, hl, hm, hmm, hx, hi⟩
  · simp at hcs
    obtain ⟨rfl, rfl, rfl⟩ := hcs
    exact ⟨[], ⟨rfl, fun h0 => absurd h0 (by decide)⟩, by omega⟩
  · simp at hcs
    obtain ⟨rfl, rfl, rfl⟩ := hcs
    have hlm : len ≤ m := by rw [hmm]; split <;> omega
    have hc4 : Try.prog.cellsOf 32 = 4 := by kernel_rfl
    have hi1 : Try.prog.cellsOf 3 = 1 := by kernel_rfl
    have hs1 : Try.prog.cellsOf 9 = 1 := by kernel_rfl
    have hk1 : Try.prog.cellsOf 30 = 1 := by kernel_rfl
    have hel : ∀ i, i < len → ∃ z : ActD, (z.at_ ≤ 9223372036854775807 ∧ IsInts W z.kv z.keep) ∧ W.cell? ((x.add (i * 4)).add 0) = some (.int .i64 z.what) ∧ W.cell? ((x.add (i * 4)).add 1) = some (.int .i64 z.at_) ∧ W.cell? ((x.add (i * 4)).add 2) = some (.string z.data) ∧ W.cell? ((x.add (i * 4)).add 3) = some z.kv := fun i hil => by
      obtain ⟨cs', hc, ht⟩ := hi i (by omega)
      rw [hc4] at hc
      obtain ⟨_, hcl, hat⟩ := World.cells?_some hc
      obtain ⟨ys, n', _, hDi, hlen, hyl, hf⟩ := DataW.trod_struct Try.underlying32 ht
      simp only [Prod.mk.injEq] at hDi
      have h0 := hf 0 _ rfl
      have h1 := hf 1 _ rfl
      have h2 := hf 2 _ rfl
      have h3 := hf 3 _ rfl
      change DataW.trod enc Try.prog W 0 spare held n' 3 ((cs'.drop 0).take (Try.prog.cellsOf 3)) = _ at h0
      change DataW.trod enc Try.prog W 0 spare held n' 3 ((cs'.drop 1).take (Try.prog.cellsOf 3)) = _ at h1
      change DataW.trod enc Try.prog W 0 spare held n' 9 ((cs'.drop 2).take (Try.prog.cellsOf 9)) = _ at h2
      change DataW.trod enc Try.prog W 0 spare held n' 30 ((cs'.drop 3).take (Try.prog.cellsOf 30)) = _ at h3
      rw [hi1] at h0 h1
      rw [hs1] at h2
      rw [hk1] at h3
      have hy0 : ys[0]? = some (ys[0]'(by rw [hyl]; decide)) := List.getElem?_eq_getElem _
      have hy1 : ys[1]? = some (ys[1]'(by rw [hyl]; decide)) := List.getElem?_eq_getElem _
      have hy2 : ys[2]? = some (ys[2]'(by rw [hyl]; decide)) := List.getElem?_eq_getElem _
      have hy3 : ys[3]? = some (ys[3]'(by rw [hyl]; decide)) := List.getElem?_eq_getElem _
      rw [hy0] at h0
      rw [hy1] at h1
      rw [hy2] at h2
      rw [hy3] at h3
      obtain ⟨k0, hk0, _⟩ := DataW.trod_int Try.underlying3 h0
      obtain ⟨k, hk, _, hwf⟩ := DataW.trod_int Try.underlying3 h1
      obtain ⟨s, hs, _⟩ := DataW.trod_string Try.underlying9 h2
      obtain ⟨v, zs, hv, hin⟩ := open_int_list h3 (fun y hy => hr y (by
        simp only [Prod.mk.injEq] at hx
        rw [hx.1]
        simp only [DataW.weights, Try.underlying22]
        refine List.mem_cons_of_mem _ (List.mem_append_left _ (weightsAll_mem (List.mem_map.2 ⟨i, List.mem_range.2 hil, rfl⟩) ?_))
        rw [hDi.1]
        simp only [DataW.weights, Try.underlying32]
        exact DataW.weights_mem_each (j := 3) (t := 30) rfl (by rw [List.getElem?_map, hy3]; rfl) y hy))
      have cell : ∀ (j : Nat) (u : Value), (cs'.drop j).take 1 = [u] → cs'[j]? = some u := fun j u he => by
        have := congrArg (fun l => l[0]?) he
        simpa [List.getElem?_take, List.getElem?_drop] using this
      have hb : k ≤ 9223372036854775807 := by
        simp only [Lit.wf, IntKind.min, IntKind.max, IntKind.signed, IntKind.bits] at hwf
        simp at hwf
        omega
      exact ⟨⟨k0, k, s, v, zs⟩, ⟨hb, hin⟩, (hat 0 (by omega)).trans (cell 0 _ hk0), (hat 1 (by omega)).trans (cell 1 _ hk), (hat 2 (by omega)).trans (cell 2 _ hs), (hat 3 (by omega)).trans (cell 3 _ hv)⟩
    refine ⟨(List.range len).map fun i => if hil : i < len then Classical.choose (hel i hil) else ⟨0, 0, ⟨#[]⟩, .nilFunc, []⟩, ⟨by simp, fun h0 => ?_⟩, by unfold maxLen at hm; omega⟩
    obtain ⟨z0, _, hv0, _⟩ := hel 0 h0
    rw [Nat.zero_mul] at hv0
    have e00 : (x.add 0).add 0 = x.add 0 := by unfold Addr.add; rw [if_pos rfl]
    rw [e00] at hv0
    obtain ⟨b, o, rfl, hlt⟩ := spot_none hv0
    refine ⟨b, o, rfl, hlt, fun i z hz => ?_⟩
    rw [List.getElem?_map] at hz
    obtain ⟨k, hk, rfl⟩ := Option.map_eq_some_iff.1 hz
    have hkl := (List.getElem?_eq_some_iff.1 hk).1
    rw [List.length_range] at hkl
    rw [List.getElem?_range hkl] at hk
    injection hk with hk; subst hk
    rw [dif_pos hkl]
    obtain ⟨q0, q1, q2, q3, q4⟩ := Classical.choose_spec (hel i hkl)
    have e : ∀ j, ((⟨b, o, none⟩ : Addr).add (i * 4)).add j = ⟨b, o + i * 4 + j, none⟩ := fun j => by rw [Addr.add_mid, Addr.add_mid]
    exact ⟨q0, (congrArg (fun q => W.cell? q) (e 0).symm).trans q1, (congrArg (fun q => W.cell? q) (e 1).symm).trans q2, (congrArg (fun q => W.cell? q) (e 2).symm).trans q3, (congrArg (fun q => W.cell? q) (e 3).symm).trans q4⟩
end
end Go.Proofs.Ytaionhdamdhjjaa
