/- Wal's laws: the acts of a script that comes in. -/
import Derived.Test.YtbpaiiljhdohfaaDoorXg
import Derived.Test.YtbpaiiljhdohfaaDoorXh
import Derived.Test.YtbpaiiljhdohfaaDoorWx
namespace Go.Proofs.YtbpaiiljhdohfaaDoor
open Go.ChangeShapes Go.WideShapes Go.ChangeAt Go.RowKit
variable {w : World}

def IsChs (w : World) (v : Value) (l : List (Int × ByteArray)) : Prop := ∃ a c, v = .slice a l.length c ∧ IsLC w a l.length l ∧ l.length ≤ 9223372036854775807
theorem IsChs.below {v : Value} {l : List (Int × ByteArray)} {w' : World} (h : IsChs w v l) (hb : Below w.heap.size w w') : IsChs w' v l := by
  obtain ⟨a, c, h1, h2, h3⟩ := h
  exact ⟨a, c, h1, h2.below hb, h3⟩
structure ActW where
  what : Int
  n : Int
  cv : Value
  ch : List (Int × ByteArray)
  kv : Value
  keep : List Int
def IsActs6 (w : World) (a : Option Addr) (len : Nat) (zs : List ActW) : Prop :=
  zs.length = len ∧ (0 < len → ∃ b o, a = some ⟨b, o, none⟩ ∧ b < w.heap.size ∧ ∀ i z, zs[i]? = some z → (z.n ≤ 9223372036854775807 ∧ IsInts w z.kv z.keep ∧ IsChs w z.cv z.ch) ∧ w.cell? ⟨b, o + i * 4, none⟩ = some (.int .i64 z.what) ∧ w.cell? ⟨b, o + i * 4 + 1, none⟩ = some (.int .i64 z.n) ∧ w.cell? ⟨b, o + i * 4 + 2, none⟩ = some z.cv ∧ w.cell? ⟨b, o + i * 4 + 3, none⟩ = some z.kv)
section
variable {H : Type} {enc : TypeId × Value → H} {W : World} {spare : Nat → Bool} {held : Bool} {fuel : Nat}
theorem open_chs {cs : List Value} {x : DataW H × List MemPlace} (h : DataW.trod enc Tryd.prog W 0 spare held fuel 38 cs = some x) : ∃ v zs, cs = [v] ∧ IsChs W v zs := by
  obtain ⟨a, n, c, hcs⟩ : ∃ a n c, cs = [.slice a n c] := by
    rcases Deep.open_slice Tryd.underlying38 h with ⟨hcs, _⟩ | ⟨y, l, c, m, n, D, Pl, hcs, _⟩
    · exact ⟨_, _, _, hcs⟩
    · exact ⟨_, _, _, hcs⟩
  subst hcs
  obtain ⟨d, p⟩ := x
  obtain ⟨zs, h1, h2⟩ := open_lc h
  refine ⟨_, zs, rfl, a, c, by rw [h1.1], by rw [h1.1]; exact h1, by rw [h1.1]; exact h2⟩
theorem open_acts6 {a : Option Addr} {len cap : Nat} {d : DataW H} {p : List MemPlace} (h : DataW.trod enc Tryd.prog W 0 spare held fuel 23 [.slice a len cap] = some (d, p)) (hr : ∀ y ∈ d.weights Tryd.prog 23, y ≤ reachBytes) : ∃ zs, IsActs6 W a len zs ∧ len ≤ 9223372036854775807 := by
  rcases Deep.open_slice Tryd.underlying23 h with ⟨hcs, _⟩ | ⟨x, l, c, m, n, D, Pl, hcs, _, hl, hm, hmm, hx, hi⟩
  · simp at hcs
    obtain ⟨rfl, rfl, rfl⟩ := hcs
    exact ⟨[], ⟨rfl, fun h0 => absurd h0 (by decide)⟩, by omega⟩
  · simp at hcs
    obtain ⟨rfl, rfl, rfl⟩ := hcs
    have hlm : len ≤ m := by rw [hmm]; split <;> omega
    have hc4 : Tryd.prog.cellsOf 41 = 4 := by kernel_rfl
    have hi1 : Tryd.prog.cellsOf 3 = 1 := by kernel_rfl
    have hs1 : Tryd.prog.cellsOf 38 = 1 := by kernel_rfl
    have hk1 : Tryd.prog.cellsOf 39 = 1 := by kernel_rfl
    have hel : ∀ i, i < len → ∃ z : ActW, (z.n ≤ 9223372036854775807 ∧ IsInts W z.kv z.keep ∧ IsChs W z.cv z.ch) ∧ W.cell? ((x.add (i * 4)).add 0) = some (.int .i64 z.what) ∧ W.cell? ((x.add (i * 4)).add 1) = some (.int .i64 z.n) ∧ W.cell? ((x.add (i * 4)).add 2) = some z.cv ∧ W.cell? ((x.add (i * 4)).add 3) = some z.kv := fun i hil => by
      obtain ⟨cs', hc, ht⟩ := hi i (by omega)
      rw [hc4] at hc
      obtain ⟨_, hcl, hat⟩ := World.cells?_some hc
      obtain ⟨ys, n', _, hDi, hlen, hyl, hf⟩ := DataW.trod_struct Tryd.underlying41 ht
      simp only [Prod.mk.injEq] at hDi
      have h0 := hf 0 _ rfl
      have h1 := hf 1 _ rfl
      have h2 := hf 2 _ rfl
      have h3 := hf 3 _ rfl
      change DataW.trod enc Tryd.prog W 0 spare held n' 3 ((cs'.drop 0).take (Tryd.prog.cellsOf 3)) = _ at h0
      change DataW.trod enc Tryd.prog W 0 spare held n' 3 ((cs'.drop 1).take (Tryd.prog.cellsOf 3)) = _ at h1
      change DataW.trod enc Tryd.prog W 0 spare held n' 38 ((cs'.drop 2).take (Tryd.prog.cellsOf 38)) = _ at h2
      change DataW.trod enc Tryd.prog W 0 spare held n' 39 ((cs'.drop 3).take (Tryd.prog.cellsOf 39)) = _ at h3
      rw [hi1] at h0 h1
      rw [hs1] at h2
      rw [hk1] at h3
      have hy0 : ys[0]? = some (ys[0]'(by rw [hyl]; decide)) := List.getElem?_eq_getElem _
      have hy1 : ys[1]? = some (ys[1]'(by rw [hyl]; decide)) := List.getElem?_eq_getElem _
      have hy2 : ys[2]? = some (ys[2]'(by rw [hyl]; decide)) := List.getElem?_eq_getElem _
      have hy3 : ys[3]? = some (ys[3]'(by rw [hyl]; decide)) := List.getElem?_eq_getElem _
      rw [hy0] at h0
      rw [hy1] at h1
      rw [hy2] at h2
      rw [hy3] at h3
      obtain ⟨k0, hk0, _⟩ := DataW.trod_int Tryd.underlying3 h0
      obtain ⟨k, hk, _, hwf⟩ := DataW.trod_int Tryd.underlying3 h1
      obtain ⟨s, zc, hs, hch⟩ := open_chs h2
      obtain ⟨v, zs, hv, hin⟩ := open_int_list h3 (fun y hy => hr y (by
        simp only [Prod.mk.injEq] at hx
        rw [hx.1]
        simp only [DataW.weights, Tryd.underlying23]
        refine List.mem_cons_of_mem _ (List.mem_append_left _ (weightsAll_mem (List.mem_map.2 ⟨i, List.mem_range.2 hil, rfl⟩) ?_))
        rw [hDi.1]
        simp only [DataW.weights, Tryd.underlying41]
        exact DataW.weights_mem_each (j := 3) (t := 39) rfl (by rw [List.getElem?_map, hy3]; rfl) y hy))
      have cell : ∀ (j : Nat) (u : Value), (cs'.drop j).take 1 = [u] → cs'[j]? = some u := fun j u he => by
        have := congrArg (fun l => l[0]?) he
        simpa [List.getElem?_take, List.getElem?_drop] using this
      have hb : k ≤ 9223372036854775807 := by
        simp only [Lit.wf, IntKind.min, IntKind.max, IntKind.signed, IntKind.bits] at hwf
        simp at hwf
        omega
      exact ⟨⟨k0, k, s, zc, v, zs⟩, ⟨hb, hin, hch⟩, (hat 0 (by omega)).trans (cell 0 _ hk0), (hat 1 (by omega)).trans (cell 1 _ hk), (hat 2 (by omega)).trans (cell 2 _ hs), (hat 3 (by omega)).trans (cell 3 _ hv)⟩
    refine ⟨(List.range len).map fun i => if hil : i < len then Classical.choose (hel i hil) else ⟨0, 0, .nilFunc, [], .nilFunc, []⟩, ⟨by simp, fun h0 => ?_⟩, by unfold maxLen at hm; omega⟩
    obtain ⟨z0, _, hv0, _⟩ := hel 0 h0
    rw [Nat.zero_mul] at hv0
    have e00 : (x.add 0).add 0 = x.add 0 := by unfold Addr.add; rw [if_pos rfl]
    rw [e00] at hv0
    obtain ⟨b, o, rfl, hlt⟩ := spot_none hv0
    refine ⟨b, o, rfl, hlt, fun i z hz => ?_⟩
    rw [List.getElem?_map] at hz
    obtain ⟨k, hk, rfl⟩ := Option.map_eq_some_iff.1 hz
    have hkl := (List.getElem?_eq_some_iff.1 hk).1
    rw [List.length_range] at hkl
    rw [List.getElem?_range hkl] at hk
    injection hk with hk; subst hk
    rw [dif_pos hkl]
    obtain ⟨q0, q1, q2, q3, q4⟩ := Classical.choose_spec (hel i hkl)
    have e : ∀ j, ((⟨b, o, none⟩ : Addr).add (i * 4)).add j = ⟨b, o + i * 4 + j, none⟩ := fun j => by rw [Addr.add_mid, Addr.add_mid]
    exact ⟨q0, (congrArg (fun q => W.cell? q) (e 0).symm).trans q1, (congrArg (fun q => W.cell? q) (e 1).symm).trans q2, (congrArg (fun q => W.cell? q) (e 2).symm).trans q3, (congrArg (fun q => W.cell? q) (e 3).symm).trans q4⟩
end
end Go.Proofs.YtbpaiiljhdohfaaDoor
