/- Vocabularies: an index that is asked. Contracts of the library's Builder at a Builder that the call itself has made, read by String() or not: its check for copies, WriteByte, WriteString. Vocabularies, plain facts: shown and read again; what Of makes. Vocabularies: Show. -/
import Derived.Test.YtdpfpdpaamjefaaDoorV1
import Derived.Test.YtdpfpdpaamjefaaDoorY2
import Derived.Test.YtdpfpdpaamjefaaDoorS
import Derived.Lib.Builder
import Derived.Lib.AppendStr
import Derived.Lib.FrozenHead
import Derived.Test.YtdpfpdpaamjefaaDoorVr
import Derived.Test.YtdpfpdpaamjefaaDoorY1
import Derived.Test.YtdpfpdpaamjefaaDoorY6
namespace Go.Proofs.YtdpfpdpaamjefaaDoor
open Go.RowKit Go.Shelf Go.Maps
variable {w w' : World}

/-- An index whose maps are built. -/
def IxBuilt (b : Nat) (L : List EntB) (x : Int) (w : World) : Prop :=
  ∃ m1 m2, w.heap[b]? = some (.cells (ixRow (.slice none 0 0) 1 0 (.map (some m1)) (.map (some m2)) x) 73 (0, 0)) ∧ IsTk m1 L.length L w ∧ IsId m2 L.length L w ∧ m1 ≠ b ∧ m2 ≠ b
/-- An index as New makes it. -/
def IxFresh (b : Nat) (L : List EntB) (x : Int) (w : World) : Prop :=
  ∃ gb cap, w.heap[b]? = some (.cells (ixRow (.slice (some ⟨gb, 0, none⟩) L.length cap) 0 0 (.map none) (.map none) x) 73 (0, 0)) ∧ EnAt w 55 (some ⟨gb, 0, none⟩) L ∧ gb < w.heap.size ∧ gb ≠ b
def IxSt (b : Nat) (L : List EntB) (x : Int) (w : World) : Prop := IxFresh b L x w ∨ IxBuilt b L x w
theorem IxBuilt.below {b : Nat} {L : List EntB} {x : Int} (h : IxBuilt b L x w) (hb : Below w.heap.size w w') : IxBuilt b L x w' := by
  obtain ⟨m1, m2, h1, h2, h3, h4, h5⟩ := h
  exact ⟨m1, m2, (hb.block _ (lt_of_some h1)).trans h1, h2.keep (hb.block _ h2.lt), h3.keep (hb.block _ h3.lt), h4, h5⟩
theorem IxFresh.below {b : Nat} {L : List EntB} {x : Int} (h : IxFresh b L x w) (hb : Below w.heap.size w w') : IxFresh b L x w' := by
  obtain ⟨gb, cap, h1, h2, h3, h4⟩ := h
  exact ⟨gb, cap, (hb.block _ (lt_of_some h1)).trans h1, h2.row (hb.block _ h3), Nat.lt_of_lt_of_le h3 hb.size, h4⟩
theorem IxSt.below {b : Nat} {L : List EntB} {x : Int} (h : IxSt b L x w) (hb : Below w.heap.size w w') : IxSt b L x w' := h.imp (·.below hb) (·.below hb)
theorem IxSt.lt {b : Nat} {L : List EntB} {x : Int} (h : IxSt b L x w) : b < w.heap.size := by
  rcases h with ⟨gb, cap, h1, _⟩ | ⟨m1, m2, h1, _⟩ <;> exact lt_of_some h1
def OkL (L : List EntB) : Prop := L.length ≤ 50000 ∧ (∀ e ∈ L, e.2.size ≤ maxLen) ∧ ∀ e ∈ L, e.1 ≤ 1073741824
theorem FrM.setb {b i : Nat} (h : FrM b w w') (v : Value) : FrM b w (w'.setCell ⟨b, i, none⟩ v) :=
  ⟨h.low.trans ((Below.refl 0 w').setCell (p := ⟨b, i, none⟩) (Nat.zero_le _) v), Nat.le_trans h.size (by simp), fun k hk hb => (Below.heap_setCell w' ⟨b, i, none⟩ v k hb).trans (h.block k hk hb)⟩
theorem FrM.refl (b : Nat) (w : World) : FrM b w w := ⟨Below.refl 0 w, Nat.le_refl _, fun _ _ _ => rfl⟩
set_option maxHeartbeats 1000000 in
theorem ask_any (b : Nat) (L : List EntB) (x : Int) (w : World) (h0 : 0 ≤ x) (h1 : x ≤ 100000) (hL : OkL L) (h : IxSt b L x w) :
    Calls Tryd.prog 19 #[.pointer (some ⟨b, 0, none⟩)] w fun e w' => e = .returned (.tuple #[]) ∧ IxBuilt b L (x + 1) w' ∧ FrM b w w' := by
  have hs : IntKind.i64.wrap (x + 1) = x + 1 := IntWalk.i64_in _ (by omega)
  rcases h with ⟨gb, cap, hr, hE, hg, hgb⟩ | ⟨m1, m2, hr, ht, hi, hm1, hm2⟩
  · obtain ⟨c0, c1, c2, c4, c5, c6, cf⟩ := ix_cells hr
    have hr6 := heap_set (i := 6) (.int .i64 (x + 1)) hr
    have hr2 := heap_set (i := 2) (.int .i32 1) hr6
    have hk : ∀ j, j ≠ b → ((w.setCell ⟨b, 6, none⟩ (.int .i64 (x + 1))).setCell ⟨b, 2, none⟩ (.int .i32 1)).heap[j]? = w.heap[j]? := fun j hj => (Below.heap_setCell _ _ _ j hj).trans (Below.heap_setCell _ _ _ j hj)
    have hF := fill_any b gb cap 0 1 (x + 1) L ((w.setCell ⟨b, 6, none⟩ (.int .i64 (x + 1))).setCell ⟨b, 2, none⟩ (.int .i32 1)) hL.1 hr2 (hE.row (hk gb hgb)) (by simpa using hg) hgb hL.2.1 hL.2.2
    refine (ask_first b 0 x _ w c6 (cf _) hs c1 c2 (cf _) hF ?_).mono ?_
    · rintro v ⟨m1, m2, hv, _⟩
      obtain ⟨d0, d1, d2, d4, d5, d6, df⟩ := ix_cells hv
      exact ⟨d1, d2, df _, df _⟩
    · rintro e w' ⟨rfl, v, ⟨m1, m2, hv, ht, hi, hm1, hm2, hfr⟩, rfl⟩
      have hbl := lt_of_some hr
      have hsz : ((w.setCell ⟨b, 6, none⟩ (.int .i64 (x + 1))).setCell ⟨b, 2, none⟩ (.int .i32 1)).heap.size = w.heap.size := by simp
      rw [hsz] at hm1 hm2
      have hv1 := heap_set (w := v.drew) (i := 1) (.int .u32 1) hv
      have hv2 := heap_set (i := 2) (.int .i32 0) hv1
      have hkv : ∀ j, j ≠ b → ((v.drew.setCell ⟨b, 1, none⟩ (.int .u32 1)).setCell ⟨b, 2, none⟩ (.int .i32 0)).heap[j]? = v.heap[j]? := fun j hj => (Below.heap_setCell _ _ _ j hj).trans (Below.heap_setCell _ _ _ j hj)
      have hfr0 : FrM b w v := ⟨(((Below.refl 0 w).setCell (p := ⟨b, 6, none⟩) (Nat.zero_le _) _).setCell (p := ⟨b, 2, none⟩) (Nat.zero_le _) _).trans hfr.low, by have := hfr.size; rw [hsz] at this; exact this, fun j hj hjb => (hfr.block j (by rw [hsz]; exact hj) hjb).trans (hk j hjb)⟩
      have hfr1 : FrM b w v.drew := ⟨hfr0.low.drew, hfr0.size, hfr0.block⟩
      exact ⟨rfl, ⟨m1, m2, hv2, ht.keep (hkv m1 (by omega)), hi.keep (hkv m2 (by omega)), by omega, by omega⟩, (hfr1.setb _).setb _⟩
  · obtain ⟨c0, c1, c2, c4, c5, c6, cf⟩ := ix_cells hr
    refine (ask_again b 0 x 1 (by decide) w c6 (cf _) hs c1).mono ?_
    rintro e w' ⟨rfl, rfl⟩
    have hk : ∀ j, j ≠ b → (w.setCell ⟨b, 6, none⟩ (.int .i64 (x + 1))).heap[j]? = w.heap[j]? := fun j hj => Below.heap_setCell _ _ _ j hj
    exact ⟨rfl, ⟨m1, m2, heap_set (i := 6) _ hr, ht.keep (hk m1 hm1), hi.keep (hk m2 hm2), hm1, hm2⟩, (FrM.refl b w).setb _⟩
theorem zero_ve (w : World) : (zeroValue 55).run Tryd.prog w = .ok (.agg #[.int .i64 0, .string ⟨#[]⟩]) w := Tryd.zeroValue55 _
theorem zero_el : entElem (.agg #[.int .i64 0, .string ⟨#[]⟩]) = some (entZ, []) := rfl
set_option maxHeartbeats 2000000 in
set_option maxRecDepth 100000 in
/-- '(*vocab.Index).ID' of a token that there is. -/
theorem ID_some (b : Nat) (L : List EntB) (x : Int) (s : ByteArray) (q : EntB) (w : World) (h0 : 0 ≤ x) (h1 : x ≤ 100000) (hL : OkL L) (hs : s.size ≤ maxLen) (hq : lookE (fun e : EntB => e.2) L s = some q) (h : IxSt b L x w) :
    Calls Tryd.prog 13 #[.pointer (some ⟨b, 0, none⟩), .string s] w fun e w' => e = .returned (.tuple #[.int .i64 (q.1 : Nat), .bool true]) ∧ IxBuilt b L (x + 1) w' ∧ FrM b w w' := by
  have HA := Lib.hid (ask_any b L x w h0 h1 hL h)
  have HKB := Lib.hid (keyS hs); have HQ := Lib.hid hq
  clear h hq hL
  go_enter Tryd.func13, Tryd.ntmps13
  go_wp2_with (go_at_call 19; refine HA.out.mono ?_)
  first | rintro e w1 ⟨rfl, hi, hf⟩ | rintro e w1 rfl hi hf
  have HI := Lib.hid hi; have HF := Lib.hid hf
  obtain ⟨m1, m2, hr, ⟨D, hD, hD2⟩, _⟩ := hi
  have c4 := (ix_cells hr).2.2.2.1
  have HD := Lib.hid hD
  obtain ⟨hh, hat⟩ := hD2 s
  rw [HQ.out] at hh
  have HH := Lib.hid hh; have HAT := Lib.hid (hat q HQ.out)
  clear hf hr hD hD2 hh hat
  go_wp2_with (at_lookup; refine wpList_lookup_own_ok _ rfl _ _ 67 rfl 9 55 keyedS Tryd.underlying67 entElem (zero_ve _) entZ [] zero_el m1 L.length D rfl HD.out _ (.string s.data.toList) rfl HKB.out ?_; intro v ps hv; rw [HAT.out] at hv; rw [HH.out]; obtain rfl := entElem_ent hv; clear hv)
  refine bodyPost_ret (v := .tuple #[.int .i64 (q.1 : Nat), .bool true]) (by simp [results, Tryd.results13, go_sem]) rfl ?_
  exact ⟨rfl, HI.out.below ((Below.refl _ _).alloc (Nat.le_refl _) _), HF.out.trans (FrM.of_below ((Below.refl _ _).alloc (Nat.le_refl _) _))⟩
end Go.Proofs.YtdpfpdpaamjefaaDoor
namespace Go.Proofs.YtdpfpdpaamjefaaDoor
open Go.RowKit


theorem bldSize : (Tryd.prog.info? 80).map (fun i => i.size) = some 2 := by kernel_rfl
theorem bldInfo : ∃ j, Tryd.prog.info? 80 = some j ∧ j.size = 2 := by
  have h := bldSize
  cases hi : Tryd.prog.info? 80 with
  | none => rw [hi] at h; cases h
  | some j => rw [hi] at h; exact ⟨j, rfl, by simpa using h⟩
theorem bldLies : liesAt Tryd.prog Tryd.prog.depth 80 (2 / Tryd.prog.cellsOf 80) 0 80 1 = true := by kernel_rfl

set_option maxRecDepth 100000 in
theorem check_used (b : Nat) (w : World) (h0 : w.cell? ⟨b, 0, none⟩ = some (.pointer (some ⟨b, 0, none⟩))) :
    Calls Tryd.prog 35 #[.pointer (some ⟨b, 0, none⟩)] w fun e w' => e = .returned (.tuple #[]) ∧ w = w' := by
  obtain ⟨j, hj, _⟩ := bldInfo
  go_enter Tryd.func35, Tryd.ntmps35
  go_wp2
  rw [Lib.run_neq_ptr_same w _ Tryd.underlying78 hj]
  go_wp2
  go_end0
  exact ⟨rfl, rfl⟩

set_option maxRecDepth 100000 in
theorem check_fresh (b : Nat) (w : World) (h0 : w.cell? ⟨b, 0, none⟩ = some (.pointer none)) (hsh : w.shape? b = some (80, 2)) (hfz : w.frozen? ⟨b, 0, none⟩ = false) :
    Calls Tryd.prog 35 #[.pointer (some ⟨b, 0, none⟩)] w fun e w' => e = .returned (.tuple #[]) ∧ w' = w.setCell ⟨b, 0, none⟩ (.pointer (some ⟨b, 0, none⟩)) := by
  obtain ⟨j, hj, hjs⟩ := bldInfo
  go_enter Tryd.func35, Tryd.ntmps35
  go_wp2
  rw [Lib.run_to_unsafe w ⟨b, 0, none⟩ Tryd.underlying78 Tryd.underlying110 hj (by rw [hjs]; decide) hsh (Nat.zero_lt_succ 1)]
  simp only [Result.andThen]
  rw [Oper.upon_value]
  go_wp2
  rw [run_callFunc_extern Tryd.func45 (by kernel_rfl) (by kernel_rfl) (by kernel_rfl) (e := Extern.AbiNoEscape.same) (by kernel_rfl)]
  rw [Lib.run_noEscape]
  simp only [Result.andThen]
  rw [Oper.upon_value]
  go_wp2
  rw [Lib.run_from_unsafe w ⟨b, 0, none⟩ Tryd.underlying110 Tryd.underlying78 hj hsh bldLies]
  simp only [Result.andThen]
  rw [Oper.upon_value]
  go_wp2
  go_end0
  exact ⟨rfl, rfl⟩

theorem byteInfo : (Tryd.prog.info? 5).map (fun i => (i.zero, i.size, i.bytes)) = some (some (.int .u8 0), 1, 1) := by kernel_rfl

theorem byteCells_app (a b : List UInt8) : Lib.byteCells (a ++ b) = Lib.byteCells a ++ Lib.byteCells b := by simp [Lib.byteCells]
theorem strCells_eq (s : ByteArray) : Lib.strCells s = Lib.byteCells s.data.toList := rfl

theorem ownF_below {w w' : World} {B : Nat} {e : TypeId} {size : Nat} {v : Value} {n : Nat} {xs : List Value} (h : w.ownsRowF B e size v n xs) (hb : Below w.heap.size w w') : w'.ownsRowF B e size v n xs := by
  refine ⟨h.1, ?_⟩
  rcases h.2 with hv | ⟨g, cap, cur, fz, hv, hB, hg, r⟩
  · exact .inl hv
  · exact .inr ⟨g, cap, cur, fz, hv, hB, (hb.block g (lt_of_some hg)).trans hg, r⟩
theorem bldAtF_below {w w' : World} {T e : TypeId} {B b : Nat} {p : Value} {bs : List Value} (h : Lib.BuilderAtF T e B b p bs w) (hb : Below w.heap.size w w') : Lib.BuilderAtF T e B b p bs w' := by
  obtain ⟨hB, v, hk, hown, hne⟩ := h
  exact ⟨hB, v, (hb.block b (lt_of_some hk)).trans hk, ownF_below hown hb, hne⟩
theorem bldF_below {w w' : World} {T e : TypeId} {B b : Nat} {bs : List Value} (h : Lib.IsBuilderF T e B b bs w) (hb : Below w.heap.size w w') : Lib.IsBuilderF T e B b bs w' :=
  h.elim (fun h => .inl (bldAtF_below h hb)) (fun h => .inr (bldAtF_below h hb))

theorem check_f (B b : Nat) (bs : List Value) (w : World) (h : Lib.IsBuilderF 80 5 B b bs w) :
    Calls Tryd.prog 35 #[.pointer (some ⟨b, 0, none⟩)] w fun e w' => e = .returned (.tuple #[]) ∧ Lib.BuilderAtF 80 5 B b (.pointer (some ⟨b, 0, none⟩)) bs w' ∧ Below B w w' := by
  rcases h with h | h
  · refine (check_fresh b w h.cell0 h.shape h.frozen0).mono ?_
    rintro e w' ⟨rfl, rfl⟩
    exact ⟨rfl, h.used _, (Below.refl B w).setCell (p := ⟨b, 0, none⟩) h.1 _⟩
  · refine (check_used b w h.cell0).mono ?_
    rintro e w' ⟨rfl, rfl⟩
    exact ⟨rfl, h, Below.refl B _⟩

set_option maxHeartbeats 1000000 in
set_option maxRecDepth 100000 in
theorem write_f (B b : Nat) (bs : List Value) (s : ByteArray) (w : World) (h : Lib.IsBuilderF 80 5 B b bs w) (hlen : bs.length + s.size ≤ 140737488355328) (hBw : B ≤ w.heap.size) :
    Calls Tryd.prog 22 #[.pointer (some ⟨b, 0, none⟩), .string s] w fun e w' => e = .returned (.tuple #[.int .i64 s.size, .nilIface]) ∧ Lib.IsBuilderF 80 5 B b (bs ++ Lib.strCells s) w' ∧ Below B w w' := by
  obtain ⟨i0, hi, hz0, hz1, hz2⟩ := info_parts byteInfo
  go_enter Tryd.func22, Tryd.ntmps22
  go_wp2_with (go_at_call 35; refine (check_f B b bs _ h).mono ?_)
  rintro e w1 ⟨rfl, ⟨hB, v, hbk, hown, hne⟩, hb1⟩
  have c0 : w1.cell? ⟨b, 0, none⟩ = some (.pointer (some ⟨b, 0, none⟩)) := by rw [Lib.cell_of_heap hbk]; rfl
  have c1 : w1.cell? ⟨b, 1, none⟩ = some v := by rw [Lib.cell_of_heap hbk]; rfl
  go_wp2_with (at_builtin; refine Lib.wpList_append_own_stringF _ rfl _ _ 24 9 rfl B 5 i0 Tryd.underlying24 Tryd.underlying9 hi hz0 hz1 hz2 _ _ _ rfl hown s rfl ?c3 ?c4 ?c5 ?_)
  case c3 => unfold maxLen; omega
  case c4 => omega
  case c5 => have := hb1.size; omega
  intro v' w2 hown' hgrow _
  have hlt : b < w1.heap.size := by
    rcases Nat.lt_or_ge b w1.heap.size with h' | h'
    · exact h'
    · simp [Array.getElem?_eq_none h'] at hbk
  have hb2 : w2.heap[b]? = some (.cells #[.pointer (some ⟨b, 0, none⟩), v] 80 (0, 0)) := by
    rw [hgrow.block b hlt (fun e => hne e.symm)]
    exact hbk
  have d0 : w2.cell? ⟨b, 0, none⟩ = some (.pointer (some ⟨b, 0, none⟩)) := by rw [Lib.cell_of_heap hb2]; rfl
  have d1 : w2.cell? ⟨b, 1, none⟩ = some v := by rw [Lib.cell_of_heap hb2]; rfl
  have f1 : w2.frozen? ⟨b, 1, none⟩ = false := Lib.frozen_of_heap hb2 1
  obtain ⟨ao, n', cap, rfl⟩ : ∃ ao n' cap, v' = .slice ao n' cap := by
    rcases hown'.2 with ⟨hv, _⟩ | ⟨g, cap, cur, fz, hv, _⟩
    · exact ⟨_, _, _, hv⟩
    · exact ⟨_, _, _, hv⟩
  go_wp2
  go_ret2
  refine ⟨rfl, .inr ?_, ?_⟩
  · exact Lib.BuilderAtF.put (T := 80) (e := 5) hB hb2 (bs' := bs ++ Lib.strCells s) (by simpa [Lib.strCells_length] using hown') (by decide)
  · exact (hb1.grown hgrow (by have := hb1.size; omega) (fun k hk => (hown.lt k hk).1)).setCell (p := ⟨b, 1, none⟩) hB _

set_option maxHeartbeats 1000000 in
set_option maxRecDepth 100000 in
theorem byte_f (B b : Nat) (bs : List Value) (c : Int) (w : World) (h : Lib.IsBuilderF 80 5 B b bs w) (hlen : bs.length + 1 ≤ 140737488355328) (hBw : B ≤ w.heap.size) :
    Calls Tryd.prog 26 #[.pointer (some ⟨b, 0, none⟩), .int .u8 c] w fun e w' => e = .returned .nilIface ∧ Lib.IsBuilderF 80 5 B b (bs ++ [.int .u8 c]) w' ∧ Below B w w' := by
  obtain ⟨i0, hi, hz0, hz1, hz2⟩ := info_parts byteInfo
  go_enter Tryd.func26, Tryd.ntmps26
  go_wp2_with (go_at_call 35; refine (check_f B b bs _ h).mono ?_)
  rintro e w1 ⟨rfl, ⟨hB, v, hbk, hown, hne⟩, hb1⟩
  have c0 : w1.cell? ⟨b, 0, none⟩ = some (.pointer (some ⟨b, 0, none⟩)) := by rw [Lib.cell_of_heap hbk]; rfl
  have c1 : w1.cell? ⟨b, 1, none⟩ = some v := by rw [Lib.cell_of_heap hbk]; rfl
  go_wp2_with (at_builtin; refine wpList_append_ownF _ rfl _ _ 24 rfl B 5 i0 (.int .u8 0) 1 1 Tryd.underlying24 hi hz0 hz1 hz2 rfl (by decide) _ _ _ rfl (hown.alloc _) ⟨w1.heap.size, 0, none⟩ 1 1 [.int .u8 c] rfl rfl ?c1 ?c2 ?c3 ?c4 ?c5 ?_)
  case c1 =>
    intro j u hj
    match j, hj with
    | 0, hj => simp at hj; subst hj; simp [Addr.add]
  case c2 => intro u hu; simp at hu; subst hu; rfl
  case c3 => unfold maxLen; omega
  case c4 => omega
  case c5 => have := hb1.size; simp; omega
  intro v' w2 hown' hgrow _
  have hlt : b < w1.heap.size := by
    rcases Nat.lt_or_ge b w1.heap.size with h' | h'
    · exact h'
    · simp [Array.getElem?_eq_none h'] at hbk
  have hb2 : w2.heap[b]? = some (.cells #[.pointer (some ⟨b, 0, none⟩), v] 80 (0, 0)) := by
    rw [hgrow.block b (by simp; omega) (fun e => hne e.symm), Lib.alloc_old w1 _ b hlt]
    exact hbk
  have d0 : w2.cell? ⟨b, 0, none⟩ = some (.pointer (some ⟨b, 0, none⟩)) := by rw [Lib.cell_of_heap hb2]; rfl
  have d1 : w2.cell? ⟨b, 1, none⟩ = some v := by rw [Lib.cell_of_heap hb2]; rfl
  have f1 : w2.frozen? ⟨b, 1, none⟩ = false := Lib.frozen_of_heap hb2 1
  obtain ⟨g, cap, rfl⟩ : ∃ g cap, v' = .slice (some ⟨g, 0, none⟩) (bs.length + 1) cap := by
    rcases hown'.2 with ⟨_, h0⟩ | ⟨g, cap, cur, fz, hv, _⟩
    · omega
    · exact ⟨g, cap, hv⟩
  go_wp2
  go_ret
  refine ⟨rfl, .inr ?_, ?_⟩
  · exact Lib.BuilderAtF.put (T := 80) (e := 5) hB hb2 (bs' := bs ++ [.int .u8 c]) (by simpa using hown') (by decide)
  · exact ((hb1.alloc (by have := hb1.size; omega) _).grown hgrow (by have := hb1.size; simp; omega) (fun k hk => (hown.lt k hk).1)).setCell (p := ⟨b, 1, none⟩) hB _
theorem bldF_lt {w : World} {T e : TypeId} {B b : Nat} {bs : List Value} (h : Lib.IsBuilderF T e B b bs w) : b < w.heap.size := by
  rcases h with ⟨hB, v, hk, _⟩ | ⟨hB, v, hk, _⟩
  · exact lt_of_some hk
  · exact lt_of_some hk
theorem ownF_block {w : World} {B e size n x : Nat} {v : Value} {xs : List Value} (h : w.ownsRowF B e size v n xs) (hx : v.ownBlock = some x) : ∃ cur fz, w.heap[x]? = some (.cells cur e fz) := by
  rcases h.2 with ⟨hv, _⟩ | ⟨g, cap, cur, fz, hv, _, hg, _⟩
  · rw [hv] at hx; cases hx
  · rw [hv] at hx; cases hx; exact ⟨cur, _, hg⟩
theorem check_fk (B b : Nat) (bs : List Value) (w : World) (h : Lib.IsBuilderF 80 5 B b bs w) :
    Calls Tryd.prog 35 #[.pointer (some ⟨b, 0, none⟩)] w fun e w' => e = .returned (.tuple #[]) ∧ Lib.BuilderAtF 80 5 B b (.pointer (some ⟨b, 0, none⟩)) bs w' ∧ Below B w w' ∧ ∀ x, x ≠ b → w'.heap[x]? = w.heap[x]? := by
  rcases h with h | h
  · refine (check_fresh b w h.cell0 h.shape h.frozen0).mono ?_
    rintro e w' ⟨rfl, rfl⟩
    exact ⟨rfl, h.used _, (Below.refl B w).setCell (p := ⟨b, 0, none⟩) h.1 _, fun x hx => Below.heap_setCell _ _ _ _ (by show x ≠ b; exact hx)⟩
  · refine (check_used b w h.cell0).mono ?_
    rintro e w' ⟨rfl, rfl⟩
    exact ⟨rfl, h, Below.refl B _, fun _ _ => rfl⟩
set_option maxHeartbeats 1000000 in
set_option maxRecDepth 100000 in
theorem byte_fk (B b : Nat) (bs : List Value) (c : Int) (w : World) (h : Lib.IsBuilderF 80 5 B b bs w) (hlen : bs.length + 1 ≤ 140737488355328) (hBw : B ≤ w.heap.size) :
    Calls Tryd.prog 26 #[.pointer (some ⟨b, 0, none⟩), .int .u8 c] w fun e w' => e = .returned .nilIface ∧ Lib.IsBuilderF 80 5 B b (bs ++ [.int .u8 c]) w' ∧ Below B w w' ∧ ∀ (x : Nat) (cur : Array Value) (e : TypeId), w.heap[x]? = some (.cells cur e (0, 0)) → e ≠ 5 → x ≠ b → w'.heap[x]? = w.heap[x]? := by
  obtain ⟨i0, hi, hz0, hz1, hz2⟩ := info_parts byteInfo
  go_enter Tryd.func26, Tryd.ntmps26
  go_wp2_with (go_at_call 35; refine (check_fk B b bs _ h).mono ?_)
  rintro e w1 ⟨rfl, ⟨hB, v, hbk, hown, hne⟩, hb1, hkp⟩
  have HKP := Lib.hid hkp
  clear hkp
  have c0 : w1.cell? ⟨b, 0, none⟩ = some (.pointer (some ⟨b, 0, none⟩)) := by rw [Lib.cell_of_heap hbk]; rfl
  have c1 : w1.cell? ⟨b, 1, none⟩ = some v := by rw [Lib.cell_of_heap hbk]; rfl
  go_wp2_with (at_builtin; refine wpList_append_ownF _ rfl _ _ 24 rfl B 5 i0 (.int .u8 0) 1 1 Tryd.underlying24 hi hz0 hz1 hz2 rfl (by decide) _ _ _ rfl (hown.alloc _) ⟨w1.heap.size, 0, none⟩ 1 1 [.int .u8 c] rfl rfl ?c1 ?c2 ?c3 ?c4 ?c5 ?_)
  case c1 =>
    intro j u hj
    match j, hj with
    | 0, hj => simp at hj; subst hj; simp [Addr.add]
  case c2 => intro u hu; simp at hu; subst hu; rfl
  case c3 => unfold maxLen; omega
  case c4 => omega
  case c5 => have := hb1.size; simp; omega
  intro v' w2 hown' hgrow _
  have hlt : b < w1.heap.size := by
    rcases Nat.lt_or_ge b w1.heap.size with h' | h'
    · exact h'
    · simp [Array.getElem?_eq_none h'] at hbk
  have hb2 : w2.heap[b]? = some (.cells #[.pointer (some ⟨b, 0, none⟩), v] 80 (0, 0)) := by
    rw [hgrow.block b (by simp; omega) (fun e => hne e.symm), Lib.alloc_old w1 _ b hlt]
    exact hbk
  have d0 : w2.cell? ⟨b, 0, none⟩ = some (.pointer (some ⟨b, 0, none⟩)) := by rw [Lib.cell_of_heap hb2]; rfl
  have d1 : w2.cell? ⟨b, 1, none⟩ = some v := by rw [Lib.cell_of_heap hb2]; rfl
  have f1 : w2.frozen? ⟨b, 1, none⟩ = false := Lib.frozen_of_heap hb2 1
  obtain ⟨g, cap, rfl⟩ : ∃ g cap, v' = .slice (some ⟨g, 0, none⟩) (bs.length + 1) cap := by
    rcases hown'.2 with ⟨_, h0⟩ | ⟨g, cap, cur, fz, hv, _⟩
    · omega
    · exact ⟨g, cap, hv⟩
  go_wp2
  go_ret
  refine ⟨rfl, .inr ?_, ?_, ?_⟩
  · exact Lib.BuilderAtF.put (T := 80) (e := 5) hB hb2 (bs' := bs ++ [.int .u8 c]) (by simpa using hown') (by decide)
  · exact ((hb1.alloc (by have := hb1.size; omega) _).grown hgrow (by have := hb1.size; simp; omega) (fun k hk => (hown.lt k hk).1)).setCell (p := ⟨b, 1, none⟩) hB _
  · intro x cur e hx he hxb
    have e1 := (HKP.out x hxb).trans hx
    have hxl : x < w1.heap.size := (Array.getElem?_eq_some_iff.1 e1).1
    refine (Below.heap_setCell _ _ _ _ (by show x ≠ b; exact hxb)).trans ?_
    rw [hgrow.block x (by simp; omega) (fun hr => ?_), Lib.alloc_old w1 _ x hxl, HKP.out x hxb]
    obtain ⟨c', fz, hc'⟩ := ownF_block hown hr.symm
    rw [hc'] at e1
    injection e1 with e1
    injection e1 with _ e1
    exact he e1.symm

set_option maxHeartbeats 1000000 in
set_option maxRecDepth 100000 in
theorem write_fk (B b : Nat) (bs : List Value) (s : ByteArray) (w : World) (h : Lib.IsBuilderF 80 5 B b bs w) (hlen : bs.length + s.size ≤ 140737488355328) (hBw : B ≤ w.heap.size) :
    Calls Tryd.prog 22 #[.pointer (some ⟨b, 0, none⟩), .string s] w fun e w' => e = .returned (.tuple #[.int .i64 s.size, .nilIface]) ∧ Lib.IsBuilderF 80 5 B b (bs ++ Lib.strCells s) w' ∧ Below B w w' ∧ ∀ (x : Nat) (cur : Array Value) (e : TypeId), w.heap[x]? = some (.cells cur e (0, 0)) → e ≠ 5 → x ≠ b → w'.heap[x]? = w.heap[x]? := by
  obtain ⟨i0, hi, hz0, hz1, hz2⟩ := info_parts byteInfo
  go_enter Tryd.func22, Tryd.ntmps22
  go_wp2_with (go_at_call 35; refine (check_fk B b bs _ h).mono ?_)
  rintro e w1 ⟨rfl, ⟨hB, v, hbk, hown, hne⟩, hb1, hkp⟩
  have HKP := Lib.hid hkp
  clear hkp
  have c0 : w1.cell? ⟨b, 0, none⟩ = some (.pointer (some ⟨b, 0, none⟩)) := by rw [Lib.cell_of_heap hbk]; rfl
  have c1 : w1.cell? ⟨b, 1, none⟩ = some v := by rw [Lib.cell_of_heap hbk]; rfl
  go_wp2_with (at_builtin; refine Lib.wpList_append_own_stringF _ rfl _ _ 24 9 rfl B 5 i0 Tryd.underlying24 Tryd.underlying9 hi hz0 hz1 hz2 _ _ _ rfl hown s rfl ?c3 ?c4 ?c5 ?_)
  case c3 => unfold maxLen; omega
  case c4 => omega
  case c5 => have := hb1.size; omega
  intro v' w2 hown' hgrow _
  have hlt : b < w1.heap.size := by
    rcases Nat.lt_or_ge b w1.heap.size with h' | h'
    · exact h'
    · simp [Array.getElem?_eq_none h'] at hbk
  have hb2 : w2.heap[b]? = some (.cells #[.pointer (some ⟨b, 0, none⟩), v] 80 (0, 0)) := by
    rw [hgrow.block b hlt (fun e => hne e.symm)]
    exact hbk
  have d0 : w2.cell? ⟨b, 0, none⟩ = some (.pointer (some ⟨b, 0, none⟩)) := by rw [Lib.cell_of_heap hb2]; rfl
  have d1 : w2.cell? ⟨b, 1, none⟩ = some v := by rw [Lib.cell_of_heap hb2]; rfl
  have f1 : w2.frozen? ⟨b, 1, none⟩ = false := Lib.frozen_of_heap hb2 1
  obtain ⟨ao, n', cap, rfl⟩ : ∃ ao n' cap, v' = .slice ao n' cap := by
    rcases hown'.2 with ⟨hv, _⟩ | ⟨g, cap, cur, fz, hv, _⟩
    · exact ⟨_, _, _, hv⟩
    · exact ⟨_, _, _, hv⟩
  go_wp2
  go_ret2
  refine ⟨rfl, .inr ?_, ?_, ?_⟩
  · exact Lib.BuilderAtF.put (T := 80) (e := 5) hB hb2 (bs' := bs ++ Lib.strCells s) (by simpa [Lib.strCells_length] using hown') (by decide)
  · exact (hb1.grown hgrow (by have := hb1.size; omega) (fun k hk => (hown.lt k hk).1)).setCell (p := ⟨b, 1, none⟩) hB _
  · intro x cur e hx he hxb
    have e1 := (HKP.out x hxb).trans hx
    have hxl : x < w1.heap.size := (Array.getElem?_eq_some_iff.1 e1).1
    refine (Below.heap_setCell _ _ _ _ (by show x ≠ b; exact hxb)).trans ?_
    rw [hgrow.block x hxl (fun hr => ?_), HKP.out x hxb]
    obtain ⟨c', fz, hc'⟩ := ownF_block hown hr.symm
    rw [hc'] at e1
    injection e1 with e1
    injection e1 with _ e1
    exact he e1.symm
end Go.Proofs.YtdpfpdpaamjefaaDoor
namespace Go.Proofs.YtdpfpdpaamjefaaDoor
open Go.RowKit

def asP (e : EntB) : PairB := (⟨(Lib.decDigits e.1).toArray⟩, e.2)
def asE (p : PairB) : EntB := ((numR p.1).getD 0, p.2)
theorem numR_dec {n : Nat} (h : n ≤ 1073741824) : numR ⟨(Lib.decDigits n).toArray⟩ = some n := (numR_iff _ _).2 ⟨h, by simp⟩
theorem asE_asP {e : EntB} (h : e.1 ≤ 1073741824) : asE (asP e) = e := by
  show ((numR ⟨(Lib.decDigits e.1).toArray⟩).getD 0, e.2) = e
  rw [numR_dec h]; rfl
def OkE (l : List EntB) : Prop := ∀ e ∈ l, e.1 ≤ 1073741824
theorem OkE.map {l : List EntB} (h : OkE l) : (l.map asP).map asE = l := by
  rw [List.map_map]
  conv => rhs; rw [← List.map_id l]
  exact List.map_congr_left fun e he => asE_asP (h e he)
theorem OkE.nil : OkE [] := fun e h => by cases h
theorem OkE.snoc {l : List EntB} {e : EntB} (h : OkE l) (he : e.1 ≤ 1073741824) : OkE (l ++ [e]) := fun x hx => by
  rw [List.mem_append] at hx
  rcases hx with hx | hx
  · exact h x hx
  · rw [List.mem_singleton] at hx; subst hx; exact he
theorem entR_ok {s : ByteArray} {e : EntB} (h : entR s = some e) : e.1 ≤ 1073741824 ∧ asP e = pairOf s ∧ goodB e.2 = true := by
  unfold entR at h
  cases hn : numR (pairOf s).1 with
  | none => rw [hn] at h; cases h
  | some n =>
    rw [hn] at h
    simp only at h
    split at h
    · rename_i hg
      injection h with h
      subst h
      obtain ⟨h1, h2⟩ := (numR_iff _ _).1 hn
      refine ⟨h1, Prod.ext ?_ rfl, hg⟩
      exact ba_ext (by rw [h2]; simp [asP])
    · cases h
theorem goodB_size {s : ByteArray} (h : goodB s = true) : 0 < s.size ∧ s.size ≤ 64 := by
  unfold goodB at h
  simp only [Bool.and_eq_true, decide_eq_true_eq] at h
  exact h.1
theorem goodB_sg {s : ByteArray} (h : goodB s = true) : ∀ c ∈ s.data.toList, 33 ≤ (c.toNat : Int) ∧ (c.toNat : Int) ≤ 126 := by
  unfold goodB at h
  simp only [Bool.and_eq_true, decide_eq_true_eq, List.all_eq_true] at h
  exact h.2
theorem entR_sp {s : ByteArray} {e : EntB} (h : entR s = some e) : spAt s < s.size := by
  obtain ⟨_, h2, h3⟩ := entR_ok h
  have h4 := (goodB_size h3).1
  have h5 : e.2 = s.extract (spAt s + 1) s.size := congrArg Prod.snd h2
  rw [h5, ByteArray.size_extract] at h4
  omega
theorem rdV_ok {out : List EntB} {s : ByteArray} {e : EntB} (h : rdV out s = .inl e) : entR s = some e := by
  unfold rdV at h
  cases hr : entR s with
  | none => rw [hr] at h; cases h
  | some p =>
    rw [hr] at h
    simp only at h
    split at h
    · cases h
    · split at h
      · cases h
      · injection h with h; rw [h]
theorem rdV_err {out : List EntB} {s : ByteArray} {e : Int} (h : rdV out s = .inr e) : e ≠ 0 := by
  unfold rdV at h
  cases hr : entR s with
  | none => rw [hr] at h; injection h with h; subst h; decide
  | some p =>
    rw [hr] at h
    simp only at h
    split at h
    · injection h with h; subst h; decide
    · split at h
      · injection h with h; subst h; decide
      · cases h
def rdP (out : List PairB) (s : ByteArray) : PairB ⊕ Int := match rdV (out.map asE) s with
  | .inl e => .inl (asP e)
  | .inr e => .inr e
theorem rdP_ok {out : List PairB} {s : ByteArray} {p : PairB} (h : rdP out s = .inl p) : p = pairOf s ∧ spAt s < s.size := by
  unfold rdP at h
  cases hr : rdV (out.map asE) s with
  | inr e => rw [hr] at h; cases h
  | inl e =>
    rw [hr] at h
    injection h with h
    subst h
    have := rdV_ok hr
    exact ⟨(entR_ok this).2.1, entR_sp this⟩
theorem rdP_err {out : List PairB} {s : ByteArray} {e : Int} (h : rdP out s = .inr e) : e ≠ 0 := by
  unfold rdP at h
  cases hr : rdV (out.map asE) s with
  | inl x => rw [hr] at h; cases h
  | inr x => rw [hr] at h; injection h with h; subst h; exact rdV_err hr
theorem rest_map (S : ByteArray) : ∀ (d k : Nat) (out : List EntB), S.size - k = d → OkE out →
    OkE (restF rdV S k out).1 ∧ restF rdP S k (out.map asP) = ((restF rdV S k out).1.map asP, (restF rdV S k out).2) := by
  intro d
  induction d using Nat.strongRecOn with
  | ind d ih =>
    intro k out hd ho
    by_cases hlt : k < S.size
    · rw [restF_step rdV out hlt, restF_step rdP _ hlt, List.length_map]
      by_cases c1 : 4096 ≤ out.length
      · rw [if_pos c1, if_pos c1]; exact ⟨OkE.nil, rfl⟩
      rw [if_neg c1, if_neg c1]
      by_cases hn : nlAt S k = S.size
      · rw [if_pos hn, if_pos hn]; exact ⟨OkE.nil, rfl⟩
      rw [if_neg hn, if_neg hn]
      have hge := nlAt_ge S k
      have hrd : rdP (out.map asP) (S.extract k (nlAt S k)) = match rdV out (S.extract k (nlAt S k)) with
          | .inl e => .inl (asP e)
          | .inr e => .inr e := by
        unfold rdP; rw [ho.map]
      rw [hrd]
      cases hr : rdV out (S.extract k (nlAt S k)) with
      | inr e => exact ⟨OkE.nil, rfl⟩
      | inl x =>
        have hx := (entR_ok (rdV_ok hr)).1
        have := ih (S.size - (nlAt S k + 1)) (by omega) (nlAt S k + 1) (out ++ [x]) rfl (ho.snoc hx)
        rw [List.map_append] at this
        exact this
    · rw [restF_end rdV out (by omega), restF_end rdP _ (by omega)]
      exact ⟨ho, rfl⟩
theorem parseP_eq (S : ByteArray) : OkE (parseV S).1 ∧ parseL rdP S = ((parseV S).1.map asP, (parseV S).2) := by
  by_cases hb : 262144 < S.size
  · unfold parseV parseL
    rw [if_pos hb, if_pos hb]
    exact ⟨OkE.nil, rfl⟩
  · unfold parseV
    rw [parseL_eq rdV (by omega), parseL_eq rdP (by omega)]
    exact rest_map S _ 0 [] rfl OkE.nil
/-- The text of a vocabulary. -/
def showV (l : List EntB) : List UInt8 := showM (l.map asP)
theorem parseV_show {S : ByteArray} {res : List EntB} {n : Int} (h : parseV S = (res, n, 0)) : showV res = S.data.toList := by
  obtain ⟨_, h2⟩ := parseP_eq S
  rw [h] at h2
  have hsz : S.size ≤ 262144 := by
    by_cases hb : 262144 < S.size
    · unfold parseV parseL at h
      rw [if_pos hb] at h
      injection h with _ h; injection h with _ h; cases h
    · omega
  rw [parseL_eq rdP hsz] at h2
  have := parse_show (fun out s p h => rdP_ok h) (fun out s e h => rdP_err h) S _ _ _ _ _ rfl (Nat.zero_le _) h2
  unfold showV
  rw [this]; rfl
/-- Entries as Of makes them: numbered from 0 on, tokens all good and apart. -/
def Voc (l : List EntB) : Prop := ∀ j e, l[j]? = some e → e.1 = j ∧ goodB e.2 = true ∧ inB ((l.take j).map (·.2)) e.2 = false
theorem Voc.nil : Voc [] := fun j e h => by cases h
theorem Voc.add {l : List EntB} (h : Voc l) (s : ByteArray) : Voc (addE l s) := by
  unfold addE
  split
  · exact h
  · rename_i hc
    simp only [Bool.or_eq_true, Bool.not_eq_true', not_or, Bool.not_eq_true, Bool.not_eq_false] at hc
    intro j e he
    by_cases hj : j < l.length
    · rw [List.getElem?_append_left hj] at he
      rw [List.take_append_of_le_length (by omega)]
      exact h j e he
    · rw [List.getElem?_append_right (by omega)] at he
      have hj0 : j - l.length = 0 := by
        rcases Nat.eq_zero_or_pos (j - l.length) with h0 | h0
        · exact h0
        · rw [List.getElem?_cons, if_neg (by omega)] at he; simp at he
      rw [hj0] at he
      have he := Option.some.inj he
      subst he
      have hjl : j = l.length := by omega
      subst hjl
      rw [List.take_left']
      · exact ⟨rfl, hc.2, hc.1⟩
      · rfl
theorem ofS_voc : ∀ n, Voc (ofS n)
  | 0 => Voc.nil
  | n + 1 => (ofS_voc n).add _
theorem fold_voc : ∀ (l : List PairB) (out : List EntB), Voc out → Voc (l.foldl (fun out p => addE out (p.1 ++ p.2)) out)
  | [], _, h => h
  | p :: l, out, h => fold_voc l _ (h.add _)
theorem ofP_voc (l : List PairB) : Voc (ofP l) := fold_voc l _ (ofS_voc 94)
theorem Voc.last {l : List EntB} (h : Voc l) {j : Nat} {e : EntB} (he : l[j]? = some e) : lastE (l.take j) < (e.1 : Int) := by
  rw [(h j e he).1]
  have hjl := (List.getElem?_eq_some_iff.1 he).1
  cases j with
  | zero => show (-1 : Int) < _; omega
  | succ m =>
    have hm : l[m]? = some l[m] := List.getElem?_eq_getElem (by omega)
    rw [List.take_add_one, hm]
    show lastE (l.take m ++ [l[m]]) < _
    rw [lastE_snoc, (h m _ hm).1]
    omega
theorem dg_no_nl {n : Nat} : ∀ c ∈ Lib.decDigits n, c ≠ 10 ∧ c ≠ 32 := fun c hc => by
  have := dec_all n n (Nat.le_refl _)
  rw [List.all_eq_true] at this
  have := of_decide_eq_true (this c hc)
  constructor <;> (intro e; subst e; revert this; decide)
theorem line_noV {e : EntB} (h : goodB e.2 = true) : ∀ c ∈ (lineB (asP e)).data.toList, c ≠ 10 := by
  intro c hc
  have hc : c ∈ Lib.decDigits e.1 ++ 32 :: e.2.data.toList := by
    have : (lineB (asP e)).data.toList = Lib.decDigits e.1 ++ 32 :: e.2.data.toList := by unfold lineB asP; simp
    rw [this] at hc; exact hc
  rw [List.mem_append, List.mem_cons] at hc
  rcases hc with hc | rfl | hc
  · exact (dg_no_nl c hc).1
  · decide
  · have := goodB_sg h c hc
    intro e; subst e; revert this; decide
theorem entR_line {e : EntB} (h1 : e.1 ≤ 1073741824) (h2 : goodB e.2 = true) : entR (lineB (asP e)) = some e := by
  have hp := (pair_of_line (asP e) (fun c hc => by
    have : c ∈ Lib.decDigits e.1 := by unfold asP at hc; simpa using hc
    exact (dg_no_nl c this).2)).1
  unfold entR
  rw [hp]
  have e1 : (asP e).1 = ⟨(Lib.decDigits e.1).toArray⟩ := rfl
  have e2 : (asP e).2 = e.2 := rfl
  rw [e1, e2, numR_dec h1]
  simp only
  rw [if_pos h2]
theorem showV_parse {S : ByteArray} {l : List EntB} (hS : S.data.toList = showV l) (hsz : S.size ≤ 262144) (hl : l.length ≤ 4096) (hv : Voc l) : parseV S = (l, 0, 0) := by
  have hok : OkE l := fun e he => by
    obtain ⟨j, hj⟩ := List.getElem?_of_mem he
    have := (List.getElem?_eq_some_iff.1 hj).1
    rw [(hv j e hj).1]; omega
  have h1 : parseL rdP S = (l.map asP, 0, 0) := show_parse S hS hsz (by simpa using hl) (fun p hp => by
    rw [List.mem_map] at hp
    obtain ⟨e, he, rfl⟩ := hp
    obtain ⟨j, hj⟩ := List.getElem?_of_mem he
    exact line_noV (hv j e hj).2.1) (fun j p hj => by
    rw [List.getElem?_map] at hj
    cases he : l[j]? with
    | none => rw [he] at hj; cases hj
    | some e =>
      rw [he] at hj
      injection hj with hj
      subst hj
      have hj2 := (List.getElem?_eq_some_iff.1 he).1
      obtain ⟨a, b, c⟩ := hv j e he
      unfold rdP
      have ht : ((l.map asP).take j).map asE = l.take j := by
        rw [← List.map_take]
        exact OkE.map (fun x hx => hok x (List.mem_of_mem_take hx))
      rw [ht]
      have : rdV (l.take j) (lineB (asP e)) = .inl e := by
        unfold rdV
        rw [entR_line (by omega) b]
        simp only
        have := hv.last he
        rw [if_neg (by omega), c]
        rfl
      rw [this])
  obtain ⟨h2, h3⟩ := parseP_eq S
  rw [h1] at h3
  generalize parseV S = R at h2 h3 ⊢
  obtain ⟨r1, r2⟩ := R
  simp only [Prod.mk.injEq] at h3
  simp only at h2
  have h6 : r1 = l := by rw [← h2.map, ← h3.1, hok.map]
  rw [h6, ← h3.2]
theorem showV_len : ∀ (l : List EntB), (∀ e ∈ l, e.1 ≤ 100000 ∧ e.2.size ≤ 64) → (showV l).length ≤ 90 * l.length
  | [], _ => Nat.le_refl _
  | e :: l, h => by
    have h1 := h e (.head _)
    have ih := showV_len l fun x hx => h x (.tail _ hx)
    have h2 := dec_len e.1 (by omega)
    have h3 : showV (e :: l) = (lineB (asP e)).data.toList ++ 10 :: showV l := by unfold showV; rw [List.map_cons, showM_cons]
    have h4 : (lineB (asP e)).data.toList = Lib.decDigits e.1 ++ 32 :: e.2.data.toList := by unfold lineB asP; simp
    rw [h3, h4, List.length_cons]
    simp only [List.length_append, List.length_cons]
    have := size_len e.2
    omega
theorem Voc.showLen {l : List EntB} (h : Voc l) (hl : l.length ≤ 1000) : (showV l).length ≤ 90 * l.length := showV_len l fun e he => by
  obtain ⟨j, hj⟩ := List.getElem?_of_mem he
  have := (List.getElem?_eq_some_iff.1 hj).1
  obtain ⟨a, b, _⟩ := h j e hj
  exact ⟨by omega, (goodB_size b).2⟩
/-- A vocabulary goes on where it was. -/
theorem addE_pre (out : List EntB) (s : ByteArray) : ∃ m, addE out s = out ++ m ∧ m.length ≤ 1 := by
  unfold addE; split
  · exact ⟨[], by simp, by simp⟩
  · exact ⟨_, rfl, by simp⟩
theorem fold_pre : ∀ (l : List PairB) (out : List EntB), ∃ m, l.foldl (fun out p => addE out (p.1 ++ p.2)) out = out ++ m ∧ m.length ≤ l.length
  | [], out => ⟨[], by simp, by simp⟩
  | p :: l, out => by
    obtain ⟨m, h1, h2⟩ := addE_pre out (p.1 ++ p.2)
    obtain ⟨m2, h3, h4⟩ := fold_pre l (addE out (p.1 ++ p.2))
    refine ⟨m ++ m2, ?_, ?_⟩
    · rw [List.foldl_cons, h3, h1, List.append_assoc]
    · rw [List.length_append, List.length_cons]; omega
theorem ofP_more (a b : List PairB) : ∃ m, ofP (a ++ b) = ofP a ++ m ∧ m.length ≤ b.length := by
  unfold ofP
  rw [List.foldl_append]
  exact fold_pre b _
end Go.Proofs.YtdpfpdpaamjefaaDoor
namespace Go.Proofs.YtdpfpdpaamjefaaDoor
open Go.RowKit
variable {w w' : World}

/-- A slice of entries, from any place of its block on. -/
def EnO (w : World) (t : TypeId) (o : Option Addr) (l : List EntB) : Prop :=
  ∀ k p, l[k]? = some p → ∃ g off cur, o = some ⟨g, off, none⟩ ∧ w.heap[g]? = some (.cells cur t (0, 0)) ∧ w.cell? ⟨g, off + k * 2, none⟩ = some (.int .i64 (p.1 : Nat)) ∧ w.cell? ⟨g, off + k * 2 + 1, none⟩ = some (.string p.2)
theorem EnO.below {w w' : World} {t : TypeId} {o : Option Addr} {l : List EntB} (h : EnO w t o l) (hb : Below w.heap.size w w') : EnO w' t o l := fun k p hp => by
  obtain ⟨b, off, cur, h1, h2, h3, h4⟩ := h k p hp
  have e := hb.block _ (lt_of_some h2)
  refine ⟨b, off, cur, h1, e.trans h2, ?_, ?_⟩
  · unfold World.cell? at h3 ⊢; simp only [e]; exact h3
  · unfold World.cell? at h4 ⊢; simp only [e]; exact h4
theorem EnAt.toO {w : World} {t : TypeId} {o : Option Addr} {l : List EntB} (h : EnAt w t o l) : EnO w t o l := fun k p hp => by
  obtain ⟨b, cur, h1, h2, h3, h4⟩ := h k p hp
  exact ⟨b, 0, cur, h1, h2, by rw [Nat.zero_add]; exact h3, by rw [Nat.zero_add]; exact h4⟩
theorem EnAt.dropO {w : World} {t : TypeId} {g n : Nat} {l : List EntB} (h : EnAt w t (some ⟨g, 0, none⟩) l) : EnO w t (some ⟨g, n * 2, none⟩) (l.drop n) := fun k p hp => by
  rw [List.getElem?_drop] at hp
  obtain ⟨b, cur, h1, h2, h3, h4⟩ := h _ p hp
  injection h1 with h1
  have h1 : g = b := congrArg Addr.block h1
  subst h1
  exact ⟨g, n * 2, cur, rfl, h2, by rw [← Nat.add_mul]; exact h3, by rw [← Nat.add_mul]; exact h4⟩
theorem showV_append (a b : List EntB) : showV (a ++ b) = showV a ++ showV b := by unfold showV; rw [List.map_append, showM_append]
theorem showV_one (e : EntB) : showV [e] = Lib.decDigits e.1 ++ (32 :: (e.2.data.toList ++ [10])) := by
  unfold showV; rw [List.map_cons, List.map_nil, showM_one]; unfold lineB asP; simp
theorem showV_take (l : List EntB) (n : Nat) : (showV (l.take n)).length ≤ (showV l).length := by
  unfold showV; rw [List.map_take]; exact showM_take _ n
def ShV (w : World) (l : List EntB) (i : Value) (wr : World) : Prop :=
  ∃ k : Nat, k ≤ l.length ∧ i = .int .i64 k ∧ Lib.IsBuilderF 80 5 w.heap.size w.heap.size (Lib.byteCells (showV (l.take k))) wr ∧ Below w.heap.size w wr
set_option maxHeartbeats 2000000 in
set_option maxRecDepth 100000 in
theorem ShowV_any (o : Option Addr) (l : List EntB) (cap : Nat) (w : World) (hl : l.length ≤ 1000000) (hp : EnO w 55 o l) (hok : OkE l) (hw : StrAt w) (hs : (showV l).length ≤ 1099511627776) :
    Calls Tryd.prog 14 #[.slice o l.length cap] w fun e w' => e = .returned (.string ⟨(showV l).toArray⟩) ∧ Below w.heap.size w w' := by
  obtain ⟨n, hn⟩ : ∃ n, l.length = n := ⟨_, rfl⟩
  rw [hn] at hl ⊢
  have H0 := Lib.hid (Lib.IsBuilderF.of (Lib.fresh_isBuilder 80 5 w))
  have HB0 : Hid (Below w.heap.size w (w.alloc (.cells #[.pointer none, .slice none 0 0] 80))) := Lib.hid ((Below.refl _ _).alloc (Nat.le_refl _) _)
  have HN := Lib.hid hn; have HP := Lib.hid hp; have HS := Lib.hid hs; have HK := Lib.hid hok; have HW := Lib.hid hw
  clear hn hp hs hok hw
  go_enter Tryd.func14, Tryd.ntmps14
  go_wp2_with fail
  go_loopw [8] (fun i wr => ShV w l i wr) (fun i _ => n - (intOf i).toNat)
  case atStart => exact ⟨0, Nat.zero_le _, rfl, H0.out, HB0.out⟩
  case round =>
    obtain ⟨k, hk, rfl, hbd, hbl⟩ := hrel
    rw [HN.out] at hk
    have HBD := Lib.hid hbd; have HBL := Lib.hid hbl
    clear hbd hbl
    by_cases hlt : k < n
    · obtain ⟨q, hq⟩ : ∃ q, l[k]? = some q := ⟨_, List.getElem?_eq_getElem (by rw [HN.out]; exact hlt)⟩
      obtain ⟨g, off, cur, ho, hg, d0, d1⟩ := (HP.out.below HBL.out) k q hq
      subst ho
      obtain ⟨W1, hW1⟩ : ∃ W1, wr.alloc (.cells #[.int .i64 (q.1 : Nat), .string q.2] 55) = W1 := ⟨_, rfl⟩
      have hb1 : Below wr.heap.size wr W1 := by rw [← hW1]; exact (Below.refl _ _).alloc (Nat.le_refl _) _
      have i0 : W1.cell? ⟨wr.heap.size, 0, none⟩ = some (.int .i64 (q.1 : Nat)) := by rw [← hW1]; exact cell_of_row (World.alloc_heap_new wr _)
      have i1 : W1.cell? ⟨wr.heap.size, 1, none⟩ = some (.string q.2) := by rw [← hW1]; exact cell_of_row (World.alloc_heap_new wr _)
      have hwl : wr.heap.size < W1.heap.size := by rw [← hW1]; simp
      have HW1 := Lib.hid hW1
      have hle : (showV (l.take (k + 1))).length ≤ 1099511627776 := Nat.le_trans (showV_take l (k + 1)) HS.out
      have hst : showV (l.take (k + 1)) = showV (l.take k) ++ ((Lib.decDigits q.1) ++ (32 :: (q.2.data.toList ++ [10]))) := by
        rw [List.take_add_one, hq]
        show showV (l.take k ++ [q]) = _
        rw [showV_append, showV_one]
      rw [hst] at hle
      have HB1 := Lib.hid (HBL.out.trans (hb1.mono HBL.out.size))
      have HBD1 := Lib.hid (bldF_below HBD.out hb1)
      have hrow : W1.heap[wr.heap.size]? = some (.cells #[.int .i64 (q.1 : Nat), .string q.2] 55 (0, 0)) := by rw [← hW1]; exact World.alloc_heap_new wr _
      have HROW := Lib.hid hrow
      have HQ : Hid (q.1 ≤ 1073741824) := Lib.hid (HK.out q (List.mem_of_getElem? hq))
      have hx : ∃ x : ByteArray, x = ⟨(Lib.decDigits q.1).toArray⟩ ∧ x.data.toList = Lib.decDigits q.1 := ⟨_, rfl, by simp⟩
      obtain ⟨x, hx1, hx2⟩ := hx
      have HX : Hid (Lib.itoa ((q.1 : Nat) : Int) = Lib.decDigits q.1) := Lib.hid (by unfold Lib.itoa; rw [if_neg (by omega)]; simp)
      rw [← hx2] at hst hle
      have HST := Lib.hid hst
      simp only [List.length_append, List.length_cons, List.length_nil] at hle
      have HLE := Lib.hid hle
      obtain ⟨q1, q2⟩ := q
      simp only at d0 d1 i0 i1 hx1 hx2
      have HX1 := Lib.hid hx1
      clear hx2 hx1 hq hst hle
      clear hg hb1 hrow
      obtain ⟨wo, hwo⟩ : ∃ wo, wo = wr := ⟨_, rfl⟩
      subst hwo
      go_wp2_with fail
      refine (itoa_any W1 (by omega) (by have := HQ.out; omega) (HW.out.below HB1.out)).mono ?_
      rintro e wi ⟨rfl, hbi⟩
      rw [HX.out, ← HX1.out]
      have hri : wi.heap[wo.heap.size]? = some (.cells #[.int .i64 (q1 : Nat), .string q2] 55 (0, 0)) := (hbi.block _ hwl).trans HROW.out
      have hbi1 := HB1.out.trans (hbi.mono HB1.out.size)
      have hbdi := bldF_below HBD1.out hbi
      have HRI := Lib.hid hri; have HBI := Lib.hid hbi1; have HBDI := Lib.hid hbdi
      clear hri hbi1 hbdi hbi
      go_wp2_with fail
      refine (write_fk w.heap.size w.heap.size _ x wi HBDI.out (by rw [Lib.byteCells_length]; have := HLE.out; rw [size_len] at this; omega) HBI.out.size).mono ?_
      rintro e w2 ⟨rfl, h2, b2, k2⟩
      have r2 := (k2 _ _ _ HRI.out (by decide) (by have := HBL.out.size; have := bldF_lt HBD.out; omega)).trans HRI.out
      have j1 : w2.cell? ⟨wo.heap.size, 1, none⟩ = some (.string q2) := cell_of_row r2
      have H2 := Lib.hid h2; have B2 := Lib.hid (HBI.out.trans b2); have R2 := Lib.hid r2
      clear h2 b2 k2 r2
      go_wp2_with fail
      refine (byte_fk w.heap.size w.heap.size _ 32 w2 H2.out (by rw [List.length_append, Lib.byteCells_length, Lib.strCells_length]; have := HLE.out; rw [size_len] at this; omega) B2.out.size).mono ?_
      rintro e w3 ⟨rfl, h3, b3, k3⟩
      have r3 := (k3 _ _ _ R2.out (by decide) (by have := HBL.out.size; have := bldF_lt HBD.out; omega)).trans R2.out
      have k1 : w3.cell? ⟨wo.heap.size, 1, none⟩ = some (.string q2) := cell_of_row r3
      have H3 := Lib.hid h3; have B3 := Lib.hid (B2.out.trans b3)
      clear h3 b3 k3 r3
      go_wp2_with fail
      refine (write_f w.heap.size w.heap.size _ q2 w3 H3.out (by rw [List.length_append, List.length_append, Lib.byteCells_length, Lib.strCells_length]; have := HLE.out; rw [size_len, size_len] at this; simp; omega) B3.out.size).mono ?_
      rintro e w4 ⟨rfl, h4, b4⟩
      have H4 := Lib.hid h4; have B4 := Lib.hid (B3.out.trans b4)
      clear h4 b4
      go_wp2_with fail
      refine (byte_f w.heap.size w.heap.size _ 10 w4 H4.out (by rw [List.length_append, List.length_append, List.length_append, Lib.byteCells_length, Lib.strCells_length, Lib.strCells_length]; have := HLE.out; rw [size_len, size_len] at this; simp; omega) B4.out.size).mono ?_
      rintro e w5 ⟨rfl, h5, b5⟩
      have B5 := Lib.hid (B4.out.trans b5)
      have h6 : Lib.IsBuilderF 80 5 w.heap.size w.heap.size (Lib.byteCells (showV (l.take (k + 1)))) w5 := by
        rw [HST.out]
        have e : Lib.byteCells (showV (l.take k) ++ (x.data.toList ++ (32 :: (q2.data.toList ++ [10])))) = (((Lib.byteCells (showV (l.take k)) ++ Lib.strCells x) ++ [Value.int .u8 32]) ++ Lib.strCells q2) ++ [Value.int .u8 10] := by
          simp [Lib.byteCells, Lib.strCells]
        rw [e]; exact h5
      have H6 := Lib.hid h6
      clear h5 b5 h6
      go_wp2_with fail
      go_roundw
      case rel => exact ⟨k + 1, by rw [HN.out]; omega, by rw [Int.natCast_succ], H6.out, B5.out⟩
      case measure => simp [intOf]; omega
    · have hkn : k = n := by omega
      have HE : Hid (showV (l.take k) = showV l) := Lib.hid (by rw [List.take_of_length_le (by rw [HN.out]; omega)])
      go_wp2_with fail
      refine (Tryd.Builder_String_any_f w.heap.size w.heap.size (showV (l.take k)) wr HBD.out HBL.out.size).mono ?_
      rintro e w7 ⟨rfl, h7, b7⟩
      have B7 := Lib.hid (HBL.out.trans b7)
      clear h7 b7
      go_wp2_with fail
      go_ret
      exact ⟨by rw [← HE.out, hkn]; rfl, B7.out⟩
end Go.Proofs.YtdpfpdpaamjefaaDoor
