/- Vocabularies: the maps of an index are built. -/
import Derived.Test.YtdpfpdpaamjefaaDoorY8
namespace Go.Proofs.YtdpfpdpaamjefaaDoor
open Go.RowKit Go.Shelf Go.Maps
attribute [local go_sem] Oper.semAt_some
variable {w w' : World}

theorem run_hintTk (n : Nat) (w : World) : (Instr.makeMap 67 (some (.int .i64 n))).run Tryd.prog w = .ok (.map (some w.heap.size)) (w.alloc (.map #[] 0)) := by
  simp [Instr.makeMap, go_sem]
theorem run_hintId (n : Nat) (w : World) : (Instr.makeMap 68 (some (.int .i64 n))).run Tryd.prog w = .ok (.map (some w.heap.size)) (w.alloc (.map #[] 0)) := by
  simp [Instr.makeMap, go_sem]
theorem ix_cells {b : Nat} {v m1 m2 : Value} {d s x : Int} (h : w.heap[b]? = some (.cells (ixRow v d s m1 m2 x) 73 (0, 0))) :
    w.cell? ⟨b, 0, none⟩ = some v ∧ w.cell? ⟨b, 1, none⟩ = some (.int .u32 d) ∧ w.cell? ⟨b, 2, none⟩ = some (.int .i32 s) ∧ w.cell? ⟨b, 4, none⟩ = some m1 ∧ w.cell? ⟨b, 5, none⟩ = some m2 ∧ w.cell? ⟨b, 6, none⟩ = some (.int .i64 x) ∧ ∀ j, w.frozen? ⟨b, j, none⟩ = false :=
  ⟨cell_of_row h, cell_of_row h, cell_of_row h, cell_of_row h, cell_of_row h, cell_of_row h, fun j => by simp [World.frozen?, h]⟩
theorem wf_small {n : Nat} (h : n ≤ 1073741824) : (Lit.int .i64 ((n : Nat) : Int)).wf = true := by
  have e1 : IntKind.i64.min = -9223372036854775808 := by decide
  have e2 : IntKind.i64.max = 9223372036854775807 := by decide
  simp [Lit.wf, e1, e2]; omega
structure FlI (b gb cap : Nat) (d s x : Int) (L : List EntB) (w : World) (k : Nat) (W : World) : Prop where
  row : W.heap[b]? = some (.cells (ixRow (.slice (some ⟨gb, 0, none⟩) L.length cap) d s (.map (some (w.heap.size + 1))) (.map (some (w.heap.size + 2))) x) 73 (0, 0))
  bx : W.heap[w.heap.size]? = some (.cells #[.pointer (some ⟨b, 0, none⟩)] 33 (0, 0))
  tk : IsTk (w.heap.size + 1) (L.length - k) (L.drop k) W
  id : IsId (w.heap.size + 2) (L.length - k) (L.drop k) W
  fr : FrM b w W
theorem FlI.stab {b gb cap : Nat} {d s x : Int} {L : List EntB} {k Bn D : Nat} (hb : b < w.heap.size) (hB : Bn = w.heap.size + 3) (hD : D = w.heap.size + 4) : Stab Bn D (FlI b gb cap d s x L w k) := by
  intro W W' h hl hs hk
  have hsz : w.heap.size + 2 < W.heap.size := h.id.lt
  exact ⟨(hk b (by omega) (by omega) (by omega) (by omega)).trans h.row, (hk _ (by omega) (by omega) (by omega) (by omega)).trans h.bx, h.tk.keep (hk _ (by omega) (by omega) (by omega) (by omega)), h.id.keep (hk _ (by omega) (by omega) (by omega) (by omega)),
    ⟨h.fr.low.trans hl, Nat.le_trans h.fr.size hs, fun j hj hjb => (hk j (by omega) (by omega) (by omega) (by omega)).trans (h.fr.block j hj hjb)⟩⟩
theorem IsEm.step {κ : Type} [DecidableEq κ] {T MT : TypeId} {f : EntB → κ} {key : κ → Lit} {b n : Nat} {L : List EntB} (h : IsEm T f key b n L w) (K : Keyed Tryd.prog T) (ht : Tryd.prog.underlying MT = some (.map T 55)) (hn : n < 100000)
    (hinj : ∀ x y, key x = key y → x = y) (hkl : ∀ x, WideAt.IsKeyLit (key x)) (q : EntB) {kv : Value} (hk : keyOf Tryd.prog T kv = some (key (f q))) :
    ∃ w', (Instr.mapUpdate MT (.map (some b)) kv (.agg #[.int .i64 (q.1 : Nat), .string q.2])).run Tryd.prog w = .ok () w' ∧ IsEm T f key b (n + 1) (q :: L) w' ∧ w.mapTurned w' b := by
  obtain ⟨D, h1, h2⟩ := h
  obtain ⟨w', hrun, ho, htu⟩ := h1.store K ht (by unfold maxLen; omega) hk (entElem_mk (q.1 : Nat) q.2)
  exact ⟨w', hrun, IsEm.put h1 h2 hinj hkl ho, htu⟩
set_option maxHeartbeats 4000000 in
set_option maxRecDepth 100000 in
theorem fill_any (b gb cap : Nat) (d s x : Int) (L : List EntB) (w : World) (hL : L.length ≤ 50000) (hrow : w.heap[b]? = some (.cells (ixRow (.slice (some ⟨gb, 0, none⟩) L.length cap) d s (.map none) (.map none) x) 73 (0, 0)))
    (hE : EnAt w 55 (some ⟨gb, 0, none⟩) L) (hgb : gb < w.heap.size) (hgbb : gb ≠ b) (htok : ∀ e ∈ L, e.2.size ≤ maxLen) (hid : ∀ e ∈ L, e.1 ≤ 1073741824) :
    Calls Tryd.prog 29 #[.pointer (some ⟨b, 0, none⟩)] w fun e w' => e = .returned (.tuple #[]) ∧ ∃ m1 m2, w'.heap[b]? = some (.cells (ixRow (.slice none 0 0) d s (.map (some m1)) (.map (some m2)) x) 73 (0, 0)) ∧
      IsTk m1 L.length L w' ∧ IsId m2 L.length L w' ∧ w.heap.size ≤ m1 ∧ w.heap.size ≤ m2 ∧ FrM b w w' := by
  have hmm1 := run_hintTk L.length
  have hmm2 := run_hintId L.length
  refine callsIn_wide.1 (?_ : CallsIn Fence.wide 5 _ _ _ _ _)
  refine callsIn_of_wp_marks Tryd.func29 rfl trivial ?_ rfl
  simp only [Tryd.ntmps29, List.size_toArray, List.length_cons, List.length_nil, Nat.reduceAdd, Nat.reduceSub, Array.replicate_succ, Array.replicate_zero, List.push_toArray, List.append_toArray, List.nil_append, List.cons_append]
  obtain ⟨c0, c1, c2, c4, c5, c6, cf⟩ := ix_cells hrow
  obtain ⟨N, hN⟩ : ∃ N, L.length = N := ⟨_, rfl⟩
  rw [hN] at c0 hmm1 hmm2 hL
  have HROW := Lib.hid hrow; have HE := Lib.hid hE; have HT := Lib.hid htok; have HI := Lib.hid hid; have HN := Lib.hid hN
  clear hrow hE htok hid hN
  obtain ⟨W1, hW1⟩ : ∃ W1, w.alloc (.cells #[.pointer (some ⟨b, 0, none⟩)] 33) = W1 := ⟨_, rfl⟩
  have hsz1 : W1.heap.size = w.heap.size + 1 := by rw [← hW1]; simp
  have hb1 : Below w.heap.size w W1 := by rw [← hW1]; exact (Below.refl _ w).alloc (Nat.le_refl _) _
  have hp1 : W1.heap[w.heap.size]? = some (.cells #[.pointer (some ⟨b, 0, none⟩)] 33 (0, 0)) := by rw [← hW1]; exact World.alloc_heap_new w _
  have hbl : b < w.heap.size := lt_of_some HROW.out
  have hr1 : W1.heap[b]? = some (.cells (ixRow (.slice (some ⟨gb, 0, none⟩) L.length cap) d s (.map none) (.map none) x) 73 (0, 0)) := (hb1.block b hbl).trans HROW.out
  have HP1 := Lib.hid hp1; have HR1 := Lib.hid hr1; have HB1 := Lib.hid hb1; have HS1 := Lib.hid hsz1
  have p0 : W1.cell? ⟨w.heap.size, 0, none⟩ = some (.pointer (some ⟨b, 0, none⟩)) := cell_of_row hp1
  obtain ⟨i0, _, _, i4, _, _, i_f⟩ := ix_cells hr1
  have i_f4 := i_f 4
  rw [HN.out] at i0
  have p0a : (W1.alloc (.map #[] 0)).cell? ⟨w.heap.size, 0, none⟩ = some (.pointer (some ⟨b, 0, none⟩)) := Lib.cell?_alloc_some _ p0
  have i0a : (W1.alloc (.map #[] 0)).cell? ⟨b, 0, none⟩ = some (.slice (some ⟨gb, 0, none⟩) N cap) := Lib.cell?_alloc_some _ i0
  have i4a : (W1.alloc (.map #[] 0)).cell? ⟨b, 4, none⟩ = some (.map none) := Lib.cell?_alloc_some _ i4
  have i_f4a : (W1.alloc (.map #[] 0)).frozen? ⟨b, 4, none⟩ = false := by
    have hra : (W1.alloc (.map #[] 0)).heap[b]? = W1.heap[b]? := Lib.alloc_old _ _ _ (lt_of_some hr1)
    simp [World.frozen?, hra, hr1]
  clear c0 c1 c2 c4 c5 c6 cf hp1 hr1 hb1 hsz1 i_f
  gi_wp2
  gi_region
  clear p0 i0 i4 i_f4 p0a i0a i4a i_f4a hmm1
  have HW2 : Hid (∃ W2, ((W1.alloc (.map #[] 0)).setCell ⟨b, 4, none⟩ (.map (some W1.heap.size))).drew = W2 ∧ W2.heap.size = w.heap.size + 2 ∧ FrM b w W2 ∧ IsTk (w.heap.size + 1) 0 [] W2 ∧ W2.heap[w.heap.size]? = some (.cells #[.pointer (some ⟨b, 0, none⟩)] 33 (0, 0)) ∧
      W2.heap[b]? = some (.cells (ixRow (.slice (some ⟨gb, 0, none⟩) L.length cap) d s (.map (some W1.heap.size)) (.map none) x) 73 (0, 0))) := Lib.hid (by
    have hs := HS1.out
    have h1 : Below W1.heap.size W1 (W1.alloc (.map #[] 0)) := (Below.refl _ W1).alloc (Nat.le_refl _) _
    have h2 : (W1.alloc (.map #[] 0)).heap[b]? = _ := (h1.block b (by omega)).trans HR1.out
    have h3 : ∀ j, j ≠ b → ((W1.alloc (.map #[] 0)).setCell ⟨b, 4, none⟩ (.map (some W1.heap.size))).drew.heap[j]? = (W1.alloc (.map #[] 0)).heap[j]? := fun j hj => Below.heap_setCell _ _ _ j hj
    refine ⟨_, rfl, by simp; omega, ⟨?_, by simp; omega, fun j hj hjb => ?_⟩, ?_, ?_, heap_set (i := 4) _ h2⟩
    · exact ((((HB1.out.mono (Nat.zero_le _)).trans (h1.mono (Nat.zero_le _))).setCell (p := ⟨b, 4, none⟩) (Nat.zero_le _) _).drew)
    · exact (h3 j hjb).trans ((h1.block j (by omega)).trans (HB1.out.block j hj))
    · have := IsEm.new (T := 9) (f := fun e : EntB => e.2) (key := fun s : ByteArray => .string s.data.toList) W1
      rw [← hs]
      exact this.keep (h3 _ (by omega))
    · exact (h3 _ (by omega)).trans ((h1.block _ (by omega)).trans HP1.out))
  obtain ⟨W2, hW2, hs2, hf2, ht2, hp2, hr2⟩ := HW2.out
  have HW2 := Lib.hid hW2
  rw [hW2]
  have hW1s : W1.heap.size = w.heap.size + 1 := HS1.out
  rw [hW1s] at hr2 ⊢
  have HS2 := Lib.hid hs2; have HF2 := Lib.hid hf2; have HT2 := Lib.hid ht2; have HP2 := Lib.hid hp2; have HR2 := Lib.hid hr2
  have p0 : W2.cell? ⟨w.heap.size, 0, none⟩ = some (.pointer (some ⟨b, 0, none⟩)) := cell_of_row hp2
  obtain ⟨i0, _, _, _, i5, _, i_f⟩ := ix_cells hr2
  have i_f5 := i_f 5
  rw [HN.out] at i0
  have p0a : (W2.alloc (.map #[] 0)).cell? ⟨w.heap.size, 0, none⟩ = some (.pointer (some ⟨b, 0, none⟩)) := Lib.cell?_alloc_some _ p0
  have i0a : (W2.alloc (.map #[] 0)).cell? ⟨b, 0, none⟩ = some (.slice (some ⟨gb, 0, none⟩) N cap) := Lib.cell?_alloc_some _ i0
  have i5a : (W2.alloc (.map #[] 0)).cell? ⟨b, 5, none⟩ = some (.map none) := Lib.cell?_alloc_some _ i5
  have i_f5a : (W2.alloc (.map #[] 0)).frozen? ⟨b, 5, none⟩ = false := by
    have hra : (W2.alloc (.map #[] 0)).heap[b]? = W2.heap[b]? := Lib.alloc_old _ _ _ (lt_of_some hr2)
    simp [World.frozen?, hra, hr2]
  clear hW1 hW2 hs2 hf2 ht2 hp2 hr2 i_f hW1s
  gi_wp2
  gi_region
  clear p0 i0 i5 i_f5 p0a i0a i5a i_f5a hmm2
  have HW3 : Hid (∃ W3, ((W2.alloc (.map #[] 0)).setCell ⟨b, 5, none⟩ (.map (some W2.heap.size))).drew = W3 ∧ W3.heap.size = w.heap.size + 3 ∧ FrM b w W3 ∧ IsTk (w.heap.size + 1) 0 [] W3 ∧ IsId (w.heap.size + 2) 0 [] W3 ∧ W3.heap[w.heap.size]? = some (.cells #[.pointer (some ⟨b, 0, none⟩)] 33 (0, 0)) ∧
      W3.heap[b]? = some (.cells (ixRow (.slice (some ⟨gb, 0, none⟩) L.length cap) d s (.map (some (w.heap.size + 1))) (.map (some W2.heap.size)) x) 73 (0, 0))) := Lib.hid (by
    have hs := HS2.out
    have h1 : Below W2.heap.size W2 (W2.alloc (.map #[] 0)) := (Below.refl _ W2).alloc (Nat.le_refl _) _
    have h2 : (W2.alloc (.map #[] 0)).heap[b]? = _ := (h1.block b (by omega)).trans HR2.out
    have h3 : ∀ j, j ≠ b → ((W2.alloc (.map #[] 0)).setCell ⟨b, 5, none⟩ (.map (some W2.heap.size))).drew.heap[j]? = (W2.alloc (.map #[] 0)).heap[j]? := fun j hj => Below.heap_setCell _ _ _ j hj
    refine ⟨_, rfl, by simp; omega, ⟨?_, by simp; omega, fun j hj hjb => ?_⟩, ?_, ?_, ?_, heap_set (i := 5) _ h2⟩
    · exact ((((HF2.out.low).trans (h1.mono (Nat.zero_le _))).setCell (p := ⟨b, 5, none⟩) (Nat.zero_le _) _).drew)
    · exact (h3 j hjb).trans ((h1.block j (by omega)).trans (HF2.out.block j hj hjb))
    · exact HT2.out.keep ((h3 _ (by omega)).trans (h1.block _ (by omega)))
    · have := IsEm.new (T := 3) (f := fun e : EntB => (e.1 : Int)) (key := fun i : Int => .int .i64 i) W2
      rw [← hs]
      exact this.keep (h3 _ (by omega))
    · exact (h3 _ (by omega)).trans ((h1.block _ (by omega)).trans HP2.out))
  obtain ⟨W3, hW3, hs3, hf3, ht3, hi3, hp3, hr3⟩ := HW3.out
  rw [hW3]
  have hW2s : W2.heap.size = w.heap.size + 2 := HS2.out
  rw [hW2s] at hr3 ⊢
  have HS3 := Lib.hid hs3; have HF3 := Lib.hid hf3; have HT3 := Lib.hid ht3; have HI3 := Lib.hid hi3; have HP3 := Lib.hid hp3; have HR3 := Lib.hid hr3
  have p0 : W3.cell? ⟨w.heap.size, 0, none⟩ = some (.pointer (some ⟨b, 0, none⟩)) := cell_of_row hp3
  have i0 := (ix_cells hr3).1
  rw [HN.out] at i0
  clear hW3 hs3 hf3 ht3 hi3 hp3 hr3 hW2s HW2 HW3 HS1 HB1 HP1 HR1 HS2 HF2 HT2 HP2 HR2
  gi_wp2_with (refine ⟨trivial, ?_⟩; gi_at_call 41; refine (callsIn_wide.2 (back_any (some ⟨gb, 0, none⟩) N cap _)).mono ?_; rintro e w1 ⟨rfl, rfl⟩)
  have HB4 : Hid (Below W3.heap.size W3 (W3.alloc (.cells #[.slice (some ⟨gb, 0, none⟩) N cap] 35))) := Lib.hid ((Below.refl _ W3).alloc (Nat.le_refl _) _)
  have HBX4 : Hid ((W3.alloc (.cells #[.slice (some ⟨gb, 0, none⟩) N cap] 35)).cell? ⟨W3.heap.size, 0, none⟩ = some (.slice (some ⟨gb, 0, none⟩) L.length cap)) := Lib.hid (by rw [HN.out]; exact cell_of_row (World.alloc_heap_new W3 _))
  have HSZ4 : Hid ((W3.alloc (.cells #[.slice (some ⟨gb, 0, none⟩) N cap] 35)).heap.size = w.heap.size + 4) := Lib.hid (by have := HS3.out; simp; omega)
  generalize W3.alloc (.cells #[.slice (some ⟨gb, 0, none⟩) N cap] 35) = W4 at HB4 HBX4 HSZ4 ⊢
  have hs3 : W3.heap.size = w.heap.size + 3 := HS3.out
  have hb4 := HB4.out
  rw [hs3] at hb4 HBX4 ⊢
  have HF4 : Hid (FrM b w W4) := Lib.hid (HF3.out.trans (FrM.of_below HB4.out))
  have HI0 : Hid (FlI b gb cap d s x L w L.length W4) := Lib.hid (by
    refine ⟨(hb4.block _ (by omega)).trans HR3.out, (hb4.block _ (by omega)).trans HP3.out, ?_, ?_, HF4.out⟩
    · rw [Nat.sub_self, List.drop_length]; exact HT3.out.keep (hb4.block _ (by omega))
    · rw [Nat.sub_self, List.drop_length]; exact HI3.out.keep (hb4.block _ (by omega)))
  have hE4 : Hid (EnAt W4 55 (some ⟨gb, 0, none⟩) L) := Lib.hid (HE.out.row (HF4.out.block gb hgb hgbb))
  clear hb4 p0 i0
  refine range_back (w := W4) (n := 5) (by omega) (w.heap.size + 3) gb cap L (by rw [HN.out]; omega) rfl rfl HBX4.out hE4.out (by have := HSZ4.out; omega) (FlI b gb cap d s x L w) (fun _ _ => False)
    (fun k => FlI.stab hbl rfl HSZ4.out) (fun c => fun _ _ h => h.elim) HI0.out
    (fun k e v => { tmps := #[.pointer (some ⟨b, 0, none⟩), .pointer (some ⟨w.heap.size, 0, none⟩), undef, .pointer (some ⟨v, 0, none⟩), .pointer (some ⟨b, 0, none⟩), .pointer (some ⟨b, 0, none⟩), .pointer (some ⟨b, 0, none⟩), .pointer (some ⟨b, 0, none⟩), .slice (some ⟨gb, 0, none⟩) N cap, .int .i64 N, .map (some (w.heap.size + 1)), .pointer (some ⟨b, 0, none⟩), .pointer (some ⟨b, 4, none⟩), .pointer (some ⟨b, 0, none⟩), .pointer (some ⟨b, 0, none⟩), .pointer (some ⟨b, 0, none⟩), .pointer (some ⟨b, 0, none⟩), .slice (some ⟨gb, 0, none⟩) N cap, .int .i64 N, .map (some (w.heap.size + 2)), .pointer (some ⟨b, 0, none⟩), .pointer (some ⟨b, 5, none⟩), .pointer (some ⟨b, 0, none⟩), .pointer (some ⟨b, 0, none⟩), .pointer (some ⟨b, 0, none⟩), .slice (some ⟨gb, 0, none⟩) N cap, .func (.func 51) #[] #[.pointer (some ⟨w.heap.size + 3, 0, none⟩)], .int .i64 (k : Nat), entV2 e, undef, undef, undef, undef, undef, undef, undef, undef, undef, undef, undef, undef, undef, undef, undef, undef, undef], defers := [] }) ?assign ?body ?done ?stop
  case assign =>
    intro l k e W K hK
    simp only [entV2] at hK ⊢
    gi_wp2
    exact hK
  case body =>
    rintro l k e v U hke ⟨hrow, hbx, htk, hid, hfr⟩ hv hvr
    have hv4 : w.heap.size + 4 + 1 < v := by have := HSZ4.out; omega
    have hkl := (List.getElem?_eq_some_iff.1 hke).1
    have hdr : L.drop k = e :: L.drop (k + 1) := by rw [List.drop_eq_getElem_cons hkl, (List.getElem?_eq_some_iff.1 hke).2]
    have hmem : e ∈ L := List.mem_of_getElem? hke
    have hks : (keyOf Tryd.prog 9 (.string e.2)) = some (.string e.2.data.toList) := keyS (HT.out e hmem)
    have hki : (keyOf Tryd.prog 3 (.int .i64 (e.1 : Nat))) = some (.int .i64 (e.1 : Nat)) := keyI (wf_small (HI.out e hmem))
    have hLn : L.length ≤ 50000 := by rw [HN.out]; exact hL
    obtain ⟨W5, hrun5, htk5, htu5⟩ := (htk.keep (w' := U.drew) rfl).step (MT := 67) keyedS Tryd.underlying67 (by omega) tk_inj (fun _ => trivial) e hks
    have hf5 := FrM.turned htu5
    have hUs : w.heap.size + 2 < U.heap.size := hid.lt
    have hvl := lt_of_some hvr
    have k5 : ∀ j, j < U.heap.size → j ≠ w.heap.size + 1 → W5.drew.heap[j]? = U.heap[j]? := fun j hj hne => hf5.block j hj hne
    have hid5 := hid.keep (k5 _ (by omega) (by omega))
    obtain ⟨W6, hrun6, hid6, htu6⟩ := hid5.step (MT := 68) keyedI Tryd.underlying68 (by omega) id_inj (fun _ => trivial) e hki
    have hf6 := FrM.turned htu6
    have h5s : U.heap.size ≤ W5.drew.heap.size := hf5.size
    have k6 : ∀ j, j < U.heap.size → j ≠ w.heap.size + 2 → W6.heap[j]? = W5.drew.heap[j]? := fun j hj hne => hf6.block j (by omega) hne
    have HFIN : Hid (bkPost (w.heap.size + 3) gb W4.heap.size (FlI b gb cap d s x L w k) (fun _ _ => False) U .normal { tmps := #[], defers := [] } W6) := Lib.hid (by
      have hs4 := HSZ4.out
      refine ⟨fun j hj => ?_, Nat.le_trans h5s hf6.size, ⟨?_, ?_, ?_, ?_, ?_⟩⟩
      · exact (k6 j (by omega) (by omega)).trans (k5 j (by omega) (by omega))
      · exact ((k6 b (by omega) (by omega)).trans (k5 b (by omega) (by omega))).trans hrow
      · exact ((k6 _ (by omega) (by omega)).trans (k5 _ (by omega) (by omega))).trans hbx
      · rw [hdr, show L.length - k = L.length - (k + 1) + 1 by omega]
        exact htk5.keep (k6 _ (by omega) (by omega))
      · rw [hdr, show L.length - k = L.length - (k + 1) + 1 by omega]
        exact hid6
      · refine ⟨(hfr.low.trans ((Below.refl 0 U).drew.trans hf5.low)).trans (((Below.refl 0 W5).drew).trans hf6.low), Nat.le_trans hfr.size (Nat.le_trans h5s hf6.size), fun j hj hjb => ?_⟩
        exact ((k6 j (by omega) (by omega)).trans (k5 j (by omega) (by omega))).trans (hfr.block j hj hjb))
    have p0 : U.cell? ⟨w.heap.size, 0, none⟩ = some (.pointer (some ⟨b, 0, none⟩)) := cell_of_row hbx
    have i4 := (ix_cells hrow).2.2.2.1
    have v0 : U.cell? ⟨v, 0, none⟩ = some (.int .i64 (e.1 : Nat)) := cell_of_row hvr
    have v1 : U.cell? ⟨v, 1, none⟩ = some (.string e.2) := cell_of_row hvr
    have hbx5 := (k5 _ (by omega) (by omega)).trans hbx
    have hrow5 := (k5 b (by omega) (by omega)).trans hrow
    have hvr5 := (k5 v (by omega) (by omega)).trans hvr
    have q0 : W5.drew.cell? ⟨w.heap.size, 0, none⟩ = some (.pointer (some ⟨b, 0, none⟩)) := cell_of_row hbx5
    have q5 := (ix_cells hrow5).2.2.2.2.1
    have u0 : W5.drew.cell? ⟨v, 0, none⟩ = some (.int .i64 (e.1 : Nat)) := cell_of_row hvr5
    have u1 : W5.drew.cell? ⟨v, 1, none⟩ = some (.string e.2) := cell_of_row hvr5
    obtain ⟨e1, e2⟩ := e
    simp only [entV2] at v0 v1 u0 u1 hrun5 hrun6 ⊢
    clear hrow hbx htk hid hfr hvr hke hdr hmem hks hki htk5 htu5 hf5 k5 hid5 hid6 htu6 hf6 h5s k6 hbx5 hrow5 hvr5
    gi_wp2
    refine round_still_tail 7 (by kernel_rfl) (by kernel_rfl) (by kernel_rfl) (fun ⟨_, _, h⟩ => h) ?_
    simp only [List.take_succ_cons, List.take_zero, List.drop_succ_cons, List.drop_zero]
    repeat still_step
    try refine wpStill_nil ?_
    go_wp2_with fail
    gi_wp2
    refine round_still_tail 7 (by kernel_rfl) (by kernel_rfl) (by kernel_rfl) (fun ⟨_, _, h⟩ => h) ?_
    simp only [List.take_succ_cons, List.take_zero, List.drop_succ_cons, List.drop_zero]
    repeat still_step
    try refine wpStill_nil ?_
    go_wp2_with fail
    exact HFIN.out
  case done =>
    rintro W ⟨hrow, hbx, htk, hid, hfr⟩ hD
    have hs4 := HSZ4.out
    have hUs : w.heap.size + 2 < W.heap.size := hid.lt
    have p0 : W.cell? ⟨w.heap.size, 0, none⟩ = some (.pointer (some ⟨b, 0, none⟩)) := cell_of_row hbx
    have i0 := (ix_cells hrow).1
    have i_f := (ix_cells hrow).2.2.2.2.2.2 0
    have HROW := Lib.hid hrow; have HTK := Lib.hid htk; have HID := Lib.hid hid; have HFR := Lib.hid hfr; have HD := Lib.hid hD
    clear hrow hbx htk hid hfr hD
    gi_wp2
    have hbD : b ≠ W4.heap.size := by omega
    have hk0 : ∀ j, j ≠ b → (W.setCell ⟨b, 0, none⟩ (.slice none 0 0)).heap[j]? = W.heap[j]? := fun j hj => Below.heap_setCell W _ _ j hj
    have hD2 : (W.setCell ⟨b, 0, none⟩ (.slice none 0 0)).heap[W4.heap.size]? = some (.deferred (some [])) := (hk0 _ (Ne.symm hbD)).trans HD.out
    refine ⟨by simp, .inl ⟨_, _, rfl, run_takeDeferred hD2, ?_⟩⟩
    have hkp : ∀ j, j ≠ W4.heap.size → ((W.setCell ⟨b, 0, none⟩ (.slice none 0 0)).putObj W4.heap.size (.deferred none)).heap[j]? = (W.setCell ⟨b, 0, none⟩ (.slice none 0 0)).heap[j]? := fun j hj => put_other _ _ hj
    refine ⟨.tuple #[], by simp [results, Tryd.results29, go_sem], rfl, w.heap.size + 1, w.heap.size + 2, ?_, ?_, ?_, by omega, by omega, ?_⟩
    · exact (hkp b hbD).trans (heap_set (i := 0) _ HROW.out)
    · have := HTK.out.keep ((hkp (w.heap.size + 1) (by omega)).trans (hk0 _ (by omega)))
      simpa using this
    · have := HID.out.keep ((hkp (w.heap.size + 2) (by omega)).trans (hk0 _ (by omega)))
      simpa using this
    · refine ⟨(HFR.out.low.trans ((Below.refl 0 W).setCell (p := ⟨b, 0, none⟩) (Nat.zero_le _) _)).trans (put_low _ _ _), ?_, fun j hj hjb => (hkp j (by omega)).trans ((hk0 j hjb).trans (HFR.out.block j hj hjb))⟩
      have := HFR.out.size
      simp
      omega
  case stop =>
    rintro W h _
    exact h.elim
end Go.Proofs.YtdpfpdpaamjefaaDoor
