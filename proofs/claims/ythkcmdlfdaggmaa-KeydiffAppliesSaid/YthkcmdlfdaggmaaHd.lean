/- Keyed lists: maps of sides; sides. -/
import Derived.Test.YthkcmdlfdaggmaaHc
import Derived.Maps.AppendAt
set_option linter.unusedVariables false
set_option linter.unusedSimpArgs false
namespace Go.Proofs.Ythkcmdlfdaggmaa
open Go.RowKit Go.Maps Go.WideShapes
variable {w w' : World}

theorem info_sd : (Try.prog.info? 39).map (fun i => (i.zero, i.size, i.bytes)) = some (some (.agg #[.string ⟨#[]⟩, .bool false]), 2, 24) := by kernel_rfl
theorem keyedS : Keyed Try.prog 9 := Maps.string_keyed Try.underlying9
theorem keyS {s : ByteArray} (h : s.size ≤ maxLen) : keyOf Try.prog 9 (.string s) = some (.string s.data.toList) := by
  unfold keyOf
  simp only [Try.underlying9]
  simp [mapKey, Try.underlying9, h]
theorem mapTurned_below {B b : Nat} {w0 w w' : World} (h : w.mapTurned w' b) (hb : Below B w0 w) (hB : B ≤ b) (hs : B ≤ w.heap.size) : Below B w0 w' :=
  hb.grown h.grown hs (fun k e => by cases e; exact hB)
/-- A side as a value. -/
abbrev sdV (u : SdB) : Value := .agg #[.string u.1, .bool u.2]
def sdElem : Value → Option (DataW Unit × List MemPlace)
  | .agg cs => match cs.toList with
    | [.string a, .bool b] => some (.agg [.lit (.string a.data.toList), .lit (.bool b)], [])
    | _ => none
  | _ => none
def sdD (u : SdB) : DataW Unit := .agg [.lit (.string u.1.data.toList), .lit (.bool u.2)]
theorem sdElem_inv {v : Value} {u : SdB} {ps : List MemPlace} (h : sdElem v = some (sdD u, ps)) : v = sdV u := by
  unfold sdElem at h
  split at h
  · rename_i cs
    split at h
    · rename_i a b hcs
      simp only [sdD, Option.some.injEq, Prod.mk.injEq, DataW.agg.injEq, List.cons.injEq, DataW.lit.injEq, Lit.string.injEq, Lit.bool.injEq, true_and, and_true] at h
      obtain ⟨⟨h1, h2⟩, _⟩ := h
      have e : cs = #[.string a, .bool b] := by rw [← Array.toArray_toList (xs := cs), hcs]
      have e2 : a = u.1 := ByteArray.ext (Array.ext' h1)
      rw [e, e2, h2]
    · cases h
  · cases h
def SdD (ks : List ByteArray) (U : ByteArray → SdB) (D : DataW Unit) : Prop :=
  Tidy D ∧ size D ≤ ks.length ∧ ∀ s : ByteArray, s.size ≤ maxLen → (has D (.string s.data.toList) = true ↔ s ∈ ks) ∧ D.atKey (.string s.data.toList) (sdD sd0) = sdD (U s)
def IsSd (m n : Nat) (ks : List ByteArray) (U : ByteArray → SdB) (w : World) : Prop :=
  ∃ D : DataW Unit, w.ownsMap Try.prog 9 sdElem m n D ∧ SdD ks U D
theorem IsSd.keep {m n : Nat} {ks : List ByteArray} {U : ByteArray → SdB} (h : IsSd m n ks U w) (hb : w'.heap[m]? = w.heap[m]?) : IsSd m n ks U w' := by
  obtain ⟨D, ⟨es, clock, h1, h2⟩, h3⟩ := h
  exact ⟨D, ⟨es, clock, hb.trans h1, h2⟩, h3⟩
theorem IsSd.lt {m n : Nat} {ks : List ByteArray} {U : ByteArray → SdB} (h : IsSd m n ks U w) : m < w.heap.size := by
  obtain ⟨D, h1, _⟩ := h
  exact h1.lt
theorem IsSd.below {m n : Nat} {ks : List ByteArray} {U : ByteArray → SdB} (h : IsSd m n ks U w) (hb : Below w.heap.size w w') : IsSd m n ks U w' := h.keep (hb.block _ h.lt)
theorem IsSd.new (w : World) : IsSd w.heap.size 0 [] (fun _ => sd0) (w.alloc (.map #[] 0)) :=
  ⟨.map [], World.ownsMap_made w _ _ _, tidy_empty, Nat.le_refl _, fun s _ => ⟨by show (has (.map []) _ = true) ↔ _; simp [has], rfl⟩⟩
theorem IsSd.congr {m n : Nat} {ks ks' : List ByteArray} {U V : ByteArray → SdB} (h : IsSd m n ks U w) (hl : ks.length ≤ ks'.length) (hk : ∀ s, s ∈ ks ↔ s ∈ ks') (e : ∀ s, s.size ≤ maxLen → U s = V s) : IsSd m n ks' V w := by
  obtain ⟨D, h1, h2, h3, h4⟩ := h
  exact ⟨D, h1, h2, Nat.le_trans h3 hl, fun s hs => ⟨(h4 s hs).1.trans (hk s), by rw [(h4 s hs).2, e s hs]⟩⟩
theorem SdD.put {ks : List ByteArray} {U : ByteArray → SdB} {q : ByteArray} {D : DataW Unit} {u : SdB} (h : SdD ks U D) (hq : q.size ≤ maxLen) : SdD (ks ++ [q]) (fun s => if q = s then u else U s) (D.put (.string q.data.toList) (sdD u)) := by
  obtain ⟨ht, hz, hk⟩ := h
  have hkl : WideAt.IsKeyLit (.string q.data.toList) := trivial
  refine ⟨ht.put hkl _, ?_, fun s hs => ?_⟩
  · rw [size_put ht, List.length_append]; split <;> simp <;> omega
  · by_cases e : q = s
    · subst e
      refine ⟨?_, ?_⟩
      · rw [has_put_same ht.isMap hkl]; simp
      · show _ = sdD (if q = q then u else U q)
        rw [if_pos rfl, atKey_put_same ht.isMap hkl]
    · have hne : (Lit.string s.data.toList) ≠ .string q.data.toList := fun hk => e (by injection hk with hk; exact (ByteArray.ext (Array.ext' hk)).symm)
      refine ⟨?_, ?_⟩
      · rw [has_put_other hne, (hk s hs).1, List.mem_append]
        constructor
        · exact .inl
        · rintro (h | h)
          · exact h
          · simp at h; exact absurd h.symm e
      · show _ = sdD (if q = s then u else U s)
        rw [if_neg e, atKey_put_other hne, (hk s hs).2]
theorem IsSd.look {m n : Nat} {U : ByteArray → SdB} {ks : List ByteArray} {q : ByteArray} (h : IsSd m n ks U w) (hq : q.size ≤ maxLen) :
    (Instr.lookup 61 (.map (some m)) (.string q) false).run Try.prog w = .ok (sdV (U q)) w := by
  obtain ⟨D, hD, _, _, h2⟩ := h
  obtain ⟨v, ps, hr, hv⟩ := hD.lookup keyedS Try.underlying61 (Try.zeroValue39 w) (zd := sdD sd0) (zp := []) rfl (keyS hq)
  rw [(h2 q hq).2] at hv
  rw [hr, sdElem_inv hv]
theorem say_snoc {l : List KvB} {p : KvB} (hn : p.1 ∉ ksK l) (s : ByteArray) : sayK (l ++ [p]) s = if p.1 = s then (p.2, true) else sayK l s := by
  induction l with
  | nil => rw [List.nil_append, say_cons]
  | cons q l ih =>
    rw [show ksK (q :: l) = q.1 :: ksK l from rfl, List.mem_cons, not_or] at hn
    rw [List.cons_append, say_cons, say_cons, ih hn.2]
    by_cases h1 : q.1 = s
    · rw [if_pos h1, if_pos h1, if_neg (fun e => hn.1 (e.trans h1.symm))]
    · rw [if_neg h1, if_neg h1]
theorem right_fresh {l : List KvB} (h : RightK l) {k : Nat} {p : KvB} (hp : l[k]? = some p) : p.1 ∉ ksK (l.take k) := fun hm => by
  have h1 : RightK (l.take (k + 1)) := by unfold RightK ksK; rw [List.map_take]; exact List.Pairwise.sublist (List.take_sublist _ _) h
  rw [take_get hp] at h1
  unfold RightK ksK at h1
  rw [List.map_append] at h1
  exact ltB_irrefl _ ((List.pairwise_append.1 h1).2.2 p.1 hm p.1 (by simp))
theorem run_makeMap_n (n : Nat) (w : World) : (Instr.makeMap 61 (some (.int .i64 n))).run Try.prog w = .ok (.map (some w.heap.size)) (w.alloc (.map #[] 0)) := by
  have u := run_underlying Try.underlying61 (w := w)
  simp [Instr.makeMap, u, asInt, go_sem]
set_option maxHeartbeats 4000000 in
set_option maxRecDepth 100000 in
theorem sides_any (o : Option Addr) (l : List KvB) (c : Nat) (w : World) (hl : l.length ≤ 1000000) (hr : RightK l) (h : KvAt w o l) :
    Calls Try.prog 19 #[.slice o l.length c] w fun e w' => e = .returned (.map (some w.heap.size)) ∧ IsSd w.heap.size l.length (ksK l) (sayK l) w' ∧ Below w.heap.size w w' := by
  obtain ⟨n, hn⟩ : ∃ n, l.length = n := ⟨_, rfl⟩
  have HN := Lib.hid hn; have HL := Lib.hid h; have HR := Lib.hid hr
  rw [hn] at hl ⊢
  clear hn h hr
  have hmm := run_makeMap_n n
  have H0 : Hid (∃ k, k ≤ n ∧ (Value.int .i64 0) = .int .i64 k ∧ IsSd w.heap.size k (ksK (l.take k)) (sayK (l.take k)) (w.alloc (.map #[] 0)) ∧ Below w.heap.size w (w.alloc (.map #[] 0))) := Lib.hid ⟨0, Nat.zero_le _, rfl, IsSd.new w, (Below.refl _ w).alloc (Nat.le_refl _) _⟩
  go_enter Try.func19, Try.ntmps19
  go_wp2_with fail
  clear hmm
  go_loopw [11] (fun i wr => ∃ k, k ≤ n ∧ i = .int .i64 k ∧ IsSd w.heap.size k (ksK (l.take k)) (sayK (l.take k)) wr ∧ Below w.heap.size w wr) (fun i _ => n - (intOf i).toNat)
  case atStart => exact H0.out
  case round =>
    obtain ⟨k, hk, rfl, hU, hb⟩ := hrel
    have HU := Lib.hid hU; have HBB := Lib.hid hb
    clear hU hb H0
    by_cases hlt : k < n
    · obtain ⟨p, hp⟩ : ∃ p, l[k]? = some p := ⟨_, List.getElem?_eq_getElem (by rw [HN.out]; omega)⟩
      obtain ⟨z0, z1, b0, i0, ho, c0, c1⟩ := (HL.out.below HBB.out) k p hp
      have HF := Lib.hid (right_fresh HR.out hp)
      have HT := Lib.hid (take_get hp)
      subst ho
      obtain ⟨a, x⟩ := p
      dsimp only at c0 c1 z0 HF
      obtain ⟨D, hD, hD2⟩ := HU.out
      have HD := Lib.hid hD; have HD2 := Lib.hid hD2
      have HK := Lib.hid (keyS z0)
      have HZ := Lib.hid z0
      have hml := hD.lt
      clear hp hD hD2 z0 z1
      go_wp2_with (at_mapUpdate; (refine wpList_mapUpdate_in _ rfl _ _ _ 61 rfl 9 39 keyedS Try.underlying61 sdElem w.heap.size k D rfl (HD.out.alloc _) (by unfold maxLen; omega) _ _ (.string a.data.toList) rfl rfl HK.out (sdD (x, true)) [] rfl ?_); intro w1 hown1 hturn1; have HO := Lib.hid hown1; have HT1 := Lib.hid hturn1; clear hown1 hturn1)
      go_roundw
      case rel => exact ⟨k + 1, hlt, by go_num, by
        have h1 : IsSd w.heap.size (k + 1) (ksK (l.take k) ++ [a]) (fun s => if a = s then (x, true) else sayK (l.take k) s) w1 := ⟨_, HO.out, HD2.out.put HZ.out⟩
        have e : ksK (l.take (k + 1)) = ksK (l.take k) ++ [a] := by rw [HT.out]; unfold ksK; rw [List.map_append]; rfl
        exact h1.congr (by rw [e]; exact Nat.le_refl _) (fun s => by rw [e]) (fun s _ => by rw [HT.out, say_snoc HF.out]), mapTurned_below HT1.out (HBB.out.alloc HBB.out.size _) (Nat.le_refl _) (by have := HBB.out.size; simp; omega)⟩
      case measure => simp [intOf]; omega
    · obtain rfl : k = n := by omega
      have HU2 : Hid (IsSd w.heap.size k (ksK l) (sayK l) wr) := Lib.hid (by have h := HU.out; rw [List.take_of_length_le (by rw [HN.out]; exact Nat.le_refl _)] at h; exact h)
      go_wp2_with fail
      go_ret
      exact ⟨rfl, HU2.out, HBB.out⟩
end Go.Proofs.Ythkcmdlfdaggmaa
