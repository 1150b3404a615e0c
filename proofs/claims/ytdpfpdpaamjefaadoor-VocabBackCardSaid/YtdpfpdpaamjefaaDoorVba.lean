/- Vocabularies: plain facts: the parts of a word of signs are tokens, and their texts are the word. -/
import Derived.Test.YtdpfpdpaamjefaaDoorVab
namespace Go.Proofs.YtdpfpdpaamjefaaDoor
open Go.RowKit Go.Shelf Go.Maps

/-- A token of a vocabulary. -/
def inE (L : List EntB) (s : ByteArray) : Bool := inB (L.map (·.2)) s
theorem inE_app {L m : List EntB} {s : ByteArray} (h : inE L s = true) : inE (L ++ m) s = true := by
  unfold inE inB at h ⊢
  rw [List.map_append, List.any_append, h]; rfl
theorem inE_add {L : List EntB} {s : ByteArray} (h : goodB s = true) : inE (addE L s) s = true := by
  unfold addE
  cases hi : inB (L.map (·.2)) s with
  | true => simp only [Bool.true_or, if_true]; exact hi
  | false =>
    rw [h]
    unfold inE inB
    simp
theorem inE_addk {L : List EntB} {s t : ByteArray} (h : inE L s = true) : inE (addE L t) s = true := by
  obtain ⟨m, hm, _⟩ := addE_pre L t
  rw [hm]; exact inE_app h
theorem inE_look {L : List EntB} {s : ByteArray} (h : inE L s = true) : ∃ q, lookE (fun e : EntB => e.2) L s = some q := by
  cases hl : lookE (fun e : EntB => e.2) L s with
  | some q => exact ⟨q, rfl⟩
  | none =>
    unfold lookE at hl
    rw [List.find?_eq_none] at hl
    unfold inE inB at h
    rw [List.any_eq_true] at h
    obtain ⟨x, hx, hxs⟩ := h
    rw [List.mem_map] at hx
    obtain ⟨e, he, rfl⟩ := hx
    exact absurd hxs (hl e he)
theorem good_byteS {c : Nat} (h1 : 33 ≤ c) (h2 : c ≤ 126) : goodB (byteS c) = true := by
  have : (UInt8.ofNat c).toNat = c := by simp; omega
  unfold goodB byteS
  have hs : (⟨#[UInt8.ofNat c]⟩ : ByteArray).size = 1 := rfl
  rw [hs]
  simp only [List.all_cons, List.all_nil, Bool.and_true]
  have e : decide (33 ≤ ((UInt8.ofNat c).toNat : Int) ∧ ((UInt8.ofNat c).toNat : Int) ≤ 126) = true := by rw [this]; simp; omega
  rw [e]; rfl
theorem inE_ofS {k : Nat} : ∀ {n : Nat}, k < n → n ≤ 94 → inE (ofS n) (byteS (33 + k)) = true
  | 0, h, _ => absurd h (Nat.not_lt_zero _)
  | n + 1, h, hn => by
    show inE (addE (ofS n) (byteS (33 + n))) _ = true
    rcases Nat.lt_or_ge k n with hk | hk
    · exact inE_addk (inE_ofS hk (by omega))
    · obtain rfl : k = n := by omega
      exact inE_add (good_byteS (by omega) (by omega))
theorem inE_fold {p : PairB} : ∀ (l : List PairB) (out : List EntB), p ∈ l → goodB (p.1 ++ p.2) = true → inE (l.foldl (fun out p => addE out (p.1 ++ p.2)) out) (p.1 ++ p.2) = true
  | [], _, h, _ => by cases h
  | q :: l, out, h, hg => by
    rw [List.foldl_cons]
    rcases List.mem_cons.1 h with rfl | h
    · obtain ⟨m, hm, _⟩ := fold_pre l (addE out (p.1 ++ p.2))
      rw [hm]; exact inE_app (inE_add hg)
    · exact inE_fold l _ h hg
/-- A pair as the law takes them. -/
def GdP (p : PairB) : Prop := goodB p.1 = true ∧ goodB p.2 = true ∧ p.1.size + p.2.size ≤ 64
theorem GdP.good {p : PairB} (h : GdP p) : goodB (p.1 ++ p.2) = true := by
  obtain ⟨h1, h2, h3⟩ := h
  unfold goodB at h1 h2 ⊢
  simp only [Bool.and_eq_true, decide_eq_true_eq] at h1 h2 ⊢
  refine ⟨⟨by rw [app_size]; omega, by rw [app_size]; omega⟩, ?_⟩
  rw [app_toList, List.all_append, h1.2, h2.2]; rfl
theorem mem_catB : ∀ {P : List ByteArray} {p : ByteArray}, p ∈ P → ∀ c ∈ p.data.toList, c ∈ catB P
  | [], _, h, _, _ => by cases h
  | x :: P, p, h, c, hc => by
    rw [catB_cons, List.mem_append]
    rcases List.mem_cons.1 h with rfl | h
    · exact .inl hc
    · exact .inr (mem_catB h c hc)
theorem parts_in {G : List PairB} (hl : G.length ≤ 100000) (hG : ∀ q ∈ G, GdP q) {s : ByteArray} (hs : ∀ c ∈ s.data.toList, 33 ≤ (c.toNat : Int) ∧ (c.toNat : Int) ≤ 126) : ∀ p ∈ splitB G s, inE (ofP G) p = true := by
  intro p hp
  obtain ⟨_, h | ⟨q, hq, rfl⟩⟩ := splitB_part hl s p hp
  · obtain ⟨d⟩ := p
    have hd : d.toList.length = 1 := h
    obtain ⟨c, hc⟩ := List.length_eq_one_iff.1 hd
    have hcm := mem_catB hp c (by show c ∈ d.toList; rw [hc]; simp)
    rw [splitB_cat] at hcm
    have hb := hs c hcm
    have e : (⟨d⟩ : ByteArray) = byteS (33 + (c.toNat - 33)) := by
      unfold byteS
      rw [show 33 + (c.toNat - 33) = c.toNat by omega, UInt8.ofNat_toNat]
      have : d = #[c] := by apply Array.ext'; rw [hc]
      rw [this]
    rw [e]
    obtain ⟨m, hm, _⟩ := fold_pre G (ofS 94)
    unfold ofP
    rw [hm]
    exact inE_app (inE_ofS (by omega) (Nat.le_refl _))
  · exact inE_fold G _ hq (hG q hq).good
theorem all_of_in {L : List EntB} {P : List ByteArray} (h : ∀ p ∈ P, inE L p = true) : allE L P = true := by
  unfold allE
  rw [List.all_eq_true]
  intro p hp
  obtain ⟨q, hq⟩ := inE_look (h p hp)
  rw [hq]; rfl
theorem tok_of_in {L : List EntB} (hv : Voc L) {s : ByteArray} (h : inE L s = true) : (lkI L (idE L s)).isSome = true ∧ tokI L (idE L s) = s.data.toList := by
  obtain ⟨q, hq⟩ := inE_look h
  have hqs : q.2 = s := by
    have := List.find?_some hq
    simpa using this
  have hqm : q ∈ L := List.mem_of_find?_eq_some hq
  obtain ⟨j, hj⟩ := List.getElem?_of_mem hqm
  have h1 := (hv j q hj).1
  have hjl := (List.getElem?_eq_some_iff.1 hj).1
  have hid : idE L s = ((q.1 : Nat) : Int) := by unfold idE; rw [hq]
  have hlk : lkI L (idE L s) = some q := by
    rw [hid, voc_lk hv, if_pos (by omega), Int.toNat_natCast, h1, hj]
  refine ⟨by rw [hlk]; rfl, ?_⟩
  unfold tokI
  rw [hlk]
  simp only
  rw [hqs]
theorem back_of_in {L : List EntB} (hv : Voc L) : ∀ {P : List ByteArray}, (∀ p ∈ P, inE L p = true) → allI L (P.map (idE L)) = true ∧ decT L (P.map (idE L)) = catB P
  | [], _ => ⟨rfl, rfl⟩
  | p :: P, h => by
    obtain ⟨h1, h2⟩ := back_of_in hv (P := P) (fun x hx => h x (List.mem_cons_of_mem _ hx))
    obtain ⟨h3, h4⟩ := tok_of_in hv (h p List.mem_cons_self)
    unfold allI decT at *
    rw [List.map_cons, List.all_cons, List.flatMap_cons, h3, h1, h4, h2, catB_cons]
    exact ⟨rfl, rfl⟩
end Go.Proofs.YtdpfpdpaamjefaaDoor
