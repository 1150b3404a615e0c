/- Wal, the document's side: Commit. -/
import Derived.Test.YtbpaiiljhdohfaaDoorXe
namespace Go.Proofs.YtbpaiiljhdohfaaDoor
open Go.RowKit
set_option linter.unusedSimpArgs false
set_option linter.unusedVariables false
variable {B n g gl cl f m t : Nat} {vw vk : Value} {S : DS} {w : World}

/-- A row of the document's changes, of any sectors. -/
def DrI (w : World) (o : Option Addr) (x : List (Int × ByteArray)) : Prop :=
  ∀ k p, x[k]? = some p → ∃ b cur, o = some ⟨b, 0, none⟩ ∧ w.heap[b]? = some (.cells cur 57 (0, 0)) ∧ w.cell? ⟨b, k * 2, none⟩ = some (.int .i64 p.1) ∧ w.cell? ⟨b, k * 2 + 1, none⟩ = some (.string p.2)
theorem DrI.same {w w' : World} {o : Option Addr} {x : List (Int × ByteArray)} (h : DrI w o x) (hb : ∀ b cur, o = some ⟨b, 0, none⟩ → w.heap[b]? = some (.cells cur 57 (0, 0)) → w'.heap[b]? = w.heap[b]?) : DrI w' o x := fun k p hp => by
  obtain ⟨b, cur, h1, h2, h3, h4⟩ := h k p hp
  have e := hb b cur h1 h2
  refine ⟨b, cur, h1, e.trans h2, ?_, ?_⟩
  · unfold World.cell? at h3 ⊢; simp only [e]; exact h3
  · unfold World.cell? at h4 ⊢; simp only [e]; exact h4
theorem DrI.nat {o : Option Addr} {x : List (Int × ByteArray)} (h : DrI w o x) (hx : ∀ c ∈ x, 0 ≤ c.1) : DrAt w o (natC x) := fun k p hp => by
  unfold natC at hp
  rw [List.getElem?_map] at hp
  obtain ⟨c, hc, rfl⟩ := Option.map_eq_some_iff.1 hp
  obtain ⟨b, cur, h1, h2, h3, h4⟩ := h k c hc
  refine ⟨b, cur, h1, h2, ?_, h4⟩
  show _ = some (Value.int .i64 ((c.1.toNat : Nat) : Int))
  rw [Int.toNat_of_nonneg (hx c (List.mem_of_getElem? hc))]
  exact h3
/-- What may be changed, one by one. -/
def OkC (n f m : Nat) (c : Int × ByteArray) : Prop := MayI n f ((m : Int) + 1) c.1 ∧ c.2.size ≤ 512
theorem okC_takes {x : List (Int × ByteArray)} (h0 : 1 ≤ x.length) (h1 : x.length ≤ m) (h : ∀ c ∈ x, OkC n f m c) : Takes n f m x := by
  refine ⟨h0, h1, fun c hc => ?_⟩
  obtain ⟨⟨a1, a2, a3⟩, a4⟩ := h c hc
  refine ⟨a1, a2, ?_, a4⟩
  rcases a3 with a3 | a3
  · exact .inl a3
  · right; omega
theorem takes_okC {x : List (Int × ByteArray)} (h : Takes n f m x) : ∀ c ∈ x, OkC n f m c := fun c hc => by
  obtain ⟨h1, h2, h3, h4⟩ := h.2.2 c hc
  refine ⟨⟨h1, h2, ?_⟩, h4⟩
  rcases h3 with h3 | h3
  · exact .inl h3
  · right; omega
def Rc1 (n f m k : Nat) (x : List (Int × ByteArray)) (w : World) (i : Value) (wr : World) : Prop :=
  ∃ j : Nat, j ≤ k ∧ i = .int .i64 j ∧ (∀ c ∈ x.take j, OkC n f m c) ∧ Below w.heap.size w wr
def Rc2 (B n g gl cl f : Nat) (vw vk : Value) (S : DS) (t k : Nat) (y : List ByteArray) (w : World) (i : Value) (wr : World) : Prop :=
  ∃ (j : Nat) (T : DS) (va : Value), j ≤ k ∧ i = .int .i64 j ∧ putsS ((imagesOf (f + 1) y).take j) S = (0, T) ∧ IsR B n g gl cl va vk T wr ∧ (∀ z, va.ownBlock = some z → vw.ownBlock = some z ∨ w.heap.size ≤ z) ∧ FrR B g gl vw w wr ∧ Bd (t + j) T ∧ ∀ w', Below B w w' → Pend w' vk T
set_option maxHeartbeats 16000000 in
set_option maxRecDepth 100000 in
theorem RCommit (hI : IsR B n g gl cl vw vk S w) (hf : f + 1 + m ≤ n) (hn : n ≤ 4096) (hm1 : 1 ≤ m) (hm64 : m ≤ 64) (bd : Bd t S) (ht : t + 300 ≤ 10000000) (hP : ∀ w', Below B w w' → Pend w' vk S) (o : Option Addr) (x : List (Int × ByteArray)) (cap : Nat) (hx : DrI w o x) (hxl : x.length ≤ 100) (hsz : ∀ c ∈ x, c.2.size ≤ 9223372036854775807) :
    Calls Tryd.prog 16 #[.pointer (some ⟨g, 0, none⟩), .agg #[.int .i64 (f : Int), .int .i64 ((m : Int) + 1)], .slice o x.length cap] w fun e w' => RStepped B n g gl cl vw vk (commitI n f m x S) w e w' := by
  have hn0 : 1 ≤ n := by omega
  have hBz : B ≤ w.heap.size := by have := hI.d.lt; have := hI.b1; omega
  obtain ⟨k, hk⟩ : ∃ k, x.length = k := ⟨_, rfl⟩
  have HXL := Lib.hid hk
  rw [hk] at hxl ⊢
  obtain ⟨W0, hW0⟩ : ∃ W0, w.alloc (.cells #[.int .i64 (f : Int), .int .i64 ((m : Int) + 1)] 32) = W0 := ⟨_, rfl⟩
  have hb0 : Below w.heap.size w W0 := hW0 ▸ (Below.refl _ _).alloc (Nat.le_refl _) _
  have hrow0 : W0.heap[w.heap.size]? = some (.cells #[.int .i64 (f : Int), .int .i64 ((m : Int) + 1)] 32 (0, 0)) := by rw [← hW0]; exact heap_alloc_new w _
  have HFT : Hid (Fits n f ((m : Int) + 1)) := Lib.hid ⟨by omega, by omega, by omega, by omega⟩
  have HI := Lib.hid hI; have HB0 := Lib.hid hb0; have HROW0 := Lib.hid hrow0; have HBD := Lib.hid bd; have HP := Lib.hid hP; have HX := Lib.hid hx; have HSZ := Lib.hid hsz
  have hw1 : IntKind.i64.wrap ((m : Int) + 1) = (m : Int) + 1 := IntWalk.i64_in _ (by omega)
  have HMAY : Hid (∀ (W : World) (i : Int), Below w.heap.size w W → Calls Tryd.prog 29 #[.pointer (some ⟨g, 0, none⟩), .agg #[.int .i64 (f : Int), .int .i64 ((m : Int) + 1)], .int .i64 i] W fun e w' => e = .returned (.bool (decide (MayI n f ((m : Int) + 1) i))) ∧ Below W.heap.size W w') := Lib.hid (fun W i hb => RMay (HI.out.below hb) hn f ((m : Int) + 1) i HFT.out)
  have HNOT : Hid (∀ W, Below w.heap.size w W → ¬ Takes n f m x → RStepped B n g gl cl vw vk (commitI n f m x S) w (.returned (.int .i64 1)) W) := Lib.hid (fun W hb hT => by
    rw [show commitI n f m x S = (1, S) from if_neg hT]
    exact ⟨rfl, vw, HI.out.below hb, fun _ h => .inl h, FrR.of_below hBz hb⟩)
  have c00 : W0.cell? ⟨w.heap.size, 0, none⟩ = some (.int .i64 (f : Int)) := Lib.cell_of_heap HROW0.out _
  have c10 : W0.cell? ⟨w.heap.size, 1, none⟩ = some (.int .i64 ((m : Int) + 1)) := Lib.cell_of_heap HROW0.out _
  clear hI hb0 hrow0 bd hP hx hsz hk
  by_cases hkk : 1 ≤ k ∧ k ≤ m
  · obtain ⟨hka, hkb⟩ := hkk
    have hk1 : ¬ (k : Int) < 1 := by omega
    have hkm : ¬ (m : Int) < k := by omega
    have hkmi : (k : Int) ≤ m := by omega
    have H10 : Hid (Rc1 n f m k x W0 (.int .i64 0) W0) := Lib.hid ⟨0, Nat.zero_le _, rfl, fun c hc => (by rw [List.take_zero] at hc; cases hc), Below.refl _ _⟩
    go_enter Tryd.func16, Tryd.ntmps16
    go_wp2_with fail
    have hd1 : decide (m < k) = false := decide_eq_false (by omega)
    have hd2 : decide ((k : Int) < 1) = false := decide_eq_false (by omega)
    try simp only [hd1, hd2, Bool.or_self]
    clear hd1 hd2 c00 c10
    try rw [hW0]
    clear hW0
    go_loopw [7] (fun i wr => Rc1 n f m k x W0 i wr) (fun i _ => k - (intOf i).toNat)
    case atStart => exact H10.out
    case round =>
      obtain ⟨j, hj, rfl, hok, hbl⟩ := hrel
      have HOK := Lib.hid hok; have HBL0 := Lib.hid hbl; have HBL := Lib.hid (HB0.out.trans (hbl.mono HB0.out.size))
      have HR1 : Hid (wr.heap[w.heap.size]? = some (.cells #[.int .i64 (f : Int), .int .i64 ((m : Int) + 1)] 32 (0, 0))) := Lib.hid ((hbl.block _ (lt_of_some HROW0.out)).trans HROW0.out)
      clear hok hbl H10
      by_cases hlt : j < k
      · have hji : (j : Int) < k := by omega
        obtain ⟨c, hcx⟩ : ∃ c, x[j]? = some c := ⟨_, List.getElem?_eq_getElem (by rw [HXL.out]; exact hlt)⟩
        have hcr : DrI wr o x := HX.out.same (fun b cur _ hb => HBL.out.block b (lt_of_some hb))
        obtain ⟨b, cur, hob, hcur, d0, d1⟩ := hcr j c hcx
        subst hob
        have hcsz := HSZ.out c (List.mem_of_getElem? hcx)
        have HCX := Lib.hid hcx
        obtain ⟨ci, cs⟩ := c
        simp only at d0 d1 hcsz
        have hBd : Below w.heap.size w wr.drew := HBL.out.drew
        have HBd := Lib.hid hBd
        have HSV : Hid (∀ V, Below wr.heap.size wr V → (fun w' : World => (w'.cell? ⟨w.heap.size, 0, none⟩ = some (.int .i64 (f : Int)) ∧ w'.cell? ⟨w.heap.size, 1, none⟩ = some (.int .i64 ((m : Int) + 1))) ∧ w'.cell? ⟨b, j * 2, none⟩ = some (.int .i64 ci) ∧ w'.cell? ⟨b, j * 2 + 1, none⟩ = some (.string cs)) V) := Lib.hid (fun V hV => ⟨⟨Lib.cell_of_heap ((hV.block _ (lt_of_some HR1.out)).trans HR1.out) _, Lib.cell_of_heap ((hV.block _ (lt_of_some HR1.out)).trans HR1.out) _⟩, (World.cell?_of_block (a := ⟨b, j * 2, none⟩) (hV.block b (lt_of_some hcur))).trans d0, (World.cell?_of_block (a := ⟨b, j * 2 + 1, none⟩) (hV.block b (lt_of_some hcur))).trans d1⟩)
        have HS1 : Hid ((fun w' : World => (w'.cell? ⟨w.heap.size, 0, none⟩ = some (.int .i64 (f : Int)) ∧ w'.cell? ⟨w.heap.size, 1, none⟩ = some (.int .i64 ((m : Int) + 1))) ∧ w'.cell? ⟨b, j * 2, none⟩ = some (.int .i64 ci) ∧ w'.cell? ⟨b, j * 2 + 1, none⟩ = some (.string cs)) wr.drew) := Lib.hid (HSV.out _ (Below.refl _ _).drew)
        have hBrd : Below wr.heap.size wr wr.drew := (Below.refl _ _).drew
        clear hcr hcx hBd
        by_cases hmay : MayI n f ((m : Int) + 1) ci
        · by_cases hs5 : cs.size ≤ 512
          · have hs5i : ¬ (512 : Int) < cs.size := by omega
            obtain ⟨dz, hdz⟩ : ∃ dz, decide (512 < (cs.size : Int)) = dz := ⟨_, rfl⟩
            have hdzf : dz = false := by rw [← hdz]; exact decide_eq_false hs5i
            have HDZ : Hid (decide (512 < (cs.size : Int)) = false) := Lib.hid (decide_eq_false hs5i)
            have HNX : Hid (OkC n f m (ci, cs)) := Lib.hid ⟨hmay, hs5⟩
            have HMT := Lib.hid (decide_eq_true hmay)
            clear hdz hdzf hmay
            go_wp2_with fail
            refine wp_region_held_drew (S := (fun w' : World => (w'.cell? ⟨w.heap.size, 0, none⟩ = some (.int .i64 (f : Int)) ∧ w'.cell? ⟨w.heap.size, 1, none⟩ = some (.int .i64 ((m : Int) + 1))) ∧ w'.cell? ⟨b, j * 2, none⟩ = some (.int .i64 ci) ∧ w'.cell? ⟨b, j * 2 + 1, none⟩ = some (.string cs))) (by kernel_rfl) HS1.out (fun hHeld => ?_)
            refine wpAnyH_take (i := 0) (v := ?_) rfl (by kernel_rfl) (by kernel_rfl) (by kernel_rfl) (fun _ _ _ h => h) (Or.inl ⟨by kernel_rfl, ?_⟩) (HS1.out) ?_
            rotate_left
            · intro wq hSw; (try dsimp only at hSw); go_simp; (try simp only [HDZ.out]); try with_reducible rfl
            try simp only [Act.put, List.setIfInBounds_toArray, List.set_cons_zero, List.set_cons_succ]
            refine wpAnyH_take (i := 1) (v := ?_) rfl (by kernel_rfl) (by kernel_rfl) (by kernel_rfl) (fun _ _ _ h => h) (Or.inl ⟨by kernel_rfl, ?_⟩) (HS1.out) ?_
            rotate_left
            · intro wq hSw; (try dsimp only at hSw); go_simp; (try simp only [HDZ.out]); try with_reducible rfl
            try simp only [Act.put, List.setIfInBounds_toArray, List.set_cons_zero, List.set_cons_succ]
            refine wpAnyH_take (i := 2) (v := ?_) rfl (by kernel_rfl) (by kernel_rfl) (by kernel_rfl) (fun _ _ _ h => h) (Or.inl ⟨by kernel_rfl, ?_⟩) (HS1.out) ?_
            rotate_left
            · intro wq hSw; (try dsimp only at hSw); go_simp; (try simp only [HDZ.out]); try with_reducible rfl
            try simp only [Act.put, List.setIfInBounds_toArray, List.set_cons_zero, List.set_cons_succ]
            refine wpAnyH_take (i := 3) (v := ?_) rfl (by kernel_rfl) (by kernel_rfl) (by kernel_rfl) (fun _ _ _ h => h) (Or.inl ⟨by kernel_rfl, ?_⟩) (HS1.out) ?_
            rotate_left
            · intro wq hSw; (try dsimp only at hSw); go_simp; (try simp only [HDZ.out]); try with_reducible rfl
            try simp only [Act.put, List.setIfInBounds_toArray, List.set_cons_zero, List.set_cons_succ]
            refine wpAnyH_take (i := 4) (v := ?_) rfl (by kernel_rfl) (by kernel_rfl) (by kernel_rfl) (fun _ _ _ h => h) (Or.inl ⟨by kernel_rfl, ?_⟩) (HS1.out) ?_
            rotate_left
            · intro wq hSw; (try dsimp only at hSw); go_simp; (try simp only [HDZ.out]); try with_reducible rfl
            try simp only [Act.put, List.setIfInBounds_toArray, List.set_cons_zero, List.set_cons_succ]
            refine wpAnyH_take (i := 5) (v := ?_) rfl (by kernel_rfl) (by kernel_rfl) (by kernel_rfl) (fun _ _ _ h => h) (Or.inl ⟨by kernel_rfl, ?_⟩) (HS1.out) ?_
            rotate_left
            · intro wq hSw; (try dsimp only at hSw); go_simp; (try simp only [HDZ.out]); try with_reducible rfl
            try simp only [Act.put, List.setIfInBounds_toArray, List.set_cons_zero, List.set_cons_succ]
            refine wpAnyH_take (i := 6) (v := ?_) rfl (by kernel_rfl) (by kernel_rfl) (by kernel_rfl) (fun _ _ _ h => h) (Or.inl ⟨by kernel_rfl, ?_⟩) (HS1.out) ?_
            rotate_left
            · intro wq hSw; (try dsimp only at hSw); go_simp; (try simp only [HDZ.out]); try with_reducible rfl
            try simp only [Act.put, List.setIfInBounds_toArray, List.set_cons_zero, List.set_cons_succ]
            refine wpAnyH_ready (rs := [7]) (by kernel_rfl) (by simp) ?_
            refine AllReadyH.cons (o := _) rfl (fun K hK => ?_) AllReadyH.nil
            go_simp
            go_at_call 29
            refine (HMAY.out wr.drew ci HBd.out).mono ?_
            first | rintro e w5 rfl hb5 | rintro e w5 ⟨rfl, hb5⟩
            have HB5 : Hid (Below wr.heap.size wr w5) := Lib.hid (hBrd.trans hb5)
            rw [HMT.out]
            refine hK.out _ _ (HSV.out _ HB5.out) (fun _ => ?_)
            try simp only [Act.put, List.setIfInBounds_toArray, List.set_cons_zero, List.set_cons_succ]
            refine wpAnyH_take (i := 8) (v := ?_) rfl (by kernel_rfl) (by kernel_rfl) (by kernel_rfl) (fun _ _ _ h => h) (Or.inl ⟨by kernel_rfl, ?_⟩) (HSV.out _ HB5.out) ?_
            rotate_left
            · intro wq hSw; (try dsimp only at hSw); go_simp; (try simp only [HDZ.out]); try with_reducible rfl
            try simp only [Act.put, List.setIfInBounds_toArray, List.set_cons_zero, List.set_cons_succ]
            refine wpAnyH_take (i := 9) (v := ?_) rfl (by kernel_rfl) (by kernel_rfl) (by kernel_rfl) (fun _ _ _ h => h) (Or.inl ⟨by kernel_rfl, ?_⟩) (HSV.out _ HB5.out) ?_
            rotate_left
            · intro wq hSw; (try dsimp only at hSw); go_simp; (try simp only [HDZ.out]); try with_reducible rfl
            try simp only [Act.put, List.setIfInBounds_toArray, List.set_cons_zero, List.set_cons_succ]
            refine wpAnyH_take (i := 10) (v := ?_) rfl (by kernel_rfl) (by kernel_rfl) (by kernel_rfl) (fun _ _ _ h => h) (Or.inl ⟨by kernel_rfl, ?_⟩) (HSV.out _ HB5.out) ?_
            rotate_left
            · intro wq hSw; (try dsimp only at hSw); go_simp; (try simp only [HDZ.out]); try with_reducible rfl
            try simp only [Act.put, List.setIfInBounds_toArray, List.set_cons_zero, List.set_cons_succ]
            refine wpAnyH_take (i := 11) (v := ?_) rfl (by kernel_rfl) (by kernel_rfl) (by kernel_rfl) (fun _ _ _ h => h) (Or.inl ⟨by kernel_rfl, ?_⟩) (HSV.out _ HB5.out) ?_
            rotate_left
            · intro wq hSw; (try dsimp only at hSw); go_simp; (try simp only [HDZ.out]); try with_reducible rfl
            try simp only [Act.put, List.setIfInBounds_toArray, List.set_cons_zero, List.set_cons_succ]
            refine wpAnyH_take (i := 12) (v := ?_) rfl (by kernel_rfl) (by kernel_rfl) (by kernel_rfl) (fun _ _ _ h => h) (Or.inl ⟨by kernel_rfl, ?_⟩) (HSV.out _ HB5.out) ?_
            rotate_left
            · intro wq hSw; (try dsimp only at hSw); go_simp; (try simp only [HDZ.out]); try with_reducible rfl
            try simp only [Act.put, List.setIfInBounds_toArray, List.set_cons_zero, List.set_cons_succ]
            refine wpAnyH_take (i := 13) (v := ?_) rfl (by kernel_rfl) (by kernel_rfl) (by kernel_rfl) (fun _ _ _ h => h) (Or.inl ⟨by kernel_rfl, ?_⟩) (HSV.out _ HB5.out) ?_
            rotate_left
            · intro wq hSw; (try dsimp only at hSw); go_simp; (try simp only [HDZ.out]); try with_reducible rfl
            try simp only [Act.put, List.setIfInBounds_toArray, List.set_cons_zero, List.set_cons_succ]
            refine wpAnyH_take (i := 14) (v := ?_) rfl (by kernel_rfl) (by kernel_rfl) (by kernel_rfl) (fun _ _ _ h => h) (Or.inl ⟨by kernel_rfl, ?_⟩) (HSV.out _ HB5.out) ?_
            rotate_left
            · intro wq hSw; (try dsimp only at hSw); go_simp; (try simp only [HDZ.out]); try with_reducible rfl
            try simp only [Act.put, List.setIfInBounds_toArray, List.set_cons_zero, List.set_cons_succ]
            refine wpAnyH_take (i := 15) (v := ?_) rfl (by kernel_rfl) (by kernel_rfl) (by kernel_rfl) (fun _ _ _ h => h) (Or.inl ⟨by kernel_rfl, ?_⟩) (HSV.out _ HB5.out) ?_
            rotate_left
            · intro wq hSw; (try dsimp only at hSw); go_simp; (try simp only [HDZ.out]); try with_reducible rfl
            try simp only [Act.put, List.setIfInBounds_toArray, List.set_cons_zero, List.set_cons_succ]
            refine wpAnyH_take (i := 16) (v := ?_) rfl (by kernel_rfl) (by kernel_rfl) (by kernel_rfl) (fun _ _ _ h => h) (Or.inl ⟨by kernel_rfl, ?_⟩) (HSV.out _ HB5.out) ?_
            rotate_left
            · intro wq hSw; (try dsimp only at hSw); go_simp; (try simp only [HDZ.out]); try with_reducible rfl
            try simp only [Act.put, List.setIfInBounds_toArray, List.set_cons_zero, List.set_cons_succ]
            refine wpAnyH_ready (rs := [17]) (by kernel_rfl) (by simp) ?_
            refine AllReadyH.cons (o := _) rfl (fun K hK => ?_) AllReadyH.nil
            go_simp
            refine hK.out _ _ (HSV.out _ HB5.out) (fun _ => ?_)
            try simp only [Act.put, List.setIfInBounds_toArray, List.set_cons_zero, List.set_cons_succ]
            refine wpAnyH_done (by kernel_rfl) ?_ _
            clear hHeld
            have HEND : Hid (Rc1 n f m k x W0 (.int .i64 ((j : Int) + 1)) w5) := Lib.hid ⟨j + 1, by omega, by rw [Int.natCast_succ], fun c hc => by
              rw [List.take_add_one, HCX.out, List.mem_append] at hc
              rcases hc with hc | hc
              · exact HOK.out c hc
              · simp at hc; subst hc; exact HNX.out, HBL0.out.trans (HB5.out.mono HBL0.out.size)⟩
            clear hb5
            go_wp2_with fail
            go_roundw
            case rel => first | exact HEND.out | ((repeat (apply Exists.intro)); exact ⟨HEND.out, rfl⟩)
            case measure => first | (simp [intOf]; done) | (simp [intOf]; omega)
          · have hs5i : (512 : Int) < cs.size := by omega
            have HDZ : Hid (decide (512 < (cs.size : Int)) = true) := Lib.hid (decide_eq_true hs5i)
            have HNX := Lib.hid (fun W hb => HNOT.out W hb (fun h => hs5 (takes_okC h _ (List.mem_of_getElem? HCX.out)).2))
            have HMT := Lib.hid (decide_eq_true hmay)
            clear hmay
            go_wp2_with fail
            refine wp_region_held_drew (S := (fun w' : World => (w'.cell? ⟨w.heap.size, 0, none⟩ = some (.int .i64 (f : Int)) ∧ w'.cell? ⟨w.heap.size, 1, none⟩ = some (.int .i64 ((m : Int) + 1))) ∧ w'.cell? ⟨b, j * 2, none⟩ = some (.int .i64 ci) ∧ w'.cell? ⟨b, j * 2 + 1, none⟩ = some (.string cs))) (by kernel_rfl) HS1.out (fun hHeld => ?_)
            refine wpAnyH_take (i := 0) (v := ?_) rfl (by kernel_rfl) (by kernel_rfl) (by kernel_rfl) (fun _ _ _ h => h) (Or.inl ⟨by kernel_rfl, ?_⟩) (HS1.out) ?_
            rotate_left
            · intro wq hSw; (try dsimp only at hSw); go_simp; (try simp only [HDZ.out]); try with_reducible rfl
            try simp only [Act.put, List.setIfInBounds_toArray, List.set_cons_zero, List.set_cons_succ]
            refine wpAnyH_take (i := 1) (v := ?_) rfl (by kernel_rfl) (by kernel_rfl) (by kernel_rfl) (fun _ _ _ h => h) (Or.inl ⟨by kernel_rfl, ?_⟩) (HS1.out) ?_
            rotate_left
            · intro wq hSw; (try dsimp only at hSw); go_simp; (try simp only [HDZ.out]); try with_reducible rfl
            try simp only [Act.put, List.setIfInBounds_toArray, List.set_cons_zero, List.set_cons_succ]
            refine wpAnyH_take (i := 2) (v := ?_) rfl (by kernel_rfl) (by kernel_rfl) (by kernel_rfl) (fun _ _ _ h => h) (Or.inl ⟨by kernel_rfl, ?_⟩) (HS1.out) ?_
            rotate_left
            · intro wq hSw; (try dsimp only at hSw); go_simp; (try simp only [HDZ.out]); try with_reducible rfl
            try simp only [Act.put, List.setIfInBounds_toArray, List.set_cons_zero, List.set_cons_succ]
            refine wpAnyH_take (i := 3) (v := ?_) rfl (by kernel_rfl) (by kernel_rfl) (by kernel_rfl) (fun _ _ _ h => h) (Or.inl ⟨by kernel_rfl, ?_⟩) (HS1.out) ?_
            rotate_left
            · intro wq hSw; (try dsimp only at hSw); go_simp; (try simp only [HDZ.out]); try with_reducible rfl
            try simp only [Act.put, List.setIfInBounds_toArray, List.set_cons_zero, List.set_cons_succ]
            refine wpAnyH_take (i := 4) (v := ?_) rfl (by kernel_rfl) (by kernel_rfl) (by kernel_rfl) (fun _ _ _ h => h) (Or.inl ⟨by kernel_rfl, ?_⟩) (HS1.out) ?_
            rotate_left
            · intro wq hSw; (try dsimp only at hSw); go_simp; (try simp only [HDZ.out]); try with_reducible rfl
            try simp only [Act.put, List.setIfInBounds_toArray, List.set_cons_zero, List.set_cons_succ]
            refine wpAnyH_take (i := 5) (v := ?_) rfl (by kernel_rfl) (by kernel_rfl) (by kernel_rfl) (fun _ _ _ h => h) (Or.inl ⟨by kernel_rfl, ?_⟩) (HS1.out) ?_
            rotate_left
            · intro wq hSw; (try dsimp only at hSw); go_simp; (try simp only [HDZ.out]); try with_reducible rfl
            try simp only [Act.put, List.setIfInBounds_toArray, List.set_cons_zero, List.set_cons_succ]
            refine wpAnyH_take (i := 6) (v := ?_) rfl (by kernel_rfl) (by kernel_rfl) (by kernel_rfl) (fun _ _ _ h => h) (Or.inl ⟨by kernel_rfl, ?_⟩) (HS1.out) ?_
            rotate_left
            · intro wq hSw; (try dsimp only at hSw); go_simp; (try simp only [HDZ.out]); try with_reducible rfl
            try simp only [Act.put, List.setIfInBounds_toArray, List.set_cons_zero, List.set_cons_succ]
            refine wpAnyH_ready (rs := [7]) (by kernel_rfl) (by simp) ?_
            refine AllReadyH.cons (o := _) rfl (fun K hK => ?_) AllReadyH.nil
            go_simp
            go_at_call 29
            refine (HMAY.out wr.drew ci HBd.out).mono ?_
            first | rintro e w5 rfl hb5 | rintro e w5 ⟨rfl, hb5⟩
            have HB5 : Hid (Below wr.heap.size wr w5) := Lib.hid (hBrd.trans hb5)
            rw [HMT.out]
            refine hK.out _ _ (HSV.out _ HB5.out) (fun _ => ?_)
            try simp only [Act.put, List.setIfInBounds_toArray, List.set_cons_zero, List.set_cons_succ]
            refine wpAnyH_take (i := 8) (v := ?_) rfl (by kernel_rfl) (by kernel_rfl) (by kernel_rfl) (fun _ _ _ h => h) (Or.inl ⟨by kernel_rfl, ?_⟩) (HSV.out _ HB5.out) ?_
            rotate_left
            · intro wq hSw; (try dsimp only at hSw); go_simp; (try simp only [HDZ.out]); try with_reducible rfl
            try simp only [Act.put, List.setIfInBounds_toArray, List.set_cons_zero, List.set_cons_succ]
            refine wpAnyH_take (i := 9) (v := ?_) rfl (by kernel_rfl) (by kernel_rfl) (by kernel_rfl) (fun _ _ _ h => h) (Or.inl ⟨by kernel_rfl, ?_⟩) (HSV.out _ HB5.out) ?_
            rotate_left
            · intro wq hSw; (try dsimp only at hSw); go_simp; (try simp only [HDZ.out]); try with_reducible rfl
            try simp only [Act.put, List.setIfInBounds_toArray, List.set_cons_zero, List.set_cons_succ]
            refine wpAnyH_take (i := 10) (v := ?_) rfl (by kernel_rfl) (by kernel_rfl) (by kernel_rfl) (fun _ _ _ h => h) (Or.inl ⟨by kernel_rfl, ?_⟩) (HSV.out _ HB5.out) ?_
            rotate_left
            · intro wq hSw; (try dsimp only at hSw); go_simp; (try simp only [HDZ.out]); try with_reducible rfl
            try simp only [Act.put, List.setIfInBounds_toArray, List.set_cons_zero, List.set_cons_succ]
            refine wpAnyH_take (i := 11) (v := ?_) rfl (by kernel_rfl) (by kernel_rfl) (by kernel_rfl) (fun _ _ _ h => h) (Or.inl ⟨by kernel_rfl, ?_⟩) (HSV.out _ HB5.out) ?_
            rotate_left
            · intro wq hSw; (try dsimp only at hSw); go_simp; (try simp only [HDZ.out]); try with_reducible rfl
            try simp only [Act.put, List.setIfInBounds_toArray, List.set_cons_zero, List.set_cons_succ]
            refine wpAnyH_take (i := 12) (v := ?_) rfl (by kernel_rfl) (by kernel_rfl) (by kernel_rfl) (fun _ _ _ h => h) (Or.inl ⟨by kernel_rfl, ?_⟩) (HSV.out _ HB5.out) ?_
            rotate_left
            · intro wq hSw; (try dsimp only at hSw); go_simp; (try simp only [HDZ.out]); try with_reducible rfl
            try simp only [Act.put, List.setIfInBounds_toArray, List.set_cons_zero, List.set_cons_succ]
            refine wpAnyH_take (i := 13) (v := ?_) rfl (by kernel_rfl) (by kernel_rfl) (by kernel_rfl) (fun _ _ _ h => h) (Or.inl ⟨by kernel_rfl, ?_⟩) (HSV.out _ HB5.out) ?_
            rotate_left
            · intro wq hSw; (try dsimp only at hSw); go_simp; (try simp only [HDZ.out]); try with_reducible rfl
            try simp only [Act.put, List.setIfInBounds_toArray, List.set_cons_zero, List.set_cons_succ]
            refine wpAnyH_take (i := 14) (v := ?_) rfl (by kernel_rfl) (by kernel_rfl) (by kernel_rfl) (fun _ _ _ h => h) (Or.inl ⟨by kernel_rfl, ?_⟩) (HSV.out _ HB5.out) ?_
            rotate_left
            · intro wq hSw; (try dsimp only at hSw); go_simp; (try simp only [HDZ.out]); try with_reducible rfl
            try simp only [Act.put, List.setIfInBounds_toArray, List.set_cons_zero, List.set_cons_succ]
            refine wpAnyH_take (i := 15) (v := ?_) rfl (by kernel_rfl) (by kernel_rfl) (by kernel_rfl) (fun _ _ _ h => h) (Or.inl ⟨by kernel_rfl, ?_⟩) (HSV.out _ HB5.out) ?_
            rotate_left
            · intro wq hSw; (try dsimp only at hSw); go_simp; (try simp only [HDZ.out]); try with_reducible rfl
            try simp only [Act.put, List.setIfInBounds_toArray, List.set_cons_zero, List.set_cons_succ]
            refine wpAnyH_take (i := 16) (v := ?_) rfl (by kernel_rfl) (by kernel_rfl) (by kernel_rfl) (fun _ _ _ h => h) (Or.inl ⟨by kernel_rfl, ?_⟩) (HSV.out _ HB5.out) ?_
            rotate_left
            · intro wq hSw; (try dsimp only at hSw); go_simp; (try simp only [HDZ.out]); try with_reducible rfl
            try simp only [Act.put, List.setIfInBounds_toArray, List.set_cons_zero, List.set_cons_succ]
            refine wpAnyH_ready (rs := [17]) (by kernel_rfl) (by simp) ?_
            refine AllReadyH.cons (o := _) rfl (fun K hK => ?_) AllReadyH.nil
            go_simp
            refine hK.out _ _ (HSV.out _ HB5.out) (fun _ => ?_)
            try simp only [Act.put, List.setIfInBounds_toArray, List.set_cons_zero, List.set_cons_succ]
            refine wpAnyH_done (by kernel_rfl) ?_ _
            clear hHeld
            have HEND := Lib.hid (HNX.out w5 (HBL.out.trans (HB5.out.mono HBL.out.size)))
            clear hb5
            go_wp2_with fail
            go_ret
            exact HEND.out
        · have HDZ : Hid ((0 : Nat) = 0) := Lib.hid rfl
          have HNX := Lib.hid (fun W hb => HNOT.out W hb (fun h => hmay (takes_okC h _ (List.mem_of_getElem? HCX.out)).1))
          have HMT := Lib.hid (decide_eq_false hmay)
          clear hmay
          go_wp2_with fail
          refine wp_region_held_drew (S := (fun w' : World => (w'.cell? ⟨w.heap.size, 0, none⟩ = some (.int .i64 (f : Int)) ∧ w'.cell? ⟨w.heap.size, 1, none⟩ = some (.int .i64 ((m : Int) + 1))) ∧ w'.cell? ⟨b, j * 2, none⟩ = some (.int .i64 ci) ∧ w'.cell? ⟨b, j * 2 + 1, none⟩ = some (.string cs))) (by kernel_rfl) HS1.out (fun hHeld => ?_)
          refine wpAnyH_take (i := 0) (v := ?_) rfl (by kernel_rfl) (by kernel_rfl) (by kernel_rfl) (fun _ _ _ h => h) (Or.inl ⟨by kernel_rfl, ?_⟩) (HS1.out) ?_
          rotate_left
          · intro wq hSw; (try dsimp only at hSw); go_simp; (try simp only [HDZ.out]); try with_reducible rfl
          try simp only [Act.put, List.setIfInBounds_toArray, List.set_cons_zero, List.set_cons_succ]
          refine wpAnyH_take (i := 1) (v := ?_) rfl (by kernel_rfl) (by kernel_rfl) (by kernel_rfl) (fun _ _ _ h => h) (Or.inl ⟨by kernel_rfl, ?_⟩) (HS1.out) ?_
          rotate_left
          · intro wq hSw; (try dsimp only at hSw); go_simp; (try simp only [HDZ.out]); try with_reducible rfl
          try simp only [Act.put, List.setIfInBounds_toArray, List.set_cons_zero, List.set_cons_succ]
          refine wpAnyH_take (i := 2) (v := ?_) rfl (by kernel_rfl) (by kernel_rfl) (by kernel_rfl) (fun _ _ _ h => h) (Or.inl ⟨by kernel_rfl, ?_⟩) (HS1.out) ?_
          rotate_left
          · intro wq hSw; (try dsimp only at hSw); go_simp; (try simp only [HDZ.out]); try with_reducible rfl
          try simp only [Act.put, List.setIfInBounds_toArray, List.set_cons_zero, List.set_cons_succ]
          refine wpAnyH_take (i := 3) (v := ?_) rfl (by kernel_rfl) (by kernel_rfl) (by kernel_rfl) (fun _ _ _ h => h) (Or.inl ⟨by kernel_rfl, ?_⟩) (HS1.out) ?_
          rotate_left
          · intro wq hSw; (try dsimp only at hSw); go_simp; (try simp only [HDZ.out]); try with_reducible rfl
          try simp only [Act.put, List.setIfInBounds_toArray, List.set_cons_zero, List.set_cons_succ]
          refine wpAnyH_take (i := 4) (v := ?_) rfl (by kernel_rfl) (by kernel_rfl) (by kernel_rfl) (fun _ _ _ h => h) (Or.inl ⟨by kernel_rfl, ?_⟩) (HS1.out) ?_
          rotate_left
          · intro wq hSw; (try dsimp only at hSw); go_simp; (try simp only [HDZ.out]); try with_reducible rfl
          try simp only [Act.put, List.setIfInBounds_toArray, List.set_cons_zero, List.set_cons_succ]
          refine wpAnyH_take (i := 5) (v := ?_) rfl (by kernel_rfl) (by kernel_rfl) (by kernel_rfl) (fun _ _ _ h => h) (Or.inl ⟨by kernel_rfl, ?_⟩) (HS1.out) ?_
          rotate_left
          · intro wq hSw; (try dsimp only at hSw); go_simp; (try simp only [HDZ.out]); try with_reducible rfl
          try simp only [Act.put, List.setIfInBounds_toArray, List.set_cons_zero, List.set_cons_succ]
          refine wpAnyH_take (i := 6) (v := ?_) rfl (by kernel_rfl) (by kernel_rfl) (by kernel_rfl) (fun _ _ _ h => h) (Or.inl ⟨by kernel_rfl, ?_⟩) (HS1.out) ?_
          rotate_left
          · intro wq hSw; (try dsimp only at hSw); go_simp; (try simp only [HDZ.out]); try with_reducible rfl
          try simp only [Act.put, List.setIfInBounds_toArray, List.set_cons_zero, List.set_cons_succ]
          refine wpAnyH_ready (rs := [7]) (by kernel_rfl) (by simp) ?_
          refine AllReadyH.cons (o := _) rfl (fun K hK => ?_) AllReadyH.nil
          go_simp
          go_at_call 29
          refine (HMAY.out wr.drew ci HBd.out).mono ?_
          first | rintro e w5 rfl hb5 | rintro e w5 ⟨rfl, hb5⟩
          have HB5 : Hid (Below wr.heap.size wr w5) := Lib.hid (hBrd.trans hb5)
          rw [HMT.out]
          refine hK.out _ _ (HSV.out _ HB5.out) (fun _ => ?_)
          try simp only [Act.put, List.setIfInBounds_toArray, List.set_cons_zero, List.set_cons_succ]
          refine wpAnyH_take (i := 8) (v := ?_) rfl (by kernel_rfl) (by kernel_rfl) (by kernel_rfl) (fun _ _ _ h => h) (Or.inl ⟨by kernel_rfl, ?_⟩) (HSV.out _ HB5.out) ?_
          rotate_left
          · intro wq hSw; (try dsimp only at hSw); go_simp; (try simp only [HDZ.out]); try with_reducible rfl
          try simp only [Act.put, List.setIfInBounds_toArray, List.set_cons_zero, List.set_cons_succ]
          refine wpAnyH_take (i := 9) (v := ?_) rfl (by kernel_rfl) (by kernel_rfl) (by kernel_rfl) (fun _ _ _ h => h) (Or.inl ⟨by kernel_rfl, ?_⟩) (HSV.out _ HB5.out) ?_
          rotate_left
          · intro wq hSw; (try dsimp only at hSw); go_simp; (try simp only [HDZ.out]); try with_reducible rfl
          try simp only [Act.put, List.setIfInBounds_toArray, List.set_cons_zero, List.set_cons_succ]
          refine wpAnyH_take (i := 10) (v := undef) rfl (by kernel_rfl) (by kernel_rfl) (by kernel_rfl) (fun _ _ _ h => h) (Or.inr ⟨by kernel_rfl, rfl⟩) (HSV.out _ HB5.out) ?_
          try simp only [Act.put, List.setIfInBounds_toArray, List.set_cons_zero, List.set_cons_succ]
          refine wpAnyH_take (i := 11) (v := undef) rfl (by kernel_rfl) (by kernel_rfl) (by kernel_rfl) (fun _ _ _ h => h) (Or.inr ⟨by kernel_rfl, rfl⟩) (HSV.out _ HB5.out) ?_
          try simp only [Act.put, List.setIfInBounds_toArray, List.set_cons_zero, List.set_cons_succ]
          refine wpAnyH_take (i := 12) (v := undef) rfl (by kernel_rfl) (by kernel_rfl) (by kernel_rfl) (fun _ _ _ h => h) (Or.inr ⟨by kernel_rfl, rfl⟩) (HSV.out _ HB5.out) ?_
          try simp only [Act.put, List.setIfInBounds_toArray, List.set_cons_zero, List.set_cons_succ]
          refine wpAnyH_take (i := 13) (v := undef) rfl (by kernel_rfl) (by kernel_rfl) (by kernel_rfl) (fun _ _ _ h => h) (Or.inr ⟨by kernel_rfl, rfl⟩) (HSV.out _ HB5.out) ?_
          try simp only [Act.put, List.setIfInBounds_toArray, List.set_cons_zero, List.set_cons_succ]
          refine wpAnyH_take (i := 14) (v := undef) rfl (by kernel_rfl) (by kernel_rfl) (by kernel_rfl) (fun _ _ _ h => h) (Or.inr ⟨by kernel_rfl, rfl⟩) (HSV.out _ HB5.out) ?_
          try simp only [Act.put, List.setIfInBounds_toArray, List.set_cons_zero, List.set_cons_succ]
          refine wpAnyH_take (i := 15) (v := undef) rfl (by kernel_rfl) (by kernel_rfl) (by kernel_rfl) (fun _ _ _ h => h) (Or.inr ⟨by kernel_rfl, rfl⟩) (HSV.out _ HB5.out) ?_
          try simp only [Act.put, List.setIfInBounds_toArray, List.set_cons_zero, List.set_cons_succ]
          refine wpAnyH_take (i := 16) (v := undef) rfl (by kernel_rfl) (by kernel_rfl) (by kernel_rfl) (fun _ _ _ h => h) (Or.inr ⟨by kernel_rfl, rfl⟩) (HSV.out _ HB5.out) ?_
          try simp only [Act.put, List.setIfInBounds_toArray, List.set_cons_zero, List.set_cons_succ]
          refine wpAnyH_ready (rs := [17]) (by kernel_rfl) (by simp) ?_
          refine AllReadyH.cons (o := _) rfl (fun K hK => ?_) AllReadyH.nil
          go_simp
          refine hK.out _ _ (HSV.out _ HB5.out) (fun _ => ?_)
          try simp only [Act.put, List.setIfInBounds_toArray, List.set_cons_zero, List.set_cons_succ]
          refine wpAnyH_done (by kernel_rfl) ?_ _
          clear hHeld
          have HEND := Lib.hid (HNX.out w5 (HBL.out.trans (HB5.out.mono HBL.out.size)))
          clear hb5
          go_wp2_with fail
          go_ret
          exact HEND.out
      · obtain rfl : j = k := by omega
        obtain ⟨W1, hW1⟩ : ∃ W1, W1 = wr := ⟨_, rfl⟩
        subst hW1
        have hjn : ¬ (j : Int) < j := by omega
        have htk : x.take j = x := List.take_of_length_le (by rw [HXL.out]; exact Nat.le_refl _)
        have hok := HOK.out
        rw [htk] at hok
        have hT : Takes n f m x := okC_takes (by rw [HXL.out]; exact hka) (by rw [HXL.out]; exact hkb) hok
        have HCO : Hid (commitI n f m x S = commitS f (natC x) S) := Lib.hid (if_pos hT)
        have HMEM : Hid (∀ c ∈ natC x, c.1 < n ∧ c.2.size ≤ 512) := Lib.hid hT.mem
        have HPOS : Hid (∀ c ∈ x, 0 ≤ c.1) := Lib.hid (fun c hc => (hT.2.2 c hc).1)
        have HIr := Lib.hid (HI.out.below HBL.out)
        have HF0 : Hid (FrR B g gl vw w W1) := Lib.hid (FrR.of_below hBz HBL.out)
        have hwsz : w.heap.size ≤ W1.heap.size := HBL.out.size
        obtain ⟨y, hy⟩ : ∃ y, x.map (·.2) = y := ⟨_, rfl⟩
        have hyl : y.length = j := by rw [← hy, List.length_map, HXL.out]
        have HY := Lib.hid hy; have HYL := Lib.hid hyl
        have H20 : Hid (Rc2 B n g gl cl f vw vk S t j y W1 (.int .i64 0) W1) := Lib.hid ⟨0, S, vw, Nat.zero_le _, rfl, rfl, HIr.out, fun _ h => .inl h, FrR.refl _ _ _ _ _, HBD.out, fun w' hb => HP.out w' ((HBL.out.mono hBz).trans hb)⟩
        have HXr : Hid (DrI W1 o x) := Lib.hid (HX.out.same (fun b cur _ hb => HBL.out.block b (lt_of_some hb)))
        clear htk hok hT hy hyl
        go_wp2_with fail
        go_loopw [8] (fun i W => Rc2 B n g gl cl f vw vk S t j y W1 i W) (fun i _ => j - (intOf i).toNat)
        case atStart => exact H20.out
        case round =>
          obtain ⟨q, T, va, hq, rfl, hp, hI, hva, hfr, hbd, hpd⟩ := hrel
          have HPp := Lib.hid hp; have HIq := Lib.hid hI; have HVA := Lib.hid hva; have HF := Lib.hid hfr; have HBq := Lib.hid hbd; have HPD := Lib.hid hpd
          have HRq := Lib.hid ((hfr.kept HIr.out HR1.out (by decide) (by decide) (by decide)).trans HR1.out)
          have HXq : Hid (DrI wr o x) := Lib.hid (HXr.out.same fun _ _ _ h2 => hfr.kept HIr.out h2 (by decide) (by decide) (by decide))
          clear hp hI hva hfr hbd hpd H20
          have e0 : wr.cell? ⟨w.heap.size, 0, none⟩ = some (.int .i64 (f : Int)) := Lib.cell_of_heap HRq.out _
          have e1 : wr.cell? ⟨w.heap.size, 1, none⟩ = some (.int .i64 ((m : Int) + 1)) := Lib.cell_of_heap HRq.out _
          by_cases hlt2 : q < j
          · have hqi : (q : Int) < j := by omega
            have hfi : (f : Int) ≤ 4096 := by omega
            have hqi2 : (q : Int) ≤ 64 := by omega
            obtain ⟨c, hcx⟩ : ∃ c, x[q]? = some c := ⟨_, List.getElem?_eq_getElem (by rw [HXL.out]; exact hlt2)⟩
            obtain ⟨b, cur, hob, hcur, d0, d1⟩ := HXq.out q c hcx
            subst hob
            obtain ⟨ci, cs⟩ := c
            simp only at d0 d1
            have hcs : cs.size ≤ 512 := (HMEM.out (ci.toNat, cs) (List.mem_map.2 ⟨(ci, cs), List.mem_of_getElem? hcx, rfl⟩)).2
            have HIM : Hid ((imagesOf (f + 1) y)[q]? = some (f + 1 + q, cs)) := Lib.hid (images_get (f + 1) y q cs (by rw [← HY.out, List.getElem?_map, hcx]; rfl))
            have HI2 : Hid (IsR B n g gl cl va vk T wr.drew) := Lib.hid (HIq.out.keep fun _ _ => rfl)
            have HPUT : Hid (Calls Tryd.prog 14 #[.pointer (some ⟨g, 0, none⟩), .int .i64 ((f : Int) + 1 + q), .string cs] wr.drew fun e w' => e = .returned (.int .i64 (writeS (f + 1 + q) cs T).1) ∧ ∃ vw', IsR B n g gl cl vw' vk (writeS (f + 1 + q) cs T).2 w' ∧ (∀ z, vw'.ownBlock = some z → va.ownBlock = some z ∨ (wr.drew).heap.size ≤ z) ∧ FrR B g gl va wr.drew w') := Lib.hid (by
              have := RPut HI2.out (HBq.out.ok hn0 hn (by omega)) (fun h1 w' hb => HPD.out w' (HF.out.below.trans ⟨hb.os, hb.tape, hb.output, hb.size, hb.block⟩) (by rw [h1]; decide)) (f + 1 + q) cs (by omega) hcs
              rw [show (((f + 1 + q : Nat)) : Int) = (f : Int) + 1 + q by omega] at this
              exact this)
            clear hcx hcur
            go_wp2_with fail
            refine wp_region_still_tail 11 (by kernel_rfl) (by kernel_rfl) ?_
            change wpStill _ _ (World.drew _) _ _ _
            simp only [List.take_succ_cons, List.take_zero, List.drop_succ_cons, List.drop_zero]
            repeat still_step
            try refine wpStill_nil ?_
            change wpList _ _ _ _ _ (World.drew _)
            go_wp2_with (go_at_call 14; refine HPUT.out.mono ?_)
            first | rintro e w3 rfl va3 h3 hv3 f3 | rintro e w3 ⟨rfl, va3, h3, hv3, f3⟩
            have hst := putsS_step (imagesOf (f + 1) y) q (f + 1 + q, cs) S T HIM.out HPp.out
            have hF3 := HF.out.trans f3.undrew HVA.out
            have hva3 : ∀ z, va3.ownBlock = some z → vw.ownBlock = some z ∨ W1.heap.size ≤ z := fun z hz => by
              rcases hv3 z hz with h | h
              · exact HVA.out z h
              · exact .inr (Nat.le_trans HF.out.size h)
            have HI3 := Lib.hid h3; have HF3 := Lib.hid hF3; have HV3 := Lib.hid hva3; have HST := Lib.hid hst
            clear h3 hv3 f3 hst hF3 hva3 e0 e1 d0 d1
            rcases writeS_err (f + 1 + q) cs T with he | he
            · have HN : Hid (Rc2 B n g gl cl f vw vk S t j y W1 (.int .i64 ((q : Int) + 1)) w3) := Lib.hid
                ⟨q + 1, (writeS (f + 1 + q) cs T).2, va3, by omega, by rw [Int.natCast_succ], HST.out.1 he, HI3.out, HV3.out, HF3.out, (HBq.out.write (f + 1 + q) cs).more (by omega), fun w' hb => (HPD.out w' hb).write HBq.out.l0 (f + 1 + q) cs⟩
              rw [he]
              go_wp2_with fail
              exact ⟨HN.out, by simp [intOf] <;> omega⟩
            · have HEND : Hid (RStepped B n g gl cl vw vk (commitI n f m x S) w (.returned (.int .i64 7)) w3) := Lib.hid (by
                have e1 : commitI n f m x S = writeS (f + 1 + q) cs T := by
                  rw [HCO.out]
                  unfold commitS recordS makeS
                  have e2 : (natC x).map (·.2) = y := by rw [← HY.out]; unfold natC; rw [List.map_map]; rfl
                  have e3 : (writeS (f + 1 + q) cs T).1 ≠ 0 := by rw [he]; decide
                  rw [e2, HST.out.2 e3]
                  simp only
                  rw [thenS_no (a := writeS (f + 1 + q) cs T) syncS e3, thenS_no (a := writeS (f + 1 + q) cs T) _ e3, thenS_no (a := writeS (f + 1 + q) cs T) _ e3]
                rw [e1]
                exact ⟨by rw [he], va3, HI3.out, fun z hz => by
                  rcases HV3.out z hz with h | h
                  · exact .inl h
                  · exact .inr (Nat.le_trans hwsz h), HF0.out.trans HF3.out (fun _ h => .inl h)⟩)
              rw [he]
              go_wp2_with fail
              go_ret
              exact HEND.out
          · obtain rfl : q = j := by omega
            have hqn : ¬ (q : Int) < q := by omega
            have hp := HPp.out
            rw [List.take_of_length_le (by rw [images_length, HYL.out]; exact Nat.le_refl _)] at hp
            have hMKE : makeS (imagesOf (f + 1) y) S = syncS T := by unfold makeS; rw [hp, thenS_ok (a := ((0 : Int), T)) _ rfl]
            have e2 : (natC x).map (·.2) = y := by rw [← HY.out]; unfold natC; rw [List.map_map]; rfl
            have HCS : Hid (commitI n f m x S = thenS (thenS (syncS T) (makeS [(f, headB (natC x))])) (fun U => thenS (makeS (natC x) U) (makeS [(f, ⟨#[]⟩)]))) := Lib.hid (by
              rw [HCO.out]
              unfold commitS recordS
              rw [e2, hMKE]
              rfl)
            have HSN := Lib.hid (RSync HIq.out (HBq.out.ok hn0 hn (by omega)) (fun h1 w' hb => HPD.out w' (HF.out.below.trans hb) (by rw [h1]; decide)))
            have HVq : Hid (∀ z, va.ownBlock = some z → vw.ownBlock = some z ∨ w.heap.size ≤ z) := Lib.hid (fun z hz => by
              rcases HVA.out z hz with h | h
              · exact .inl h
              · exact .inr (Nat.le_trans hwsz h))
            have HFq : Hid (FrR B g gl vw w wr) := Lib.hid (HF0.out.trans HF.out (fun _ h => .inl h))
            clear hp hMKE e2
            go_wp2_with (go_at_call 41; refine HSN.out.mono ?_)
            first | rintro e w4 rfl va4 h4 hv4 f4 | rintro e w4 ⟨rfl, va4, h4, hv4, f4⟩
            have HF4 := Lib.hid (HFq.out.trans f4 HVq.out)
            have HV4 : Hid (∀ z, va4.ownBlock = some z → vw.ownBlock = some z ∨ w.heap.size ≤ z) := Lib.hid (fun z hz => HVq.out z (hv4 z hz))
            have HR4 := Lib.hid ((f4.kept HIq.out HRq.out (by decide) (by decide) (by decide)).trans HRq.out)
            have HX4 : Hid (DrI w4 o x) := Lib.hid (HXq.out.same fun _ _ _ h2 => f4.kept HIq.out h2 (by decide) (by decide) (by decide))
            have HI4 := Lib.hid h4
            have HBD4 := Lib.hid HBq.out.sync
            have HPD4 : Hid (∀ w', Below B w4 w' → Pend w' vk (syncS T).2) := Lib.hid (fun w' hb => (HPD.out w' (HF.out.below.trans (f4.below.trans hb))).sync HBq.out.l0)
            have hse := syncS_err T
            obtain ⟨p, hpp⟩ : ∃ p, syncS T = p := ⟨_, rfl⟩
            rw [hpp] at HI4 HBD4 HPD4 hse HCS ⊢
            obtain ⟨p1, P2⟩ := p
            simp only at hse HI4 HBD4 HPD4
            clear h4 hv4 f4 hpp e0 e1 HSN
            rcases hse with rfl | rfl
            · have HDR4 := Lib.hid (HX4.out.nat HPOS.out)
              have HC1 : Hid (commitI n f m x S = thenS (makeS [(f, headB (natC x))] P2) (fun U => thenS (makeS (natC x) U) (makeS [(f, ⟨#[]⟩)]))) := Lib.hid (by rw [HCS.out, thenS_ok (a := ((0 : Int), P2)) _ rfl])
              have hnl : (natC x).length = q := by rw [natC_length, HXL.out]
              have HHD := Lib.hid (RHead o cap (natC x) w4.drew (HDR4.out.same fun _ _ _ _ => rfl) (fun c hc => ⟨by have := (HMEM.out c hc).1; omega, (HMEM.out c hc).2⟩) (by rw [hnl]; omega))
              rw [hnl] at HHD
              have HHS : Hid ((headB (natC x)).size ≤ 512) := Lib.hid (by rw [headB_size (natC x) (by rw [hnl]; omega)]; exact Nat.le_refl _)
              have HS1 : Hid ((fun w' : World => w'.cell? ⟨w.heap.size, 0, none⟩ = some (.int .i64 (f : Int)) ∧ w'.cell? ⟨w.heap.size, 1, none⟩ = some (.int .i64 ((m : Int) + 1))) w4.drew) := Lib.hid ⟨Lib.cell_of_heap HR4.out _, Lib.cell_of_heap HR4.out _⟩
              have HNL := Lib.hid hnl
              clear hnl
              go_wp2_with fail
              refine wp_region_held_drew (S := (fun w' : World => w'.cell? ⟨w.heap.size, 0, none⟩ = some (.int .i64 (f : Int)) ∧ w'.cell? ⟨w.heap.size, 1, none⟩ = some (.int .i64 ((m : Int) + 1)))) (by kernel_rfl) HS1.out (fun hHeld => ?_)
              refine wpAnyH_take (i := 0) (v := ?_) rfl (by kernel_rfl) (by kernel_rfl) (by kernel_rfl) (fun _ _ _ h => h) (Or.inl ⟨by kernel_rfl, ?_⟩) (HS1.out) ?_
              rotate_left
              · intro wq hSw; (try dsimp only at hSw); go_simp; try with_reducible rfl
              try simp only [Act.put, List.setIfInBounds_toArray, List.set_cons_zero, List.set_cons_succ]
              refine wpAnyH_take (i := 1) (v := ?_) rfl (by kernel_rfl) (by kernel_rfl) (by kernel_rfl) (fun _ _ _ h => h) (Or.inl ⟨by kernel_rfl, ?_⟩) (HS1.out) ?_
              rotate_left
              · intro wq hSw; (try dsimp only at hSw); go_simp; try with_reducible rfl
              try simp only [Act.put, List.setIfInBounds_toArray, List.set_cons_zero, List.set_cons_succ]
              refine wpAnyH_take (i := 2) (v := ?_) rfl (by kernel_rfl) (by kernel_rfl) (by kernel_rfl) (fun _ _ _ h => h) (Or.inl ⟨by kernel_rfl, ?_⟩) (HS1.out) ?_
              rotate_left
              · intro wq hSw; (try dsimp only at hSw); go_simp; try with_reducible rfl
              try simp only [Act.put, List.setIfInBounds_toArray, List.set_cons_zero, List.set_cons_succ]
              refine wpAnyH_ready (rs := [3]) (by kernel_rfl) (by simp) ?_
              refine AllReadyH.cons (o := _) rfl (fun K hK => ?_) AllReadyH.nil
              go_simp
              go_at_call 30
              refine (HHD.out).mono ?_
              first | rintro e w5 rfl hb5 | rintro e w5 ⟨rfl, hb5⟩
              have hb45 : Below w4.heap.size w4 w5 := (Below.refl w4.heap.size w4).drew.trans hb5
              have HR5 := Lib.hid ((hb45.block _ (lt_of_some HR4.out)).trans HR4.out)
              have HBz4 : B ≤ w4.heap.size := Nat.le_trans hBz HF4.out.size
              have HI5 := Lib.hid (HI4.out.below hb45)
              have HF5 := Lib.hid (HF4.out.trans (FrR.of_below (g := g) (gl := gl) (vw := va4) HBz4 hb45) HV4.out)
              have HX5 : Hid (DrAt w5 o (natC x)) := Lib.hid (HDR4.out.same (fun b cur _ hb => hb45.block b (lt_of_some hb)))
              have HSY := Lib.hid (RSay HI5.out hn0 hn HBD4.out (by omega) (fun w' hb => HPD4.out w' ((hb45.mono HBz4).trans hb)) f ((m : Int) + 1) (headB (natC x)) (by omega) HHS.out)
              refine hK.out _ _ ⟨Lib.cell_of_heap HR5.out _, Lib.cell_of_heap HR5.out _⟩ (fun _ => ?_)
              try simp only [Act.put, List.setIfInBounds_toArray, List.set_cons_zero, List.set_cons_succ]
              refine wpAnyH_ready (rs := [4]) (by kernel_rfl) (by simp) ?_
              refine AllReadyH.cons (o := _) rfl (fun K hK => ?_) AllReadyH.nil
              go_simp
              go_at_call 32
              refine HSY.out.mono ?_
              first | rintro e w6 rfl ⟨va6, h6, hv6, f6⟩ | rintro e w6 ⟨rfl, va6, h6, hv6, f6⟩
              have HR6 := Lib.hid ((f6.kept HI5.out HR5.out (by decide) (by decide) (by decide)).trans HR5.out)
              have HV6 : Hid (∀ z, va6.ownBlock = some z → vw.ownBlock = some z ∨ w.heap.size ≤ z) := Lib.hid (fun z hz => by
                rcases hv6 z hz with h | h
                · exact HV4.out z h
                · exact .inr (Nat.le_trans HF5.out.size h))
              have HF6 := Lib.hid (HF5.out.trans f6 HV4.out)
              have HX6 : Hid (DrAt w6 o (natC x)) := Lib.hid (HX5.out.disk HI5.out f6)
              have HI6 := Lib.hid h6
              have HBD6 := Lib.hid (HBD4.out.make [(f, headB (natC x))])
              have HPD6 : Hid (∀ w', Below B w6 w' → Pend w' vk (makeS [(f, headB (natC x))] P2).2) := Lib.hid (fun w' hb => (HPD4.out w' (((hb45.mono HBz4).trans f6.below).trans hb)).make HBD4.out _)
              refine hK.out _ _ ⟨Lib.cell_of_heap HR6.out _, Lib.cell_of_heap HR6.out _⟩ (fun _ => ?_)
              try simp only [Act.put, List.setIfInBounds_toArray, List.set_cons_zero, List.set_cons_succ]
              refine wpAnyH_ready (rs := [5]) (by kernel_rfl) (by simp) ?_
              refine AllReadyH.cons (o := _) rfl (fun K hK => ?_) AllReadyH.nil
              go_simp
              refine hK.out _ _ ⟨Lib.cell_of_heap HR6.out _, Lib.cell_of_heap HR6.out _⟩ (fun _ => ?_)
              try simp only [Act.put, List.setIfInBounds_toArray, List.set_cons_zero, List.set_cons_succ]
              refine wpAnyH_done (by kernel_rfl) ?_ _
              clear hHeld hb5 hb45 h6 hv6 f6 HSY
              have he := makeS_err [(f, headB (natC x))] P2
              obtain ⟨p, hpp⟩ : ∃ p, makeS [(f, headB (natC x))] P2 = p := ⟨_, rfl⟩
              rw [hpp] at HI6 HBD6 HPD6 HC1 he ⊢
              obtain ⟨r1, P3⟩ := p
              simp only at HI6 HBD6 HPD6 he
              rw [List.length_singleton] at HBD6
              clear hpp
              rcases he with rfl | rfl
              · have HC2 : Hid (commitI n f m x S = thenS (makeS (natC x) P3) (makeS [(f, ⟨#[]⟩)])) := Lib.hid (by rw [HC1.out, thenS_ok (a := ((0 : Int), P3)) _ rfl])
                have HMK := Lib.hid (RMake HI6.out hn0 hn HBD6.out HPD6.out o cap (natC x) HX6.out HMEM.out (by rw [HNL.out]; omega))
                rw [HNL.out] at HMK
                go_wp2_with (go_at_call 31; refine HMK.out.mono ?_)
                first | rintro e w7 rfl ⟨va7, h7, hv7, f7⟩ | rintro e w7 ⟨rfl, va7, h7, hv7, f7⟩
                have HR7 := Lib.hid ((f7.kept HI6.out HR6.out (by decide) (by decide) (by decide)).trans HR6.out)
                have HV7 : Hid (∀ z, va7.ownBlock = some z → vw.ownBlock = some z ∨ w.heap.size ≤ z) := Lib.hid (fun z hz => by
                  rcases hv7 z hz with h | h
                  · exact HV6.out z h
                  · exact .inr (Nat.le_trans HF6.out.size h))
                have HF7 := Lib.hid (HF6.out.trans f7 HV6.out)
                have HI7 := Lib.hid h7
                have HBD7 := Lib.hid (HBD6.out.make (natC x))
                rw [HNL.out] at HBD7
                have HPD7 : Hid (∀ w', Below B w7 w' → Pend w' vk (makeS (natC x) P3).2) := Lib.hid (fun w' hb => (HPD6.out w' (f7.below.trans hb)).make HBD6.out _)
                have he := makeS_err (natC x) P3
                obtain ⟨p, hpp⟩ : ∃ p, makeS (natC x) P3 = p := ⟨_, rfl⟩
                rw [hpp] at HI7 HBD7 HPD7 HC2 he ⊢
                obtain ⟨r1, P4⟩ := p
                simp only at HI7 HBD7 HPD7 he
                clear hpp h7 hv7 f7 HMK
                rcases he with rfl | rfl
                · have HC3 : Hid (commitI n f m x S = makeS [(f, ⟨#[]⟩)] P4) := Lib.hid (by rw [HC2.out, thenS_ok (a := ((0 : Int), P4)) _ rfl])
                  have d0 : w7.cell? ⟨w.heap.size, 0, none⟩ = some (.int .i64 (f : Int)) := Lib.cell_of_heap HR7.out _
                  have d1 : w7.cell? ⟨w.heap.size, 1, none⟩ = some (.int .i64 ((m : Int) + 1)) := Lib.cell_of_heap HR7.out _
                  have HSY := Lib.hid (RSay HI7.out hn0 hn HBD7.out (by omega) HPD7.out f ((m : Int) + 1) ⟨#[]⟩ (by omega) (by decide))
                  go_wp2_with (go_at_call 32; refine HSY.out.mono ?_)
                  first | rintro e w8 rfl ⟨vb, h8, hv8, f8⟩ | rintro e w8 ⟨rfl, vb, h8, hv8, f8⟩
                  have HEND : Hid (RStepped B n g gl cl vw vk (commitI n f m x S) w (.returned (.int .i64 (makeS [(f, ⟨#[]⟩)] P4).1)) w8) := Lib.hid (by
                    rw [HC3.out]
                    exact ⟨rfl, vb, h8, fun z hz => by
                      rcases hv8 z hz with h | h
                      · exact HV7.out z h
                      · exact .inr (Nat.le_trans HF7.out.size h), HF7.out.trans f8 HV7.out⟩)
                  clear h8 hv8 f8 HSY d0 d1
                  go_wp2_with fail
                  go_ret
                  exact HEND.out
                · have HEND : Hid (RStepped B n g gl cl vw vk (commitI n f m x S) w (.returned (.int .i64 7)) w7) := Lib.hid (by
                    have e3 : ((7 : Int), P4).1 ≠ 0 := show (7 : Int) ≠ 0 by decide
                    rw [HC2.out, thenS_no (a := ((7 : Int), P4)) _ e3]
                    exact ⟨rfl, va7, HI7.out, HV7.out, HF7.out⟩)
                  go_wp2_with fail
                  go_ret
                  exact HEND.out
              · have HEND : Hid (RStepped B n g gl cl vw vk (commitI n f m x S) w (.returned (.int .i64 7)) w6) := Lib.hid (by
                  have e3 : ((7 : Int), P3).1 ≠ 0 := show (7 : Int) ≠ 0 by decide
                  rw [HC1.out, thenS_no (a := ((7 : Int), P3)) _ e3]
                  exact ⟨rfl, va6, HI6.out, HV6.out, HF6.out⟩)
                go_wp2_with fail
                go_ret
                exact HEND.out
            · have HEND : Hid (RStepped B n g gl cl vw vk (commitI n f m x S) w (.returned (.int .i64 7)) w4) := Lib.hid (by
                have e3 : ((7 : Int), P2).1 ≠ 0 := show (7 : Int) ≠ 0 by decide
                rw [HCS.out, thenS_no (a := ((7 : Int), P2)) _ e3, thenS_no (a := ((7 : Int), P2)) _ e3]
                exact ⟨rfl, va4, HI4.out, HV4.out, HF4.out⟩)
              go_wp2_with fail
              go_ret
              exact HEND.out
  · have HNT := Lib.hid (fun W hb => HNOT.out W hb (fun h => hkk ⟨by have := h.1; rw [HXL.out] at this; exact this, by have := h.2.1; rw [HXL.out] at this; exact this⟩))
    rcases (show (k : Int) < 1 ∨ ¬ (k : Int) < 1 ∧ (m : Int) < k by omega) with h1 | ⟨h1, h2⟩
    all_goals
      go_enter Tryd.func16, Tryd.ntmps16
      go_wp2_with fail
      try rw [hW0]
      go_ret
      exact HNT.out _ HB0.out
end Go.Proofs.YtbpaiiljhdohfaaDoor
