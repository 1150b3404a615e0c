/- Space: Claim, New and Take as the law's own question wants them. -/
import Derived.Test.YtbegjgceemffcaaZf
import Derived.Test.YtbegjgceemffcaaS
namespace Go.Proofs.Ytbegjgceemffcaa
open Go.RowKit Go.Shelf
variable {w w' : World}

theorem res_set {W : World} {b : Nat} {p0 p1 : Value} (h : W.heap[b]? = some (.cells #[p0, p1] 30 (0, 0))) (v0 v1 : Value) :
    W.cell? ⟨b, 0, none⟩ = some p0 ∧ W.cell? ⟨b, 1, none⟩ = some p1 ∧ W.frozen? ⟨b, 0, none⟩ = false ∧ W.frozen? ⟨b, 1, none⟩ = false ∧
    (W.setCell ⟨b, 0, none⟩ v0).cell? ⟨b, 0, none⟩ = some v0 ∧ ((W.setCell ⟨b, 0, none⟩ v0).setCell ⟨b, 1, none⟩ v1).cell? ⟨b, 1, none⟩ = some v1 := by
  have s1 : W.cell? ⟨b, 0, none⟩ = some p0 := cell_of_row h
  have s2 : W.cell? ⟨b, 1, none⟩ = some p1 := cell_of_row h
  exact ⟨s1, s2, by simp [World.frozen?, h], by simp [World.frozen?, h], World.cell?_setCell_same W ⟨b, 0, none⟩ _ s1,
    World.cell?_setCell_same _ ⟨b, 1, none⟩ _ ((World.cell?_setCell_other W ⟨b, 0, none⟩ ⟨b, 1, none⟩ _ (fun x => by injection x with _ h2 _; omega)).trans s2)⟩
theorem two_blocks (w : World) (o1 o2 : Obj) : (((w.alloc o1).alloc o2).heap.size = w.heap.size + 2) ∧ Below w.heap.size w ((w.alloc o1).alloc o2) ∧ ((w.alloc o1).alloc o2).heap[w.heap.size]? = some o1 ∧ ((w.alloc o1).alloc o2).heap[w.heap.size + 1]? = some o2 := by
  refine ⟨by simp, ((Below.refl w.heap.size w).alloc (Nat.le_refl _) _).alloc (by simp) _, (Lib.alloc_old _ _ _ (by simp)).trans (World.alloc_heap_new w _), ?_⟩
  have := World.alloc_heap_new (w.alloc o1) o2
  rw [World.size_alloc] at this; exact this
set_option maxRecDepth 100000 in
theorem Claim_n (c : Nat) (hc : c = 0 ∨ c = 1) (x0 : UInt8) (hx0 : (x0.toNat : Int) = tuX c 0) (o : Option Addr) (cap : Nat) (w : World) (hp : ExAt w o (tuL c)) :
    Calls Try.prog 7 #[spV x0, .slice o (tuL c).length cap] w fun e w' => e = .returned (.tuple #[spV (tuE c), .int .i64 0]) ∧ Below w.heap.size w w' := by
  have HT := Lib.hid (fun W hW => turn_n c hc x0 hx0 o cap W hW)
  have HP := Lib.hid hp
  clear hp
  obtain ⟨n, hn⟩ : ∃ n, (tuL c).length = n := ⟨_, rfl⟩
  rw [hn] at HT ⊢
  unfold spV at HT ⊢
  have HB0 := Lib.hid (two_blocks w (.cells #[.int .i64 5, .string ⟨#[x0]⟩] 30) (.cells #[.int .i64 0, .string ⟨#[]⟩] 30))
  go_enter Try.func7, Try.ntmps7
  go_wp2_with (go_at_call 11; refine (HT.out _ (HP.out.below HB0.out.2.1)).mono ?_)
  rintro e w3 ⟨rfl, hb3⟩
  obtain ⟨hsz, hb0, _, hr0⟩ := HB0.out
  obtain ⟨s1, s2, f1, f2, r0, r1⟩ := res_set ((hb3.block _ (by omega)).trans hr0) (.int .i64 5) (.string ⟨#[tuE c]⟩)
  have HB := Lib.hid (hb0.trans (hb3.mono (by omega)))
  clear hsz hb0 hr0 hb3 HB0
  go_wp2_with fail
  refine bodyPost_ret (v := .tuple #[.agg #[.int .i64 5, .string ⟨#[tuE c]⟩], .int .i64 0]) (by simp [results, Try.results7, go_sem, r0, r1]) rfl ?_
  exact ⟨rfl, (HB.out.setCell (p := ⟨w.heap.size + 1, 0, none⟩) (by show w.heap.size ≤ w.heap.size + 1; omega) _).setCell (p := ⟨w.heap.size + 1, 1, none⟩) (by show w.heap.size ≤ w.heap.size + 1; omega) _⟩
set_option maxRecDepth 100000 in
theorem New_5 (w : World) : Calls Try.prog 6 #[.int .i64 5] w fun e w' => e = .returned (.tuple #[spV 0, .int .i64 0]) ∧ Below w.heap.size w w' := by
  unfold spV
  go_enter Try.func6, Try.ntmps6
  go_wp2_with (go_at_call 10; refine (Try.strings_Repeat ⟨#[0]⟩ 1 _ (by omega) (by show 1 * 1 ≤ _; omega)).mono ?_)
  rintro e w3 rfl hb3
  have hr0 := World.alloc_heap_new w (.cells #[.int .i64 0, .string ⟨#[]⟩] 30)
  obtain ⟨s1, s2, f1, f2, r0, r1⟩ := res_set ((hb3.block _ (by omega)).trans hr0) (.int .i64 5) (.string ⟨#[0]⟩)
  have HB := Lib.hid (((Below.refl w.heap.size w).alloc (Nat.le_refl _) (.cells #[.int .i64 0, .string ⟨#[]⟩] 30)).trans (hb3.mono (by omega)))
  have he : (Lib.repeatL [0] 1).toArray = #[(0 : UInt8)] := rfl
  clear hr0 hb3
  rw [he]
  go_wp2_with fail
  refine bodyPost_ret (v := .tuple #[.agg #[.int .i64 5, .string ⟨#[0]⟩], .int .i64 0]) (by simp [results, Try.results6, go_sem, r0, r1]) rfl ?_
  exact ⟨rfl, (HB.out.setCell (p := ⟨w.heap.size, 0, none⟩) (Nat.le_refl _) _).setCell (p := ⟨w.heap.size, 1, none⟩) (Nat.le_refl _) _⟩
theorem own_drew {W : World} {B n s : Nat} {t : TypeId} {v : Value} {xs : List Value} (h : W.ownsRow B t s v n xs) : W.drew.ownsRow B t s v n xs := h
theorem below_drew {W : World} {B : Nat} (h : Below B w W) : Below B w W.drew := ⟨h.os, h.tape, h.output, h.size, h.block⟩
theorem cell_drew {W : World} {a : Addr} {v : Option Value} (h : W.cell? a = v) : W.drew.cell? a = v := h
theorem grown_at (W : World) (b i : Nat) (v : Value) : W.grownBy (W.setCell ⟨b, i, none⟩ v) (some b) :=
  ⟨rfl, rfl, rfl, (KeepsWalks.setCell W _ v).size, fun k _ hk => Below.heap_setCell _ _ _ k (fun e => hk (by rw [e]))⟩
theorem own_res {W : World} {v : Value} {n : Nat} {xs : List Value} (h : W.ownsRow (w.heap.size + 2) 26 2 v n xs) (v0 v1 : Value) (tmp : Obj) :
    (((W.setCell ⟨w.heap.size + 1, 0, none⟩ v0).setCell ⟨w.heap.size + 1, 1, none⟩ v1).alloc tmp).ownsRow (w.heap.size + 2) 26 2 v n xs := by
  have h1 := h.kept (grown_at W (w.heap.size + 1) 0 v0) (.inr (fun e => by have := own_base h _ e; omega))
  have h2 : (W.setCell ⟨w.heap.size + 1, 0, none⟩ v0).ownsRow (w.heap.size + 2) 26 2 v n xs := h1
  have h3 := h2.kept (grown_at _ (w.heap.size + 1) 1 v1) (.inr (fun e => by have := own_base h2 _ e; omega))
  exact h3.alloc _
theorem bel_res {W : World} (h : Below w.heap.size w W) (v0 v1 : Value) (tmp : Obj) : Below w.heap.size w (((W.setCell ⟨w.heap.size + 1, 0, none⟩ v0).setCell ⟨w.heap.size + 1, 1, none⟩ v1).alloc tmp) := by
  have h1 := (h.setCell (p := ⟨w.heap.size + 1, 0, none⟩) (Nat.le_succ _) v0).setCell (p := ⟨w.heap.size + 1, 1, none⟩) (Nat.le_succ _) v1
  exact h1.alloc h1.size _
set_option maxHeartbeats 400000 in
set_option maxRecDepth 100000 in
theorem Take_2 (w : World) : Calls Try.prog 8 #[spV 2, .int .i64 2, .int .i64 2] w fun e w' => ∃ v, e = .returned (.tuple #[v, spV 7, .int .i64 0]) ∧ w'.ownsRow w.heap.size 26 2 v 2 (flX [(0, 1), (2, 1)]) ∧ Below w.heap.size w w' := by
  have HF := Lib.hid (fun W => first_n W)
  have HC := Lib.hid (fun o cap W hp => Count_any o (tuL 1) cap W (by decide) hp)
  have HT := Lib.hid (fun o cap W hp => Claim_n 1 (.inr rfl) 2 rfl o cap W hp)
  unfold spV at HF HT ⊢
  have HB0 := Lib.hid (two_blocks w (.cells #[.int .i64 5, .string ⟨#[2]⟩] 30) (.cells #[.int .i64 0, .string ⟨#[]⟩] 30))
  go_enter Try.func8, Try.ntmps8
  go_wp2_with (go_at_call 12; refine (HF.out _).mono ?_)
  rintro e w3 ⟨v, rfl, hown, hb3⟩
  obtain ⟨hsz, hb0, hr8, hr0⟩ := HB0.out
  rw [hsz] at hown hb3
  have HS := Lib.hid ((hb3.block _ (by omega)).trans hr8)
  have HR := Lib.hid ((hb3.block _ (by omega)).trans hr0)
  have HB := Lib.hid (hb0.trans (hb3.mono (by omega)))
  have HSZ := Lib.hid (show w.heap.size + 2 ≤ w3.heap.size by have := hb3.size; omega)
  obtain ⟨o, cap, hv, hex⟩ := own_exts (l := [(0, 1), (2, 1)]) hown
  subst hv
  have HE : Hid (ExAt w3 o (tuL 1)) := Lib.hid hex
  have HO := Lib.hid hown
  clear hsz hb0 hr8 hr0 hb3 HB0 hex hown
  have hcx : cntX (tuL 1) = 2 := rfl
  rw [hcx] at HC
  simp only [List.length_cons, List.length_nil, Nat.zero_add, Nat.reduceAdd]
  go_wp2_with (go_at_call 5; refine (HC.out o cap w3 HE.out).mono ?_)
  rintro e w4 ⟨rfl, hb4⟩
  have s8 : w4.cell? ⟨w.heap.size, 0, none⟩ = some (.int .i64 5) := cell_of_row ((hb4.block _ (by have := HSZ.out; omega)).trans HS.out)
  have s9 : w4.cell? ⟨w.heap.size, 1, none⟩ = some (.string ⟨#[2]⟩) := cell_of_row ((hb4.block _ (by have := HSZ.out; omega)).trans HS.out)
  have HR4 := Lib.hid ((hb4.block _ (by have := HSZ.out; omega)).trans HR.out)
  have HB4 := Lib.hid (HB.out.trans (hb4.mono HB.out.size))
  have HE4 := Lib.hid (HE.out.below hb4)
  have HO4 := Lib.hid (own_below HO.out hb4)
  have HSZ4 := Lib.hid (Nat.le_trans HSZ.out hb4.size)
  clear hb4 HS HR HB HE HO HSZ
  go_wp2_with (go_at_call 7; refine (HT.out o cap w4 HE4.out).mono ?_)
  rintro e w5 ⟨rfl, hb5⟩
  have hr5 := (hb5.block _ (by have := HSZ4.out; omega)).trans HR4.out
  obtain ⟨s1, s2, f1, f2, r0, r1⟩ := res_set hr5 (.int .i64 5) (.string ⟨#[7]⟩)
  have z5 : w.heap.size + 1 < w5.heap.size := lt_of_some hr5
  have z5' : w.heap.size + 1 ≠ w5.heap.size := by omega
  have HB5 := Lib.hid (HB4.out.trans (hb5.mono HB4.out.size))
  have HO5 := Lib.hid (own_below HO4.out hb5)
  have he : tuE 1 = 7 := rfl
  rw [he]
  clear hb5 hr5 HB4 HO4 HR4 HE4 s8 s9 he
  go_wp2_with fail
  have n0 : (w5.alloc (.cells #[.int .i64 5, .string ⟨#[7]⟩] 30)).cell? ⟨w5.heap.size, 0, none⟩ = some (.int .i64 5) := cell_of_row (World.alloc_heap_new w5 _)
  have n1 : (w5.alloc (.cells #[.int .i64 5, .string ⟨#[7]⟩] 30)).cell? ⟨w5.heap.size, 1, none⟩ = some (.string ⟨#[7]⟩) := cell_of_row (World.alloc_heap_new w5 _)
  go_region
  go_wp2_with fail
  have q0 : (((w5.setCell ⟨w.heap.size + 1, 0, none⟩ (.int .i64 5)).setCell ⟨w.heap.size + 1, 1, none⟩ (.string ⟨#[7]⟩)).alloc (.cells #[.int .i64 5, .string ⟨#[7]⟩] 30)).drew.cell? ⟨w.heap.size + 1, 0, none⟩ = some (.int .i64 5) :=
    cell_drew ((((Below.refl _ ((w5.setCell ⟨w.heap.size + 1, 0, none⟩ (.int .i64 5)).setCell ⟨w.heap.size + 1, 1, none⟩ (.string ⟨#[7]⟩))).alloc (Nat.le_refl _) _).cell (p := ⟨w.heap.size + 1, 0, none⟩) (by simpa using z5)).trans ((World.cell?_setCell_other _ ⟨w.heap.size + 1, 1, none⟩ ⟨w.heap.size + 1, 0, none⟩ _ (fun x => by injection x with _ h2 _; omega)).trans r0))
  have q1 : (((w5.setCell ⟨w.heap.size + 1, 0, none⟩ (.int .i64 5)).setCell ⟨w.heap.size + 1, 1, none⟩ (.string ⟨#[7]⟩)).alloc (.cells #[.int .i64 5, .string ⟨#[7]⟩] 30)).drew.cell? ⟨w.heap.size + 1, 1, none⟩ = some (.string ⟨#[7]⟩) :=
    cell_drew ((((Below.refl _ ((w5.setCell ⟨w.heap.size + 1, 0, none⟩ (.int .i64 5)).setCell ⟨w.heap.size + 1, 1, none⟩ (.string ⟨#[7]⟩))).alloc (Nat.le_refl _) _).cell (p := ⟨w.heap.size + 1, 1, none⟩) (by simpa using z5)).trans r1)
  have hown : (((w5.setCell ⟨w.heap.size + 1, 0, none⟩ (.int .i64 5)).setCell ⟨w.heap.size + 1, 1, none⟩ (.string ⟨#[7]⟩)).alloc (.cells #[.int .i64 5, .string ⟨#[7]⟩] 30)).ownsRow (w.heap.size + 2) 26 2 (.slice o 2 cap) 2 (flX [(0, 1), (2, 1)]) :=
    own_res HO5.out _ _ _
  have hbel : Below w.heap.size w (((w5.setCell ⟨w.heap.size + 1, 0, none⟩ (.int .i64 5)).setCell ⟨w.heap.size + 1, 1, none⟩ (.string ⟨#[7]⟩)).alloc (.cells #[.int .i64 5, .string ⟨#[7]⟩] 30)) :=
    bel_res HB5.out _ _ _
  refine bodyPost_ret (v := .tuple #[.slice o 2 cap, .agg #[.int .i64 5, .string ⟨#[7]⟩], .int .i64 0]) ?_ rfl ⟨_, rfl, own_drew (own_lowerX hown (by omega)), below_drew hbel⟩
  clear hown hbel HB5 HO5 n0 n1
  generalize ((((w5.setCell ⟨w.heap.size + 1, 0, none⟩ (.int .i64 5)).setCell ⟨w.heap.size + 1, 1, none⟩ (.string ⟨#[7]⟩)).alloc (.cells #[.int .i64 5, .string ⟨#[7]⟩] 30)).drew) = WW at q0 q1 ⊢
  simp [results, Try.results8, go_sem, q0, q1]
end Go.Proofs.Ytbegjgceemffcaa
