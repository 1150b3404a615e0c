/- Wal: Commit. -/
import Derived.Test.YtbpaiiljhdohfaaDoorWh
namespace Go.Proofs.YtbpaiiljhdohfaaDoor
open Go.RowKit
variable {B n g gd gc cd cc l f m t : Nat} {vw vk : Value} {S : DS} {w : World}

theorem Bd.record (h : Bd t S) (f : Nat) (x : List (Nat × ByteArray)) : Bd (t + x.length + 3) (recordS f x S).2 := by
  have h1 := h.make (imagesOf (f + 1) (x.map (·.2)))
  rw [images_length, List.length_map] at h1
  exact thenS_pred h1 (fun T hT => (hT.make [(f, headB x)]).more (by simp)) (fun _ h => h.more (by omega))
theorem Bd.apply (h : Bd t S) (f : Nat) (x : List (Nat × ByteArray)) : Bd (t + x.length + 3) (applyS f x S).2 :=
  thenS_pred (h.make x) (fun T hT => (hT.make [(f, ⟨#[]⟩)]).more (by simp)) (fun _ h => h.more (by omega))
theorem recordS_err (f : Nat) (x : List (Nat × ByteArray)) (S : DS) : (recordS f x S).1 = 0 ∨ (recordS f x S).1 = 7 := thenS_err (makeS_err _ _) (makeS_err _)
theorem applyS_err (f : Nat) (x : List (Nat × ByteArray)) (S : DS) : (applyS f x S).1 = 0 ∨ (applyS f x S).1 = 7 := thenS_err (makeS_err _ _) (makeS_err _)
open Classical in
/-- A commit of whatever changes. -/
noncomputable def commitI (n f m : Nat) (x : List (Int × ByteArray)) (S : DS) : Int × DS := if Takes n f m x then commitS f (natC x) S else (1, S)
theorem Takes.nat {x : List (Int × ByteArray)} (h : Takes n f m x) : intC (natC x) = x := intC_natC x fun c hc => (h.2.2 c hc).1
theorem Takes.mem {x : List (Int × ByteArray)} (h : Takes n f m x) : ∀ c ∈ natC x, c.1 < n ∧ c.2.size ≤ 512 := fun c hc => by
  obtain ⟨c', hc', rfl⟩ := List.mem_map.1 hc
  obtain ⟨h1, h2, _, h4⟩ := h.2.2 c' hc'
  exact ⟨by show c'.1.toNat < n; omega, h4⟩
set_option maxHeartbeats 2000000 in
set_option maxRecDepth 100000 in
theorem commit_any (hL : LogAt l g f m w) (hI : IsD B n g gd gc cd cc vw vk S w) (hf : f + 1 + m ≤ n) (hn : n ≤ 4096) (hm64 : m ≤ 64) (bd : Bd t S) (v : Value) (x : List (Int × ByteArray)) (hx : ChRow w v x) (hV : CrcVars w) (hgb : 0 < B) (ht : t + 140 ≤ 10000000) :
    Calls Tryd.prog 15 #[.pointer (some ⟨l, 0, none⟩), v] w (Stepped B n g gd gc cd cc vw (commitI n f m x S) w) := by
  obtain ⟨ox, k, cx, hv⟩ : ∃ ox k cx, v = .slice ox k cx := by obtain ⟨ox, cx, hv, _⟩ := hx.opened; exact ⟨_, _, _, hv⟩
  subst hv
  by_cases hT : Takes n f m x
  · have hB0 : ∀ w', Below w.heap.size w w' → FrD B g gd gc vw w w' := fun w' hb => FrD.of_below hI.b1 (Nat.le_of_lt hI.d.lt) hb
    have e0 : commitI n f m x S = thenS (recordS f (natC x) S) (applyS f (natC x)) := if_pos hT
    have htk := Lib.hid (takes_any hL hI.d hf hn _ x hx true ⟨fun _ => hT, fun _ => rfl⟩)
    have hlen : (natC x).length ≤ m := by rw [natC_length]; exact hT.2.1
    have hx' : ∀ w', Below w.heap.size w w' → ChRow w' (.slice ox k cx) (intC (natC x)) := fun w' hb => by rw [hT.nat]; exact own_below hx hb
    have hrec : Hid (∀ w', Below w.heap.size w w' → Calls Tryd.prog 40 #[.pointer (some ⟨l, 0, none⟩), .slice ox k cx] w' (Stepped B n g gd gc cd cc vw (recordS f (natC x) S) w')) := Lib.hid (fun w' hb =>
      record_any (hL.below hb) (hI.below hb) hf hn bd _ (natC x) (hx' w' hb) hT.mem hlen (by omega) (hV.below hb) hgb (by omega))
    have HI := Lib.hid hI; have HL := Lib.hid hL; have HB := Lib.hid bd; have HB0 := Lib.hid hB0; have HX := Lib.hid hx'; have HE := Lib.hid e0; have HM := Lib.hid hT.mem; have HLN := Lib.hid hlen
    clear hB0 e0 hx' hlen hI hL bd hx hV hT
    go_enter Tryd.func15, Tryd.ntmps15
    go_wp2_with (go_at_call 39; refine htk.out.mono ?_)
    first | rintro e w1 rfl hb1 | rintro e w1 ⟨rfl, hb1⟩
    have HR1 := Lib.hid (hrec.out w1 hb1)
    have HF1 := Lib.hid (HB0.out w1 hb1)
    clear hb1
    go_wp2_with (go_at_call 40; refine HR1.out.mono ?_)
    rintro e w2 ⟨rfl, va, ka, h2, hv2, f2⟩
    have HI2 := Lib.hid h2
    have HF2 := Lib.hid (HF1.out.trans f2 (fun _ h => .inl h))
    have HV2 : Hid (∀ y, va.ownBlock = some y → vw.ownBlock = some y ∨ w.heap.size ≤ y) := Lib.hid (fun y hy => by
      rcases hv2 y hy with h | h
      · exact .inl h
      · exact .inr (Nat.le_trans HF1.out.size h))
    clear h2 hv2 f2 HR1 hrec
    rcases recordS_err f (natC x) S with he | he
    · have hx2 : ChRow w2 (.slice ox k cx) (intC (natC x)) := by
        have := HX.out w (Below.refl _ _)
        exact own_same this fun b hb => by
          obtain ⟨cur, hcur⟩ := own_block this hb
          exact HF2.out.kept HI.out hcur (by decide) (by decide) (by decide)
      have hap := apply_any (HL.out.disk HI.out HF2.out) HI2.out (by omega) hn (HB.out.record f (natC x)) _ (natC x) hx2 HM.out (by have := HLN.out; omega)
      have HAP := Lib.hid hap
      rw [he]
      clear hx2 hap
      go_wp2_with (go_at_call 26; refine HAP.out.mono ?_)
      intro e w3 h3
      have hend := Lib.hid (h3.after HV2.out HF2.out)
      rw [show applyS f (natC x) (recordS f (natC x) S).2 = commitI n f m x S by rw [HE.out, thenS_ok _ he]] at hend
      obtain ⟨rfl, hr⟩ := hend.out
      clear h3
      go_wp2_with fail
      go_ret
      exact hend.out
    · have hend : Hid (Stepped B n g gd gc cd cc vw (commitI n f m x S) w (.returned (.int .i64 7)) w2) := Lib.hid (by
        rw [HE.out, thenS_no _ (by rw [he]; decide)]
        exact ⟨by rw [he], va, ka, HI2.out, HV2.out, HF2.out⟩)
      rw [he]
      go_wp2_with fail
      go_ret
      exact hend.out
  · have hend : Hid (∀ w', Below w.heap.size w w' → Stepped B n g gd gc cd cc vw (commitI n f m x S) w (.returned (.int .i64 1)) w') := Lib.hid (fun w' hb => by
      rw [show commitI n f m x S = (1, S) from if_neg hT]
      exact ⟨rfl, vw, vk, hI.below hb, fun _ h => .inl h, FrD.of_below hI.b1 (Nat.le_of_lt hI.d.lt) hb⟩)
    have htk := Lib.hid (takes_any hL hI.d hf hn _ x hx false ⟨fun h => absurd h (by decide), fun h => absurd h hT⟩)
    clear hI hL bd hx hV hT
    go_enter Tryd.func15, Tryd.ntmps15
    go_wp2_with (go_at_call 39; refine htk.out.mono ?_)
    first | rintro e w1 rfl hb1 | rintro e w1 ⟨rfl, hb1⟩
    have HN := Lib.hid (hend.out w1 hb1)
    clear hb1
    go_wp2_with fail
    go_ret
    exact HN.out
end Go.Proofs.YtbpaiiljhdohfaaDoor
