/- Wal's laws: sizes of sectors all along; Most; speaks. -/
import Derived.Test.YtbpaiiljhdohfaaDoorWs
namespace Go.Proofs.YtbpaiiljhdohfaaDoor
open Go.RowKit
variable {B n g gd gc cd cc l f m t : Nat} {vw vk : Value} {S : DS} {w : World}

/-- All sectors have their bytes, and all writes. -/
structure SzA (S : DS) : Prop where
  dur : ∀ s ∈ S.dur, s.size = 512
  ws : ∀ p ∈ S.ws, p.2.size = 512
  cur : ∀ s ∈ S.cur, s.size = 512
theorem putW_sz (ws : List (Nat × ByteArray)) : ∀ (L : List ByteArray), (∀ s ∈ L, s.size = 512) → (∀ p ∈ ws, p.2.size = 512) → ∀ s ∈ putW L ws, s.size = 512 := by
  induction ws with
  | nil => intro L h _ s hs; exact h s hs
  | cons p ws ih =>
    intro L h hw
    refine ih (L.set p.1 p.2) (fun s hs => ?_) (fun q hq => hw q (List.mem_cons_of_mem _ hq))
    rcases List.mem_or_eq_of_mem_set hs with h1 | h1
    · exact h s h1
    · rw [h1]; exact hw p (List.mem_cons_self ..)
theorem SzA.fail (h : SzA S) (zs : List Int) : SzA (failS zs S) := by
  have e := putW_sz (keepTo (fun k _ => lostB zs k) S.ws S.ws.length) S.dur h.dur (fun p hp => h.ws p (keepTo_mem _ _ _ _ hp))
  exact ⟨e, fun p hp => (by cases hp), e⟩
theorem SzA.crash (h : SzA S) (zs : List Int) : SzA (crashS zs S) := ⟨(h.fail zs).dur, (h.fail zs).ws, (h.fail zs).cur⟩
theorem SzA.cut (h : SzA S) (i : Int) (zs : List Int) : SzA (cutS i zs S) := ⟨h.dur, h.ws, h.cur⟩
theorem SzA.on (h : SzA S) : SzA (onS S) := ⟨h.dur, h.ws, h.cur⟩
theorem SzA.beg (h : SzA S) : SzA (begS S).2 := by
  unfold begS
  split
  · exact h
  · split
    · exact h.fail _
    · exact ⟨h.dur, h.ws, h.cur⟩
theorem SzA.write (h : SzA S) (k : Nat) (s : ByteArray) (hs : s.size ≤ 512) : SzA (writeS k s S).2 := by
  have hb := h.beg
  unfold writeS
  split
  · refine ⟨hb.dur, fun p hp => ?_, fun x hx => ?_⟩
    · rcases List.mem_append.1 hp with h1 | h1
      · exact hb.ws p h1
      · simp at h1; rw [h1]; exact padB_size s hs
    · rcases List.mem_or_eq_of_mem_set hx with h1 | h1
      · exact hb.cur x h1
      · rw [h1]; exact padB_size s hs
  · exact hb
theorem SzA.sync (h : SzA S) : SzA (syncS S).2 := by
  have hb := h.beg
  unfold syncS
  split
  · exact ⟨putW_sz _ _ hb.dur hb.ws, fun p hp => (by cases hp), hb.cur⟩
  · exact hb
theorem SzA.puts (h : SzA S) (x : List (Nat × ByteArray)) (hx : ∀ c ∈ x, c.2.size ≤ 512) : SzA (putsS x S).2 := by
  induction x generalizing S with
  | nil => exact h
  | cons c x ih =>
    show SzA (if (writeS c.1 c.2 S).1 = 0 then putsS x (writeS c.1 c.2 S).2 else writeS c.1 c.2 S).2
    have hw := h.write c.1 c.2 (hx c (List.mem_cons_self ..))
    split
    · exact ih hw (fun d hd => hx d (List.mem_cons_of_mem _ hd))
    · exact hw
theorem SzA.make (h : SzA S) (x : List (Nat × ByteArray)) (hx : ∀ c ∈ x, c.2.size ≤ 512) : SzA (makeS x S).2 := thenS_pred (h.puts x hx) (fun _ h => h.sync) (fun _ h => h)
theorem SzA.apply (h : SzA S) (f : Nat) (x : List (Nat × ByteArray)) (hx : ∀ c ∈ x, c.2.size ≤ 512) : SzA (applyS f x S).2 :=
  thenS_pred (h.make x hx) (fun _ h => h.make [(f, ⟨#[]⟩)] (fun c hc => by simp at hc; subst hc; exact Nat.zero_le _)) (fun _ h => h)
theorem SzA.commit (h : SzA S) (f : Nat) (x : List (Nat × ByteArray)) (hx : ∀ c ∈ x, c.2.size ≤ 512) (hl : x.length ≤ 64) : SzA (commitS f x S).2 := by
  refine thenS_pred (P := SzA) (thenS_pred (P := SzA) (h.make _ (fun c hc => ?_)) (fun _ h => h.make [(f, headB x)] (fun c hc => ?_)) (fun _ h => h)) (fun _ h => h.apply f x hx) (fun _ h => h)
  · obtain ⟨_, _, h3⟩ := images_mem _ _ _ hc
    obtain ⟨c', hc', e⟩ := List.mem_map.1 h3
    rw [← e]; exact hx c' hc'
  · simp at hc; subst hc
    show (headB x).size ≤ 512
    rw [headB_size x hl]; exact Nat.le_refl _
theorem SzA.commitI (h : SzA S) (n f m : Nat) (x : List (Int × ByteArray)) (hm : m ≤ 64) : SzA (commitI n f m x S).2 := by
  by_cases hT : Takes n f m x
  · rw [show Go.Proofs.YtbpaiiljhdohfaaDoor.commitI n f m x S = commitS f (natC x) S from if_pos hT]
    exact h.commit f _ (fun c hc => (hT.mem c hc).2) (by rw [natC_length]; exact Nat.le_trans hT.2.1 hm)
  · rw [show Go.Proofs.YtbpaiiljhdohfaaDoor.commitI n f m x S = (1, S) from if_neg hT]; exact h
theorem SzA.open (h : SzA S) (n f m : Nat) : SzA (openS n f m S).2 := by
  unfold openS
  split
  · exact h
  · split
    · exact h
    · rename_i hne
      have hx := (takes_nat (found_takes (S := S) (n := n) (f := f) (m := m) rfl hne)).2
      split
      · exact h.apply f _ (fun c hc => (hx c hc).2)
      · exact h.apply f _ (fun c hc => (hx c hc).2)
theorem Bd.commitI (h : Bd t S) (n f m : Nat) (x : List (Int × ByteArray)) (hm : m ≤ 64) : Bd (t + 140) (commitI n f m x S).2 := by
  by_cases hT : Takes n f m x
  · rw [show Go.Proofs.YtbpaiiljhdohfaaDoor.commitI n f m x S = commitS f (natC x) S from if_pos hT]
    have hl : (natC x).length ≤ 64 := by rw [natC_length]; exact Nat.le_trans hT.2.1 hm
    exact thenS_pred (P := Bd (t + (natC x).length + 3)) (h.record f (natC x)) (fun _ h => (h.apply f (natC x)).more (by omega)) (fun _ h => h.more (by omega))
  · rw [show Go.Proofs.YtbpaiiljhdohfaaDoor.commitI n f m x S = (1, S) from if_neg hT]; exact h.more (by omega)
theorem Bd.open (h : Bd t S) (n f m : Nat) (hm : m ≤ 64) : Bd (t + 140) (openS n f m S).2 := by
  unfold openS
  split
  · exact h.more (by omega)
  · split
    · exact h.more (by omega)
    · rename_i hne
      have hx := (takes_nat (found_takes (S := S) (n := n) (f := f) (m := m) rfl hne)).1
      split
      · exact (h.apply f _).more (by omega)
      · exact (h.apply f _).more (by omega)
theorem newS_cur (n : Nat) : (newS n).cur = (newS n).dur := rfl
theorem Clean.new (n : Nat) : Clean (newS n) := ⟨rfl, rfl, rfl⟩
theorem newS_get (n j : Nat) (h : j < n) : (newS n).dur[j]? = some zeroS := by
  show (List.replicate n _)[j]? = _
  rw [List.getElem?_replicate, if_pos h]; rfl
theorem newS_len (n : Nat) : (newS n).dur.length = n := List.length_replicate
theorem SzA.new (n : Nat) : SzA (newS n) := by
  have h : ∀ s ∈ (newS n).dur, s.size = 512 := fun s hs => by
    have := List.eq_of_mem_replicate (show s ∈ List.replicate n _ from hs)
    rw [this]; exact padB_size ⟨#[]⟩ (by decide)
  exact ⟨h, fun p hp => (by cases hp), h⟩
theorem Most_any (h : LogAt l g f m w) :
    Calls Tryd.prog 19 #[.pointer (some ⟨l, 0, none⟩)] w fun e w' => e = .returned (.int .i64 m) ∧ w' = w := by
  have c2 := h.c2
  go_enter Tryd.func19, Tryd.ntmps19
  go_wp2_with fail
  go_ret
  exact ⟨rfl, rfl⟩
end Go.Proofs.YtbpaiiljhdohfaaDoor
