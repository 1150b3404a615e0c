/- Lists' edits: the contracts as the laws call them; the law on the way there and back. -/
import Derived.Test.YtjdlpcokjcmapaaLr
set_option linter.unusedVariables false
set_option linter.unusedSimpArgs false
namespace Go.Proofs.Ytjdlpcokjcmapaa
open Go.RowKit
variable {w w' : World}

theorem edI_mem (a b : List ByteArray) : ∀ (f i j : Nat), i ≤ a.length → j ≤ b.length → (a.length - i) + (b.length - j) ≤ f → ∀ t ∈ edI a b i j, t.2.1 ∈ a ∨ t.2.1 ∈ b
  | 0, i, j, hi, hj, hf => by rw [edI_end (by omega) (by omega)]; intro t ht; cases ht
  | f + 1, i, j, hi, hj, hf => by
    refine edI_cases (a := a) (b := b) (P := fun i' j' => i' = i → j' = j → _) i j hi hj ?_ ?_ ?_ ?_ rfl rfl
    · rintro h1 h2 - -; rw [edI_end (by omega) (by omega)]; intro t ht; cases ht
    · rintro h1 h2 e - - t ht
      rw [edI_keep h1 h2 e] at ht
      rcases List.mem_cons.1 ht with rfl | ht
      · exact .inl (it_mem h1)
      · exact edI_mem a b f (i + 1) (j + 1) (by omega) (by omega) (by omega) t ht
    · rintro h1 hc - - t ht
      rw [edI_ofDrop h1 hc] at ht
      rcases List.mem_cons.1 ht with rfl | ht
      · exact .inl (it_mem h1)
      · exact edI_mem a b f (i + 1) j (by omega) (by omega) (by omega) t ht
    · rintro h1 hc - - t ht
      rw [edI_ofAdd h1 hc] at ht
      rcases List.mem_cons.1 ht with rfl | ht
      · exact .inr (it_mem h1)
      · exact edI_mem a b f i (j + 1) (by omega) (by omega) (by omega) t ht
theorem mem_it {l : List ByteArray} {s : ByteArray} (h : s ∈ l) : ∃ k, k < l.length ∧ itB l k = s := by
  obtain ⟨k, hk, e⟩ := List.getElem_of_mem h
  exact ⟨k, hk, by unfold itB; rw [List.getD_eq_getElem?_getD, List.getElem?_eq_getElem hk]; exact e⟩
theorem TxAt.small {o : Option Addr} {l : List ByteArray} (h : TxAt w o l) : ∀ s ∈ l, s.size ≤ maxLen := fun s hs => by
  obtain ⟨k, hk, rfl⟩ := mem_it hs
  exact (h k hk).1
theorem diffL_len (a b : List ByteArray) : (diffL a b).length ≤ a.length + b.length := by
  unfold diffL; rw [List.length_map]; have := edI_len a b _ 0 0 (Nat.zero_le _) (Nat.zero_le _) (Nat.le_refl _); omega
theorem diffL_small {a b : List ByteArray} (ha : ∀ s ∈ a, s.size ≤ maxLen) (hb : ∀ s ∈ b, s.size ≤ maxLen) : ∀ p ∈ (diffL a b).map edZ, p.2.size ≤ maxLen := fun p hp => by
  obtain ⟨q, hq, rfl⟩ := List.mem_map.1 hp
  obtain ⟨t, ht, rfl⟩ := List.mem_map.1 hq
  rcases edI_mem a b _ 0 0 (Nat.zero_le _) (Nat.zero_le _) (Nat.le_refl _) t ht with h | h
  · exact ha _ h
  · exact hb _ h
theorem RDiff_at (oa ob : Option Addr) (a b : List ByteArray) (ca cb : Nat) (w : World) (hla : a.length ≤ 4096) (hlb : b.length ≤ 4096) (ha : TxAt w oa a) (hb : TxAt w ob b) :
    Calls Try.prog 40 #[.slice oa a.length ca, .slice ob b.length cb] w fun e w' => ∃ o c, e = .returned (.slice o (diffL a b).length c) ∧ EdAt w' o ((diffL a b).map edZ) ∧ Below w.heap.size w w' :=
  (RDiff_any oa ob a b ca cb w hla hlb ha hb).mono fun e w' ⟨v, he, hrow, hb⟩ => by
    have hrow' : w'.ownsRow w.heap.size 72 2 v ((diffL a b).map edZ).length (flatZ ((diffL a b).map edZ)) := by rw [List.length_map]; exact hrow
    obtain ⟨o, c, rfl, ht, _⟩ := own_edits hrow'
    rw [List.length_map] at he
    exact ⟨o, c, he, ht, hb⟩
theorem Match_at (oa ob : Option Addr) (a b : List ByteArray) (ca cb : Nat) (w : World) (hla : a.length ≤ 4096) (hlb : b.length ≤ 4096) (ha : TxAt w oa a) (hb : TxAt w ob b) :
    Calls Try.prog 26 #[.slice oa a.length ca, .slice ob b.length cb] w fun e w' => ∃ o c, e = .returned (.tuple #[.slice o (matchL a b).length c, .int .i64 0]) ∧ NmAt w' o (matchL a b) ∧ Below w.heap.size w w' :=
  (Match_any oa ob a b ca cb w hla hlb ha hb).mono fun e w' ⟨v, he, hrow, hb⟩ => by
    obtain ⟨o, c, rfl, ht, _⟩ := own_nums hrow
    exact ⟨o, c, he, ht, hb⟩
theorem RMatch_at (oa ob : Option Addr) (a b : List ByteArray) (ca cb : Nat) (w : World) (hla : a.length ≤ 4096) (hlb : b.length ≤ 4096) (ha : TxAt w oa a) (hb : TxAt w ob b) :
    Calls Try.prog 28 #[.slice oa a.length ca, .slice ob b.length cb] w fun e w' => ∃ o c, e = .returned (.slice o (matchL a b).length c) ∧ NmAt w' o (matchL a b) ∧ Below w.heap.size w w' :=
  (RMatch_any oa ob a b ca cb w hla hlb ha hb).mono fun e w' ⟨v, he, hrow, hb⟩ => by
    obtain ⟨o, c, rfl, ht, _⟩ := own_nums hrow
    exact ⟨o, c, he, ht, hb⟩
def KpS (l : List EdZ) (W : World) (p i : Value) (wr : World) : Prop :=
  ∃ k : Nat, k ≤ l.length ∧ i = .int .i64 k ∧ p = .int .i64 ((l.take k).countP fun e => e.1 == 0 : Nat) ∧ wr = W
theorem kp_more {l : List EdZ} {k : Nat} {p : EdZ} (h : l[k]? = some p) : (l.take (k + 1)).countP (fun e => e.1 == 0) = (l.take k).countP (fun e => e.1 == 0) + if p.1 == 0 then 1 else 0 := by
  rw [List.take_add_one, h, Option.toList_some, List.countP_append]; simp [List.countP_cons]
theorem kept_map (l : List EdB) : (l.map edZ).countP (fun e => e.1 == 0) = keptN l := by
  unfold keptN; rw [List.countP_map]
  congr 1; funext e; show (((e.1 : Nat) : Int) == 0) = (e.1 == 0)
  rw [Bool.eq_iff_iff]; simp
end Go.Proofs.Ytjdlpcokjcmapaa
