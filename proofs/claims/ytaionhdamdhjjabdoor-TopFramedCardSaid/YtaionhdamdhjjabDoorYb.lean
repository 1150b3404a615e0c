/- TopFramed: a text laid into sectors and read back, as data. -/
import Derived.Test.YtaionhdamdhjjabDoorYa
namespace Go.Proofs.YtaionhdamdhjjabDoor
open Go.RowKit

/-- The i-th piece of a text. -/
def chunk (s : ByteArray) (i : Nat) : ByteArray := s.extract (512 * i) (min (512 * i + 512) s.size)
theorem chunk_size (s : ByteArray) (i : Nat) : (chunk s i).size ≤ 512 := by unfold chunk; rw [ByteArray.size_extract]; omega
def layS (s : ByteArray) (n : Nat) : Nat → DS
  | 0 => newS n
  | k + 1 => (writeS k (chunk s k) (layS s n k)).2
def laidS (s : ByteArray) (n k : Nat) : DS :=
  ⟨List.replicate n zeroB, (List.range k).map (fun i => padB (chunk s i)) ++ List.replicate (n - k) zeroB, (List.range k).map (fun i => (i, padB (chunk s i))), k, 0, [], false⟩
theorem set_mid {α : Type} (a : List α) (z x : α) (n k : Nat) (ha : a.length = k) (hk : k < n) : (a ++ List.replicate (n - k) z).set k x = (a ++ [x]) ++ List.replicate (n - (k + 1)) z := by
  subst ha
  rw [show n - a.length = (n - (a.length + 1)) + 1 by omega, List.replicate_succ, List.set_append_right _ _ (Nat.le_refl _), Nat.sub_self, List.set_cons_zero, List.append_assoc]
  rfl
theorem laidS_write (s : ByteArray) (n k : Nat) (hk : k < n) : writeS k (chunk s k) (laidS s n k) = (0, laidS s n (k + 1)) := by
  have hb : begS (laidS s n k) = (true, { laidS s n k with done := k + 1, left := 0 }) := by
    unfold begS laidS
    rw [if_neg (by simp), if_neg (by simp)]
    rfl
  unfold writeS
  rw [hb, if_pos rfl]
  refine Prod.ext rfl ?_
  unfold laidS
  dsimp only
  rw [set_mid _ _ _ n k (by simp) hk, List.range_succ, List.map_append, List.map_append]
  rfl
theorem layS_eq (s : ByteArray) (n : Nat) : ∀ k, k ≤ n → layS s n k = laidS s n k
  | 0, _ => by
    unfold layS laidS newS
    simp
  | k + 1, h => by
    unfold layS
    rw [layS_eq s n k (by omega), laidS_write s n k (by omega)]
theorem putW_range (f : Nat → ByteArray) (z : ByteArray) (n : Nat) : ∀ k, k ≤ n → putW (List.replicate n z) ((List.range k).map fun i => (i, f i)) = (List.range k).map f ++ List.replicate (n - k) z
  | 0, _ => by unfold putW; simp
  | k + 1, h => by
    have ih := putW_range f z n k (by omega)
    unfold putW at ih ⊢
    rw [List.range_succ, List.map_append, List.foldl_append, ih]
    show (((List.range k).map f ++ List.replicate (n - k) z : List ByteArray)).set k (f k) = _
    rw [set_mid _ _ _ n k (by simp) (by omega), List.map_append]
    rfl
/-- The disk behind Sync and Crash. -/
def keptS (s : ByteArray) (n m : Nat) : DS := crashS [] (syncS (laidS s n m)).2
theorem laid_sync (s : ByteArray) (n m : Nat) (hm : m ≤ n) : (syncS (laidS s n m)).2 = ⟨(List.range m).map (fun i => padB (chunk s i)) ++ List.replicate (n - m) zeroB, (List.range m).map (fun i => padB (chunk s i)) ++ List.replicate (n - m) zeroB, [], m + 1, 0, [], false⟩ := by
  have hb : begS (laidS s n m) = (true, { laidS s n m with done := m + 1, left := 0 }) := by
    unfold begS laidS
    rw [if_neg (by simp), if_neg (by simp)]
    rfl
  unfold syncS
  rw [hb, if_pos rfl]
  unfold laidS
  dsimp only
  rw [putW_range (fun i => padB (chunk s i)) zeroB n m hm]
theorem kept_cur (s : ByteArray) (n m : Nat) (hm : m ≤ n) : (keptS s n m).cur = (List.range m).map (fun i => padB (chunk s i)) ++ List.replicate (n - m) zeroB ∧ (keptS s n m).off = false := by
  unfold keptS crashS failS
  rw [laid_sync s n m hm]
  exact ⟨rfl, rfl⟩
theorem kept_read (s : ByteArray) (n m i : Nat) (hm : m ≤ n) (hi : i < m) : readS n i (keptS s n m) = (padB (chunk s i), 0) := by
  obtain ⟨h1, h2⟩ := kept_cur s n m hm
  unfold readS
  rw [if_pos ⟨by omega, by omega⟩, if_neg (by rw [h2]; decide), h1, Int.toNat_natCast, List.getD_eq_getElem?_getD, List.getElem?_append_left (by simp; exact hi)]
  simp [hi]
/-- A text with a sector's zeros behind it. -/
def tailL (s : ByteArray) : List UInt8 := s.data.toList ++ List.replicate 512 0
theorem repeat_zero : ∀ c, Lib.repeatL [(0 : UInt8)] c = List.replicate c 0
  | 0 => rfl
  | c + 1 => by
    show [0] ++ Lib.repeatL [0] c = _
    rw [repeat_zero c]; rfl
theorem pad_list (s : ByteArray) (i : Nat) (h : 512 * i < s.size) : (padB (chunk s i)).data.toList = ((tailL s).drop (512 * i)).take 512 := by
  have hs : s.data.toList.length = s.size := by rw [Array.length_toList]; rfl
  have hc : (chunk s i).data.toList = (s.data.toList.drop (512 * i)).take 512 := by
    unfold chunk
    rw [ext_list]
    by_cases h2 : 512 * i + 512 ≤ s.size
    · rw [Nat.min_eq_left h2]; congr 1; omega
    · rw [Nat.min_eq_right (by omega), List.take_of_length_le (by rw [List.length_drop]; omega), List.take_of_length_le (by rw [List.length_drop]; omega)]
  have hz : (chunk s i).size = min 512 (s.size - 512 * i) := by
    unfold chunk; rw [ByteArray.size_extract]; omega
  unfold padB
  rw [show ∀ a b : ByteArray, (a ++ b).data.toList = a.data.toList ++ b.data.toList from fun a b => by simp, hc, repeat_zero, hz]
  unfold tailL
  rw [List.drop_append_of_le_length (by omega), List.take_append, List.length_drop, hs]
  rw [List.take_replicate, show min (512 - (s.size - 512 * i)) 512 = 512 - min 512 (s.size - 512 * i) by omega]
def backB (s : ByteArray) (k : Nat) : ByteArray := mkB ((tailL s).take (512 * k))
theorem back_step (s : ByteArray) (k : Nat) (h : 512 * k < s.size) : backB s k ++ padB (chunk s k) = backB s (k + 1) := by
  apply ba_ext
  unfold backB
  rw [show ∀ a b : ByteArray, (a ++ b).data.toList = a.data.toList ++ b.data.toList from fun a b => by simp, mkB_data, mkB_data, pad_list s k h, show 512 * (k + 1) = 512 * k + 512 by omega, List.take_add]
theorem back_size (s : ByteArray) (k : Nat) : (backB s k).size ≤ 512 * k := by
  unfold backB; rw [mkB_size, List.length_take]; omega
theorem back_whole (s : ByteArray) (m : Nat) (h : s.size ≤ 512 * m) : (backB s m).extract 0 s.size = s := by
  have hs : s.data.toList.length = s.size := by rw [Array.length_toList]; rfl
  apply ba_ext
  rw [ext_list]
  unfold backB tailL
  rw [mkB_data, List.drop_zero, Nat.sub_zero, List.take_take, Nat.min_eq_left h, List.take_append_of_le_length (by omega), List.take_of_length_le (by omega)]
theorem back_ge (s : ByteArray) (m : Nat) (h : s.size ≤ 512 * m) (h2 : 512 * m ≤ s.size + 512) : s.size ≤ (backB s m).size := by
  have hs : s.data.toList.length = s.size := by rw [Array.length_toList]; rfl
  unfold backB tailL
  rw [mkB_size, List.length_take, List.length_append, hs]
  omega
theorem laid_ok (s : ByteArray) (n k : Nat) (h0 : 0 < n) (h1 : n ≤ 4096) (hk : k ≤ n) : OkS n (laidS s n k) :=
  ⟨h0, h1, by unfold laidS; simp; omega, by unfold laidS; simp, by unfold laidS; show k ≤ _; omega, by unfold laidS; exact Int.le_refl 0, by unfold laidS; show (0 : Int) ≤ _; omega⟩
end Go.Proofs.YtaionhdamdhjjabDoor
