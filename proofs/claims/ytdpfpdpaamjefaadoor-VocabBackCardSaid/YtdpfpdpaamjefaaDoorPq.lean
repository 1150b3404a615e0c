/- Merges, the document's Split. -/
import Derived.Test.YtdpfpdpaamjefaaDoorY5
import Derived.Deep.AppendLies
import Derived.Deep.DrawnRows
namespace Go.Proofs.YtdpfpdpaamjefaaDoor
open Go.RowKit Go.Maps
variable {w w' w'' : World} {P : List ByteArray} {word : ByteArray} {l : List PairB}

theorem info_str : (Tryd.prog.info? 9).map (fun i => (i.zero, i.size, i.bytes)) = some (some (.string ⟨#[]⟩), 1, 16) := by kernel_rfl
def strsV (P : List ByteArray) : List Value := P.map Value.string
theorem strsV_length (P : List ByteArray) : (strsV P).length = P.length := List.length_map ..
theorem own_texts {B : Nat} {v : Value} (h : w.ownsRow B 9 1 v P.length (strsV P)) : ∃ o cap, v = .slice o P.length cap ∧ StAt w o P := by
  rcases h.2 with ⟨h1, h2⟩ | ⟨g, cap, cur, h1, _, hg, hn, _, hz, ht⟩
  · exact ⟨none, 0, by rw [h1, h2], fun k p hp => by have := (List.getElem?_eq_some_iff.1 hp).1; omega⟩
  · refine ⟨some ⟨g, 0, none⟩, cap, h1, fun k p hp => ⟨g, cur, rfl, hg, ?_⟩⟩
    have hk := (List.getElem?_eq_some_iff.1 hp).1
    have h3 : (strsV P)[k]? = some (.string p) := by unfold strsV; rw [List.getElem?_map, hp]; rfl
    rw [← ht, List.getElem?_take, if_pos (by omega), Array.getElem?_toList] at h3
    exact h3
theorem strsV_snoc (P : List ByteArray) (p : ByteArray) : strsV (P ++ [p]) = strsV P ++ [Value.string p] := by unfold strsV; rw [List.map_append]; rfl
def BtS (w : World) (word : ByteArray) (v i : Value) (wr : World) : Prop :=
  ∃ k : Nat, k ≤ word.size ∧ i = .int .i64 k ∧ wr.ownsRow w.heap.size 9 1 v k (strsV ((bytesB word).take k)) ∧ Below w.heap.size w wr
theorem bytesB_at {k : Nat} (h : k < word.size) : (bytesB word)[k]? = some (word.extract k (k + 1)) := by
  unfold bytesB
  rw [List.getElem?_map, List.getElem?_eq_getElem (by rw [size_len]; exact h)]
  have : word.extract k (k + 1) = ⟨#[word[k]]⟩ := by
    apply ByteArray.ext
    rw [ByteArray.data_extract]
    apply Array.ext'
    rw [Array.toList_extract, List.extract_eq_take_drop, drop_at word k h, show k + 1 - k = 1 by omega]
    rfl
  rw [this]; rfl
def dB (x : Int) : Int := if x = noR then -1 else x
def lenV : Value → Nat
  | .slice _ n _ => n
  | _ => 0
def SqS (l : List PairB) (word : ByteArray) (T : List ByteArray) (w : World) (v : Value) (wr : World) : Prop :=
  ∃ (P : List ByteArray) (o : Option Addr) (n cap : Nat), n = P.length ∧ v = .slice o n cap ∧ StAt wr o P ∧ catB P = word.data.toList ∧ splitN P.length l P = T ∧ P.length ≤ 4096 ∧ Below w.heap.size w wr
def BeS (l : List PairB) (P : List ByteArray) (W0 : World) (i be : Value) (wr : World) : Prop :=
  ∃ (k : Nat) (x : Int), (k + 1 ≤ P.length ∨ k = 0) ∧ i = .int .i64 k ∧ x = bestI l (P.take (k + 1)) ∧ be = .int .i64 (dB x) ∧ Below W0.heap.size W0 wr
def NxS (a b : ByteArray) (P : List ByteArray) (w1 : World) (v i : Value) (wr : World) : Prop :=
  ∃ (Q : List ByteArray) (k : Nat), i = .int .i64 k ∧ k ≤ P.length ∧ Q.length ≤ k ∧ Q ++ mergeL a b (P.drop k) = mergeL a b P ∧ wr.ownsRow w1.heap.size 9 1 v Q.length (strsV Q) ∧ Below w1.heap.size w1 wr
end Go.Proofs.YtdpfpdpaamjefaaDoor
