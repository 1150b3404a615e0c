/- The contract of nums.Join: of a slice of texts of the call's own, together at most 2 to the power of 40 bytes with their lengths: each behind its length. -/
import Derived.Test.YtmdhendfmhhniaaG
namespace Go.Proofs.Ytmdhendfmhhniaa
open Go.RowKit

/-- A text behind its length, as bytes. -/
def encL (s : ByteArray) : List UInt8 := (strOfNums (putI s.size)).data.toList ++ s.data.toList
def joinL : List ByteArray → List UInt8
  | [] => []
  | s :: r => encL s ++ joinL r

theorem joinL_app (a b : List ByteArray) : joinL (a ++ b) = joinL a ++ joinL b := by
  induction a with
  | nil => rfl
  | cons s r ih => rw [List.cons_append, joinL, joinL, ih, List.append_assoc]
theorem joinL_take (ss : List ByteArray) (k : Nat) (h : k < ss.length) : joinL (ss.take (k + 1)) = joinL (ss.take k) ++ encL ss[k] := by
  rw [List.take_succ_eq_append_getElem h, joinL_app]
  simp [joinL]
theorem joinL_mem (ss : List ByteArray) (k : Nat) (h : k < ss.length) : (joinL (ss.take k)).length + (encL ss[k]).length ≤ (joinL ss).length := by
  have e : joinL ss = joinL (ss.take (k + 1)) ++ joinL (ss.drop (k + 1)) := by rw [← joinL_app, List.take_append_drop]
  rw [e, joinL_take ss k h]; simp
theorem encL_length (s : ByteArray) : (encL s).length = (putI s.size).length + s.size := by
  simp [encL, strOfNums]

theorem byteCells_app (a b : List UInt8) : Lib.byteCells (a ++ b) = Lib.byteCells a ++ Lib.byteCells b := by simp [Lib.byteCells]
theorem strCells_eq (s : ByteArray) : Lib.strCells s = Lib.byteCells s.data.toList := rfl

theorem lt_of_some {w : World} {g : Nat} {o : Obj} (h : w.heap[g]? = some o) : g < w.heap.size := by
  rcases Nat.lt_or_ge g w.heap.size with h' | h'
  · exact h'
  · simp [Array.getElem?_eq_none h'] at h
theorem own_below {w w' : World} {B : Nat} {e : TypeId} {size : Nat} {v : Value} {n : Nat} {xs : List Value} (h : w.ownsRow B e size v n xs) (hb : Below w.heap.size w w') : w'.ownsRow B e size v n xs := by
  refine ⟨h.1, ?_⟩
  rcases h.2 with hv | ⟨g, cap, cur, hv, hB, hg, r⟩
  · exact .inl hv
  · exact .inr ⟨g, cap, cur, hv, hB, (hb.block g (lt_of_some hg)).trans hg, r⟩
theorem bldAt_below {w w' : World} {T e : TypeId} {B b : Nat} {p : Value} {bs : List Value} (h : Lib.BuilderAt T e B b p bs w) (hb : Below w.heap.size w w') : Lib.BuilderAt T e B b p bs w' := by
  obtain ⟨hB, v, hk, hown, hne⟩ := h
  exact ⟨hB, v, (hb.block b (lt_of_some hk)).trans hk, own_below hown hb, hne⟩
theorem bld_below {w w' : World} {T e : TypeId} {B b : Nat} {bs : List Value} (h : Lib.IsBuilder T e B b bs w) (hb : Below w.heap.size w w') : Lib.IsBuilder T e B b bs w' :=
  h.elim (fun h => .inl (bldAt_below h hb)) (fun h => .inr (bldAt_below h hb))

theorem put_nat (n : Int) (p : ByteArray) (w : World) (h0 : 0 ≤ n) (h1 : n ≤ 1099511627776) (hp : strOfNums (putI n) = p) :
    Calls Try.prog 14 #[.int .i64 n] w fun e w' => e = .returned (.string p) ∧ Below w.heap.size w w' := by
  subst hp; exact put_any n w h0 h1

/-- The relation of the loop. -/
def JoinRel (B : Nat) (ss : List ByteArray) (w : World) (k : Nat) (wr : World) : Prop :=
  Lib.IsBuilder 43 5 B B (Lib.byteCells (joinL (ss.take k))) wr ∧ Below B w wr ∧ B ≤ wr.heap.size

theorem join_step {B : Nat} {ss : List ByteArray} {w wr : World} {k : Nat} (h : JoinRel B ss w k wr) (hk : k < ss.length) {w1 w2 w3 : World}
    (h1 : Below wr.heap.size wr w1) (_h2 : Lib.IsBuilder 43 5 B B (Lib.byteCells (joinL (ss.take k)) ++ Lib.strCells (strOfNums (putI ss[k].size))) w2) (hb2 : Below B w1 w2)
    (h3 : Lib.IsBuilder 43 5 B B ((Lib.byteCells (joinL (ss.take k)) ++ Lib.strCells (strOfNums (putI ss[k].size))) ++ Lib.strCells ss[k]) w3) (hb3 : Below B w2 w3) : JoinRel B ss w (k + 1) w3 := by
  refine ⟨?_, ?_, ?_⟩
  · rw [joinL_take ss k hk, encL, byteCells_app, byteCells_app, ← List.append_assoc]; exact h3
  · exact ((h.2.1.trans (h1.mono h.2.2)).trans hb2).trans hb3
  · have := h1.size; have := hb2.size; have := hb3.size; have := h.2.2; omega

set_option maxHeartbeats 1000000 in
set_option maxRecDepth 100000 in
theorem join_any (g len cap : Nat) (ss : List ByteArray) (w : World) (hl : ss.length = len) (hlen : len ≤ 1099511627776) (hg : g < w.heap.size)
    (hc : ∀ i, i < len → w.cell? ⟨g, i, none⟩ = some (.string (ss.getD i ByteArray.empty))) (hs : (joinL ss).length ≤ 1099511627776) :
    Calls Try.prog 29 #[.slice (some ⟨g, 0, none⟩) len cap] w fun e w' => e = .returned (.string ⟨(joinL ss).toArray⟩) ∧ Below w.heap.size w w' := by
  have HL := Lib.hid hl; have HC := Lib.hid hc; have HS := Lib.hid hs
  clear hl hc hs
  go_enter Try.func29, Try.ntmps29
  go_wp2_with fail
  go_loopw [8] (fun i wr => ∃ k : Nat, k ≤ len ∧ i = .int .i64 k ∧ JoinRel w.heap.size ss w k wr) (fun i _ => len - (intOf i).toNat)
  case atStart => exact ⟨0, Nat.zero_le _, rfl, Lib.fresh_isBuilder _ _ _, bel_alloc (bel_refl _) _, by simp⟩
  case round =>
    obtain ⟨k, hk, rfl, hJ⟩ := hrel
    have hsz : w.heap.size ≤ wr.heap.size := hJ.2.2
    by_cases hlt : k < len
    · obtain ⟨s, hsk⟩ : ∃ s, ss[k]? = some s := ⟨_, List.getElem?_eq_getElem (HL.out ▸ hlt)⟩
      have hki : k < ss.length := by rw [HL.out]; exact hlt
      have hse : ss[k] = s := by rw [List.getElem?_eq_getElem hki] at hsk; exact Option.some.inj hsk
      have hmem := joinL_mem ss k hki
      rw [hse, encL_length] at hmem
      have hcell : wr.cell? ⟨g, k, none⟩ = some (.string s) := by
        rw [hJ.2.1.cell (p := ⟨g, k, none⟩) hg, HC.out k hlt]; simp [List.getD, hsk]
      obtain ⟨p, hp⟩ : ∃ p, strOfNums (putI s.size) = p := ⟨_, rfl⟩
      have hps : p.size = (putI s.size).length := by rw [← hp, strOfNums_size]
      have hs1 := HS.out
      have hb1 : (Lib.byteCells (joinL (ss.take k))).length + p.size ≤ 140737488355328 := by rw [Lib.byteCells_length]; omega
      have hb2 : (Lib.byteCells (joinL (ss.take k)) ++ Lib.strCells p).length + s.size ≤ 140737488355328 := by rw [List.length_append, Lib.byteCells_length, Lib.strCells_length]; omega
      have hs40 : (s.size : Int) ≤ 1099511627776 := by omega
      have HJ := Lib.hid hJ
      have HP := Lib.hid hp; have HM := Lib.hid hmem; have HS1 := Lib.hid hs1; have HE := Lib.hid hse; have HK := Lib.hid hki; have HB1 := Lib.hid hb1; have HB2 := Lib.hid hb2
      clear hsk hmem hp hps hs1 hse hJ hb1 hb2
      go_wp2_with fail
      refine (put_nat _ p _ (by omega) hs40 HP.out).mono ?_
      rintro e w1 ⟨rfl, hw1⟩
      have hz1 := hw1.size
      go_wp2_with fail
      refine (write_any w.heap.size w.heap.size _ p _ (bld_below HJ.out.1 hw1) HB1.out (by omega)).mono ?_
      rintro e w2 ⟨rfl, hI2, hw2⟩
      have hz2 := hw2.size
      go_wp2_with fail
      refine (write_any w.heap.size w.heap.size _ s _ hI2 HB2.out (by omega)).mono ?_
      rintro e w3 ⟨rfl, hI3, hw3⟩
      have hz3 := hw3.size
      have hstep : Hid (JoinRel w.heap.size ss w (k + 1) w3) := Lib.hid (join_step HJ.out HK.out hw1 (by rw [HE.out, HP.out]; exact hI2) hw2 (by rw [HE.out, HP.out]; exact hI3) hw3)
      clear hI2 hI3 hw1 hw2 hw3
      go_wp2_with fail
      go_roundw
      case rel => exact ⟨k + 1, by omega, by go_num, hstep.out⟩
      case measure => simp [intOf]; omega
    · obtain rfl : k = len := by omega
      have HJ := Lib.hid hJ; clear hJ
      have hT : joinL ss = joinL (ss.take k) := by rw [← HL.out, List.take_length]
      have HT := Lib.hid hT; clear hT
      go_wp2_with (go_at_call 19; refine (Try.Builder_String_any w.heap.size w.heap.size _ _ HJ.out.1 hsz).mono ?_; rintro e w1 ⟨rfl, hw1⟩)
      go_ret
      exact ⟨ret_bs (by rw [HT.out]), HJ.out.2.1.trans hw1⟩
end Go.Proofs.Ytmdhendfmhhniaa
