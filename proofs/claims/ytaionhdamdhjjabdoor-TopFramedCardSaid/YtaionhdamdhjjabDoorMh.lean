/- The contract of nums.Split: for every text of at most 2 to the power of 40 bytes: the parts as 'splitI' has them, in new memory, and the error's number. What the statements of layer 1 ask at their beginning is so: at the number 128 and the text a. Plain facts on the bytes of numbers and on joined texts: without the program. Plain facts: joined texts are split again, also where they are cut off; what is split is what is joined of the parts: without the program. NumsAny and NumsOrder: what their walks come to: true, for every text that can be, and all ints. -/
import Derived.Test.YtaionhdamdhjjabDoorMi
import Derived.Test.YtaionhdamdhjjabDoorMe
namespace Go.Proofs.YtaionhdamdhjjabDoor.Nums
open Go.RowKit

def splitF : Nat → List ByteArray → ByteArray → List ByteArray × Int
  | 0, acc, _ => (acc, 0)
  | f + 1, acc, s => if s.size = 0 then (acc, 0) else if (nextI s).2.2 ≠ 0 then ([], (nextI s).2.2) else splitF f (acc ++ [(nextI s).1]) (s.extract (nextI s).2.1.toNat s.size)
def splitI (s : ByteArray) : List ByteArray × Int := splitF (s.size + 1) [] s

theorem nextI_ok (s t : ByteArray) (n : Int) (h : nextI s = (t, n, 0)) : 1 ≤ n ∧ n ≤ s.size ∧ t.size < s.size := by
  obtain ⟨m, k, er, hg⟩ : ∃ n k er, getI s = (n, k, er) := ⟨_, _, _, rfl⟩
  have hb := getI_bounds s m k er hg
  unfold nextI at h
  rw [hg] at h
  dsimp only at h
  split at h
  · rename_i h1
    injection h with _ h2; injection h2 with _ h3; exact absurd h3 h1
  split at h
  · injection h with _ h2; injection h2 with _ h3; cases h3
  split at h
  · injection h with _ h2; injection h2 with _ h3; cases h3
  · rename_i h1 h2 h3
    have h1' : er = 0 := by omega
    have hk := hb.2.2.2.2.2 h1'
    injection h with ha hb'
    injection hb' with hb' hc
    subst ha hb'
    refine ⟨by omega, by omega, ?_⟩
    simp only [ByteArray.size_extract]
    omega

def strLen : Value → Nat | .string s => s.size | _ => 0

theorem strInfo : (Tryd.prog.info? 9).map (fun i => (i.zero, i.size, i.bytes)) = some (some (.string ⟨#[]⟩), 1, 16) := by kernel_rfl

def SplitRel (B : Nat) (s : ByteArray) (w : World) (rest : ByteArray) (v : Value) (acc : List ByteArray) (wr : World) : Prop :=
  wr.ownsRow B 9 1 v acc.length (acc.map Value.string) ∧ Below B w wr ∧ B ≤ wr.heap.size ∧ acc.length + rest.size ≤ s.size ∧ splitF (rest.size + 1) acc rest = splitI s

theorem splitF_fuel (s : ByteArray) : ∀ (f g : Nat) (acc : List ByteArray), s.size < f → s.size < g → splitF f acc s = splitF g acc s := by
  intro f
  induction f generalizing s with
  | zero => intro g acc h; omega
  | succ f ih =>
    intro g acc hf hg
    obtain ⟨g, rfl⟩ : ∃ g', g = g' + 1 := ⟨g - 1, by omega⟩
    unfold splitF
    split
    · rfl
    split
    · rfl
    · rename_i h0 h1
      obtain ⟨t, n, er, hn⟩ : ∃ t n er, nextI s = (t, n, er) := ⟨_, _, _, rfl⟩
      rw [hn] at h1 ⊢
      dsimp only at h1 ⊢
      obtain rfl : er = 0 := by omega
      have hk := nextI_ok s t n hn
      have hs : (s.extract n.toNat s.size).size < s.size := by simp only [ByteArray.size_extract]; omega
      exact ih _ _ _ (by omega) (by omega)

theorem next_vars (s t : ByteArray) (n er : Int) (w : World) (hm : s.size ≤ maxLen) (h : nextI s = (t, n, er)) :
    Calls Tryd.prog 32 #[.string s] w fun e w' => e = .returned (.tuple #[.string t, .int .i64 n, .int .i64 er]) ∧ Below w.heap.size w w' :=
  (next_any s w hm).mono fun e w' ⟨a, b⟩ => ⟨by rw [a, h], b⟩

theorem split_step {B : Nat} {s : ByteArray} {w : World} {rest t : ByteArray} {v : Value} {acc : List ByteArray} {wr : World} (h : SplitRel B s w rest v acc wr) {n : Int} (h0 : 0 < rest.size) (hn : nextI rest = (t, n, 0))
    {w1 w2 : World} (o : Obj) (h1 : Below wr.heap.size wr w1) {v' : Value} (hown : w2.ownsRow B 9 1 v' (acc.length + 1) (acc.map Value.string ++ [.string t])) (hg : (w1.alloc o).grownBy w2 v.ownBlock) : SplitRel B s w (rest.extract n.toNat rest.size) v' (acc ++ [t]) w2 := by
  obtain ⟨ho, hB, hz, hl, hs⟩ := h
  have hk := nextI_ok rest t n hn
  have hs1 : (rest.extract n.toNat rest.size).size < rest.size := by simp only [ByteArray.size_extract]; omega
  have hz1 := h1.size
  have hb1 : Below B w (w1.alloc o) := (hB.trans (h1.mono hz)).alloc (by omega) o
  refine ⟨?_, ?_, ?_, ?_, ?_⟩
  · simpa using hown
  · exact hb1.grown hg (by simp; omega) (fun k hk' => (ho.lt k hk').1)
  · have := hg.size; simp at this; omega
  · simp; omega
  · rw [← hs]
    conv => rhs; unfold splitF
    rw [if_neg (by omega), hn]
    dsimp only
    rw [if_neg (by omega)]
    exact splitF_fuel _ _ _ _ (by omega) (by omega)

theorem ret2v_of {v : Value} {c : Int} {l : List ByteArray} {r : List ByteArray × Int} (h : r = (l, c)) : Ending.returned (.tuple #[v, .int .i64 c]) = .returned (.tuple #[v, .int .i64 r.2]) := by rw [h]

def SplitPost (s : ByteArray) (w : World) (e : Ending) (w' : World) : Prop :=
  ∃ v, e = .returned (.tuple #[v, .int .i64 (splitI s).2]) ∧ w'.ownsRow w.heap.size 9 1 v (splitI s).1.length ((splitI s).1.map Value.string) ∧ Below w.heap.size w w'

set_option maxHeartbeats 1000000 in
set_option maxRecDepth 100000 in
theorem split_any (s : ByteArray) (w : World) (hm : s.size ≤ 1099511627776) :
    Calls Tryd.prog 14 #[.string s] w (SplitPost s w) := by
  obtain ⟨i0, hi, hz0, hz1, hz2⟩ := info_parts strInfo
  go_enter Tryd.func14, Tryd.ntmps14
  go_wp2_with fail
  go_loopw [0, 4] (fun r v wr => ∃ rest acc, r = .string rest ∧ SplitRel w.heap.size s w rest v acc wr) (fun r _ _ => strLen r)
  case atStart => exact ⟨s, [], rfl, World.ownsRow_nil _ _ _ _, bel_refl _, Nat.le_refl _, by simp, rfl⟩
  case round =>
    obtain ⟨rest, acc, rfl, hR⟩ := hrel
    obtain ⟨t, n, er, hn⟩ : ∃ t n er, nextI rest = (t, n, er) := ⟨_, _, _, rfl⟩
    have hle : rest.size ≤ 1099511627776 := by have := hR.2.2.2.1; omega
    have HR := Lib.hid hR; have HN := Lib.hid hn
    clear hR hn
    by_cases h0 : rest.size = 0
    · have hem := ba_empty rest h0
      have hS : Hid (splitI s = (acc, 0)) := Lib.hid (by rw [← HR.out.2.2.2.2]; unfold splitF; rw [if_pos h0])
      clear h0
      go_wp2_with fail
      go_ret2
      exact ⟨_, ret2v_of hS.out, by rw [hS.out]; exact HR.out.1, HR.out.2.1⟩
    · have hem := ba_some rest (by omega)
      by_cases her : er = 0
      · subst her
        have hnk := nextI_ok rest t n HN.out
        have hn0 := hnk.1; have hn1 := hnk.2.1
        have hcap : Hid (acc.length + 1 ≤ 1099511627776) := Lib.hid (by have := HR.out.2.2.2.1; omega)
        clear hnk
        go_wp2_with fail
        refine (next_vars _ t n 0 _ (by unfold maxLen; omega) HN.out).mono ?_
        rintro e w1 ⟨rfl, hw1⟩
        go_wp2_with (at_builtin; refine wpList_append_own _ rfl _ _ 24 rfl w.heap.size 9 i0 (.string ⟨#[]⟩) 1 16 Tryd.underlying24 hi hz0 hz1 hz2 rfl (by decide) _ _ _ rfl ((own_below HR.out.1 hw1).alloc _) ⟨w1.heap.size, 0, none⟩ 1 1 [.string t] rfl rfl ?c1 ?c2 ?c3 ?c4 ?c5 ?_)
        case c1 =>
          intro j u hj
          match j, hj with
          | 0, hj => simp at hj; subst hj; simp [Addr.add]
        case c2 => intro u hu; simp at hu; subst hu; rfl
        case c3 => have := hcap.out; unfold maxLen; omega
        case c4 => have := hcap.out; omega
        case c5 => have h1 := HR.out.2.2.1; have h2 := hw1.size; simp; omega
        intro v' w2 hown' hgrow _
        have hstep : Hid (SplitRel w.heap.size s w (rest.extract n.toNat rest.size) v' (acc ++ [t]) w2) := Lib.hid (split_step HR.out (by omega) HN.out _ hw1 hown' hgrow)
        clear hown' hgrow
        go_wp2_with fail
        go_roundw
        case rel => exact ⟨_, _, rfl, hstep.out⟩
        case measure => simp only [strLen]; simp; omega
      · have hne : (er != 0) = true := by rw [bne_iff_ne]; exact her
        have hS : Hid (splitI s = ([], er)) := Lib.hid (by rw [← HR.out.2.2.2.2]; unfold splitF; rw [if_neg h0, HN.out]; exact if_pos her)
        clear her h0
        go_wp2_with (go_at_call 32; refine (next_vars _ t n er _ (by unfold maxLen; omega) HN.out).mono ?_; rintro e w1 ⟨rfl, hw1⟩)
        go_ret2
        exact ⟨_, ret2v_of hS.out, by rw [hS.out]; exact World.ownsRow_nil _ _ _ _, HR.out.2.1.trans (hw1.mono HR.out.2.2.1)⟩
end Go.Proofs.YtaionhdamdhjjabDoor.Nums
namespace Go.Proofs.YtaionhdamdhjjabDoor.Nums
open Go.RowKit

theorem sp_get : getI ⟨#[128, 128, 120]⟩ = (128, 2, 0) := by decide +kernel
theorem sp_put : strOfNums (putI 128) = ⟨#[128, 128]⟩ := by decide +kernel
theorem sp_join : (⟨(joinL [⟨#[97]⟩]).toArray⟩ : ByteArray) = ⟨#[1, 97]⟩ := by decide +kernel

theorem join_str (g len cap : Nat) (ss : List ByteArray) (p : ByteArray) (w : World) (hl : ss.length = len) (hlen : len ≤ 1099511627776) (hg : g < w.heap.size)
    (hc : ∀ i, i < len → w.cell? ⟨g, i, none⟩ = some (.string (ss.getD i ByteArray.empty))) (hs : (joinL ss).length ≤ 1099511627776) (hp : (⟨(joinL ss).toArray⟩ : ByteArray) = p) :
    Calls Tryd.prog 6 #[.slice (some ⟨g, 0, none⟩) len cap] w fun e w' => e = .returned (.string p) ∧ Below w.heap.size w w' := by
  subst hp; exact join_any g len cap ss w hl hlen hg hc hs

theorem cell_new1 (w : World) (x : Value) (t : TypeId) : (w.alloc (.cells #[x] t)).cell? ⟨w.heap.size, 0, none⟩ = some x := by
  have : (w.alloc (.cells #[x] t)).heap[w.heap.size]? = some (.cells #[x] t (0, 0)) := by
    show (w.heap.push _)[w.heap.size]? = _
    simp
  unfold World.cell?
  simp only [this]
  rfl

theorem join_one (s p : ByteArray) (w : World) (hs : s.size ≤ 1048576) (hp : (⟨(joinL [s]).toArray⟩ : ByteArray) = p) :
    Calls Tryd.prog 6 #[.slice (some ⟨w.heap.size, 0, none⟩) 1 1] (w.alloc (.cells #[.string s] 9)) fun e w' => e = .returned (.string p) ∧ Below w.heap.size w w' := by
  refine (join_str w.heap.size 1 1 [s] p (w.alloc (.cells #[.string s] 9)) rfl (by omega) (by simp) ?_ ?_ hp).mono ?_
  · intro i hi
    obtain rfl : i = 0 := by omega
    rw [cell_new1]; rfl
  · have : (joinL [s]).length = (putI s.size).length + s.size := by simp [joinL, encL_length]
    have h2 := len_put (s.size : Int)
    have h3 : folI (s.size : Int) ≤ 5 := by unfold folI; repeat' (first | omega | split)
    omega
  · rintro e w' ⟨rfl, hb⟩
    refine ⟨rfl, bel_trans (bel_alloc (bel_refl _) _) hb⟩

end Go.Proofs.YtaionhdamdhjjabDoor.Nums
namespace Go.Proofs.YtaionhdamdhjjabDoor.Nums
open Go.RowKit

theorem ba_ext (a b : ByteArray) (h : a.data.toList = b.data.toList) : a = b := by
  apply ByteArray.ext; exact Array.toList_inj.1 h
theorem byt_app_left (a b : ByteArray) (i : Nat) (h : i < a.size) : byt (a ++ b) i = byt a i := by
  have h' : i < a.data.size := h
  unfold byt
  rw [Array.getD_eq_getD_getElem?, Array.getD_eq_getD_getElem?]
  simp [ByteArray.data_append, Array.getElem?_append_left h']
theorem byt_nums (xs : List Int) (i : Nat) (x : Int) (h : xs[i]? = some x) (h0 : 0 ≤ x) (h1 : x < 256) : byt (strOfNums xs) i = x := by
  unfold byt strOfNums
  rw [Array.getD_eq_getD_getElem?]
  simp [h]
  omega
theorem putI_size (n : Int) : ((strOfNums (putI n)).size : Int) = folI n + 1 := by rw [strOfNums_size]; exact len_put n

theorem fol_cases (n : Int) : folI n = 0 ∨ folI n = 1 ∨ folI n = 2 ∨ folI n = 3 ∨ folI n = 4 ∨ folI n = 5 := by
  unfold folI
  repeat' (first | omega | split)

/-- The bytes of a number, whatever stands behind them, are read as that number. -/
theorem getI_put (n : Int) (t : ByteArray) (h0 : 0 ≤ n) (h1 : n ≤ 1099511627776) : getI (strOfNums (putI n) ++ t) = (n, folI n + 1, 0) := by
  have hsz : ((strOfNums (putI n) ++ t).size : Int) = folI n + 1 + t.size := by rw [ByteArray.size_append]; have := putI_size n; omega
  obtain ⟨S, hS⟩ : ∃ S, strOfNums (putI n) ++ t = S := ⟨_, rfl⟩
  have hs1 := putI_size n
  have hb : ∀ i x, (putI n)[i]? = some x → 0 ≤ x → x < 256 → byt S i = x := by
    intro i x hi h0 h1
    rw [← hS, byt_app_left _ _ _ (by rw [strOfNums_size]; exact (List.getElem?_eq_some_iff.1 hi).1)]
    exact byt_nums _ _ _ hi h0 h1
  rw [hS] at hsz ⊢
  have key : leadI (byt S 0) = folI n ∧ valI S = n := by
    rcases fol_cases n with hf | hf | hf | hf | hf | hf
    · have e := put_fol0 n h0 hf
      have hr : n < 128 := by unfold folI at hf; repeat' (split at hf <;> try omega)
      rw [e] at hb
      have b0 := hb 0 _ rfl (by omega) (by omega)
      have hl : leadI (byt S 0) = 0 := by rw [b0]; unfold leadI; rw [if_pos (by omega)]
      exact ⟨by omega, by rw [val_0 S hl]; omega⟩
    · have e := put_fol1 n h0 hf
      have hr : 128 ≤ n ∧ n < 16384 := by unfold folI at hf; repeat' (split at hf <;> try omega)
      rw [e] at hb
      have b0 := hb 0 _ rfl (by omega) (by omega)
      have b1 := hb 1 _ rfl (by omega) (by omega)
      have hl : leadI (byt S 0) = 1 := by rw [b0]; unfold leadI; repeat' (first | rw [if_pos (by omega)] | rw [if_neg (by omega)])
      exact ⟨by omega, by rw [val_1 S hl]; omega⟩
    · have e := put_fol2 n h0 hf
      have hr : 16384 ≤ n ∧ n < 2097152 := by unfold folI at hf; repeat' (split at hf <;> try omega)
      rw [e] at hb
      have b0 := hb 0 _ rfl (by omega) (by omega)
      have b1 := hb 1 _ rfl (by omega) (by omega)
      have b2 := hb 2 _ rfl (by omega) (by omega)
      have hl : leadI (byt S 0) = 2 := by rw [b0]; unfold leadI; repeat' (first | rw [if_pos (by omega)] | rw [if_neg (by omega)])
      exact ⟨by omega, by rw [val_2 S hl]; omega⟩
    · have e := put_fol3 n h0 hf
      have hr : 2097152 ≤ n ∧ n < 268435456 := by unfold folI at hf; repeat' (split at hf <;> try omega)
      rw [e] at hb
      have b0 := hb 0 _ rfl (by omega) (by omega)
      have b1 := hb 1 _ rfl (by omega) (by omega)
      have b2 := hb 2 _ rfl (by omega) (by omega)
      have b3 := hb 3 _ rfl (by omega) (by omega)
      have hl : leadI (byt S 0) = 3 := by rw [b0]; unfold leadI; repeat' (first | rw [if_pos (by omega)] | rw [if_neg (by omega)])
      exact ⟨by omega, by rw [val_3 S hl]; omega⟩
    · have e := put_fol4 n h0 hf
      have hr : 268435456 ≤ n ∧ n < 34359738368 := by unfold folI at hf; repeat' (split at hf <;> try omega)
      rw [e] at hb
      have b0 := hb 0 _ rfl (by omega) (by omega)
      have b1 := hb 1 _ rfl (by omega) (by omega)
      have b2 := hb 2 _ rfl (by omega) (by omega)
      have b3 := hb 3 _ rfl (by omega) (by omega)
      have b4 := hb 4 _ rfl (by omega) (by omega)
      have hl : leadI (byt S 0) = 4 := by rw [b0]; unfold leadI; repeat' (first | rw [if_pos (by omega)] | rw [if_neg (by omega)])
      exact ⟨by omega, by rw [val_4 S hl]; omega⟩
    · have e := put_fol5 n h0 hf
      have hr : 34359738368 ≤ n := by unfold folI at hf; repeat' (split at hf <;> try omega)
      rw [e] at hb
      have b0 := hb 0 _ rfl (by omega) (by omega)
      have b1 := hb 1 _ rfl (by omega) (by omega)
      have b2 := hb 2 _ rfl (by omega) (by omega)
      have b3 := hb 3 _ rfl (by omega) (by omega)
      have b4 := hb 4 _ rfl (by omega) (by omega)
      have b5 := hb 5 _ rfl (by omega) (by omega)
      have hl : leadI (byt S 0) = 5 := by rw [b0]; unfold leadI; repeat' (first | rw [if_pos (by omega)] | rw [if_neg (by omega)])
      exact ⟨by omega, by rw [val_5 S hl]; omega⟩
  have hf5 : 0 ≤ folI n ∧ folI n ≤ 5 := by rcases fol_cases n with h | h | h | h | h | h <;> omega
  unfold getI
  rw [key.1, key.2, if_neg (by omega), if_neg (by omega), if_neg (by omega), if_neg (by omega), if_neg (by omega)]

/-- What is read as a number is its bytes. -/
theorem getI_bytes (s : ByteArray) (n k : Int) (h : getI s = (n, k, 0)) : strOfNums (putI n) = s.extract 0 k.toNat := by
  unfold getI at h
  split at h
  · injection h with _ h; injection h with _ h; cases h
  split at h
  · injection h with _ h; injection h with _ h; cases h
  split at h
  · injection h with _ h; injection h with _ h; cases h
  split at h
  · injection h with _ h; injection h with _ h; cases h
  split at h
  · injection h with _ h; injection h with _ h; cases h
  · rename_i a1 a2 a3 a4 a5
    have h1 := congrArg Prod.fst h
    have h2 := congrArg (fun x => x.2.1) h
    dsimp only at h1 h2
    subst h1 h2
    have a5' : folI (valI s) = leadI (byt s 0) := by
      by_cases hh : folI (valI s) = leadI (byt s 0)
      · exact hh
      · exact absurd hh a5
    rcases lead_cases (byt s 0) with hk | hk | hk | hk | hk | hk | hk | hk | hk <;> rw [hk] at a5' a2 a3 ⊢
    · rw [show ((0 : Int) + 1).toNat = 1 from rfl]; exact cmp_ok0 s (by omega) hk a5'
    · rw [show ((1 : Int) + 1).toNat = 2 from rfl]; exact cmp_ok1 s (by omega) hk a5'
    · rw [show ((2 : Int) + 1).toNat = 3 from rfl]; exact cmp_ok2 s (by omega) hk a5'
    · rw [show ((3 : Int) + 1).toNat = 4 from rfl]; exact cmp_ok3 s (by omega) hk a5'
    · rw [show ((4 : Int) + 1).toNat = 5 from rfl]; exact cmp_ok4 s (by omega) hk a5'
    · rw [show ((5 : Int) + 1).toNat = 6 from rfl]; exact cmp_ok5 s (by omega) hk a5'
    all_goals omega
end Go.Proofs.YtaionhdamdhjjabDoor.Nums
namespace Go.Proofs.YtaionhdamdhjjabDoor.Nums
open Go.RowKit

def mkB (l : List UInt8) : ByteArray := ⟨l.toArray⟩
theorem mkB_size (l : List UInt8) : (mkB l).size = l.length := by simp [mkB, ByteArray.size]
theorem mkB_list (s : ByteArray) : mkB s.data.toList = s := ba_ext _ _ (by simp [mkB])
theorem mkB_data (l : List UInt8) : (mkB l).data.toList = l := by simp [mkB]
theorem mkB_app (a b : List UInt8) : mkB (a ++ b) = mkB a ++ mkB b := ba_ext _ _ (by simp [mkB])
theorem ext_list (s : ByteArray) (a b : Nat) : (s.extract a b).data.toList = (s.data.toList.drop a).take (b - a) := by
  simp [ByteArray.data_extract, List.take_drop]

theorem next_parts (s t : ByteArray) (n : Int) (h : nextI s = (t, n, 0)) : ∃ m k : Int, getI s = (m, k, 0) ∧ 0 ≤ m ∧ m ≤ 262144 ∧ 1 ≤ k ∧ k + m ≤ s.size ∧ t = s.extract k.toNat (k + m).toNat ∧ n = k + m := by
  obtain ⟨m, k, er, hg⟩ : ∃ n k er, getI s = (n, k, er) := ⟨_, _, _, rfl⟩
  have hb := getI_bounds s m k er hg
  unfold nextI at h
  rw [hg] at h
  dsimp only at h
  split at h
  · rename_i h1
    have h3 := congrArg (fun x => x.2.2) h
    dsimp only at h3
    exact absurd h3 h1
  rename_i h1
  have h1' : er = 0 := by omega
  have hk := hb.2.2.2.2.2 h1'
  split at h
  · have h3 := congrArg (fun x => x.2.2) h
    dsimp only at h3
    omega
  split at h
  · have h3 := congrArg (fun x => x.2.2) h
    dsimp only at h3
    omega
  · have h2 := congrArg Prod.fst h
    have h3 := congrArg (fun x => x.2.1) h
    dsimp only at h2 h3
    subst h1'
    exact ⟨m, k, hg, hb.1, by omega, hk.1, by omega, h2.symm, h3.symm⟩

theorem next_enc (s t : ByteArray) (n : Int) (h : nextI s = (t, n, 0)) : s.data.toList = encL t ++ (s.extract n.toNat s.size).data.toList := by
  obtain ⟨m, k, hg, hm0, hm1, hk, hks, rfl, rfl⟩ := next_parts s t n h
  have hb := getI_bytes s m k hg
  have hts : ((s.extract k.toNat (k + m).toNat).size : Int) = m := by simp only [ByteArray.size_extract]; omega
  unfold encL
  rw [hts, hb, ext_list, ext_list, ext_list]
  have hl : s.data.toList.length = s.size := by simp
  obtain ⟨L, hL⟩ : ∃ L, s.data.toList = L := ⟨_, rfl⟩
  rw [hL] at hl ⊢
  have e1 : (k + m).toNat - k.toNat = m.toNat := by omega
  have e2 : (k + m).toNat = k.toNat + m.toNat := by omega
  rw [e1, e2, List.drop_zero, Nat.sub_zero]
  rw [List.take_of_length_le (l := L.drop (k.toNat + m.toNat)) (by simp; omega), ← List.drop_drop, List.append_assoc, List.take_append_drop, List.take_append_drop]

theorem split_join (f : Nat) : ∀ (acc l : List ByteArray) (s : ByteArray), s.size < f → splitF f acc s = (l, 0) → joinL l = joinL acc ++ s.data.toList := by
  induction f with
  | zero => intro acc l s h; omega
  | succ f ih =>
    intro acc l s hf h
    unfold splitF at h
    split at h
    · rename_i h0
      have h1 := congrArg Prod.fst h
      dsimp only at h1
      have : s.data.toList = [] := List.eq_nil_of_length_eq_zero (by simpa using h0)
      rw [← h1, this, List.append_nil]
    split at h
    · rename_i h0 h1
      have h3 := congrArg Prod.snd h
      exact absurd h3 h1
    · rename_i h0 h1
      obtain ⟨t, n, er, hn⟩ : ∃ t n er, nextI s = (t, n, er) := ⟨_, _, _, rfl⟩
      rw [hn] at h1 h
      dsimp only at h1 h
      obtain rfl : er = 0 := by omega
      have hk := nextI_ok s t n hn
      have hs : (s.extract n.toNat s.size).size < s.size := by simp only [ByteArray.size_extract]; omega
      have := ih _ _ _ (by omega) h
      rw [this, joinL_app, next_enc s t n hn]
      simp [joinL]

theorem split_err (f : Nat) : ∀ (acc l : List ByteArray) (s : ByteArray) (er : Int), splitF f acc s = (l, er) → er ≠ 0 → l = [] ∧ s.size ≠ 0 := by
  induction f with
  | zero =>
    intro acc l s er h he
    have h3 := congrArg Prod.snd h
    exact absurd h3.symm he
  | succ f ih =>
    intro acc l s er h he
    unfold splitF at h
    split at h
    · have h3 := congrArg Prod.snd h
      exact absurd h3.symm he
    rename_i h0
    split at h
    · have h3 := congrArg Prod.fst h
      exact ⟨h3.symm, h0⟩
    · exact ⟨(ih _ _ _ _ h he).1, h0⟩

theorem next_of_enc (t : ByteArray) (r : List UInt8) (ht : t.size ≤ 262144) : nextI (mkB (encL t ++ r)) = (t, ((encL t).length : Int), 0) := by
  have hs : mkB (encL t ++ r) = strOfNums (putI t.size) ++ mkB (t.data.toList ++ r) := ba_ext _ _ (by simp [mkB, encL])
  have hg : getI (mkB (encL t ++ r)) = ((t.size : Int), folI t.size + 1, 0) := by rw [hs]; exact getI_put _ _ (by omega) (by omega)
  have hl : (((encL t).length : Nat) : Int) = folI t.size + 1 + t.size := by rw [encL_length]; have := len_put (t.size : Int); omega
  have hz : (((mkB (encL t ++ r)).size : Nat) : Int) = folI t.size + 1 + t.size + r.length := by rw [mkB_size, List.length_append]; omega
  have hf : 0 ≤ folI t.size := by rcases fol_cases (t.size : Int) with h | h | h | h | h | h <;> omega
  unfold nextI
  rw [hg]
  dsimp only
  rw [if_neg (by omega), if_neg (by omega), if_neg (by omega), hl]
  have hp := len_put (t.size : Int)
  have e : (mkB (encL t ++ r)).extract (folI t.size + 1).toNat (folI t.size + 1 + t.size).toNat = t := by
    apply ba_ext
    rw [ext_list, mkB_data]
    unfold encL
    have e1 : (folI t.size + 1).toNat = ((strOfNums (putI t.size)).data.toList).length := by rw [show ((strOfNums (putI t.size)).data.toList).length = (putI t.size).length by simp [strOfNums]]; omega
    have e2 : (folI t.size + 1 + t.size).toNat - (folI t.size + 1).toNat = t.data.toList.length := by rw [show t.data.toList.length = t.size by simp]; omega
    rw [e2, e1, List.append_assoc, List.drop_left, List.take_left]
  rw [e]

theorem next_of_cut (t : ByteArray) (c : Nat) (ht : t.size ≤ 262144) (h0 : 0 < c) (h1 : c < (encL t).length) : nextI (mkB ((encL t).take c)) = (⟨#[]⟩, 0, 3) := by
  have hl : (((encL t).length : Nat) : Int) = folI t.size + 1 + t.size := by rw [encL_length]; have := len_put (t.size : Int); omega
  have hp := len_put (t.size : Int)
  have hf : 0 ≤ folI t.size ∧ folI t.size ≤ 5 := by rcases fol_cases (t.size : Int) with h | h | h | h | h | h <;> omega
  have hz : (mkB ((encL t).take c)).size = c := by rw [mkB_size, List.length_take]; omega
  by_cases hc : (c : Int) ≤ folI t.size
  · have hlead : leadI (byt (mkB ((encL t).take c)) 0) = folI t.size := by
      have hg : getI (mkB (encL t)) = ((t.size : Int), folI t.size + 1, 0) := by
        have hs : mkB (encL t) = strOfNums (putI t.size) ++ t := ba_ext _ _ (by simp [mkB, encL])
        rw [hs]; exact getI_put _ _ (by omega) (by omega)
      have hb : byt (mkB ((encL t).take c)) 0 = byt (mkB (encL t)) 0 := by
        have hs : mkB (encL t) = mkB ((encL t).take c) ++ mkB ((encL t).drop c) := by rw [← mkB_app, List.take_append_drop]
        rw [hs, byt_app_left _ _ _ (by omega)]
      rw [hb]
      unfold getI at hg
      split at hg
      · have := congrArg (fun x => x.2.1) hg; dsimp only at this; omega
      split at hg
      · have := congrArg (fun x => x.2.1) hg; dsimp only at this; omega
      split at hg
      · have := congrArg (fun x => x.2.1) hg; dsimp only at this; omega
      split at hg
      · have := congrArg (fun x => x.2.1) hg; dsimp only at this; omega
      split at hg
      · have := congrArg (fun x => x.2.1) hg; dsimp only at this; omega
      · have := congrArg (fun x => x.2.1) hg; dsimp only at this; omega
    have hg : getI (mkB ((encL t).take c)) = (0, 0, 3) := by
      unfold getI
      rw [if_neg (by omega), hlead, if_neg (by omega), if_pos (by omega)]
    unfold nextI
    rw [hg]
    exact if_pos (by decide)
  · have hs : mkB ((encL t).take c) = strOfNums (putI t.size) ++ mkB ((t.data.toList).take (c - (putI t.size).length)) := by
      apply ba_ext
      have e1 : ((strOfNums (putI t.size)).data.toList).length = (putI t.size).length := by simp [strOfNums]
      rw [mkB_data]
      unfold encL
      rw [List.take_append, List.take_of_length_le (by omega), e1]
      simp [mkB]
    have hg : getI (mkB ((encL t).take c)) = ((t.size : Int), folI t.size + 1, 0) := by rw [hs]; exact getI_put _ _ (by omega) (by omega)
    unfold nextI
    rw [hg]
    dsimp only
    rw [if_neg (by omega), if_neg (by omega), if_pos (by omega)]

theorem splitF_step (t : ByteArray) (r : List UInt8) (acc : List ByteArray) (f : Nat) (ht : t.size ≤ 262144) : splitF (f + 1) acc (mkB (encL t ++ r)) = splitF f (acc ++ [t]) (mkB r) := by
  have hp := len_put (t.size : Int)
  have hf : 0 ≤ folI t.size := by rcases fol_cases (t.size : Int) with h | h | h | h | h | h <;> omega
  have hl := encL_length t
  conv => lhs; unfold splitF
  rw [if_neg (by rw [mkB_size, List.length_append]; omega), next_of_enc t r ht]
  dsimp only
  rw [if_neg (by omega)]
  refine congrArg (splitF f (acc ++ [t])) ?_
  apply ba_ext
  rw [ext_list, mkB_data, mkB_data, Int.toNat_natCast, List.drop_left, mkB_size, List.length_append]
  exact List.take_of_length_le (by omega)

theorem splitF_pre (ss : List ByteArray) : ∀ (acc : List ByteArray) (r : List UInt8) (f : Nat), (∀ t ∈ ss, t.size ≤ 262144) → splitF (f + ss.length) acc (mkB (joinL ss ++ r)) = splitF f (acc ++ ss) (mkB r) := by
  induction ss with
  | nil => intro acc r f _; simp [joinL]
  | cons t ss ih =>
    intro acc r f h
    rw [joinL, List.append_assoc, List.length_cons, ← Nat.add_assoc, splitF_step t _ acc _ (h t (by simp)), ih _ _ _ (fun t ht => h t (by simp [ht]))]
    simp

theorem joinL_ge (ss : List ByteArray) : ss.length ≤ (joinL ss).length := by
  induction ss with
  | nil => simp [joinL]
  | cons t ss ih =>
    have hp := len_put (t.size : Int)
    have hf : 0 ≤ folI t.size := by rcases fol_cases (t.size : Int) with h | h | h | h | h | h <;> omega
    have := encL_length t
    rw [joinL, List.length_append, List.length_cons]; omega

theorem split_whole (ss : List ByteArray) (h : ∀ t ∈ ss, t.size ≤ 262144) : splitI (mkB (joinL ss)) = (ss, 0) := by
  have hj := joinL_ge ss
  unfold splitI
  rw [splitF_fuel _ _ ((joinL ss).length + 1 + ss.length) _ (by omega) (by rw [mkB_size]; omega)]
  have := splitF_pre ss [] [] ((joinL ss).length + 1) h
  rw [List.append_nil] at this
  rw [this]
  unfold splitF
  exact if_pos rfl

theorem split_part (ss : List ByteArray) (t : ByteArray) (c : Nat) (h : ∀ t ∈ ss, t.size ≤ 262144) (ht : t.size ≤ 262144) (h0 : 0 < c) (h1 : c < (encL t).length) : splitI (mkB (joinL ss ++ (encL t).take c)) = ([], 3) := by
  have hj := joinL_ge ss
  unfold splitI
  rw [splitF_fuel _ _ ((joinL ss).length + (encL t).length + 2 + ss.length) _ (by omega) (by rw [mkB_size, List.length_append, List.length_take]; omega), splitF_pre ss [] _ _ h]
  unfold splitF
  rw [if_neg (by rw [mkB_size, List.length_take]; omega), next_of_cut t c ht h0 h1]
  exact if_pos (by decide)
end Go.Proofs.YtaionhdamdhjjabDoor.Nums
namespace Go.Proofs.YtaionhdamdhjjabDoor.Nums
open Go.RowKit

theorem addr_add (g i : Nat) : (⟨g, 0, none⟩ : Addr).add i = ⟨g, i, none⟩ := by
  unfold Addr.add; split <;> simp_all

theorem join_nil (w : World) : Calls Tryd.prog 6 #[.slice none 0 0] w fun e w' => e = .returned (.string ⟨#[]⟩) ∧ Below w.heap.size w w' := by
  go_enter Tryd.func6, Tryd.ntmps6
  go_wp2_with fail
  refine wp_loop_rounds 1 ?_
  rw [rounds_succ]
  go_wp2_with (go_at_call 22; refine (Tryd.Builder_String_any w.heap.size w.heap.size [] _ (Lib.fresh_isBuilder _ _ _) (by simp)).mono ?_; rintro e w1 ⟨rfl, hw1⟩)
  go_ret
  exact ⟨rfl, (bel_alloc (bel_refl w) _).trans hw1⟩

/-- Join of a slice that the call owns. -/
theorem join_own (B : Nat) (v : Value) (ss : List ByteArray) (p : ByteArray) (w : World) (hown : w.ownsRow B 9 1 v ss.length (ss.map Value.string)) (hs : (joinL ss).length ≤ 1099511627776) (hp : mkB (joinL ss) = p) :
    Calls Tryd.prog 6 #[v] w fun e w' => e = .returned (.string p) ∧ Below w.heap.size w w' := by
  rcases hown.2 with ⟨rfl, h0⟩ | ⟨g, cap, cur, rfl, _, hg, _⟩
  · have : ss = [] := List.eq_nil_of_length_eq_zero h0
    subst this
    rw [← hp]
    exact join_nil w
  · subst hp
    refine join_any g ss.length cap ss w rfl (by have := joinL_ge ss; omega) (lt_of_some hg) ?_ hs
    intro i hi
    have h1 := hown.cells (g := g) rfl i (.string ss[i]) (by simp [List.getElem?_eq_getElem hi])
    rw [show ss.getD i ByteArray.empty = ss[i] by simp [List.getD, List.getElem?_eq_getElem hi]]
    rw [addr_add] at h1
    exact h1

end Go.Proofs.YtaionhdamdhjjabDoor.Nums
