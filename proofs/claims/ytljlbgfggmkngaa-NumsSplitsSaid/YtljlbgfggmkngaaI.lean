/- The contract of nums.Split: for every text of at most 2 to the power of 40 bytes: the parts as 'splitI' has them, in new memory, and the error's number. -/
import Derived.Test.YtljlbgfggmkngaaF
import Derived.Test.YtljlbgfggmkngaaH
namespace Go.Proofs.Ytljlbgfggmkngaa
open Go.RowKit

def splitF : Nat → List ByteArray → ByteArray → List ByteArray × Int
  | 0, acc, _ => (acc, 0)
  | f + 1, acc, s => if s.size = 0 then (acc, 0) else if (nextI s).2.2 ≠ 0 then ([], (nextI s).2.2) else splitF f (acc ++ [(nextI s).1]) (s.extract (nextI s).2.1.toNat s.size)
def splitI (s : ByteArray) : List ByteArray × Int := splitF (s.size + 1) [] s

theorem nextI_ok (s t : ByteArray) (n : Int) (h : nextI s = (t, n, 0)) : 1 ≤ n ∧ n ≤ s.size ∧ t.size < s.size := by
  obtain ⟨m, k, er, hg⟩ : ∃ n k er, getI s = (n, k, er) := ⟨_, _, _, rfl⟩
  have hb := getI_bounds s m k er hg
  unfold nextI at h
  rw [hg] at h
  dsimp only at h
  split at h
  · rename_i h1
    injection h with _ h2; injection h2 with _ h3; exact absurd h3 h1
  split at h
  · injection h with _ h2; injection h2 with _ h3; cases h3
  split at h
  · injection h with _ h2; injection h2 with _ h3; cases h3
  · rename_i h1 h2 h3
    have h1' : er = 0 := by omega
    have hk := hb.2.2.2.2.2 h1'
    injection h with ha hb'
    injection hb' with hb' hc
    subst ha hb'
    refine ⟨by omega, by omega, ?_⟩
    simp only [ByteArray.size_extract]
    omega

def strLen : Value → Nat | .string s => s.size | _ => 0

theorem strInfo : (Try.prog.info? 9).map (fun i => (i.zero, i.size, i.bytes)) = some (some (.string ⟨#[]⟩), 1, 16) := by kernel_rfl

def SplitRel (B : Nat) (s : ByteArray) (w : World) (rest : ByteArray) (v : Value) (acc : List ByteArray) (wr : World) : Prop :=
  wr.ownsRow B 9 1 v acc.length (acc.map Value.string) ∧ Below B w wr ∧ B ≤ wr.heap.size ∧ acc.length + rest.size ≤ s.size ∧ splitF (rest.size + 1) acc rest = splitI s

theorem splitF_fuel (s : ByteArray) : ∀ (f g : Nat) (acc : List ByteArray), s.size < f → s.size < g → splitF f acc s = splitF g acc s := by
  intro f
  induction f generalizing s with
  | zero => intro g acc h; omega
  | succ f ih =>
    intro g acc hf hg
    obtain ⟨g, rfl⟩ : ∃ g', g = g' + 1 := ⟨g - 1, by omega⟩
    unfold splitF
    split
    · rfl
    split
    · rfl
    · rename_i h0 h1
      obtain ⟨t, n, er, hn⟩ : ∃ t n er, nextI s = (t, n, er) := ⟨_, _, _, rfl⟩
      rw [hn] at h1 ⊢
      dsimp only at h1 ⊢
      obtain rfl : er = 0 := by omega
      have hk := nextI_ok s t n hn
      have hs : (s.extract n.toNat s.size).size < s.size := by simp only [ByteArray.size_extract]; omega
      exact ih _ _ _ (by omega) (by omega)

theorem next_vars (s t : ByteArray) (n er : Int) (w : World) (hm : s.size ≤ maxLen) (h : nextI s = (t, n, er)) :
    Calls Try.prog 13 #[.string s] w fun e w' => e = .returned (.tuple #[.string t, .int .i64 n, .int .i64 er]) ∧ Below w.heap.size w w' :=
  (next_any s w hm).mono fun e w' ⟨a, b⟩ => ⟨by rw [a, h], b⟩

theorem split_step {B : Nat} {s : ByteArray} {w : World} {rest t : ByteArray} {v : Value} {acc : List ByteArray} {wr : World} (h : SplitRel B s w rest v acc wr) {n : Int} (h0 : 0 < rest.size) (hn : nextI rest = (t, n, 0))
    {w1 w2 : World} (o : Obj) (h1 : Below wr.heap.size wr w1) {v' : Value} (hown : w2.ownsRow B 9 1 v' (acc.length + 1) (acc.map Value.string ++ [.string t])) (hg : (w1.alloc o).grownBy w2 v.ownBlock) : SplitRel B s w (rest.extract n.toNat rest.size) v' (acc ++ [t]) w2 := by
  obtain ⟨ho, hB, hz, hl, hs⟩ := h
  have hk := nextI_ok rest t n hn
  have hs1 : (rest.extract n.toNat rest.size).size < rest.size := by simp only [ByteArray.size_extract]; omega
  have hz1 := h1.size
  have hb1 : Below B w (w1.alloc o) := (hB.trans (h1.mono hz)).alloc (by omega) o
  refine ⟨?_, ?_, ?_, ?_, ?_⟩
  · simpa using hown
  · exact hb1.grown hg (by simp; omega) (fun k hk' => (ho.lt k hk').1)
  · have := hg.size; simp at this; omega
  · simp; omega
  · rw [← hs]
    conv => rhs; unfold splitF
    rw [if_neg (by omega), hn]
    dsimp only
    rw [if_neg (by omega)]
    exact splitF_fuel _ _ _ _ (by omega) (by omega)

theorem ret2v_of {v : Value} {c : Int} {l : List ByteArray} {r : List ByteArray × Int} (h : r = (l, c)) : Ending.returned (.tuple #[v, .int .i64 c]) = .returned (.tuple #[v, .int .i64 r.2]) := by rw [h]

def SplitPost (s : ByteArray) (w : World) (e : Ending) (w' : World) : Prop :=
  ∃ v, e = .returned (.tuple #[v, .int .i64 (splitI s).2]) ∧ w'.ownsRow w.heap.size 9 1 v (splitI s).1.length ((splitI s).1.map Value.string) ∧ Below w.heap.size w w'

set_option maxHeartbeats 1000000 in
set_option maxRecDepth 100000 in
theorem split_any (s : ByteArray) (w : World) (hm : s.size ≤ 1099511627776) :
    Calls Try.prog 16 #[.string s] w (SplitPost s w) := by
  obtain ⟨i0, hi, hz0, hz1, hz2⟩ := info_parts strInfo
  go_enter Try.func16, Try.ntmps16
  go_wp2_with fail
  go_loopw [0, 4] (fun r v wr => ∃ rest acc, r = .string rest ∧ SplitRel w.heap.size s w rest v acc wr) (fun r _ _ => strLen r)
  case atStart => exact ⟨s, [], rfl, World.ownsRow_nil _ _ _ _, bel_refl _, Nat.le_refl _, by simp, rfl⟩
  case round =>
    obtain ⟨rest, acc, rfl, hR⟩ := hrel
    obtain ⟨t, n, er, hn⟩ : ∃ t n er, nextI rest = (t, n, er) := ⟨_, _, _, rfl⟩
    have hle : rest.size ≤ 1099511627776 := by have := hR.2.2.2.1; omega
    have HR := Lib.hid hR; have HN := Lib.hid hn
    clear hR hn
    by_cases h0 : rest.size = 0
    · have hem := ba_empty rest h0
      have hS : Hid (splitI s = (acc, 0)) := Lib.hid (by rw [← HR.out.2.2.2.2]; unfold splitF; rw [if_pos h0])
      clear h0
      go_wp2_with fail
      go_ret2
      exact ⟨_, ret2v_of hS.out, by rw [hS.out]; exact HR.out.1, HR.out.2.1⟩
    · have hem := ba_some rest (by omega)
      by_cases her : er = 0
      · subst her
        have hnk := nextI_ok rest t n HN.out
        have hn0 := hnk.1; have hn1 := hnk.2.1
        have hcap : Hid (acc.length + 1 ≤ 1099511627776) := Lib.hid (by have := HR.out.2.2.2.1; omega)
        clear hnk
        go_wp2_with fail
        refine (next_vars _ t n 0 _ (by unfold maxLen; omega) HN.out).mono ?_
        rintro e w1 ⟨rfl, hw1⟩
        go_wp2_with (at_builtin; refine wpList_append_own _ rfl _ _ 36 rfl w.heap.size 9 i0 (.string ⟨#[]⟩) 1 16 Try.underlying36 hi hz0 hz1 hz2 rfl (by decide) _ _ _ rfl ((own_below HR.out.1 hw1).alloc _) ⟨w1.heap.size, 0, none⟩ 1 1 [.string t] rfl rfl ?c1 ?c2 ?c3 ?c4 ?c5 ?_)
        case c1 =>
          intro j u hj
          match j, hj with
          | 0, hj => simp at hj; subst hj; simp [Addr.add]
        case c2 => intro u hu; simp at hu; subst hu; rfl
        case c3 => have := hcap.out; unfold maxLen; omega
        case c4 => have := hcap.out; omega
        case c5 => have h1 := HR.out.2.2.1; have h2 := hw1.size; simp; omega
        intro v' w2 hown' hgrow _
        have hstep : Hid (SplitRel w.heap.size s w (rest.extract n.toNat rest.size) v' (acc ++ [t]) w2) := Lib.hid (split_step HR.out (by omega) HN.out _ hw1 hown' hgrow)
        clear hown' hgrow
        go_wp2_with fail
        go_roundw
        case rel => exact ⟨_, _, rfl, hstep.out⟩
        case measure => simp only [strLen]; simp; omega
      · have hne : (er != 0) = true := by rw [bne_iff_ne]; exact her
        have hS : Hid (splitI s = ([], er)) := Lib.hid (by rw [← HR.out.2.2.2.2]; unfold splitF; rw [if_neg h0, HN.out]; exact if_pos her)
        clear her h0
        go_wp2_with (go_at_call 13; refine (next_vars _ t n er _ (by unfold maxLen; omega) HN.out).mono ?_; rintro e w1 ⟨rfl, hw1⟩)
        go_ret2
        exact ⟨_, ret2v_of hS.out, by rw [hS.out]; exact World.ownsRow_nil _ _ _ _, HR.out.2.1.trans (hw1.mono HR.out.2.2.1)⟩
end Go.Proofs.Ytljlbgfggmkngaa
