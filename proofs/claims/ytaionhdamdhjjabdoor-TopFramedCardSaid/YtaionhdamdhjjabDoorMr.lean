/- Parse. What a Hasher holds: states of a text's blocks, the text with its end, bytes that are put. end. Put. Hasher.Sum, Sum. -/
import Derived.Test.YtaionhdamdhjjabDoorMq
import Derived.Lib.SliceRun
import Derived.Laws.IdiomCopy
namespace Go.Proofs.YtaionhdamdhjjabDoor.Sha
open Go.RowKit

def parF (s : ByteArray) (i : Nat) : Int := digV (atI s (2 * i)) * 16 + digV (atI s (2 * i + 1))
def parT (s : ByteArray) (t i : Nat) : Int := if i < t then parF s i else 0
theorem parT_step (s : ByteArray) (t : Nat) (v : Int) (hv : v = parF s t) : (fun i => if i = t then v else parT s t i) = parT s (t + 1) := by
  funext i
  unfold parT
  by_cases h : i = t
  · subst h; rw [if_pos rfl, if_pos (by omega), hv]
  · rw [if_neg h]
    by_cases h2 : i < t
    · rw [if_pos h2, if_pos (by omega)]
    · rw [if_neg h2, if_neg (by omega)]
theorem digV_rng (c : Int) : -1 ≤ digV c ∧ digV c < 16 := by unfold digV; split <;> (try split) <;> omega
theorem or16 (p q : Int) (h0 : 0 ≤ p) (h1 : p < 16) (q0 : 0 ≤ q) (q1 : q < 16) : bits .or .i64 (p * 16) q % 256 = p * 16 + q := by
  have t : ∀ a b : Fin 16, bits .or .i64 ((a.val : Int) * 16) (b.val : Int) % 256 = (a.val : Int) * 16 + (b.val : Int) := by decide +kernel
  have := t ⟨p.toNat, by omega⟩ ⟨q.toNat, by omega⟩
  simpa [show ((p.toNat : Nat) : Int) = p by omega, show ((q.toNat : Nat) : Int) = q by omega] using this
/-- Each of 64 is a digit. -/
def Digits (s : ByteArray) : Prop := ∀ i, i < 64 → 0 ≤ digV (atI s i)
def ParSlot (s : ByteArray) (w : World) (i : Value) (wr : World) : Prop :=
  ∃ k : Nat, k ≤ 32 ∧ i = .int .i64 k ∧ (∀ i, i < 2 * k → 0 ≤ digV (atI s i)) ∧ Row8 113 (w.heap.size) 32 (parT s k) wr ∧ Below w.heap.size w wr ∧ w.heap.size ≤ wr.heap.size

def parR (s : ByteArray) (e : Ending) : Prop := (Digits s → e = .returned (.tuple #[.string (strOfNums ((List.range 32).map (parF s))), .bool true])) ∧ (¬ Digits s → e = .returned (.tuple #[.string ByteArray.empty, .bool false]))

end Go.Proofs.YtaionhdamdhjjabDoor.Sha
namespace Go.Proofs.YtaionhdamdhjjabDoor.Sha
open Go.RowKit

theorem part_congr {f g : Nat → Int} (m : Nat) (h : ∀ i, i < 64 → f i = g i) : ∀ c, 4 * m + c ≤ 64 → part f m c = part g m c
  | 0, _ => rfl
  | c + 1, hc => by rw [part, part, part_congr m h c (by omega), h _ (by omega)]
theorem wordF_congr {f g : Nat → Int} (h : ∀ i, i < 64 → f i = g i) : wordF f 64 = wordF g 64 := by
  funext m
  unfold wordF
  by_cases hm : m < 16
  · exact part_congr m h _ (by omega)
  · rw [show min 4 (64 - 4 * m) = 0 by omega]; rfl
theorem schF_congr {f g : Nat → Int} (h : ∀ i, i < 64 → f i = g i) : ∀ k, schF f k = schF g k
  | 0 => wordF_congr h
  | k + 1 => by unfold schF; rw [schF_congr h k]
theorem compF_congr (s : Nat → Int) {f g : Nat → Int} (h : ∀ i, i < 64 → f i = g i) : compF s f = compF s g := by unfold compF; rw [schF_congr h 48]

/-- The state behind k blocks of the text D. -/
def stF (D : Nat → Int) : Nat → Nat → Int
  | 0 => rootF
  | k + 1 => compF (stF D k) (fun i => D (64 * k + i))
theorem stF_congr {D E : Nat → Int} : ∀ k, (∀ i, i < 64 * k → D i = E i) → stF D k = stF E k
  | 0, _ => rfl
  | k + 1, h => by
    unfold stF
    rw [stF_congr k (fun i hi => h i (by omega))]
    exact compF_congr _ (fun i hi => h _ (by omega))

theorem rootF_rng (i : Nat) : 0 ≤ rootF i ∧ rootF i < 4294967296 := by
  by_cases h : i < 8
  · rcases (show i = 0 ∨ i = 1 ∨ i = 2 ∨ i = 3 ∨ i = 4 ∨ i = 5 ∨ i = 6 ∨ i = 7 by omega) with rfl | rfl | rfl | rfl | rfl | rfl | rfl | rfl <;> exact ⟨by decide, by decide⟩
  · unfold rootF
    rw [List.getD_eq_getElem?_getD, List.getElem?_eq_none (by simp; omega)]
    exact ⟨by decide, by decide⟩
def St32 (f : Nat → Int) : Prop := ∀ i, 0 ≤ f i ∧ f i < 4294967296
theorem addF_rng (f : Nat → Int) (h : St32 f) (s : St) (j : Nat) : St32 (addF f s j) := by
  intro i
  unfold addF
  split
  · omega
  · exact h i
theorem stF_rng (D : Nat → Int) : ∀ k, St32 (stF D k)
  | 0 => rootF_rng
  | k + 1 => by unfold stF compF; exact addF_rng _ (stF_rng D k) _ _
theorem stOf_ok (f : Nat → Int) (h : St32 f) : (stOf f).Ok := ⟨h 0, h 1, h 2, h 3, h 4, h 5, h 6, h 7⟩

/-- How many blocks a text of m bytes has with its end. -/
def nblk (m : Nat) : Nat := m / 64 + (if m % 64 < 56 then 1 else 2)
/-- Byte j of the number of bits. -/
def lenF (m j : Nat) : Int := ((8 * m / 256 ^ (7 - j) % 256 : Nat) : Int)
/-- The text with its end. -/
def padF (D : Nat → Int) (m i : Nat) : Int :=
  if i < m then D i else if i = m then 128 else if i < 64 * nblk m - 8 then 0 else lenF m (i + 8 - 64 * nblk m)
/-- The digest's bytes, and the digest. -/
def shaI (D : Nat → Int) (m : Nat) : Nat → Int := beF (stF (padF D m) (nblk m))
def shaB (D : Nat → Int) (m : Nat) : ByteArray := strOfNums ((List.range 32).map (shaI D m))
theorem shaB_congr {D E : Nat → Int} (m : Nat) (h : ∀ i, i < m → D i = E i) : shaB D m = shaB E m := by
  have e : padF D m = padF E m := by
    funext i; unfold padF
    by_cases hi : i < m
    · rw [if_pos hi, if_pos hi, h i hi]
    · rw [if_neg hi, if_neg hi]
  unfold shaB shaI; rw [e]
theorem shaB_size (D : Nat → Int) (m : Nat) : (shaB D m).size = 32 := by unfold shaB; rw [strOfNums_size]; simp
theorem padF_rng (D : Nat → Int) (m : Nat) (h : Bytes8 D) : Bytes8 (padF D m) := by
  intro i
  unfold padF
  split
  · exact h i
  · split
    · omega
    · split
      · omega
      · unfold lenF; omega

theorem hcells_setB (f blk : Nat → Int) (n : Int) (i : Nat) (v : Int) (h : i < 64) : (hcells f blk n).setIfInBounds (8 + i) (.int .u8 v) = hcells f (fun j => if j = i then v else blk j) n := by
  apply Array.ext_getElem?
  intro j
  rw [Array.getElem?_setIfInBounds]
  by_cases hj : j < 8
  · rw [if_neg (by omega), hcells_state _ _ _ j hj, hcells_state _ _ _ j hj]
  · by_cases hk : j < 72
    · obtain ⟨q, rfl⟩ : ∃ q, j = 8 + q := ⟨j - 8, by omega⟩
      rw [hcells_block _ _ _ q (by omega), hcells_block _ _ _ q (by omega)]
      by_cases e : q = i
      · subst e; rw [if_pos rfl, if_pos (by rw [hcells_len]; omega), if_pos rfl]
      · rw [if_neg (by omega), if_neg e]
    · rw [if_neg (by omega)]
      by_cases h2 : j = 72
      · subst h2; rw [hcells_size, hcells_size]
      · rw [Array.getElem?_eq_none (by rw [hcells_len]; omega), Array.getElem?_eq_none (by rw [hcells_len]; omega)]
theorem hcells_setN (f blk : Nat → Int) (n m : Int) : (hcells f blk n).setIfInBounds 72 (.int .u64 m) = hcells f blk m := by
  apply Array.ext_getElem?
  intro j
  rw [Array.getElem?_setIfInBounds]
  by_cases hj : j < 8
  · rw [if_neg (by omega), hcells_state _ _ _ j hj, hcells_state _ _ _ j hj]
  · by_cases hk : j < 72
    · obtain ⟨q, rfl⟩ : ∃ q, j = 8 + q := ⟨j - 8, by omega⟩
      rw [if_neg (by omega), hcells_block _ _ _ q (by omega), hcells_block _ _ _ q (by omega)]
    · by_cases h2 : j = 72
      · subst h2; rw [if_pos rfl, if_pos (by rw [hcells_len]; omega), hcells_size]
      · rw [if_neg (by omega), Array.getElem?_eq_none (by rw [hcells_len]; omega), Array.getElem?_eq_none (by rw [hcells_len]; omega)]
theorem HashAt.setB {b : Nat} {f blk : Nat → Int} {n : Int} {w : World} (h : HashAt b f blk n w) (i : Nat) (hi : i < 64) (v : Int) : HashAt b f (fun j => if j = i then v else blk j) n (w.setCell ⟨b, 8 + i, none⟩ (.int .u8 v)) := by
  have e : w.heap[b]? = some (.cells (hcells f blk n) 80 (0, 0)) := h
  show (w.heap.modify b _)[b]? = _
  rw [Array.getElem?_modify, if_pos rfl, e]
  simp [hcells_setB f blk n i v hi]
theorem HashAt.setN {b : Nat} {f blk : Nat → Int} {n : Int} {w : World} (h : HashAt b f blk n w) (m : Int) : HashAt b f blk m (w.setCell ⟨b, 72, none⟩ (.int .u64 m)) := by
  have e : w.heap[b]? = some (.cells (hcells f blk n) 80 (0, 0)) := h
  show (w.heap.modify b _)[b]? = _
  rw [Array.getElem?_modify, if_pos rfl, e]
  simp [hcells_setN f blk n m]
/-- Bytes that are put from place o on. -/
def putF (blk : Nat → Int) (o : Nat) (vs : List Int) (i : Nat) : Int := if o ≤ i ∧ i < o + vs.length then vs.getD (i - o) 0 else blk i
theorem putF_cons (blk : Nat → Int) (o : Nat) (v : Int) (r : List Int) : putF (fun j => if j = o then v else blk j) (o + 1) r = putF blk o (v :: r) := by
  funext i
  unfold putF
  by_cases h1 : i = o
  · subst h1; rw [if_neg (by omega)]; show (if i = i then v else blk i) = _; rw [if_pos rfl, if_pos (by simp), Nat.sub_self]; rfl
  · by_cases h2 : o + 1 ≤ i ∧ i < o + 1 + r.length
    · rw [if_pos h2, if_pos (by simp; omega), show i - o = (i - (o + 1)) + 1 by omega]; rfl
    · rw [if_neg h2]; show (if i = o then v else blk i) = _; rw [if_neg h1, if_neg (by simp; omega)]
theorem HashAt.puts {b : Nat} {f : Nat → Int} {n : Int} : ∀ (vs : List Int) (o : Nat) (blk : Nat → Int) (w : World), HashAt b f blk n w → o + vs.length ≤ 64 → HashAt b f (putF blk o vs) n (w.setCells b (8 + o) (vs.map (Value.int .u8)))
  | [], o, blk, w, h, _ => by
    have : putF blk o [] = blk := by funext i; unfold putF; rw [if_neg (by simp)]
    rw [this]; exact h
  | v :: r, o, blk, w, h, hl => by
    have hl' : o + 1 + r.length ≤ 64 := by simp at hl; omega
    have ih := HashAt.puts r (o + 1) _ _ (h.setB o (by omega) v) hl'
    rw [putF_cons] at ih
    exact ih
theorem kept_sets {b : Nat} {w : World} : ∀ (vs : List Value) (o : Nat) (w1 : World), w.grownBy w1 (some b) → w.grownBy (w1.setCells b o vs) (some b)
  | [], _, _, h => h
  | v :: r, o, w1, h => kept_sets r (o + 1) _ (kept_set h o v)

/-- A Hasher that has begun, behind m bytes of D. -/
def Begun (b : Nat) (D : Nat → Int) (m : Nat) (w : World) : Prop :=
  ∃ blk, HashAt b (stF D (m / 64)) blk m w ∧ Bytes8 blk ∧ ∀ i, i < m % 64 → blk i = D (64 * (m / 64) + i)
/-- A Hasher behind m bytes of D. -/
def HasP (b : Nat) (D : Nat → Int) (m : Nat) (w : World) : Prop :=
  (m = 0 ∧ ∃ f blk, HashAt b f blk 0 w ∧ Bytes8 blk) ∨ (0 < m ∧ Begun b D m w)
theorem Begun.congr {b : Nat} {D E : Nat → Int} {m : Nat} {w : World} (h : Begun b D m w) (e : ∀ i, i < m → D i = E i) : Begun b E m w := by
  obtain ⟨blk, h1, h2, h3⟩ := h
  refine ⟨blk, ?_, h2, fun i hi => by rw [h3 i hi, e _ (by omega)]⟩
  rw [← stF_congr (m / 64) (fun i hi => e i (by omega))]; exact h1
theorem HasP.congr {b : Nat} {D E : Nat → Int} {m : Nat} {w : World} (h : HasP b D m w) (e : ∀ i, i < m → D i = E i) : HasP b E m w := by
  rcases h with h | ⟨h0, h⟩
  · exact Or.inl h
  · exact Or.inr ⟨h0, h.congr e⟩
theorem Begun.hasP {b : Nat} {D : Nat → Int} {m : Nat} {w : World} (h : Begun b D m w) : HasP b D m w := by
  by_cases h0 : m = 0
  · subst h0; obtain ⟨blk, h1, h2, _⟩ := h; exact Or.inl ⟨rfl, _, blk, h1, h2⟩
  · exact Or.inr ⟨by omega, h⟩
theorem Begun.below {b : Nat} {D : Nat → Int} {m : Nat} {w w' : World} (h : Begun b D m w) (hb : Below w.heap.size w w') : Begun b D m w' := by
  obtain ⟨blk, h1, h2, h3⟩ := h; exact ⟨blk, h1.below hb, h2, h3⟩
theorem HasP.below {b : Nat} {D : Nat → Int} {m : Nat} {w w' : World} (h : HasP b D m w) (hb : Below w.heap.size w w') : HasP b D m w' := by
  rcases h with ⟨h0, f, blk, h1, h2⟩ | ⟨h0, h⟩
  · exact Or.inl ⟨h0, f, blk, h1.below hb, h2⟩
  · exact Or.inr ⟨h0, h.below hb⟩
theorem HasP.lt {b : Nat} {D : Nat → Int} {m : Nat} {w : World} (h : HasP b D m w) : b < w.heap.size := by
  rcases h with ⟨_, f, blk, h1, _⟩ | ⟨_, blk, h1, _⟩ <;> exact h1.lt

theorem begin_any (b : Nat) (D : Nat → Int) (m : Nat) (w : World) (h : HasP b D m w) (hV : VarsAt w) (hb : 2 < b) :
    Calls Tryd.prog 44 #[.pointer (some ⟨b, 0, none⟩)] w fun e w' => e = .returned (.tuple #[]) ∧ Begun b D m w' ∧ w.grownBy w' (some b) := by
  rcases h with ⟨rfl, f, blk, h1, h2⟩ | ⟨h0, h⟩
  · exact (begin_zero b f blk w h1 hV hb).mono fun e w' ⟨a, c, d⟩ => ⟨a, ⟨blk, c, h2, fun i hi => absurd hi (by omega)⟩, d⟩
  · have h' := h
    obtain ⟨blk, h1, h2, h3⟩ := h
    exact (begin_some b _ blk m w h1 (by omega)).mono fun e w' ⟨a, c⟩ => ⟨a, c ▸ h', c ▸ kept_below (Below.refl _ _)⟩
end Go.Proofs.YtaionhdamdhjjabDoor.Sha
namespace Go.Proofs.YtaionhdamdhjjabDoor.Sha
open Go.RowKit

/-- clear of the block from place o on. -/
theorem run_clear_at (b o n c : Nat) (f blk : Nat → Int) (m : Int) (w : World) (hH : HashAt b f blk m w) (hn : o + n ≤ 64) (t e ty : TypeId) (ht : Tryd.prog.underlying t = some (.slice e)) (he : ∀ w, (zeroValue e).run Tryd.prog w = .ok (.int .u8 0) w) :
    (Builtin.clear_ #[t] ty #[.slice (some ⟨b, 8 + o, none⟩) n c]).run Tryd.prog w = .ok (.tuple #[]) (w.setCells b (8 + o) ((List.replicate n (0 : Int)).map (Value.int .u8))) := by
  rw [List.map_replicate]
  by_cases h0 : n = 0
  · subst h0
    simp [Builtin.clear_, run_underlying ht, World.setCells]
  · exact Lib.run_clear_slice w t e ty (.int .u8 0) ht he rfl rfl b (8 + o) n c (by omega) (fun j hj => by rw [Nat.add_assoc, hH.byte (o + j) (by omega)]; rfl) (fun j _ => hH.free _)
theorem zero_u8 : ∀ w, (zeroValue 5).run Tryd.prog w = .ok (.int .u8 0) w := fun w => by kernel_rfl

def LenSlot (b : Nat) (f blk : Nat → Int) (m : Nat) (w : World) (i : Value) (wr : World) : Prop :=
  ∃ j : Nat, j ≤ 8 ∧ i = .int .i64 j ∧ HashAt b f (fun i => if 56 ≤ i ∧ i < 56 + j then lenF m (i - 56) else blk i) m wr ∧ w.grownBy wr (some b)
theorem len_start {b : Nat} {f blk : Nat → Int} {m : Nat} {w wr : World} (h : HashAt b f blk m wr) (g : w.grownBy wr (some b)) : LenSlot b f blk m w (.int .i64 0) wr :=
  ⟨0, by omega, rfl, hash_congr h (fun _ _ => rfl) (fun i _ => by rw [if_neg (by omega)]), g⟩
theorem len_step {b : Nat} {f blk : Nat → Int} {m j : Nat} {w wr : World} (h : HashAt b f (fun i => if 56 ≤ i ∧ i < 56 + j then lenF m (i - 56) else blk i) m wr) (g : w.grownBy wr (some b)) (hj : j < 8) (v : Int) (hv : v = lenF m j) (i : Int) (hi : i = ((j + 1 : Nat) : Int)) :
    LenSlot b f blk m w (.int .i64 i) (wr.setCell ⟨b, 8 + (56 + j), none⟩ (.int .u8 v)).drew := by
  refine ⟨j + 1, by omega, by rw [hi], ?_, kept_drew (kept_set g _ _)⟩
  refine hash_congr (h.setB (56 + j) (by omega) v).drew (fun _ _ => rfl) (fun i _ => ?_)
  by_cases e : i = 56 + j
  · rw [if_pos e, if_pos (by omega), hv, e, show 56 + j - 56 = j by omega]
  · rw [if_neg e]
    by_cases e2 : 56 ≤ i ∧ i < 56 + j
    · rw [if_pos e2, if_pos (by omega)]
    · rw [if_neg e2, if_neg (by omega)]
/-- The last block, when all is in it. -/
theorem len_full {b : Nat} {D f blk : Nat → Int} {m k : Nat} {wr : World} (h : HashAt b f (fun i => if 56 ≤ i ∧ i < 56 + 8 then lenF m (i - 56) else blk i) m wr) (hk : k + 1 = nblk m) (hz : ∀ i, i < 56 → blk i = padF D m (64 * k + i)) :
    HashAt b f (fun i => padF D m (64 * k + i)) m wr := by
  refine hash_congr h (fun _ _ => rfl) (fun i hi => ?_)
  by_cases e : 56 ≤ i
  · rw [if_pos (by omega)]
    have h1 : m < 64 * k + 56 := by unfold nblk at hk; split at hk <;> omega
    unfold padF
    rw [if_neg (by omega), if_neg (by omega), if_neg (by omega), show 64 * k + i + 8 - 64 * nblk m = i - 56 by omega]
  · rw [if_neg (by omega)]; exact hz i (by omega)
theorem len0 (m : Nat) (hm : m < 1152921504606846976) : 8 * (m : Int) / 72057594037927936 = lenF m 0 := by unfold lenF; simp; omega
theorem len1 (m : Nat) : 8 * (m : Int) / 281474976710656 % 256 = lenF m 1 := by unfold lenF; simp
theorem len2 (m : Nat) : 8 * (m : Int) / 1099511627776 % 256 = lenF m 2 := by unfold lenF; simp
theorem len3 (m : Nat) : 8 * (m : Int) / 4294967296 % 256 = lenF m 3 := by unfold lenF; simp
theorem len4 (m : Nat) : 8 * (m : Int) / 16777216 % 256 = lenF m 4 := by unfold lenF; simp
theorem len5 (m : Nat) : 8 * (m : Int) / 65536 % 256 = lenF m 5 := by unfold lenF; simp
theorem len6 (m : Nat) : 8 * (m : Int) / 256 % 256 = lenF m 6 := by unfold lenF; simp
theorem len7 (m : Nat) : 8 * (m : Int) % 256 = lenF m 7 := by unfold lenF; simp
/-- The block behind the mark. -/
theorem mark_blk {b : Nat} {D f blk : Nat → Int} {m u : Nat} {w : World} (h : HashAt b f (fun j => if j = u then 128 else blk j) m w) (hu : m % 64 = u) (hB : ∀ i, i < u → blk i = D (64 * (m / 64) + i)) (W : World) (n : Nat) (hn : u + 1 + n = 64) (hW : W = w.setCells b (8 + (u + 1)) ((List.replicate n (0 : Int)).map (Value.int .u8))) :
    HashAt b f (fun i => if i < u then D (64 * (m / 64) + i) else if i = u then 128 else 0) m W := by
  rw [hW]
  refine hash_congr (HashAt.puts (List.replicate n (0 : Int)) (u + 1) _ _ h (by rw [List.length_replicate]; omega)) (fun _ _ => rfl) (fun i hi => ?_)
  unfold putF
  simp only [List.length_replicate]
  by_cases e : i < u
  · rw [if_neg (by omega), if_neg (by omega), if_pos e, hB i e]
  · by_cases e2 : i = u
    · rw [if_neg (by omega), if_pos e2, if_neg e, if_pos e2]
    · rw [if_pos (by omega), if_neg e, if_neg e2]
      rw [List.getD_eq_getElem?_getD, List.getElem?_replicate]
      split <;> rfl
theorem mark_low {D : Nat → Int} {m u : Nat} (hu : m % 64 = u) (h : u < 56) (i : Nat) (hi : i < 56) : (if i < u then D (64 * (m / 64) + i) else if i = u then 128 else 0) = padF D m (64 * (m / 64) + i) := by
  have hk : nblk m = m / 64 + 1 := by unfold nblk; rw [if_pos (by omega)]
  unfold padF
  by_cases e : i < u
  · rw [if_pos e, if_pos (by omega)]
  · by_cases e2 : i = u
    · rw [if_neg e, if_pos e2, if_neg (by omega), if_pos (by omega)]
    · rw [if_neg e, if_neg e2, if_neg (by omega), if_neg (by omega), if_pos (by omega)]
theorem mark_high {D : Nat → Int} {m u : Nat} (hu : m % 64 = u) (h : ¬ u < 56) (i : Nat) (hi : i < 64) : (if i < u then D (64 * (m / 64) + i) else if i = u then 128 else 0) = padF D m (64 * (m / 64) + i) := by
  have hk : nblk m = m / 64 + 2 := by unfold nblk; rw [if_neg (by omega)]
  unfold padF
  by_cases e : i < u
  · rw [if_pos e, if_pos (by omega)]
  · by_cases e2 : i = u
    · rw [if_neg e, if_pos e2, if_neg (by omega), if_pos (by omega)]
    · rw [if_neg e, if_neg e2, if_neg (by omega), if_neg (by omega), if_pos (by omega)]
theorem zero_high {D : Nat → Int} {m u : Nat} (hu : m % 64 = u) (h : ¬ u < 56) (i : Nat) (hi : i < 56) : (0 : Int) = padF D m (64 * (m / 64 + 1) + i) := by
  have hk : nblk m = m / 64 + 2 := by unfold nblk; rw [if_neg (by omega)]
  have := Nat.mod_lt m (show 0 < 64 by decide)
  unfold padF
  rw [if_neg (by omega), if_neg (by omega), if_pos (by omega)]
theorem stF_pad (D : Nat → Int) (m k : Nat) (h : 64 * k ≤ m) : stF D k = stF (padF D m) k := stF_congr k (fun i hi => by unfold padF; rw [if_pos (by omega)])
theorem all_zero {b : Nat} {f blk : Nat → Int} {m : Int} {w : World} (h : HashAt b f blk m w) (W : World) (hW : W = w.setCells b (8 + 0) ((List.replicate 64 (0 : Int)).map (Value.int .u8))) : HashAt b f (fun _ => 0) m W := by
  rw [hW]
  refine hash_congr (HashAt.puts (List.replicate 64 (0 : Int)) 0 _ _ h (by rw [List.length_replicate]; omega)) (fun _ _ => rfl) (fun i hi => ?_)
  unfold putF
  simp only [List.length_replicate]
  rw [if_pos (by omega), List.getD_eq_getElem?_getD, List.getElem?_replicate]
  split <;> rfl

set_option maxHeartbeats 2000000 in
set_option maxRecDepth 100000 in
theorem end_low (b : Nat) (D : Nat → Int) (m : Nat) (w : World) (hB : Begun b D m w) (hD : Bytes8 D) (hV : VarsAt w) (hb : 2 < b) (hm : m < 1152921504606846976) (hc : m % 64 < 56) :
    Calls Tryd.prog 46 #[.pointer (some ⟨b, 0, none⟩)] w fun e w' => e = .returned (.tuple #[]) ∧ (∃ blk, HashAt b (stF (padF D m) (nblk m)) blk m w') ∧ w.grownBy w' (some b) := by
  obtain ⟨blk, hH, hB8, hBD⟩ := hB
  have hl := hH.len
  obtain ⟨u, hue⟩ : ∃ u, m % 64 = u := ⟨_, rfl⟩
  rw [hue] at hc hBD
  have hui : (m : Int) % 64 = u := by omega
  have hcu := hH.byte u (by omega)
  have hzu := hH.free (8 + u)
  have h1 := hH.setB u (by omega) 128
  obtain ⟨w2, hcl, h2, g2⟩ : ∃ w2, (Builtin.clear_ #[46] 0 #[.slice (some ⟨b, 8 + (u + 1), none⟩) (63 - u) (63 - u)]).run Tryd.prog (w.setCell ⟨b, 8 + u, none⟩ (.int .u8 128)) = .ok (.tuple #[]) w2 ∧ HashAt b (stF D (m / 64)) (fun i => if i < u then D (64 * (m / 64) + i) else if i = u then 128 else 0) m w2 ∧ w.grownBy w2 (some b) :=
    ⟨_, run_clear_at b (u + 1) (63 - u) (63 - u) _ _ _ _ h1 (by omega) 46 5 0 Tryd.underlying46 zero_u8, mark_blk (D := D) h1 hue hBD _ (63 - u) (by omega) rfl, kept_sets _ _ _ (kept_set (kept_below (Below.refl _ _)) (8 + u) _)⟩
  have HU := Lib.hid hue
  have un : ¬ u = 63 := by omega
  have u0 : 0 ≤ (u : Int) := by omega
  have u64 : (u : Int) < 64 := by omega
  have ul : (u : Int) + 1 ≤ 64 := by omega
  have ug : 0 ≤ (u : Int) + 1 := by omega
  have u56 : (u : Int) < 56 := by omega
  clear hue
  rw [stF_pad D m (m / 64) (by omega)] at h2
  obtain ⟨k, hk⟩ : ∃ k, k = m / 64 := ⟨_, rfl⟩
  obtain ⟨F, hF⟩ : ∃ F, F = stF (padF D m) k := ⟨_, rfl⟩
  obtain ⟨Z, hZ⟩ : ∃ Z, Z = (fun i => if i < u then D (64 * (m / 64) + i) else if i = u then 128 else 0) := ⟨_, rfl⟩
  have hz : ∀ i, i < 56 → Z i = padF D m (64 * k + i) := fun i hi => by rw [hZ, hk]; exact mark_low HU.out hc i hi
  have hkn : k + 1 = nblk m := by have := HU.out; unfold nblk; rw [if_pos (by omega), hk]
  rw [← hk, ← hF] at h2
  have h2 : HashAt b F Z m w2 := by rw [hZ, ← hk]; exact h2
  have H2 := Lib.hid h2; have K2 := Lib.hid g2; have HZ := Lib.hid hz; have HK := Lib.hid hkn; have HF := Lib.hid hF
  have HV := Lib.hid hV; have HD := Lib.hid hD; have HM := Lib.hid hm
  clear hH hV hB8 hBD hD hm h1 h2 g2 hc hz hk hkn hF hZ
  go_enter Tryd.func46, Tryd.ntmps46
  go_wp2_with fail
  go_loopw [29] (fun i wr => LenSlot b F Z m w i wr) (fun i _ => 8 - (intOf i).toNat)
  case atStart => exact len_start H2.out K2.out
  case round =>
    obtain ⟨j, hj, rfl, hHj, hGj⟩ := hrel
    have HHj := Lib.hid hHj; have HGj := Lib.hid hGj
    clear hHj hGj
    by_cases hlt : j < 8
    · have hlj := HHj.out.len
      have cj := HHj.out.byte (56 + j) (by omega)
      have zj := HHj.out.free (8 + (56 + j))
      have hmm := HM.out
      have hmi : (m : Int) < 1152921504606846976 := by omega
      have hm0 : 0 ≤ (m : Int) := by omega
      clear hmm
      rcases (show j = 0 ∨ j = 1 ∨ j = 2 ∨ j = 3 ∨ j = 4 ∨ j = 5 ∨ j = 6 ∨ j = 7 by omega) with rfl | rfl | rfl | rfl | rfl | rfl | rfl | rfl
      · have hs := Lib.hid (len_step HHj.out HGj.out (by omega) (8 * (m : Int) / 72057594037927936) (len0 m HM.out) 1 rfl)
        go_wp2_with fail
        go_region
        go_wp2_with fail
        exact ⟨hs.out, by simp [intOf]⟩
      · have hs := Lib.hid (len_step HHj.out HGj.out (by omega) (8 * (m : Int) / 281474976710656 % 256) (len1 m) 2 rfl)
        go_wp2_with fail
        go_region
        go_wp2_with fail
        exact ⟨hs.out, by simp [intOf]⟩
      · have hs := Lib.hid (len_step HHj.out HGj.out (by omega) (8 * (m : Int) / 1099511627776 % 256) (len2 m) 3 rfl)
        go_wp2_with fail
        go_region
        go_wp2_with fail
        exact ⟨hs.out, by simp [intOf]⟩
      · have hs := Lib.hid (len_step HHj.out HGj.out (by omega) (8 * (m : Int) / 4294967296 % 256) (len3 m) 4 rfl)
        go_wp2_with fail
        go_region
        go_wp2_with fail
        exact ⟨hs.out, by simp [intOf]⟩
      · have hs := Lib.hid (len_step HHj.out HGj.out (by omega) (8 * (m : Int) / 16777216 % 256) (len4 m) 5 rfl)
        go_wp2_with fail
        go_region
        go_wp2_with fail
        exact ⟨hs.out, by simp [intOf]⟩
      · have hs := Lib.hid (len_step HHj.out HGj.out (by omega) (8 * (m : Int) / 65536 % 256) (len5 m) 6 rfl)
        go_wp2_with fail
        go_region
        go_wp2_with fail
        exact ⟨hs.out, by simp [intOf]⟩
      · have hs := Lib.hid (len_step HHj.out HGj.out (by omega) (8 * (m : Int) / 256 % 256) (len6 m) 7 rfl)
        go_wp2_with fail
        go_region
        go_wp2_with fail
        exact ⟨hs.out, by simp [intOf]⟩
      · have hs := Lib.hid (len_step HHj.out HGj.out (by omega) (8 * (m : Int) % 256) (len7 m) 8 rfl)
        go_wp2_with fail
        go_region
        go_wp2_with fail
        exact ⟨hs.out, by simp [intOf]⟩
    · obtain rfl : j = 8 := by omega
      go_wp2_with fail
      refine (mix_ok b F (fun i => padF D m (64 * k + i)) m _ (len_full HHj.out HK.out HZ.out) (HV.out.kept HGj.out hb) (fun i => padF_rng D m HD.out _) (stOf_ok _ (HF.out ▸ stF_rng _ _))).mono ?_
      rintro e w3 ⟨rfl, h3, g3⟩
      have H3 : Hid (∃ blk, HashAt b (stF (padF D m) (nblk m)) blk m w3) := Lib.hid ⟨_, by rw [← HK.out]; rw [HF.out] at h3; exact h3⟩
      have G3 := Lib.hid (kept_trans HGj.out g3)
      clear h3 g3
      go_wp2_with fail
      go_end0
      exact ⟨rfl, H3.out, G3.out⟩

set_option maxHeartbeats 2000000 in
set_option maxRecDepth 100000 in
theorem end_high (b : Nat) (D : Nat → Int) (m : Nat) (w : World) (hB : Begun b D m w) (hD : Bytes8 D) (hV : VarsAt w) (hb : 2 < b) (hm : m < 1152921504606846976) (hc : ¬ m % 64 < 56 ∧ m % 64 ≠ 63) :
    Calls Tryd.prog 46 #[.pointer (some ⟨b, 0, none⟩)] w fun e w' => e = .returned (.tuple #[]) ∧ (∃ blk, HashAt b (stF (padF D m) (nblk m)) blk m w') ∧ w.grownBy w' (some b) := by
  obtain ⟨blk, hH, hB8, hBD⟩ := hB
  have hl := hH.len
  obtain ⟨u, hue⟩ : ∃ u, m % 64 = u := ⟨_, rfl⟩
  rw [hue] at hc hBD
  have hui : (m : Int) % 64 = u := by omega
  have hcu := hH.byte u (by omega)
  have hzu := hH.free (8 + u)
  have h1 := hH.setB u (by omega) 128
  obtain ⟨w2, hcl, h2, g2⟩ : ∃ w2, (Builtin.clear_ #[46] 0 #[.slice (some ⟨b, 8 + (u + 1), none⟩) (63 - u) (63 - u)]).run Tryd.prog (w.setCell ⟨b, 8 + u, none⟩ (.int .u8 128)) = .ok (.tuple #[]) w2 ∧ HashAt b (stF D (m / 64)) (fun i => if i < u then D (64 * (m / 64) + i) else if i = u then 128 else 0) m w2 ∧ w.grownBy w2 (some b) :=
    ⟨_, run_clear_at b (u + 1) (63 - u) (63 - u) _ _ _ _ h1 (by omega) 46 5 0 Tryd.underlying46 zero_u8, mark_blk (D := D) h1 hue hBD _ (63 - u) (by omega) rfl, kept_sets _ _ _ (kept_set (kept_below (Below.refl _ _)) (8 + u) _)⟩
  have HU := Lib.hid hue
  have un : ¬ u = 63 := by omega
  have u0 : 0 ≤ (u : Int) := by omega
  have u64 : (u : Int) < 64 := by omega
  have ul : (u : Int) + 1 ≤ 64 := by omega
  have ug : 0 ≤ (u : Int) + 1 := by omega
  have u56 : 56 ≤ (u : Int) := by omega
  clear hue
  have h2 := hash_congr h2 (fun i _ => congrFun (stF_pad D m (m / 64) (by omega)) i) (fun i hi => mark_high (D := D) HU.out (by omega) i hi)
  have h3 := fun (w3 : World) (h : HashAt b (stF (padF D m) (m / 64 + 1)) (fun i => padF D m (64 * (m / 64) + i)) m w3) =>
    (⟨run_clear_at b 0 64 64 _ _ _ _ h (by omega) 46 5 0 Tryd.underlying46 zero_u8, all_zero h _ rfl⟩ : And _ _)
  have H3 := Lib.hid h3
  obtain ⟨k, hk⟩ : ∃ k, k = m / 64 + 1 := ⟨_, rfl⟩
  obtain ⟨F, hF⟩ : ∃ F, F = stF (padF D m) k := ⟨_, rfl⟩
  obtain ⟨Z, hZ⟩ : ∃ Z : Nat → Int, Z = (fun _ => 0) := ⟨_, rfl⟩
  have hz : ∀ i, i < 56 → Z i = padF D m (64 * k + i) := fun i hi => by rw [hZ, hk]; exact zero_high (u := u) HU.out (by omega) i hi
  have hkn : k + 1 = nblk m := by have := HU.out; unfold nblk; rw [if_neg (by omega), hk]
  have HM2 := Lib.hid h2; have G2 := Lib.hid g2; have HZ := Lib.hid hz; have HK := Lib.hid hkn; have HF := Lib.hid hF; have HZZ := Lib.hid hZ; have HKK := Lib.hid hk
  have HV := Lib.hid hV; have HD := Lib.hid hD; have HM := Lib.hid hm
  clear hH hV hB8 hBD hD hm h1 h2 g2 hc hz hk hkn hF hZ h3
  go_enter Tryd.func46, Tryd.ntmps46
  go_wp2_with fail
  refine (mix_ok b _ _ m _ HM2.out (HV.out.kept G2.out hb) (fun i => padF_rng D m HD.out _) (stOf_ok _ (stF_rng _ _))).mono ?_
  rintro e w3 ⟨rfl, h3, g3⟩
  obtain ⟨w4, hcl2, h4, g4⟩ : ∃ w4, (Builtin.clear_ #[46] 0 #[.slice (some ⟨b, 8, none⟩) 64 64]).run Tryd.prog w3 = .ok (.tuple #[]) w4 ∧ HashAt b F Z m w4 ∧ w.grownBy w4 (some b) := by
    refine ⟨_, (H3.out w3 h3).1, ?_, kept_sets _ _ _ (kept_trans G2.out g3)⟩
    rw [HF.out, HZZ.out, HKK.out]; exact (H3.out w3 h3).2
  have H2 := Lib.hid h4; have K2 := Lib.hid g4
  clear h3 g3 h4 g4
  go_wp2_with fail
  go_loopw [29] (fun i wr => LenSlot b F Z m w i wr) (fun i _ => 8 - (intOf i).toNat)
  case atStart => exact len_start H2.out K2.out
  case round =>
    obtain ⟨j, hj, rfl, hHj, hGj⟩ := hrel
    have HHj := Lib.hid hHj; have HGj := Lib.hid hGj
    clear hHj hGj
    by_cases hlt : j < 8
    · have hlj := HHj.out.len
      have cj := HHj.out.byte (56 + j) (by omega)
      have zj := HHj.out.free (8 + (56 + j))
      have hmm := HM.out
      have hmi : (m : Int) < 1152921504606846976 := by omega
      have hm0 : 0 ≤ (m : Int) := by omega
      clear hmm
      rcases (show j = 0 ∨ j = 1 ∨ j = 2 ∨ j = 3 ∨ j = 4 ∨ j = 5 ∨ j = 6 ∨ j = 7 by omega) with rfl | rfl | rfl | rfl | rfl | rfl | rfl | rfl
      · have hs := Lib.hid (len_step HHj.out HGj.out (by omega) (8 * (m : Int) / 72057594037927936) (len0 m HM.out) 1 rfl)
        go_wp2_with fail
        go_region
        go_wp2_with fail
        exact ⟨hs.out, by simp [intOf]⟩
      · have hs := Lib.hid (len_step HHj.out HGj.out (by omega) (8 * (m : Int) / 281474976710656 % 256) (len1 m) 2 rfl)
        go_wp2_with fail
        go_region
        go_wp2_with fail
        exact ⟨hs.out, by simp [intOf]⟩
      · have hs := Lib.hid (len_step HHj.out HGj.out (by omega) (8 * (m : Int) / 1099511627776 % 256) (len2 m) 3 rfl)
        go_wp2_with fail
        go_region
        go_wp2_with fail
        exact ⟨hs.out, by simp [intOf]⟩
      · have hs := Lib.hid (len_step HHj.out HGj.out (by omega) (8 * (m : Int) / 4294967296 % 256) (len3 m) 4 rfl)
        go_wp2_with fail
        go_region
        go_wp2_with fail
        exact ⟨hs.out, by simp [intOf]⟩
      · have hs := Lib.hid (len_step HHj.out HGj.out (by omega) (8 * (m : Int) / 16777216 % 256) (len4 m) 5 rfl)
        go_wp2_with fail
        go_region
        go_wp2_with fail
        exact ⟨hs.out, by simp [intOf]⟩
      · have hs := Lib.hid (len_step HHj.out HGj.out (by omega) (8 * (m : Int) / 65536 % 256) (len5 m) 6 rfl)
        go_wp2_with fail
        go_region
        go_wp2_with fail
        exact ⟨hs.out, by simp [intOf]⟩
      · have hs := Lib.hid (len_step HHj.out HGj.out (by omega) (8 * (m : Int) / 256 % 256) (len6 m) 7 rfl)
        go_wp2_with fail
        go_region
        go_wp2_with fail
        exact ⟨hs.out, by simp [intOf]⟩
      · have hs := Lib.hid (len_step HHj.out HGj.out (by omega) (8 * (m : Int) % 256) (len7 m) 8 rfl)
        go_wp2_with fail
        go_region
        go_wp2_with fail
        exact ⟨hs.out, by simp [intOf]⟩
    · obtain rfl : j = 8 := by omega
      go_wp2_with fail
      refine (mix_ok b F (fun i => padF D m (64 * k + i)) m _ (len_full HHj.out HK.out HZ.out) (HV.out.kept HGj.out hb) (fun i => padF_rng D m HD.out _) (stOf_ok _ (HF.out ▸ stF_rng _ _))).mono ?_
      rintro e w3 ⟨rfl, h3, g3⟩
      have H3 : Hid (∃ blk, HashAt b (stF (padF D m) (nblk m)) blk m w3) := Lib.hid ⟨_, by rw [← HK.out]; rw [HF.out] at h3; exact h3⟩
      have G3 := Lib.hid (kept_trans HGj.out g3)
      clear h3 g3
      go_wp2_with fail
      go_end0
      exact ⟨rfl, H3.out, G3.out⟩

set_option maxHeartbeats 2000000 in
set_option maxRecDepth 100000 in
theorem end_last (b : Nat) (D : Nat → Int) (m : Nat) (w : World) (hB : Begun b D m w) (hD : Bytes8 D) (hV : VarsAt w) (hb : 2 < b) (hm : m < 1152921504606846976) (hc : m % 64 = 63) :
    Calls Tryd.prog 46 #[.pointer (some ⟨b, 0, none⟩)] w fun e w' => e = .returned (.tuple #[]) ∧ (∃ blk, HashAt b (stF (padF D m) (nblk m)) blk m w') ∧ w.grownBy w' (some b) := by
  obtain ⟨blk, hH, hB8, hBD⟩ := hB
  have hl := hH.len
  have hui : (m : Int) % 64 = 63 := by omega
  have hcu := hH.byte 63 (by omega)
  have hzu := hH.free (8 + 63)
  have h1 := hH.setB 63 (by omega) 128
  obtain ⟨w2, hcl, h2, g2⟩ : ∃ w2, (Builtin.clear_ #[46] 0 #[.slice (some ⟨b, 8, none⟩) 0 0]).run Tryd.prog (w.setCell ⟨b, 71, none⟩ (.int .u8 128)) = .ok (.tuple #[]) w2 ∧ HashAt b (stF D (m / 64)) (fun i => if i < 63 then D (64 * (m / 64) + i) else if i = 63 then 128 else 0) m w2 ∧ w.grownBy w2 (some b) :=
    ⟨w.setCell ⟨b, 71, none⟩ (.int .u8 128), by simp [Builtin.clear_, run_underlying Tryd.underlying46], mark_blk (D := D) (u := 63) (n := 0) h1 hc (fun i hi => hBD i (by omega)) _ rfl rfl, kept_set (kept_below (Below.refl _ _)) 71 _⟩
  have HU := Lib.hid hc
  have u63 : ¬ (63 < 56) := by omega
  have h2 := hash_congr h2 (fun i _ => congrFun (stF_pad D m (m / 64) (by omega)) i) (fun i hi => mark_high (D := D) HU.out (by omega) i hi)
  have h3 := fun (w3 : World) (h : HashAt b (stF (padF D m) (m / 64 + 1)) (fun i => padF D m (64 * (m / 64) + i)) m w3) =>
    (⟨run_clear_at b 0 64 64 _ _ _ _ h (by omega) 46 5 0 Tryd.underlying46 zero_u8, all_zero h _ rfl⟩ : And _ _)
  have H3 := Lib.hid h3
  obtain ⟨k, hk⟩ : ∃ k, k = m / 64 + 1 := ⟨_, rfl⟩
  obtain ⟨F, hF⟩ : ∃ F, F = stF (padF D m) k := ⟨_, rfl⟩
  obtain ⟨Z, hZ⟩ : ∃ Z : Nat → Int, Z = (fun _ => 0) := ⟨_, rfl⟩
  have hz : ∀ i, i < 56 → Z i = padF D m (64 * k + i) := fun i hi => by rw [hZ, hk]; exact zero_high (u := 63) HU.out (by omega) i hi
  have hkn : k + 1 = nblk m := by have := HU.out; unfold nblk; rw [if_neg (by omega), hk]
  have HM2 := Lib.hid h2; have G2 := Lib.hid g2; have HZ := Lib.hid hz; have HK := Lib.hid hkn; have HF := Lib.hid hF; have HZZ := Lib.hid hZ; have HKK := Lib.hid hk
  have HV := Lib.hid hV; have HD := Lib.hid hD; have HM := Lib.hid hm
  clear hH hV hB8 hBD hD hm h1 h2 g2 hc hz hk hkn hF hZ h3
  go_enter Tryd.func46, Tryd.ntmps46
  go_wp2_with fail
  refine (mix_ok b _ _ m _ HM2.out (HV.out.kept G2.out hb) (fun i => padF_rng D m HD.out _) (stOf_ok _ (stF_rng _ _))).mono ?_
  rintro e w3 ⟨rfl, h3, g3⟩
  obtain ⟨w4, hcl2, h4, g4⟩ : ∃ w4, (Builtin.clear_ #[46] 0 #[.slice (some ⟨b, 8, none⟩) 64 64]).run Tryd.prog w3 = .ok (.tuple #[]) w4 ∧ HashAt b F Z m w4 ∧ w.grownBy w4 (some b) := by
    refine ⟨_, (H3.out w3 h3).1, ?_, kept_sets _ _ _ (kept_trans G2.out g3)⟩
    rw [HF.out, HZZ.out, HKK.out]; exact (H3.out w3 h3).2
  have H2 := Lib.hid h4; have K2 := Lib.hid g4
  clear h3 g3 h4 g4
  go_wp2_with fail
  go_loopw [29] (fun i wr => LenSlot b F Z m w i wr) (fun i _ => 8 - (intOf i).toNat)
  case atStart => exact len_start H2.out K2.out
  case round =>
    obtain ⟨j, hj, rfl, hHj, hGj⟩ := hrel
    have HHj := Lib.hid hHj; have HGj := Lib.hid hGj
    clear hHj hGj
    by_cases hlt : j < 8
    · have hlj := HHj.out.len
      have cj := HHj.out.byte (56 + j) (by omega)
      have zj := HHj.out.free (8 + (56 + j))
      have hmm := HM.out
      have hmi : (m : Int) < 1152921504606846976 := by omega
      have hm0 : 0 ≤ (m : Int) := by omega
      clear hmm
      rcases (show j = 0 ∨ j = 1 ∨ j = 2 ∨ j = 3 ∨ j = 4 ∨ j = 5 ∨ j = 6 ∨ j = 7 by omega) with rfl | rfl | rfl | rfl | rfl | rfl | rfl | rfl
      · have hs := Lib.hid (len_step HHj.out HGj.out (by omega) (8 * (m : Int) / 72057594037927936) (len0 m HM.out) 1 rfl)
        go_wp2_with fail
        go_region
        go_wp2_with fail
        exact ⟨hs.out, by simp [intOf]⟩
      · have hs := Lib.hid (len_step HHj.out HGj.out (by omega) (8 * (m : Int) / 281474976710656 % 256) (len1 m) 2 rfl)
        go_wp2_with fail
        go_region
        go_wp2_with fail
        exact ⟨hs.out, by simp [intOf]⟩
      · have hs := Lib.hid (len_step HHj.out HGj.out (by omega) (8 * (m : Int) / 1099511627776 % 256) (len2 m) 3 rfl)
        go_wp2_with fail
        go_region
        go_wp2_with fail
        exact ⟨hs.out, by simp [intOf]⟩
      · have hs := Lib.hid (len_step HHj.out HGj.out (by omega) (8 * (m : Int) / 4294967296 % 256) (len3 m) 4 rfl)
        go_wp2_with fail
        go_region
        go_wp2_with fail
        exact ⟨hs.out, by simp [intOf]⟩
      · have hs := Lib.hid (len_step HHj.out HGj.out (by omega) (8 * (m : Int) / 16777216 % 256) (len4 m) 5 rfl)
        go_wp2_with fail
        go_region
        go_wp2_with fail
        exact ⟨hs.out, by simp [intOf]⟩
      · have hs := Lib.hid (len_step HHj.out HGj.out (by omega) (8 * (m : Int) / 65536 % 256) (len5 m) 6 rfl)
        go_wp2_with fail
        go_region
        go_wp2_with fail
        exact ⟨hs.out, by simp [intOf]⟩
      · have hs := Lib.hid (len_step HHj.out HGj.out (by omega) (8 * (m : Int) / 256 % 256) (len6 m) 7 rfl)
        go_wp2_with fail
        go_region
        go_wp2_with fail
        exact ⟨hs.out, by simp [intOf]⟩
      · have hs := Lib.hid (len_step HHj.out HGj.out (by omega) (8 * (m : Int) % 256) (len7 m) 8 rfl)
        go_wp2_with fail
        go_region
        go_wp2_with fail
        exact ⟨hs.out, by simp [intOf]⟩
    · obtain rfl : j = 8 := by omega
      go_wp2_with fail
      refine (mix_ok b F (fun i => padF D m (64 * k + i)) m _ (len_full HHj.out HK.out HZ.out) (HV.out.kept HGj.out hb) (fun i => padF_rng D m HD.out _) (stOf_ok _ (HF.out ▸ stF_rng _ _))).mono ?_
      rintro e w3 ⟨rfl, h3, g3⟩
      have H3 : Hid (∃ blk, HashAt b (stF (padF D m) (nblk m)) blk m w3) := Lib.hid ⟨_, by rw [← HK.out]; rw [HF.out] at h3; exact h3⟩
      have G3 := Lib.hid (kept_trans HGj.out g3)
      clear h3 g3
      go_wp2_with fail
      go_end0
      exact ⟨rfl, H3.out, G3.out⟩

theorem end_any (b : Nat) (D : Nat → Int) (m : Nat) (w : World) (hB : Begun b D m w) (hD : Bytes8 D) (hV : VarsAt w) (hb : 2 < b) (hm : m < 1152921504606846976) :
    Calls Tryd.prog 46 #[.pointer (some ⟨b, 0, none⟩)] w fun e w' => e = .returned (.tuple #[]) ∧ (∃ blk, HashAt b (stF (padF D m) (nblk m)) blk m w') ∧ w.grownBy w' (some b) := by
  by_cases h1 : m % 64 < 56
  · exact end_low b D m w hB hD hV hb hm h1
  · by_cases h2 : m % 64 = 63
    · exact end_last b D m w hB hD hV hb hm h2
    · exact end_high b D m w hB hD hV hb hm ⟨h1, h2⟩
end Go.Proofs.YtaionhdamdhjjabDoor.Sha
namespace Go.Proofs.YtaionhdamdhjjabDoor.Sha
open Go.RowKit

theorem ba_empty (s : ByteArray) (h : s.size = 0) : s.toList.isEmpty = true := by
  rw [ByteArray.toList_eq, List.isEmpty_iff_length_eq_zero]; simpa using h
theorem ba_some (s : ByteArray) (h : 0 < s.size) : s.toList.isEmpty = false := by
  cases hc : s.toList.isEmpty
  · rfl
  · rw [ByteArray.toList_eq, List.isEmpty_iff_length_eq_zero] at hc
    have : s.size = 0 := by simpa using hc
    omega
theorem atI_list (s : ByteArray) (n : Nat) (hn : n ≤ s.size) : List.take n (s.data.toList.map fun x => Value.int .u8 (x.toNat : Int)) = ((List.range n).map (atI s)).map (Value.int .u8) := by
  have hs : s.size = s.data.size := rfl
  apply List.ext_getElem
  · simp; omega
  · intro i h1 h2
    have hi : i < s.data.size := by simp at h1; omega
    simp [atI, Array.getElem?_eq_getElem hi]

/-- copy of a text's beginning into the block from place o on. -/
theorem run_copy_at (b o n : Nat) (f blk : Nat → Int) (m : Int) (w : World) (hH : HashAt b f blk m w) (s : ByteArray) (hn : n = min s.size (64 - o)) (ho : o < 64) (dT sT ty elem : TypeId)
    (hu : Tryd.prog.underlying dT = some (.slice elem)) (hz : ∀ w, (Go.sizeOf elem).run Tryd.prog w = .ok 1 w) :
    (Builtin.copy_ #[dT, sT] ty #[.slice (some ⟨b, 8 + o, none⟩) (64 - o) (64 - o), .string s]).run Tryd.prog w = .ok (.int .i64 n) (w.setCells b (8 + o) (((List.range n).map (atI s)).map (Value.int .u8))) := by
  have hl : (((List.range n).map (atI s)).map (Value.int .u8)).length = n := by simp
  have hst := run_storeCells_cells (P := Tryd.prog) b (8 + o) (((List.range n).map (atI s)).map (Value.int .u8)) 0 w (by
    intro j hj
    rw [hl] at hj
    rw [Nat.add_zero, Nat.add_assoc, hH.byte (o + j) (by omega)]; rfl) (by
    intro j hj
    exact hH.free _) (by
    intro v hv
    obtain ⟨x, _, rfl⟩ := List.mem_map.1 hv
    rfl)
  have hmin : Nat.min s.size (64 - o) = n := hn.symm
  have hx := atI_list s n (by omega)
  simp [Builtin.copy_, run_underlying hu, Builtin.lenOf, Builtin.firstCells, hz, hmin]
  rw [hx, hst]
  simp [Result.andThen]
  rfl
theorem size_u8 : ∀ w, (Go.sizeOf 5).run Tryd.prog w = .ok 1 w := fun w => by kernel_rfl

theorem at_extract (r : ByteArray) (n i : Nat) (h : i < r.size - n) : atI (r.extract n r.size) i = atI r (n + i) := by
  have h2 : n + i < r.data.size := by have : r.size = r.data.size := rfl; omega
  unfold atI
  rw [ByteArray.data_extract, Array.getElem?_extract]
  rw [if_pos (by have : r.size = r.data.size := rfl; omega)]
theorem put_next {blk D : Nat → Int} {q o n : Nat} {r : ByteArray} (hB : Bytes8 blk) (hBD : ∀ i, i < q % 64 → blk i = D (64 * (q / 64) + i)) (ho : q % 64 = o) (hn : n = min r.size (64 - o)) (hr : ∀ i, i < r.size → atI r i = D (q + i)) :
    Bytes8 (putF blk o ((List.range n).map (atI r))) ∧ ∀ i, i < o + n → putF blk o ((List.range n).map (atI r)) i = D (64 * (q / 64) + i) := by
  have hv : ∀ j, j < n → ((List.range n).map (atI r)).getD j 0 = atI r j := fun j hj => by simp [List.getD_eq_getElem?_getD, hj]
  refine ⟨fun i => ?_, fun i hi => ?_⟩
  · unfold putF
    rw [List.length_map, List.length_range]
    split
    · rw [hv _ (by omega)]; exact atI_rng _ _
    · exact hB i
  · unfold putF
    rw [List.length_map, List.length_range]
    by_cases h : o ≤ i
    · rw [if_pos ⟨h, hi⟩, hv _ (by omega), hr _ (by omega)]; congr 1; omega
    · rw [if_neg (by omega)]; exact hBD i (by omega)

def strLen (v : Value) : Nat := match v with | .string r => r.size | _ => 0
def PutSlot (b : Nat) (D : Nat → Int) (M : Nat) (w : World) (v : Value) (wr : World) : Prop :=
  ∃ (r : ByteArray) (q : Nat), v = .string r ∧ q + r.size = M ∧ (∀ i, i < r.size → atI r i = D (q + i)) ∧ Begun b D q wr ∧ w.grownBy wr (some b)

set_option maxHeartbeats 2000000 in
set_option maxRecDepth 100000 in
theorem Put_any (b : Nat) (D : Nat → Int) (m : Nat) (s : ByteArray) (w : World) (hP : HasP b D m w) (hs : ∀ i, i < s.size → atI s i = D (m + i)) (hD : Bytes8 D) (hV : VarsAt w) (hb : 2 < b) (hm : m + s.size < 1152921504606846976) :
    Calls Tryd.prog 33 #[.pointer (some ⟨b, 0, none⟩), .string s] w fun e w' => e = .returned (.tuple #[]) ∧ Begun b D (m + s.size) w' ∧ w.grownBy w' (some b) := by
  have HP := Lib.hid hP; have HS := Lib.hid hs; have HD := Lib.hid hD; have HV := Lib.hid hV; have HM := Lib.hid hm
  obtain ⟨M, hMe⟩ : ∃ M, m + s.size = M := ⟨_, rfl⟩
  rw [hMe]
  have HME := Lib.hid hMe
  clear hP hs hD hV hm hMe
  go_enter Tryd.func33, Tryd.ntmps33
  go_wp2_with fail
  refine (begin_any b D m w HP.out HV.out hb).mono ?_
  rintro e w1 ⟨rfl, h1, g1⟩
  have H1 := Lib.hid h1; have G1 := Lib.hid g1
  clear h1 g1
  go_wp2_with fail
  go_loopw [1] (fun v wr => PutSlot b D M w v wr) (fun v _ => strLen v)
  case atStart => exact ⟨s, m, rfl, HME.out, HS.out, H1.out, G1.out⟩
  case round =>
    obtain ⟨r, q, rfl, hq, hr, hB, hG⟩ := hrel
    have hqM : q + r.size < 1152921504606846976 := by have := HM.out; have := HME.out; omega
    obtain ⟨blk, hH, hB8, hBD⟩ := hB
    by_cases h0 : r.size = 0
    · have he := ba_empty r h0
      have hqe : q = M := by omega
      subst hqe
      have HB : Hid (Begun b D q wr) := Lib.hid ⟨blk, hH, hB8, hBD⟩
      have HG := Lib.hid hG
      clear hH hB8 hBD hG hr hq
      go_wp2_with fail
      go_end0
      exact ⟨rfl, HB.out, HG.out⟩
    · have he := ba_some r (by omega)
      have hl := hH.len
      obtain ⟨o, hoe⟩ : ∃ o, q % 64 = o := ⟨_, rfl⟩
      have ho : o < 64 := by omega
      have hoi : (q : Int) % 64 = o := by omega
      have htm : (q : Int).tmod 64 = o := by rw [Int.tmod_eq_emod_of_nonneg (by omega)]; exact hoi
      obtain ⟨n, hn⟩ : ∃ n, n = min r.size (64 - o) := ⟨_, rfl⟩
      obtain ⟨w2, hcp, h2, g2⟩ : ∃ w2, (Builtin.copy_ #[46, 9] 3 #[.slice (some ⟨b, 8 + o, none⟩) (64 - o) (64 - o), .string r]).run Tryd.prog wr.drew = .ok (.int .i64 n) w2 ∧ HashAt b (stF D (q / 64)) (putF blk o ((List.range n).map (atI r))) q w2 ∧ w.grownBy w2 (some b) :=
        ⟨_, run_copy_at b o n _ _ _ wr.drew hH.drew r hn ho 46 9 3 5 Tryd.underlying46 size_u8, HashAt.puts ((List.range n).map (atI r)) o _ _ hH.drew (by simp; omega), kept_sets _ _ _ (kept_drew hG)⟩
      have hl2 := h2.len
      have hz2 := h2.free 72
      have hn1 : n ≤ r.size := by omega
      have hx := put_next (blk := blk) hB8 hBD hoe hn hr
      have hsz : (r.extract n r.size).size = r.size - n := by simp
      have hat := at_extract r n
      have nq : q + n < 1152921504606846976 := by omega
      have nqi : (q : Int) + n < 1152921504606846976 := by omega
      have nq0 : 0 ≤ (q : Int) + n := by omega
      have n0 : 0 ≤ (n : Int) := by omega
      have nn : n < 1152921504606846976 := by omega
      have nni : (n : Int) < 1152921504606846976 := by omega
      have o0 : 0 ≤ (o : Int) := by omega
      have o64 : (o : Int) ≤ 64 := by omega
      have on : ¬ 64 = o := by omega
      by_cases hfull : r.size < 64 - o
      · have hne : n = r.size := by omega
        have htm2 : ((q : Int) + n).tmod 64 = o + n := by rw [Int.tmod_eq_emod_of_nonneg (by omega)]; omega
        have hzz : ((o : Int) + n == 0) = false := by rw [beq_eq_false_iff_ne]; omega
        have hend : Hid (PutSlot b D M w (.string (r.extract n r.size)) (w2.setCell ⟨b, 72, none⟩ (.int .u64 ((q : Int) + n))) ∧ strLen (.string (r.extract n r.size)) < strLen (.string r)) := Lib.hid ⟨⟨_, q + n, rfl, by rw [hsz]; omega, fun i hi => by rw [hat i (by rw [hsz] at hi; omega), hr _ (by rw [hsz] at hi; omega), Nat.add_assoc],
          ⟨_, by rw [show (q + n) / 64 = q / 64 by omega, show ((q + n : Nat) : Int) = (q : Int) + n by omega]; exact h2.setN _, hx.1, fun i hi => by rw [show (q + n) / 64 = q / 64 by omega]; exact hx.2 i (by omega)⟩, kept_set g2 72 _⟩, by show (r.extract n r.size).size < r.size; omega⟩
        clear hx hr hq hBD hB8 hG h2 g2 hH hoe hn hoi hsz hat hne hfull
        go_wp2_with fail
        refine wp_region_still_tail 10 (by kernel_rfl) (by kernel_rfl) ?_
        change wpStill _ _ (World.drew _) _ _ _
        simp only [List.take_succ_cons, List.take_zero, List.drop_succ_cons, List.drop_zero]
        repeat still_step
        try refine wpStill_nil ?_
        change wpList _ _ _ _ _ (World.drew _)
        go_wp2_with fail
        exact hend.out
      · have hne : o + n = 64 := by omega
        have htm2 : ((q : Int) + n).tmod 64 = 0 := by rw [Int.tmod_eq_emod_of_nonneg (by omega)]; omega
        have h3 : Hid (HashAt b (stF D (q / 64)) (fun i => D (64 * (q / 64) + i)) ((q : Int) + n) (w2.setCell ⟨b, 72, none⟩ (.int .u64 ((q : Int) + n)))) := Lib.hid (hash_congr (h2.setN _) (fun _ _ => rfl) (fun i hi => hx.2 i (by omega)))
        have g3 := Lib.hid (kept_set g2 72 (.int .u64 ((q : Int) + n)))
        have hend : Hid (∀ W, HashAt b (stF D (q / 64 + 1)) (fun i => D (64 * (q / 64) + i)) ((q : Int) + n) W → w.grownBy W (some b) → PutSlot b D M w (.string (r.extract n r.size)) W ∧ strLen (.string (r.extract n r.size)) < strLen (.string r)) := Lib.hid (fun W hW gW => ⟨⟨_, q + n, rfl, by rw [hsz]; omega, fun i hi => by rw [hat i (by rw [hsz] at hi; omega), hr _ (by rw [hsz] at hi; omega), Nat.add_assoc],
          ⟨_, by rw [show (q + n) / 64 = q / 64 + 1 by omega, show ((q + n : Nat) : Int) = (q : Int) + n by omega]; exact hW, fun i => HD.out _, fun i hi => absurd hi (by omega)⟩, gW⟩, by show (r.extract n r.size).size < r.size; omega⟩)
        clear hx hr hq hBD hB8 hG h2 g2 hH hoe hn hoi hsz hat hne hfull
        go_wp2_with fail
        refine wp_region_still_tail 10 (by kernel_rfl) (by kernel_rfl) ?_
        change wpStill _ _ (World.drew _) _ _ _
        simp only [List.take_succ_cons, List.take_zero, List.drop_succ_cons, List.drop_zero]
        repeat still_step
        try refine wpStill_nil ?_
        change wpList _ _ _ _ _ (World.drew _)
        go_wp2_with fail
        refine (mix_ok b _ _ _ _ h3.out (HV.out.kept g3.out hb) (fun i => HD.out _) (stOf_ok _ (stF_rng _ _))).mono ?_
        rintro e w4 ⟨rfl, h4, g4⟩
        have HE := Lib.hid (hend.out w4 h4 (kept_trans g3.out g4))
        clear h4 g4
        go_wp2_with fail
        exact HE.out
end Go.Proofs.YtaionhdamdhjjabDoor.Sha
namespace Go.Proofs.YtaionhdamdhjjabDoor.Sha
open Go.RowKit

theorem HasP.copy {b : Nat} {D : Nat → Int} {m : Nat} {w : World} (h : HasP b D m w) : ∃ f blk, HashAt b f blk m w ∧ ∀ b' w', HashAt b' f blk m w' → HasP b' D m w' := by
  rcases h with ⟨rfl, f, blk, h1, h2⟩ | ⟨h0, blk, h1, h2, h3⟩
  · exact ⟨f, blk, h1, fun b' w' h => Or.inl ⟨rfl, f, blk, h, h2⟩⟩
  · exact ⟨_, blk, h1, fun b' w' h => Or.inr ⟨h0, blk, h, h2, h3⟩⟩
def hZero : Array Value := hcells (fun _ => 0) (fun _ => 0) 0
theorem hasher_zero : (∀ w, (zeroValue 80).run Tryd.prog w = .ok (.agg hZero) w) ∧ (Tryd.prog.info? 80).map (·.size) = some 73 := zero_of_info (by kernel_rfl)
theorem hcells_one (f blk : Nat → Int) (n : Int) : (hcells f blk n).all (·.oneCell') = true := by
  unfold hcells
  simp [Value.oneCell']

set_option maxHeartbeats 2000000 in
set_option maxRecDepth 100000 in
theorem HSum_any (b : Nat) (D : Nat → Int) (m : Nat) (w : World) (hP : HasP b D m w) (hD : Bytes8 D) (hV : VarsAt w) (hm : m < 1152921504606846976) :
    Calls Tryd.prog 34 #[.pointer (some ⟨b, 0, none⟩)] w fun e w' => e = .returned (.string (shaB D m)) ∧ Below w.heap.size w w' := by
  obtain ⟨f, blk, hH, hcopy⟩ := hP.copy
  have hh : w.heap[b]? = some (.cells (hcells f blk m) 80 (0, 0)) := hH
  have hbw := hH.lt
  obtain ⟨A, hA⟩ : ∃ A, hcells f blk m = A := ⟨_, rfl⟩
  obtain ⟨Z, hZ⟩ : ∃ Z, hZero = Z := ⟨_, rfl⟩
  have hzv := hasher_zero.1
  have hsz : (Tryd.prog.info? 80).map (·.size) = some A.size := by rw [← hA, hcells_len]; exact hasher_zero.2
  have hone : A.all (·.oneCell') = true := by rw [← hA]; exact hcells_one _ _ _
  have hAZ : Z.size = A.size := by rw [← hA, ← hZ, hcells_len]; exact hcells_len _ _ _
  rw [hA] at hh
  rw [hZ] at hzv
  obtain ⟨F, hF⟩ : ∃ F, stF (padF D m) (nblk m) = F := ⟨_, rfl⟩
  have hr : ∀ i, 0 ≤ F i ∧ F i < 4294967296 := by rw [← hF]; exact stF_rng _ _
  have hfin : shaB D m = strOfNums ((List.range 32).map (beF F)) := by unfold shaB shaI; rw [hF]
  rw [hfin]
  have HF := Lib.hid hF; have HR := Lib.hid hr
  clear hF hr hfin
  have h1b : 2 < w.heap.size := hV.2.2
  have hnew : HasP w.heap.size D m ((w.alloc (.cells Z 80)).setRow w.heap.size A) := hcopy _ _ (by
    rw [World.setRow_alloc_new, hA.symm]; exact heap_alloc_last _ _)
  have hbel : Below w.heap.size w ((w.alloc (.cells Z 80)).setRow w.heap.size A) := by
    rw [World.setRow_alloc_new]; exact (Below.refl _ _).alloc (Nat.le_refl _) _
  have hlast : (w.alloc (.cells Z 80)).heap[w.heap.size]? = some (.cells Z 80 (0, 0)) := heap_alloc_last _ _
  have HN := Lib.hid hnew; have HBL := Lib.hid hbel; have HL := Lib.hid hlast; have HH := Lib.hid hh; have HS := Lib.hid hsz; have HO := Lib.hid hone; have HAZ := Lib.hid hAZ; have HD := Lib.hid hD; have HV := Lib.hid hV; have HM := Lib.hid hm
  clear hnew hbel hlast hh hsz hone hAZ hD hV hm hP hH hcopy hA hZ
  go_enter Tryd.func34, Tryd.ntmps34
  go_wp2_with (first | (refine wpList_load_row rfl 80 _ rfl b rfl 80 A (0, 0) _ HH.out Tryd.underlying80 rfl HS.out ?_) | (refine wpList_store_row rfl 80 _ _ rfl w.heap.size A rfl rfl 80 Z HL.out HS.out HAZ.out HO.out ?_))
  have HV1 := Lib.hid (HV.out.below HBL.out)
  obtain ⟨w1, hw1⟩ : ∃ w1, (w.alloc (.cells Z 80)).setRow w.heap.size A = w1 := ⟨_, rfl⟩
  rw [hw1] at HN HBL HV1
  rw [hw1]
  clear hw1 HL HH
  refine (begin_any w.heap.size D m w1 HN.out HV1.out h1b).mono ?_
  rintro e w2 ⟨rfl, h2, g2⟩
  have hs1 := HBL.out.size
  have B2 := Lib.hid (HBL.out.grown g2 hs1 (fun k hk => by injection hk with hk; omega))
  have hs2 := B2.out.size
  have HV2 := Lib.hid (HV.out.below B2.out)
  have H2 := Lib.hid h2
  clear h2 g2
  go_wp2_with fail
  refine (end_any w.heap.size D m w2 H2.out HD.out HV2.out h1b HM.out).mono ?_
  rintro e w3 ⟨rfl, ⟨blk3, h3⟩, g3⟩
  have B3 := Lib.hid (B2.out.grown g3 hs2 (fun k hk => by injection hk with hk; omega))
  rw [HF.out] at h3
  have c0 := h3.cell 0 (by omega); have c1 := h3.cell 1 (by omega); have c2 := h3.cell 2 (by omega); have c3 := h3.cell 3 (by omega)
  have c4 := h3.cell 4 (by omega); have c5 := h3.cell 5 (by omega); have c6 := h3.cell 6 (by omega); have c7 := h3.cell 7 (by omega)
  clear h3 g3 H2
  go_wp2_with fail
  refine (bigEndian_any F w3 HR.out).mono ?_
  rintro e w4 ⟨rfl, h4⟩
  have B4 := Lib.hid (B3.out.trans (h4.mono B3.out.size))
  clear h4
  go_wp2_with fail
  go_ret
  exact ⟨rfl, B4.out⟩

theorem VarsAt.alloc {w : World} (h : VarsAt w) (o : Obj) : VarsAt (w.alloc o) := h.below ((Below.refl _ _).alloc (Nat.le_refl _) _)

/-- What the parts are, one behind the other: the text's first t bytes end where part i begins. -/
def PartsAt (D : Nat → Int) (ps : List ByteArray) : Nat → Prop
  | m => match ps with
    | [] => True
    | s :: r => (∀ i, i < s.size → atI s i = D (m + i)) ∧ PartsAt D r (m + s.size)
def partsLen (ps : List ByteArray) : Nat := (ps.map (·.size)).sum

theorem partsLen_step (ps : List ByteArray) (k : Nat) (h : k < ps.length) : partsLen (ps.take (k + 1)) = partsLen (ps.take k) + ps[k].size := by
  unfold partsLen
  rw [List.take_add_one, List.getElem?_eq_getElem h, List.map_append, List.sum_append]
  simp
theorem partsLen_le (ps : List ByteArray) (k : Nat) : partsLen (ps.take k) ≤ partsLen ps := by
  have : partsLen (ps.take k ++ ps.drop k) = partsLen (ps.take k) + partsLen (ps.drop k) := by unfold partsLen; rw [List.map_append, List.sum_append]
  rw [List.take_append_drop] at this
  omega

def SumSlot (D : Nat → Int) (ps : List ByteArray) (w : World) (i : Value) (wr : World) : Prop :=
  ∃ k : Nat, k ≤ ps.length ∧ i = .int .i64 k ∧ HasP w.heap.size D (partsLen (ps.take k)) wr ∧ Below w.heap.size w wr ∧ PartsAt D (ps.drop k) (partsLen (ps.take k))

set_option maxHeartbeats 2000000 in
set_option maxRecDepth 100000 in
theorem Sum_any (a : Addr) (cap : Nat) (ps : List ByteArray) (D : Nat → Int) (w : World) (hcell : ∀ i (h : i < ps.length), w.cell? (a.add i) = some (.string ps[i])) (hb : a.block < w.heap.size) (hps : PartsAt D ps 0) (hD : Bytes8 D) (hV : VarsAt w) (hm : partsLen ps < 1152921504606846976) (hl : ps.length < 1152921504606846976) :
    Calls Tryd.prog 15 #[.slice (some a) ps.length cap] w fun e w' => e = .returned (.string (shaB D (partsLen ps))) ∧ Below w.heap.size w w' := by
  have hzv := hasher_zero.1
  obtain ⟨Z, hZ⟩ : ∃ Z, hZero = Z := ⟨_, rfl⟩
  rw [hZ] at hzv
  have h0 : HasP w.heap.size D 0 (w.alloc (.cells Z 80)) := Or.inl ⟨rfl, fun _ => 0, fun _ => 0, by rw [← hZ]; exact heap_alloc_last _ _, fun _ => ⟨Int.le_refl 0, by show (0 : Int) < 256; decide⟩⟩
  have H0 := Lib.hid h0; have HC := Lib.hid hcell; have HP := Lib.hid hps; have HD := Lib.hid hD; have HV := Lib.hid hV; have HM := Lib.hid hm
  have h1b : 2 < w.heap.size := hV.2.2
  obtain ⟨n, hn⟩ : ∃ n, ps.length = n := ⟨_, rfl⟩
  rw [hn] at hl
  rw [hn]
  have HN := Lib.hid hn
  have hli : (n : Int) < 1152921504606846976 := by omega
  clear h0 hcell hps hD hV hm hZ hn
  go_enter Tryd.func15, Tryd.ntmps15
  go_wp2_with fail
  go_loopw [8] (fun i wr => SumSlot D ps w i wr) (fun i _ => n - (intOf i).toNat)
  case atStart => exact ⟨0, by omega, rfl, H0.out, (Below.refl _ _).alloc (Nat.le_refl _) _, HP.out⟩
  case round =>
    obtain ⟨k, hk, rfl, hh, hB, hp⟩ := hrel
    rw [HN.out] at hk
    have HH := Lib.hid hh; have HB := Lib.hid hB; have HPP := Lib.hid hp
    clear hh hB hp
    by_cases hlt : k < n
    · have hlti : (k : Int) < n := by omega
      have hc := (HB.out.cell (p := a.add k) (by show (a.add k).block < _; unfold Addr.add; split <;> exact hb)).trans (HC.out k (by rw [HN.out]; exact hlt))
      have hkp : k < ps.length := by rw [HN.out]; exact hlt
      have hpp := HPP.out
      rw [List.drop_eq_getElem_cons hkp] at hpp
      obtain ⟨hs, hp2⟩ := hpp
      have hst := partsLen_step ps k hkp
      have hle := partsLen_le ps (k + 1)
      have HS := Lib.hid hs; have HP2 := Lib.hid hp2; have HST := Lib.hid hst; have HLE := Lib.hid hle
      clear hs hp2 hst hle
      go_wp2_with fail
      refine (Put_any w.heap.size D _ _ wr HH.out HS.out HD.out (HV.out.below HB.out) h1b (by have := HM.out; have := HLE.out; rw [HST.out] at this; omega)).mono ?_
      rintro e w2 ⟨rfl, h2, g2⟩
      have hend : Hid (SumSlot D ps w (.int .i64 ((k : Int) + 1)) w2) := Lib.hid ⟨k + 1, by omega, by rw [Int.natCast_succ], by rw [HST.out]; exact h2.hasP, HB.out.grown g2 HB.out.size (fun k hk => by injection hk with hk; omega), by rw [HST.out]; exact HP2.out⟩
      clear h2 g2
      go_wp2_with fail
      exact ⟨hend.out, by simp [intOf]; omega⟩
    · obtain rfl : k = n := by omega
      have hfull : ps.take k = ps := List.take_of_length_le (by rw [HN.out]; exact Nat.le_refl _)
      rw [hfull] at HH
      go_wp2_with fail
      refine (HSum_any w.heap.size D _ wr HH.out HD.out (HV.out.below HB.out) HM.out).mono ?_
      rintro e w2 ⟨rfl, h2⟩
      have H2 := Lib.hid (HB.out.trans (h2.mono HB.out.size))
      clear h2
      go_wp2_with fail
      go_ret
      exact ⟨rfl, H2.out⟩

set_option maxHeartbeats 2000000 in
set_option maxRecDepth 100000 in
theorem Sum_none (D : Nat → Int) (cap : Nat) (w : World) (hD : Bytes8 D) (hV : VarsAt w) :
    Calls Tryd.prog 15 #[.slice none 0 cap] w fun e w' => e = .returned (.string (shaB D 0)) ∧ Below w.heap.size w w' := by
  have hzv := hasher_zero.1
  obtain ⟨Z, hZ⟩ : ∃ Z, hZero = Z := ⟨_, rfl⟩
  rw [hZ] at hzv
  have h0 : HasP w.heap.size D 0 (w.alloc (.cells Z 80)) := Or.inl ⟨rfl, fun _ => 0, fun _ => 0, by rw [← hZ]; exact heap_alloc_last _ _, fun _ => ⟨Int.le_refl 0, by show (0 : Int) < 256; decide⟩⟩
  have H0 := Lib.hid h0; have HD := Lib.hid hD; have HV := Lib.hid hV
  have HB : Hid (Below w.heap.size w (w.alloc (.cells Z 80))) := Lib.hid ((Below.refl _ _).alloc (Nat.le_refl _) _)
  clear h0 hD hV hZ
  go_enter Tryd.func15, Tryd.ntmps15
  go_wp2_with fail
  refine wp_loop_rounds 1 ?_
  rw [rounds_succ]
  go_wp2_with fail
  refine (HSum_any w.heap.size D _ _ H0.out HD.out (HV.out.below HB.out) (by decide)).mono ?_
  rintro e w2 ⟨rfl, h2⟩
  have H2 := Lib.hid (HB.out.trans (h2.mono HB.out.size))
  clear h2
  go_wp2_with fail
  go_ret
  exact ⟨rfl, H2.out⟩
end Go.Proofs.YtaionhdamdhjjabDoor.Sha
