/- NumsOrder: what its walk comes to: true, for all ints and every text that can stand behind. -/
import Derived.Test.YtljlbgfggmkngaaJ
import Derived.Test.YtljlbgfggmkngaaL
namespace Go.Proofs.Ytljlbgfggmkngaa
open Go.RowKit

def ltI : List Int → List Int → Prop
  | _, [] => False
  | [], _ :: _ => True
  | a :: x, b :: y => a < b ∨ (a = b ∧ ltI x y)

theorem ltI_nil (x : List Int) : ltI x [] ↔ False := by cases x <;> exact Iff.rfl
theorem less_map : ∀ (xs ys : List Int), (∀ x ∈ xs, 0 ≤ x ∧ x < 256) → (∀ y ∈ ys, 0 ≤ y ∧ y < 256) → (Op.bytesLess (xs.map fun n => UInt8.ofNat n.toNat) (ys.map fun n => UInt8.ofNat n.toNat) = true ↔ ltI xs ys)
  | xs, [], _, _ => by simp [Op.bytesLess, ltI]
  | [], y :: ys, _, _ => by simp [Op.bytesLess, ltI]
  | x :: xs, y :: ys, hx, hy => by
    have ih := less_map xs ys (fun z h => hx z (by simp [h])) (fun z h => hy z (by simp [h]))
    have bx := hx x (by simp)
    have by' := hy y (by simp)
    have ex : (UInt8.ofNat x.toNat).toNat = x.toNat := by simp; omega
    have ey : (UInt8.ofNat y.toNat).toNat = y.toNat := by simp; omega
    have e1 : (UInt8.ofNat x.toNat < UInt8.ofNat y.toNat) ↔ x < y := by rw [UInt8.lt_iff_toNat_lt, ex, ey]; omega
    have e2 : (UInt8.ofNat x.toNat = UInt8.ofNat y.toNat) ↔ x = y := by rw [← UInt8.toNat_inj, ex, ey]; omega
    simp only [List.map_cons, Op.bytesLess, ltI, Bool.or_eq_true, Bool.and_eq_true, decide_eq_true_eq, beq_iff_eq, e1, e2, ih]

theorem rng_fol0 (n : Int) (h0 : 0 ≤ n) (h1 : n ≤ 1099511627776) (hf : folI n = 0) : 0 ≤ n ∧ n < 128 := by unfold folI at hf; repeat' (split at hf <;> try omega)
theorem rng_fol1 (n : Int) (h1 : n ≤ 1099511627776) (hf : folI n = 1) : 128 ≤ n ∧ n < 16384 := by unfold folI at hf; repeat' (split at hf <;> try omega)
theorem rng_fol2 (n : Int) (h1 : n ≤ 1099511627776) (hf : folI n = 2) : 16384 ≤ n ∧ n < 2097152 := by unfold folI at hf; repeat' (split at hf <;> try omega)
theorem rng_fol3 (n : Int) (h1 : n ≤ 1099511627776) (hf : folI n = 3) : 2097152 ≤ n ∧ n < 268435456 := by unfold folI at hf; repeat' (split at hf <;> try omega)
theorem rng_fol4 (n : Int) (h1 : n ≤ 1099511627776) (hf : folI n = 4) : 268435456 ≤ n ∧ n < 34359738368 := by unfold folI at hf; repeat' (split at hf <;> try omega)
theorem rng_fol5 (n : Int) (h1 : n ≤ 1099511627776) (hf : folI n = 5) : 34359738368 ≤ n ∧ n < 1099511627777 := by unfold folI at hf; repeat' (split at hf <;> try omega)

theorem put_rng (n : Int) (h0 : 0 ≤ n) (h1 : n ≤ 1099511627776) : ∀ x ∈ putI n, 0 ≤ x ∧ x < 256 := by
  rcases fol_cases n with h | h | h | h | h | h
  · have r := rng_fol0 n h0 h1 h; rw [put_fol0 n h0 h]; intro x hx; simp only [List.mem_cons, List.not_mem_nil, or_false] at hx; omega
  · have r := rng_fol1 n h1 h; rw [put_fol1 n h0 h]; intro x hx; simp only [List.mem_cons, List.not_mem_nil, or_false] at hx; omega
  · have r := rng_fol2 n h1 h; rw [put_fol2 n h0 h]; intro x hx; simp only [List.mem_cons, List.not_mem_nil, or_false] at hx; omega
  · have r := rng_fol3 n h1 h; rw [put_fol3 n h0 h]; intro x hx; simp only [List.mem_cons, List.not_mem_nil, or_false] at hx; omega
  · have r := rng_fol4 n h1 h; rw [put_fol4 n h0 h]; intro x hx; simp only [List.mem_cons, List.not_mem_nil, or_false] at hx; omega
  · have r := rng_fol5 n h1 h; rw [put_fol5 n h0 h]; intro x hx; simp only [List.mem_cons, List.not_mem_nil, or_false] at hx; omega

def valL (p : Int) (xs : List Int) : Int := xs.foldl (fun v x => v * 256 + x) p
theorem lex_val : ∀ (xs ys : List Int) (p q : Int), xs.length = ys.length → (∀ x ∈ xs, 0 ≤ x ∧ x < 256) → (∀ y ∈ ys, 0 ≤ y ∧ y < 256) → ((p < q ∨ (p = q ∧ ltI xs ys)) ↔ valL p xs < valL q ys)
  | [], [], p, q, _, _, _ => by simp [ltI, valL]
  | [], y :: ys, p, q, h, _, _ => by simp at h
  | x :: xs, [], p, q, h, _, _ => by simp at h
  | x :: xs, y :: ys, p, q, h, hx, hy => by
    have ih := lex_val xs ys (p * 256 + x) (q * 256 + y) (by simpa using h) (fun z h => hx z (by simp [h])) (fun z h => hy z (by simp [h]))
    have bx := hx x (by simp)
    have by' := hy y (by simp)
    have e : valL p (x :: xs) = valL (p * 256 + x) xs := rfl
    have e' : valL q (y :: ys) = valL (q * 256 + y) ys := rfl
    rw [e, e', ← ih]
    have h1 : p * 256 + x < q * 256 + y ↔ p < q ∨ (p = q ∧ x < y) := by omega
    have h2 : p * 256 + x = q * 256 + y ↔ p = q ∧ x = y := by omega
    simp only [ltI]
    rw [h1, h2]
    constructor
    · rintro (h | ⟨h, h' | ⟨h', h''⟩⟩)
      · exact .inl (.inl h)
      · exact .inl (.inr ⟨h, h'⟩)
      · exact .inr ⟨⟨h, h'⟩, h''⟩
    · rintro ((h | ⟨h, h'⟩) | ⟨⟨h, h'⟩, h''⟩)
      · exact .inl h
      · exact .inr ⟨h, .inl h'⟩
      · exact .inr ⟨h, .inr ⟨h', h''⟩⟩
theorem lex_top (x y : Int) (xs ys : List Int) (h : xs.length = ys.length) (hx : ∀ x ∈ xs, 0 ≤ x ∧ x < 256) (hy : ∀ y ∈ ys, 0 ≤ y ∧ y < 256) : ltI (x :: xs) (y :: ys) ↔ valL x xs < valL y ys := lex_val xs ys x y h hx hy

theorem dig_val0 (n : Int) : valL n [] = 0 + n := by simp [valL]
theorem dig_rng0 (_n : Int) : ∀ x ∈ ([] : List Int), 0 ≤ x ∧ x < 256 := by intro x hx; cases hx
theorem dig_val1 (n : Int) : valL (128 + n / 256) [n % 256] = 32768 + n := by simp only [valL, List.foldl_cons, List.foldl_nil]; omega
theorem dig_rng1 (n : Int) : ∀ x ∈ ([n % 256] : List Int), 0 ≤ x ∧ x < 256 := by intro x hx; simp only [List.mem_cons, List.not_mem_nil, or_false] at hx; omega
theorem dig_val2 (n : Int) : valL (192 + n / 65536) [n / 256 % 256, n % 256] = 12582912 + n := by simp only [valL, List.foldl_cons, List.foldl_nil]; omega
theorem dig_rng2 (n : Int) : ∀ x ∈ ([n / 256 % 256, n % 256] : List Int), 0 ≤ x ∧ x < 256 := by intro x hx; simp only [List.mem_cons, List.not_mem_nil, or_false] at hx; omega
theorem dig_val3 (n : Int) : valL (224 + n / 16777216) [n / 65536 % 256, n / 256 % 256, n % 256] = 3758096384 + n := by simp only [valL, List.foldl_cons, List.foldl_nil]; omega
theorem dig_rng3 (n : Int) : ∀ x ∈ ([n / 65536 % 256, n / 256 % 256, n % 256] : List Int), 0 ≤ x ∧ x < 256 := by intro x hx; simp only [List.mem_cons, List.not_mem_nil, or_false] at hx; omega
theorem dig_val4 (n : Int) : valL (240 + n / 4294967296) [n / 16777216 % 256, n / 65536 % 256, n / 256 % 256, n % 256] = 1030792151040 + n := by simp only [valL, List.foldl_cons, List.foldl_nil]; omega
theorem dig_rng4 (n : Int) : ∀ x ∈ ([n / 16777216 % 256, n / 65536 % 256, n / 256 % 256, n % 256] : List Int), 0 ≤ x ∧ x < 256 := by intro x hx; simp only [List.mem_cons, List.not_mem_nil, or_false] at hx; omega
theorem dig_val5 (n : Int) : valL (248 + n / 1099511627776) [n / 4294967296 % 256, n / 16777216 % 256, n / 65536 % 256, n / 256 % 256, n % 256] = 272678883688448 + n := by simp only [valL, List.foldl_cons, List.foldl_nil]; omega
theorem dig_rng5 (n : Int) : ∀ x ∈ ([n / 4294967296 % 256, n / 16777216 % 256, n / 65536 % 256, n / 256 % 256, n % 256] : List Int), 0 ≤ x ∧ x < 256 := by intro x hx; simp only [List.mem_cons, List.not_mem_nil, or_false] at hx; omega

theorem put_lt (a b : Int) (a0 : 0 ≤ a) (a1 : a ≤ 1099511627776) (b0 : 0 ≤ b) (b1 : b ≤ 1099511627776) : ltI (putI a) (putI b) ↔ a < b := by
  rcases fol_cases a with h | h | h | h | h | h <;> rcases fol_cases b with g | g | g | g | g | g
  · rw [put_fol0 a a0 h, put_fol0 b b0 g, lex_top _ _ _ _ (by rfl) (dig_rng0 a) (dig_rng0 b), dig_val0 a, dig_val0 b]; omega
  · have r := rng_fol0 a a0 a1 h; have q := rng_fol1 b b1 g; rw [put_fol0 a a0 h, put_fol1 b b0 g]; simp only [ltI]; omega
  · have r := rng_fol0 a a0 a1 h; have q := rng_fol2 b b1 g; rw [put_fol0 a a0 h, put_fol2 b b0 g]; simp only [ltI]; omega
  · have r := rng_fol0 a a0 a1 h; have q := rng_fol3 b b1 g; rw [put_fol0 a a0 h, put_fol3 b b0 g]; simp only [ltI]; omega
  · have r := rng_fol0 a a0 a1 h; have q := rng_fol4 b b1 g; rw [put_fol0 a a0 h, put_fol4 b b0 g]; simp only [ltI]; omega
  · have r := rng_fol0 a a0 a1 h; have q := rng_fol5 b b1 g; rw [put_fol0 a a0 h, put_fol5 b b0 g]; simp only [ltI]; omega
  · have r := rng_fol1 a a1 h; have q := rng_fol0 b b0 b1 g; rw [put_fol1 a a0 h, put_fol0 b b0 g]; simp only [ltI]; omega
  · rw [put_fol1 a a0 h, put_fol1 b b0 g, lex_top _ _ _ _ (by rfl) (dig_rng1 a) (dig_rng1 b), dig_val1 a, dig_val1 b]; omega
  · have r := rng_fol1 a a1 h; have q := rng_fol2 b b1 g; rw [put_fol1 a a0 h, put_fol2 b b0 g]; simp only [ltI]; omega
  · have r := rng_fol1 a a1 h; have q := rng_fol3 b b1 g; rw [put_fol1 a a0 h, put_fol3 b b0 g]; simp only [ltI]; omega
  · have r := rng_fol1 a a1 h; have q := rng_fol4 b b1 g; rw [put_fol1 a a0 h, put_fol4 b b0 g]; simp only [ltI]; omega
  · have r := rng_fol1 a a1 h; have q := rng_fol5 b b1 g; rw [put_fol1 a a0 h, put_fol5 b b0 g]; simp only [ltI]; omega
  · have r := rng_fol2 a a1 h; have q := rng_fol0 b b0 b1 g; rw [put_fol2 a a0 h, put_fol0 b b0 g]; simp only [ltI]; omega
  · have r := rng_fol2 a a1 h; have q := rng_fol1 b b1 g; rw [put_fol2 a a0 h, put_fol1 b b0 g]; simp only [ltI]; omega
  · rw [put_fol2 a a0 h, put_fol2 b b0 g, lex_top _ _ _ _ (by rfl) (dig_rng2 a) (dig_rng2 b), dig_val2 a, dig_val2 b]; omega
  · have r := rng_fol2 a a1 h; have q := rng_fol3 b b1 g; rw [put_fol2 a a0 h, put_fol3 b b0 g]; simp only [ltI]; omega
  · have r := rng_fol2 a a1 h; have q := rng_fol4 b b1 g; rw [put_fol2 a a0 h, put_fol4 b b0 g]; simp only [ltI]; omega
  · have r := rng_fol2 a a1 h; have q := rng_fol5 b b1 g; rw [put_fol2 a a0 h, put_fol5 b b0 g]; simp only [ltI]; omega
  · have r := rng_fol3 a a1 h; have q := rng_fol0 b b0 b1 g; rw [put_fol3 a a0 h, put_fol0 b b0 g]; simp only [ltI]; omega
  · have r := rng_fol3 a a1 h; have q := rng_fol1 b b1 g; rw [put_fol3 a a0 h, put_fol1 b b0 g]; simp only [ltI]; omega
  · have r := rng_fol3 a a1 h; have q := rng_fol2 b b1 g; rw [put_fol3 a a0 h, put_fol2 b b0 g]; simp only [ltI]; omega
  · rw [put_fol3 a a0 h, put_fol3 b b0 g, lex_top _ _ _ _ (by rfl) (dig_rng3 a) (dig_rng3 b), dig_val3 a, dig_val3 b]; omega
  · have r := rng_fol3 a a1 h; have q := rng_fol4 b b1 g; rw [put_fol3 a a0 h, put_fol4 b b0 g]; simp only [ltI]; omega
  · have r := rng_fol3 a a1 h; have q := rng_fol5 b b1 g; rw [put_fol3 a a0 h, put_fol5 b b0 g]; simp only [ltI]; omega
  · have r := rng_fol4 a a1 h; have q := rng_fol0 b b0 b1 g; rw [put_fol4 a a0 h, put_fol0 b b0 g]; simp only [ltI]; omega
  · have r := rng_fol4 a a1 h; have q := rng_fol1 b b1 g; rw [put_fol4 a a0 h, put_fol1 b b0 g]; simp only [ltI]; omega
  · have r := rng_fol4 a a1 h; have q := rng_fol2 b b1 g; rw [put_fol4 a a0 h, put_fol2 b b0 g]; simp only [ltI]; omega
  · have r := rng_fol4 a a1 h; have q := rng_fol3 b b1 g; rw [put_fol4 a a0 h, put_fol3 b b0 g]; simp only [ltI]; omega
  · rw [put_fol4 a a0 h, put_fol4 b b0 g, lex_top _ _ _ _ (by rfl) (dig_rng4 a) (dig_rng4 b), dig_val4 a, dig_val4 b]; omega
  · have r := rng_fol4 a a1 h; have q := rng_fol5 b b1 g; rw [put_fol4 a a0 h, put_fol5 b b0 g]; simp only [ltI]; omega
  · have r := rng_fol5 a a1 h; have q := rng_fol0 b b0 b1 g; rw [put_fol5 a a0 h, put_fol0 b b0 g]; simp only [ltI]; omega
  · have r := rng_fol5 a a1 h; have q := rng_fol1 b b1 g; rw [put_fol5 a a0 h, put_fol1 b b0 g]; simp only [ltI]; omega
  · have r := rng_fol5 a a1 h; have q := rng_fol2 b b1 g; rw [put_fol5 a a0 h, put_fol2 b b0 g]; simp only [ltI]; omega
  · have r := rng_fol5 a a1 h; have q := rng_fol3 b b1 g; rw [put_fol5 a a0 h, put_fol3 b b0 g]; simp only [ltI]; omega
  · have r := rng_fol5 a a1 h; have q := rng_fol4 b b1 g; rw [put_fol5 a a0 h, put_fol4 b b0 g]; simp only [ltI]; omega
  · rw [put_fol5 a a0 h, put_fol5 b b0 g, lex_top _ _ _ _ (by rfl) (dig_rng5 a) (dig_rng5 b), dig_val5 a, dig_val5 b]; omega

theorem put_less (a b : Int) (a0 : 0 ≤ a) (a1 : a ≤ 1099511627776) (b0 : 0 ≤ b) (b1 : b ≤ 1099511627776) : Op.bytesLess (strOfNums (putI a)).toList (strOfNums (putI b)).toList = decide (a < b) := by
  rw [ByteArray.toList_eq, ByteArray.toList_eq, strOfNums_data, strOfNums_data, Bool.eq_iff_iff, less_map _ _ (put_rng a a0 a1) (put_rng b b0 b1), put_lt a b a0 a1 b0 b1, decide_eq_true_eq]

/-- No number's bytes are the beginning of another one's. -/
theorem put_apart (a b : Int) (a0 : 0 ≤ a) (a1 : a ≤ 1099511627776) (b0 : 0 ≤ b) (b1 : b ≤ 1099511627776) (hne : a ≠ b) (_hl : (strOfNums (putI a)).size ≤ (strOfNums (putI b)).size) : (((strOfNums (putI b)).extract 0 (strOfNums (putI a)).size).toList == (strOfNums (putI a)).toList) = false := by
  rw [beq_eq_false_iff_ne]
  intro h
  rw [ByteArray.toList_eq, ByteArray.toList_eq] at h
  have hb := getI_put b ⟨#[]⟩ b0 b1
  have e : strOfNums (putI b) ++ (⟨#[]⟩ : ByteArray) = strOfNums (putI a) ++ mkB ((strOfNums (putI b)).data.toList.drop (strOfNums (putI a)).size) := by
    apply ba_ext
    rw [ByteArray.data_append, ByteArray.data_append, Array.toList_append, Array.toList_append, mkB_data]
    rw [ext_list, List.drop_zero, Nat.sub_zero] at h
    rw [← h]
    have e2 : (⟨#[]⟩ : ByteArray).data.toList = [] := rfl
    have hz : (strOfNums (putI a)).size = (strOfNums (putI a)).data.toList.length := by simp
    rw [e2, List.append_nil]
    conv => lhs; rw [← List.take_append_drop (strOfNums (putI a)).size (strOfNums (putI b)).data.toList]
  rw [e, getI_put a _ a0 a1] at hb
  exact hne (congrArg Prod.fst hb)

theorem i64_and40 (n : Int) : bits .and .i64 n 1099511627775 = n % 1099511627776 := by
  have h40 : (BitVec.ofInt 64 1099511627775).toNat = 2 ^ 40 - 1 := by decide
  have key : (BitVec.ofInt 64 n &&& BitVec.ofInt 64 1099511627775).toNat = (n % ((2 ^ 64 : Nat) : Int)).toNat % 2 ^ 40 := by
    rw [BitVec.toNat_and, BitVec.toNat_ofInt, h40, Nat.and_two_pow_sub_one_eq_mod]
  show IntKind.i64.wrap ((BitVec.ofInt 64 n &&& BitVec.ofInt 64 1099511627775).toNat : Nat) = n % 1099511627776
  rw [key, IntKind.wrap_i64]
  omega

theorem ret_bool {b c : Bool} (h : b = c) : Ending.returned (.bool b) = .returned (.bool c) := by rw [h]

theorem order_any (a b : Int) (t : ByteArray) (w : World) (hm : t.size ≤ 140737488351232) :
    Calls Try.prog 5 #[.int .i64 a, .int .i64 b, .string t] w fun e w' => e = .returned (.bool true) ∧ Below w.heap.size w w' := by
  obtain ⟨x, hx, x0, x1⟩ : ∃ x, bits .and .i64 a 1099511627775 = x ∧ 0 ≤ x ∧ x ≤ 1099511627776 := ⟨_, i64_and40 a, by omega, by omega⟩
  obtain ⟨y, hy, y0, y1⟩ : ∃ y, bits .and .i64 b 1099511627775 = y ∧ 0 ≤ y ∧ y ≤ 1099511627776 := ⟨_, i64_and40 b, by omega, by omega⟩
  have hg := getI_put x t x0 x1
  have hsz := putI_size x
  have hle := put_less x y x0 x1 y0 y1
  have hap := put_apart x y x0 x1 y0 y1
  obtain ⟨p, hp⟩ : ∃ p, strOfNums (putI x) = p := ⟨_, rfl⟩
  obtain ⟨q, hq⟩ : ∃ q, strOfNums (putI y) = q := ⟨_, rfl⟩
  rw [hp] at hg hsz hle hap
  rw [hq] at hle hap
  rw [← hsz] at hg
  have HP := Lib.hid hp; have HQ := Lib.hid hq; have HG := Lib.hid hg
  have hcore : Hid (x = y ∨ (x ≠ y ∧ q.size < p.size) ∨ (x ≠ y ∧ p.size ≤ q.size ∧ ((q.extract 0 p.size).toList == p.toList) = false)) := Lib.hid (by
    by_cases h1 : x = y
    · exact .inl h1
    · by_cases h2 : q.size < p.size
      · exact .inr (.inl ⟨h1, h2⟩)
      · exact .inr (.inr ⟨h1, by omega, hap h1 (by omega)⟩))
  have hsz6 : Hid (p.size ≤ 6) := Lib.hid (by rcases fol_cases x with h | h | h | h | h | h <;> omega)
  clear hp hq hg hsz hap
  go_enter Try.func5, Try.ntmps5
  go_wp2_with fail
  refine (speaks_any _).mono ?_
  rintro e w1 ⟨rfl, hw1⟩
  go_wp2_with fail
  refine (put_nat _ p _ x0 x1 HP.out).mono ?_
  rintro e w2 ⟨rfl, hw2⟩
  go_wp2_with fail
  refine (put_nat _ q _ y0 y1 HQ.out).mono ?_
  rintro e w3 ⟨rfl, hw3⟩
  have hps : Hid (p.size ≤ 6) := hsz6
  have hno : ¬ 9223372036854775807 < p.size + t.size := by have := hps.out; omega
  go_wp2_with fail
  refine (get_vars _ x p.size 0 _ (by rw [ByteArray.size_append]; unfold maxLen; omega) HG.out).mono ?_
  rintro e w4 ⟨rfl, hw4⟩
  go_wp2_with fail
  all_goals
    go_ret
    refine ⟨ret_bool ?_, bel_trans (bel_trans (bel_trans hw1 hw2) hw3) hw4⟩
    have hcc := hcore.out
    first
      | rfl
      | (rcases hcc with h | ⟨h, h'⟩ | ⟨h, h', h''⟩
         · first | (exfalso; exact ‹¬ x = y› h) | simp [h]
         · first | (exfalso; omega) | simp [h, h'] | (simp [h]; omega)
         · first | (exfalso; omega) | simp [h''])
end Go.Proofs.Ytljlbgfggmkngaa

