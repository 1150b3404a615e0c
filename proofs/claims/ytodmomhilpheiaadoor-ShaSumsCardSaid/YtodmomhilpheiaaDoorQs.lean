/- The document's Sum: plain facts; the law of an append to the text. -/
import Derived.Test.YtodmomhilpheiaaDoorQr
namespace Go.Proofs.YtodmomhilpheiaaDoor
open Go.RowKit

theorem wpList_append_text (W : World) {ops : Array Oper} {rest : List Oper} {o : Oper} {a : Act} {Q : Exit → Act → World → Prop} (hgd : o.guard = none) (s x : Operand)
    (ho : o.op = .call { callee := .builtin .append, args := #[s, x], argTypes := #[44, 44] }) (hty : o.type = 44)
    (B g cap m : Nat) (F : Nat → Int) (h : TextAt W B g cap m F) (hs : a.eval s = .slice (some ⟨g, 0, none⟩) m cap) (c : Int) (hF : F m = c) (hx : a.eval x = .slice (some ⟨W.heap.size, 0, none⟩) 1 1) (hm : m ≤ 1000000)
    (hK : ∀ g' cap' w', TextAt w' B g' cap' (m + 1) F → W.grownBy w' (some g) → wpList Tryd.prog ops Q rest (a.put o.dst (.slice (some ⟨g', 0, none⟩) (m + 1) cap')) w') : wpList Tryd.prog ops Q (o :: rest) a (W.alloc (.cells #[.int .u8 c] 5)) := by
  have hsz : (W.alloc (.cells #[.int .u8 c] 5)).heap.size = W.heap.size + 1 := by show (W.heap.push _).size = _; simp
  have hb : Below W.heap.size W (W.alloc (.cells #[.int .u8 c] 5)) := (Below.refl _ _).alloc (Nat.le_refl _) _
  have hnew : (W.alloc (.cells #[.int .u8 c] 5)).cell? ⟨(W.alloc (.cells #[.int .u8 c] 5)).heap.size - 1, 0, none⟩ = some (.int .u8 c) := by
    rw [hsz, Nat.add_sub_cancel]
    have e : (W.alloc (.cells #[.int .u8 c] 5)).heap[W.heap.size]? = some (.cells #[.int .u8 c] 5 (0, 0)) := heap_alloc_new W _
    unfold World.cell?
    simp only [e]
    rfl
  obtain ⟨g', cap', w', hrun, ht, hg, _⟩ := run_append_text (W.alloc (.cells #[.int .u8 c] 5)) B g cap m F (h.below hb) c hnew hF (by rw [hsz, Nat.add_sub_cancel]; exact h.2.1) hm
  rw [hsz, Nat.add_sub_cancel] at hrun
  refine wpList_plain hgd fun K hK' => ?_
  unfold Oper.wp execOp
  simp only [ho, hty, resolve, invoke, builtin, Sem.run_bind, Sem.run_pure, Result.andThen_ok, List.map_toArray, List.map_cons, List.map_nil, hs, hx, hrun]
  refine hK' _ _ (hK g' cap' w' ht ⟨hg.os, hg.tape, hg.output, Nat.le_trans (by rw [hsz]; omega) hg.size, fun k hk hne => (hg.block k (by rw [hsz]; omega) hne).trans (hb.block k hk)⟩)

theorem padF_one (D : Nat → Int) (n : Nat) : padF D n n = 128 := by unfold padF; rw [if_neg (by omega), if_pos rfl]
theorem padF_zero (D : Nat → Int) (n m : Nat) (h1 : n < m) (h2 : m < 64 * nblk n - 8) : padF D n m = 0 := by unfold padF; rw [if_neg (by omega), if_neg (by omega), if_pos h2]
theorem nblk_rng (n : Nat) : n + 1 ≤ 64 * nblk n - 8 ∧ 8 ≤ 64 * nblk n ∧ nblk n ≤ n / 64 + 2 := by unfold nblk; split <;> omega
theorem nblk_at (n m : Nat) (h1 : n + 1 ≤ m) (h2 : m ≤ 64 * nblk n - 8) : m % 64 = 56 ↔ m = 64 * nblk n - 8 := by
  unfold nblk at *
  split at h2 <;> rename_i h <;> (simp only [h, if_true, if_false]; omega)
theorem padF_len (D : Nat → Int) (n j : Nat) (h : j < 8) : padF D n (64 * nblk n - 8 + j) = lenF n j := by
  have := nblk_rng n
  unfold padF
  rw [if_neg (by omega), if_neg (by omega), if_neg (by omega)]
  congr 1
  omega
theorem lenF_val (n j : Nat) (h : j < 8) (hn : n ≤ 3000) : lenF n j = (8 * (n : Int)) / 2 ^ (8 * (7 - j)) % 256 := by
  unfold lenF
  rcases (show j = 0 ∨ j = 1 ∨ j = 2 ∨ j = 3 ∨ j = 4 ∨ j = 5 ∨ j = 6 ∨ j = 7 by omega) with rfl | rfl | rfl | rfl | rfl | rfl | rfl | rfl <;> simp <;> omega

set_option maxHeartbeats 1000000 in
set_option maxRecDepth 100000 in
theorem roots_any (w : World) :
    Calls Tryd.prog 16 #[] w fun e w' => e = .returned (.slice (some ⟨w.heap.size, 0, none⟩) 64 64) ∧ w' = w.alloc (.cells (u32s kkF 64) 25) := by
  have hk : u32s kkF 64 = #[.int .u32 1116352408, .int .u32 1899447441, .int .u32 3049323471, .int .u32 3921009573, .int .u32 961987163, .int .u32 1508970993, .int .u32 2453635748, .int .u32 2870763221, .int .u32 3624381080, .int .u32 310598401, .int .u32 607225278, .int .u32 1426881987, .int .u32 1925078388, .int .u32 2162078206, .int .u32 2614888103, .int .u32 3248222580, .int .u32 3835390401, .int .u32 4022224774, .int .u32 264347078, .int .u32 604807628, .int .u32 770255983, .int .u32 1249150122, .int .u32 1555081692, .int .u32 1996064986, .int .u32 2554220882, .int .u32 2821834349, .int .u32 2952996808, .int .u32 3210313671, .int .u32 3336571891, .int .u32 3584528711, .int .u32 113926993, .int .u32 338241895, .int .u32 666307205, .int .u32 773529912, .int .u32 1294757372, .int .u32 1396182291, .int .u32 1695183700, .int .u32 1986661051, .int .u32 2177026350, .int .u32 2456956037, .int .u32 2730485921, .int .u32 2820302411, .int .u32 3259730800, .int .u32 3345764771, .int .u32 3516065817, .int .u32 3600352804, .int .u32 4094571909, .int .u32 275423344, .int .u32 430227734, .int .u32 506948616, .int .u32 659060556, .int .u32 883997877, .int .u32 958139571, .int .u32 1322822218, .int .u32 1537002063, .int .u32 1747873779, .int .u32 1955562222, .int .u32 2024104815, .int .u32 2227730452, .int .u32 2361852424, .int .u32 2428436474, .int .u32 2756734187, .int .u32 3204031479, .int .u32 3329325298] := by kernel_rfl
  rw [hk]
  go_enter Tryd.func16, Tryd.ntmps16
  go_wp2_with fail
  go_ret
  exact ⟨rfl, rfl⟩
end Go.Proofs.YtodmomhilpheiaaDoor
