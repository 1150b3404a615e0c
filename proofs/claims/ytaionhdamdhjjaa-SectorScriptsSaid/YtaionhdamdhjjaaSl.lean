/- Sector: a disk as data; omit and settle over it. -/
import Derived.Test.YtaionhdamdhjjaaSk
namespace Go.Proofs.Ytaionhdamdhjjaa
open Go.RowKit

/-- What a disk holds. -/
structure DS where
  dur : List ByteArray
  cur : List ByteArray
  ws : List (Nat × ByteArray)
  done : Nat
  left : Int
  kp : List Int
  off : Bool
/-- The block at g is a Disk that holds S, its rows in blocks of their own from B on. -/
structure IsD (B n g gd gc cd cc : Nat) (vw vk : Value) (S : DS) (w : World) : Prop where
  d : DiskAt g (.slice (some ⟨gd, 0, none⟩) n cd) (.slice (some ⟨gc, 0, none⟩) n cc) vw S.done S.left vk S.off w
  rd : RowS gd S.dur w
  rc : RowS gc S.cur w
  ld : S.dur.length = n
  lc : S.cur.length = n
  vw : w.ownsRow B 70 2 vw S.ws.length (flat S.ws)
  wb : ∀ p ∈ S.ws, p.1 < n
  vk : w.ownsRow B 3 1 vk S.kp.length (S.kp.map (Value.int .i64))
  ne : gd ≠ gc
  b1 : B ≤ g
  b2 : B ≤ gd
  b3 : B ≤ gc
/-- All blocks are as they were but the disk's that are written. -/
structure FrD (B g gd gc : Nat) (vw : Value) (w w' : World) : Prop where
  below : Below B w w'
  size : w.heap.size ≤ w'.heap.size
  block : ∀ b, b < w.heap.size → b ≠ g → b ≠ gd → b ≠ gc → vw.ownBlock ≠ some b → w'.heap[b]? = w.heap[b]?
theorem FrD.refl (B g gd gc : Nat) (vw : Value) (w : World) : FrD B g gd gc vw w w := ⟨Below.refl _ _, Nat.le_refl _, fun _ _ _ _ _ _ => rfl⟩
theorem FrD.trans {B g gd gc : Nat} {vw vw' : Value} {a b c : World} (h : FrD B g gd gc vw a b) (h' : FrD B g gd gc vw' b c) (hv : ∀ x, vw'.ownBlock = some x → vw.ownBlock = some x ∨ a.heap.size ≤ x) : FrD B g gd gc vw a c :=
  ⟨h.below.trans h'.below, Nat.le_trans h.size h'.size, fun x hx h1 h2 h3 h4 => (h'.block x (Nat.lt_of_lt_of_le hx h.size) h1 h2 h3 (fun e => by
    rcases hv x e with h5 | h5
    · exact h4 h5
    · omega)).trans (h.block x hx h1 h2 h3 h4)⟩
theorem FrD.of_kept2 {B g gd gc x : Nat} {vw : Value} {w w' : World} (h : Kept2 B g x w w') (hx : x = gd ∨ x = gc ∨ x = g ∨ vw.ownBlock = some x) : FrD B g gd gc vw w w' :=
  ⟨h.1, h.2.1, fun b hb h1 h2 h3 h4 => h.2.2 b hb h1 (fun e => by subst e; rcases hx with h5 | h5 | h5 | h5 <;> contradiction)⟩
theorem RowS.ne_disk {g gd : Nat} {l : List ByteArray} {du cu wr : Value} {done left : Int} {kp : Value} {off : Bool} {w : World} (hd : DiskAt g du cu wr done left kp off w) (h : RowS gd l w) : gd ≠ g := fun e => by
  subst e
  obtain ⟨cur, h1, _⟩ := h
  rw [show w.heap[gd]? = _ from hd] at h1
  injection h1 with h1
  injection h1 with _ h1
  exact absurd h1 (by decide)
/-- Where a row that is owned lies. -/
theorem own_block {w : World} {B e size n x : Nat} {v : Value} {xs : List Value} (h : w.ownsRow B e size v n xs) (hx : v.ownBlock = some x) : ∃ cur, w.heap[x]? = some (.cells cur e (0, 0)) := by
  rcases h.2 with ⟨hv, _⟩ | ⟨g, cap, cur, hv, _, hg, _⟩
  · rw [hv] at hx; cases hx
  · rw [hv] at hx; cases hx; exact ⟨cur, hg⟩
theorem own_ne {w : World} {B e size n x y e' : Nat} {v : Value} {xs : List Value} {cur : Array Value} (h : w.ownsRow B e size v n xs) (hx : v.ownBlock = some x) (hy : w.heap[y]? = some (.cells cur e' (0, 0))) (hne : e ≠ e') : x ≠ y := fun hxy => by
  subst hxy
  obtain ⟨c, hc⟩ := own_block h hx
  rw [hc] at hy
  injection hy with hy
  injection hy with _ h1
  exact hne h1
theorem own_same {w w' : World} {B e size n : Nat} {v : Value} {xs : List Value} (h : w.ownsRow B e size v n xs) (hb : ∀ b, v.ownBlock = some b → w'.heap[b]? = w.heap[b]?) : w'.ownsRow B e size v n xs := by
  refine ⟨h.1, ?_⟩
  rcases h.2 with hv | ⟨g, cap, cur, hv, hB, hg, r⟩
  · exact .inl hv
  · exact .inr ⟨g, cap, cur, hv, hB, (hb g (by rw [hv]; rfl)).trans hg, r⟩
variable {B n g gd gc cd cc : Nat} {vw vk : Value} {S : DS} {w : World}
theorem IsD.gdg (h : IsD B n g gd gc cd cc vw vk S w) : gd ≠ g := RowS.ne_disk h.d h.rd
theorem IsD.gcg (h : IsD B n g gd gc cd cc vw vk S w) : gc ≠ g := RowS.ne_disk h.d h.rc
theorem IsD.wg (h : IsD B n g gd gc cd cc vw vk S w) {x : Nat} (hx : vw.ownBlock = some x) : x ≠ g ∧ x ≠ gd ∧ x ≠ gc := by
  obtain ⟨c1, h1, _⟩ := h.rd
  obtain ⟨c2, h2, _⟩ := h.rc
  exact ⟨own_ne h.vw hx (show w.heap[g]? = _ from h.d) (by decide), own_ne h.vw hx h1 (by decide), own_ne h.vw hx h2 (by decide)⟩
theorem IsD.kg (h : IsD B n g gd gc cd cc vw vk S w) {x : Nat} (hx : vk.ownBlock = some x) : x ≠ g ∧ x ≠ gd ∧ x ≠ gc ∧ vw.ownBlock ≠ some x := by
  obtain ⟨c1, h1, _⟩ := h.rd
  obtain ⟨c2, h2, _⟩ := h.rc
  refine ⟨own_ne h.vk hx (show w.heap[g]? = _ from h.d) (by decide), own_ne h.vk hx h1 (by decide), own_ne h.vk hx h2 (by decide), fun e => ?_⟩
  obtain ⟨c3, h3⟩ := own_block h.vw e
  exact own_ne h.vk hx h3 (by decide) rfl
theorem IsD.keep (h : IsD B n g gd gc cd cc vw vk S w) {w' : World} (hb : ∀ b, b = g ∨ b = gd ∨ b = gc ∨ vw.ownBlock = some b ∨ vk.ownBlock = some b → w'.heap[b]? = w.heap[b]?) : IsD B n g gd gc cd cc vw vk S w' :=
  ⟨(hb g (.inl rfl)).trans h.d, h.rd.same (hb gd (.inr (.inl rfl))), h.rc.same (hb gc (.inr (.inr (.inl rfl)))), h.ld, h.lc, own_same h.vw fun b e => hb b (.inr (.inr (.inr (.inl e)))), h.wb, own_same h.vk fun b e => hb b (.inr (.inr (.inr (.inr e)))), h.ne, h.b1, h.b2, h.b3⟩
theorem IsD.lts (h : IsD B n g gd gc cd cc vw vk S w) {b : Nat} (hb : b = g ∨ b = gd ∨ b = gc ∨ vw.ownBlock = some b ∨ vk.ownBlock = some b) : B ≤ b ∧ b < w.heap.size := by
  rcases hb with rfl | rfl | rfl | e | e
  · exact ⟨h.b1, h.d.lt⟩
  · exact ⟨h.b2, h.rd.lt⟩
  · exact ⟨h.b3, h.rc.lt⟩
  · exact h.vw.lt b e
  · exact h.vk.lt b e
theorem IsD.below (h : IsD B n g gd gc cd cc vw vk S w) {w' : World} (hb : Below w.heap.size w w') : IsD B n g gd gc cd cc vw vk S w' := h.keep fun b e => hb.block b (h.lts e).2
/-- The row of the writes, opened. -/
theorem IsD.wr (h : IsD B n g gd gc cd cc vw vk S w) : (vw = .slice none 0 0 ∧ S.ws = []) ∨ ∃ gw cw cur, vw = .slice (some ⟨gw, 0, none⟩) S.ws.length cw ∧ B ≤ gw ∧ w.heap[gw]? = some (.cells cur 70 (0, 0)) ∧ S.ws.length ≤ cw ∧ cw ≤ maxLen ∧ cur.size = cw * 2 ∧ cur.toList.take (S.ws.length * 2) = flat S.ws := by
  rcases h.vw.2 with ⟨h1, h2⟩ | ⟨gw, cw, cur, h1⟩
  · exact .inl ⟨h1, List.length_eq_zero_iff.1 h2⟩
  · exact .inr ⟨gw, cw, cur, h1⟩
theorem wrAt_of {gw m : Nat} {ws : List (Nat × ByteArray)} {cur : Array Value} (hg : w.heap[gw]? = some (.cells cur 70 (0, 0))) (hm : ws.length = m) (ht : cur.toList.take (m * 2) = flat ws) : WrAt gw ws w := fun j p hp => by
  have hj : j < m := hm ▸ (List.getElem?_eq_some_iff.1 hp).1
  have hf := flat_get ws j p hp
  rw [← ht, List.getElem?_take, if_pos (by omega), List.getElem?_take, if_pos (by omega)] at hf
  unfold World.cell?
  simp only [hg]
  exact ⟨by rw [← Array.getElem?_toList]; exact hf.1, by rw [← Array.getElem?_toList]; exact hf.2⟩
theorem omit_nil (F : Fn) (cap : Array Value) (du cu : Value) (done left : Int) (kp : Value) (off : Bool) (h : DiskAt g du cu (.slice none 0 0) done left kp off w) (hB : B ≤ g) :
    Calls Try.prog 33 #[.pointer (some ⟨g, 0, none⟩), .func F #[] cap] w fun e w' => e = .returned (.tuple #[]) ∧ DiskAt g du cu (.slice none 0 0) done left kp off w' ∧ Kept2 B g gd w w' := by
  have c2 := h.c2
  have f2 := h.free 2
  have hcl := run_clear_none (P := Try.prog) w 56 70 Try.underlying56
  have hD2 : DiskAt g du cu (.slice none 0 0) done left kp off (w.setCell ⟨g, 2, none⟩ (.slice none 0 0)) := h.set 2 _
  have HD2 := Lib.hid hD2
  clear hD2 h
  go_enter Try.func33, Try.ntmps33
  go_wp2_with fail
  go_loopw [17, 4] (fun i v wr => i = .int .i64 0 ∧ v = .slice none 0 0 ∧ wr = w) (fun i _ _ => 0)
  case atStart => exact ⟨rfl, rfl, rfl⟩
  case round =>
    obtain ⟨rfl, rfl, rfl⟩ := hrel
    go_wp2_with (simp only [hcl])
    go_end0
    exact ⟨rfl, HD2.out, (Kept2.refl B g gd wr).setg hB 2 _⟩
end Go.Proofs.Ytaionhdamdhjjaa
