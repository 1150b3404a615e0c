/- Sector: two disks beside one another; short; a slice of acts. -/
import Derived.Test.YtaionhdamdhjjaaSu
namespace Go.Proofs.Ytaionhdamdhjjaa
open Go.RowKit
variable {B n g gd gc cd cc : Nat} {vw vk : Value} {S : DS} {w : World}

theorem short_size (s : ByteArray) : (s.extract 0 (min s.size 512)).size ≤ 512 := by rw [ByteArray.size_extract]; omega
theorem and_three (x : Int) : bits .and .i64 x 3 = (((x % 4).toNat : Nat) : Int) := by
  have h1 : (BitVec.ofInt 64 3).toNat = 2 ^ 2 - 1 := by decide
  have key : (BitVec.ofInt 64 x &&& BitVec.ofInt 64 3).toNat = (x % ((2 ^ 64 : Nat) : Int)).toNat % 2 ^ 2 := by
    rw [BitVec.toNat_and, BitVec.toNat_ofInt, h1, Nat.and_two_pow_sub_one_eq_mod]
  show IntKind.i64.wrap ((BitVec.ofInt 64 x &&& BitVec.ofInt 64 3).toNat : Nat) = _
  rw [key, IntKind.wrap_i64]
  omega
theorem IsD.base {B' : Nat} (h : IsD B n g gd gc cd cc vw vk S w) (hB : B' ≤ B) : IsD B' n g gd gc cd cc vw vk S w := by
  have lo : ∀ {e size m v} {xs : List Value}, w.ownsRow B e size v m xs → w.ownsRow B' e size v m xs := fun {e size m v xs} h => ⟨h.1, by
    rcases h.2 with h1 | ⟨x, cap, cur, h1, h2, h3⟩
    · exact .inl h1
    · exact .inr ⟨x, cap, cur, h1, Nat.le_trans hB h2, h3⟩⟩
  exact ⟨h.d, h.rd, h.rc, h.ld, h.lc, lo h.vw, h.wb, lo h.vk, h.ne, Nat.le_trans hB h.b1, Nat.le_trans hB h.b2, Nat.le_trans hB h.b3⟩
/-- The blocks of one disk that are written aren't those of another one. -/
structure Apart (ga gda gca gb gdb gcb : Nat) (va vb : Value) : Prop where
  g : ga ≠ gb
  dd : gda ≠ gdb
  dc : gda ≠ gcb
  cd : gca ≠ gdb
  cc : gca ≠ gcb
  w : ∀ x, va.ownBlock = some x → vb.ownBlock ≠ some x
theorem Apart.symm {ga gda gca gb gdb gcb : Nat} {va vb : Value} (h : Apart ga gda gca gb gdb gcb va vb) : Apart gb gdb gcb ga gda gca vb va :=
  ⟨Ne.symm h.g, Ne.symm h.dd, Ne.symm h.cd, Ne.symm h.dc, Ne.symm h.cc, fun x h1 h2 => h.w x h2 h1⟩
/-- What is written to one disk leaves another one as it is. -/
theorem IsD.other {na ga gda gca cda cca nb gb gdb gcb cdb ccb : Nat} {va ka vb kb va' : Value} {Sa Sb : DS} {w' : World} (ha : IsD B na ga gda gca cda cca va ka Sa w) (hb : IsD B nb gb gdb gcb cdb ccb vb kb Sb w) (ap : Apart ga gda gca gb gdb gcb va vb) (f : FrD B ga gda gca va w w') (hv : ∀ x, va'.ownBlock = some x → va.ownBlock = some x ∨ w.heap.size ≤ x) :
    IsD B nb gb gdb gcb cdb ccb vb kb Sb w' ∧ Apart ga gda gca gb gdb gcb va' vb := by
  obtain ⟨c1, h1, _⟩ := ha.rd
  obtain ⟨c2, h2, _⟩ := ha.rc
  obtain ⟨c3, h3, _⟩ := hb.rd
  obtain ⟨c4, h4, _⟩ := hb.rc
  have h0 : w.heap[ga]? = _ := ha.d
  have h5 : w.heap[gb]? = _ := hb.d
  have ne : ∀ {x y : Nat} {c c' : Array Value} {t t' : TypeId}, w.heap[x]? = some (.cells c t (0, 0)) → w.heap[y]? = some (.cells c' t' (0, 0)) → t ≠ t' → x ≠ y := fun {x y c c' t t'} hx hy ht e => by
    subst e
    rw [hx] at hy
    injection hy with hy
    injection hy with _ hy
    exact ht hy
  refine ⟨hb.keep fun b e => ?_, ⟨ap.g, ap.dd, ap.dc, ap.cd, ap.cc, fun x h1 h2 => ?_⟩⟩
  · have hl := (hb.lts e).2
    rcases e with rfl | rfl | rfl | e | e
    · exact f.block b hl (Ne.symm ap.g) (ne h5 h1 (by decide)) (ne h5 h2 (by decide)) (fun e2 => by obtain ⟨c, hc⟩ := own_block ha.vw e2; exact ne h5 hc (by decide) rfl)
    · exact f.block b hl (ne h3 h0 (by decide)) (Ne.symm ap.dd) (Ne.symm ap.cd) (fun e2 => by obtain ⟨c, hc⟩ := own_block ha.vw e2; exact ne h3 hc (by decide) rfl)
    · exact f.block b hl (ne h4 h0 (by decide)) (Ne.symm ap.dc) (Ne.symm ap.cc) (fun e2 => by obtain ⟨c, hc⟩ := own_block ha.vw e2; exact ne h4 hc (by decide) rfl)
    · obtain ⟨c, hc⟩ := own_block hb.vw e
      exact f.block b hl (ne hc h0 (by decide)) (ne hc h1 (by decide)) (ne hc h2 (by decide)) (fun e2 => ap.w b e2 e)
    · obtain ⟨c, hc⟩ := own_block hb.vk e
      exact f.block b hl (ne hc h0 (by decide)) (ne hc h1 (by decide)) (ne hc h2 (by decide)) (fun e2 => by obtain ⟨c', hc'⟩ := own_block ha.vw e2; exact ne hc hc' (by decide) rfl)
  · rcases hv x h1 with h6 | h6
    · exact ap.w x h6 h2
    · exact absurd (hb.vw.lt x h2).2 (by omega)
/-- The slice v is a list of acts: the sector and the data of each. -/
def IsActs (w : World) (a : Option Addr) (len : Nat) (zs : List (Int × ByteArray)) : Prop :=
  zs.length = len ∧ (0 < len → ∃ b o, a = some ⟨b, o, none⟩ ∧ b < w.heap.size ∧ ∀ i z, zs[i]? = some z → w.cell? ⟨b, o + (i * 4 + 1), none⟩ = some (.int .i64 z.1) ∧ w.cell? ⟨b, o + (i * 4 + 2), none⟩ = some (.string z.2))
theorem IsActs.below {a : Option Addr} {len : Nat} {zs : List (Int × ByteArray)} {w' : World} (h : IsActs w a len zs) (hb : Below w.heap.size w w') : IsActs w' a len zs :=
  ⟨h.1, fun h0 => by
    obtain ⟨b, o, h1, h2, h3⟩ := h.2 h0
    exact ⟨b, o, h1, Nat.lt_of_lt_of_le h2 hb.size, fun i z hz => ⟨cell_below hb (h3 i z hz).1, cell_below hb (h3 i z hz).2⟩⟩⟩
end Go.Proofs.Ytaionhdamdhjjaa
