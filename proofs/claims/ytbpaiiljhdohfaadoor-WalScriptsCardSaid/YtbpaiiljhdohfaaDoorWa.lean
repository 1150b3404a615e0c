/- Wal: a log as data: changes one behind the other, a commit, an opening. -/
import Derived.Test.YtbpaiiljhdohfaaDoorMd
import Derived.Test.YtbpaiiljhdohfaaDoorMe
namespace Go.Proofs.YtbpaiiljhdohfaaDoor
open Go.RowKit

/-- Sectors written one behind the other, up to the first that isn't. -/
def putsS : List (Nat × ByteArray) → DS → Int × DS
  | [], S => (0, S)
  | c :: x, S => if (writeS c.1 c.2 S).1 = 0 then putsS x (writeS c.1 c.2 S).2 else writeS c.1 c.2 S
/-- A step, and a further one if it was OK. -/
def thenS (a : Int × DS) (g : DS → Int × DS) : Int × DS := if a.1 = 0 then g a.2 else a
theorem thenS_ok {a : Int × DS} (g : DS → Int × DS) (h : a.1 = 0) : thenS a g = g a.2 := if_pos h
theorem thenS_no {a : Int × DS} (g : DS → Int × DS) (h : a.1 ≠ 0) : thenS a g = a := if_neg h
theorem thenS_assoc (a : Int × DS) (g k : DS → Int × DS) : thenS (thenS a g) k = thenS a fun S => thenS (g S) k := by
  by_cases h : a.1 = 0
  · rw [thenS_ok g h, thenS_ok _ h]
  · rw [thenS_no g h, thenS_no _ h, thenS_no _ h]
def makeS (x : List (Nat × ByteArray)) (S : DS) : Int × DS := thenS (putsS x S) syncS
/-- The images of texts, from a sector on. -/
def imagesOf : Nat → List ByteArray → List (Nat × ByteArray)
  | _, [] => []
  | f, s :: l => (f, s) :: imagesOf (f + 1) l
def mkBy (l : List UInt8) : ByteArray := ⟨l.toArray⟩
def hdL (x : List (Nat × ByteArray)) : List UInt8 := [87, 76, UInt8.ofNat x.length] ++ x.flatMap fun c => [UInt8.ofNat (c.1 / 256 % 256), UInt8.ofNat (c.1 % 256)]
def bodyL (x : List (Nat × ByteArray)) : List UInt8 := x.flatMap fun c => (padB c.2).data.toList
/-- The head that describes changes. -/
def headB (x : List (Nat × ByteArray)) : ByteArray := padB (mkBy (hdL x) ++ leB (crcL (hdL x ++ bodyL x)))
def recordS (f : Nat) (x : List (Nat × ByteArray)) (S : DS) : Int × DS := thenS (makeS (imagesOf (f + 1) (x.map (·.2))) S) (makeS [(f, headB x)])
def applyS (f : Nat) (x : List (Nat × ByteArray)) (S : DS) : Int × DS := thenS (makeS x S) (makeS [(f, ⟨#[]⟩)])
def commitS (f : Nat) (x : List (Nat × ByteArray)) (S : DS) : Int × DS := thenS (recordS f x S) (applyS f x)
/-- What may be changed: there are some, not too many, each outside of the log. -/
def Takes (n f m : Nat) (x : List (Int × ByteArray)) : Prop := 1 ≤ x.length ∧ x.length ≤ m ∧ ∀ c ∈ x, 0 ≤ c.1 ∧ c.1 < n ∧ (c.1 < f ∨ (f : Int) + 1 + m ≤ c.1) ∧ c.2.size ≤ 512
def natC (x : List (Int × ByteArray)) : List (Nat × ByteArray) := x.map fun c => (c.1.toNat, c.2)
def intC (x : List (Nat × ByteArray)) : List (Int × ByteArray) := x.map fun c => ((c.1 : Int), c.2)
theorem natC_length (x : List (Int × ByteArray)) : (natC x).length = x.length := List.length_map _
theorem intC_length (x : List (Nat × ByteArray)) : (intC x).length = x.length := List.length_map _
theorem intC_natC (x : List (Int × ByteArray)) (h : ∀ c ∈ x, 0 ≤ c.1) : intC (natC x) = x := by
  unfold intC natC
  rw [List.map_map]
  conv => rhs; rw [← List.map_id x]
  refine List.map_congr_left fun c hc => ?_
  show (((c.1.toNat : Nat) : Int), c.2) = c
  rw [Int.toNat_of_nonneg (h c hc)]
def byteAt (s : ByteArray) (i : Nat) : Nat := (s.data.getD i 0).toNat
/-- What a head says. -/
def descrS (f k : Nat) (S : DS) : List (Nat × ByteArray) := (List.range k).map fun i => (256 * byteAt (S.cur.getD f ⟨#[]⟩) (3 + 2 * i) + byteAt (S.cur.getD f ⟨#[]⟩) (4 + 2 * i), S.cur.getD (f + 1 + i) ⟨#[]⟩)
open Classical in
/-- The changes that are described; none if they can't be made. -/
noncomputable def foundS (n f m : Nat) (S : DS) : List (Nat × ByteArray) :=
  if byteAt (S.cur.getD f ⟨#[]⟩) 2 ≤ m ∧ S.cur.getD f ⟨#[]⟩ = headB (descrS f (byteAt (S.cur.getD f ⟨#[]⟩) 2) S) ∧ Takes n f m (intC (descrS f (byteAt (S.cur.getD f ⟨#[]⟩) 2) S)) then descrS f (byteAt (S.cur.getD f ⟨#[]⟩) 2) S else []
/-- An opening: how many were made, the error's number. -/
noncomputable def openS (n f m : Nat) (S : DS) : (Int × Int) × DS :=
  if S.off = true then ((0, 7), S) else if (foundS n f m S) = [] then ((0, 0), S) else
    if (applyS f (foundS n f m S) S).1 = 0 then (((foundS n f m S).length, 0), (applyS f (foundS n f m S) S).2) else ((0, 7), (applyS f (foundS n f m S) S).2)
end Go.Proofs.YtbpaiiljhdohfaaDoor
