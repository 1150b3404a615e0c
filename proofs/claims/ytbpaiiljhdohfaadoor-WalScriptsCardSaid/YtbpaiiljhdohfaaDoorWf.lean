/- Wal: the head that describes changes. -/
import Derived.Test.YtbpaiiljhdohfaaDoorWe
namespace Go.Proofs.YtbpaiiljhdohfaaDoor
open Go.RowKit
variable {w : World}

def secB (c : Nat × ByteArray) : List UInt8 := [UInt8.ofNat (c.1 / 256 % 256), UInt8.ofNat (c.1 % 256)]
def hd3 (k : Nat) : List UInt8 := [87, 76, UInt8.ofNat k]
theorem hdL_eq (x : List (Nat × ByteArray)) : hdL x = hd3 x.length ++ x.flatMap secB := rfl
theorem leB_size' (c : B32) : (leB c).size = 4 := by unfold leB; rw [strOfNums_size]; rfl
def Wd1 (B k : Nat) (x : List (Nat × ByteArray)) (w : World) (i : Value) (wr : World) : Prop :=
  ∃ j : Nat, j ≤ k ∧ i = .int .i64 j ∧ Lib.IsBuilderF 116 5 B B (Lib.byteCells (hd3 k ++ (x.take j).flatMap secB)) wr ∧ Below B w wr
def Wd2 (B k : Nat) (x : List (Nat × ByteArray)) (w : World) (i : Value) (wr : World) : Prop :=
  ∃ j : Nat, j ≤ k ∧ i = .int .i64 j ∧ Lib.IsBuilderF 116 5 B B (Lib.byteCells (hdL x ++ bodyL (x.take j))) wr ∧ Below B w wr
theorem byteCells_one (v : Nat) (h : v < 256) : Lib.byteCells [UInt8.ofNat v] = [Value.int .u8 (v : Int)] := by
  show [Value.int .u8 _] = _
  congr 2
  show (((UInt8.ofNat v).toNat : Nat) : Int) = _
  rw [UInt8.toNat_ofNat']
  omega
theorem secs_len (x : List (Nat × ByteArray)) : (x.flatMap secB).length = 2 * x.length := by
  induction x with
  | nil => rfl
  | cons c x ih => rw [List.flatMap_cons, List.length_append, ih, List.length_cons]; show 2 + _ = _; omega
theorem body_len (x : List (Nat × ByteArray)) (h : ∀ c ∈ x, c.2.size ≤ 512) : (bodyL x).length = 512 * x.length := by
  unfold bodyL
  induction x with
  | nil => rfl
  | cons c x ih =>
    rw [List.flatMap_cons, List.length_append, ih (fun c hc => h c (List.mem_cons_of_mem _ hc)), List.length_cons]
    have : (padB c.2).data.toList.length = 512 := by rw [Array.length_toList]; exact padB_size _ (h c (List.mem_cons_self ..))
    omega
theorem flatMap_take {α β : Type} (f : α → List β) (x : List α) (j : Nat) (c : α) (h : x[j]? = some c) : (x.take (j + 1)).flatMap f = (x.take j).flatMap f ++ f c := by
  obtain ⟨h1, h2⟩ := List.getElem?_eq_some_iff.1 h
  rw [List.take_succ_eq_append_getElem h1, List.flatMap_append, h2]
  simp
theorem bldF_lt {w : World} {T e : TypeId} {B b : Nat} {bs : List Value} (h : Lib.IsBuilderF T e B b bs w) : b < w.heap.size := by
  rcases h with ⟨hB, v, hk, _⟩ | ⟨hB, v, hk, _⟩
  · exact lt_of_some hk
  · exact lt_of_some hk
theorem ownF_block {w : World} {B e size n x : Nat} {v : Value} {xs : List Value} (h : w.ownsRowF B e size v n xs) (hx : v.ownBlock = some x) : ∃ cur fz, w.heap[x]? = some (.cells cur e fz) := by
  rcases h.2 with ⟨hv, _⟩ | ⟨g, cap, cur, fz, hv, _, hg, _⟩
  · rw [hv] at hx; cases hx
  · rw [hv] at hx; cases hx; exact ⟨cur, _, hg⟩
theorem check_fk (B b : Nat) (bs : List Value) (w : World) (h : Lib.IsBuilderF 116 5 B b bs w) :
    Calls Tryd.prog 69 #[.pointer (some ⟨b, 0, none⟩)] w fun e w' => e = .returned (.tuple #[]) ∧ Lib.BuilderAtF 116 5 B b (.pointer (some ⟨b, 0, none⟩)) bs w' ∧ Below B w w' ∧ ∀ x, x ≠ b → w'.heap[x]? = w.heap[x]? := by
  rcases h with h | h
  · refine (check_fresh b w h.cell0 h.shape h.frozen0).mono ?_
    rintro e w' ⟨rfl, rfl⟩
    exact ⟨rfl, h.used _, (Below.refl B w).setCell (p := ⟨b, 0, none⟩) h.1 _, fun x hx => Below.heap_setCell _ _ _ _ (by show x ≠ b; exact hx)⟩
  · refine (check_used b w h.cell0).mono ?_
    rintro e w' ⟨rfl, rfl⟩
    exact ⟨rfl, h, Below.refl B _, fun _ _ => rfl⟩
set_option maxHeartbeats 1000000 in
set_option maxRecDepth 100000 in
theorem byte_fk (B b : Nat) (bs : List Value) (c : Int) (w : World) (h : Lib.IsBuilderF 116 5 B b bs w) (hlen : bs.length + 1 ≤ 140737488355328) (hBw : B ≤ w.heap.size) :
    Calls Tryd.prog 62 #[.pointer (some ⟨b, 0, none⟩), .int .u8 c] w fun e w' => e = .returned .nilIface ∧ Lib.IsBuilderF 116 5 B b (bs ++ [.int .u8 c]) w' ∧ Below B w w' ∧ ∀ (x : Nat) (cur : Array Value) (e : TypeId), w.heap[x]? = some (.cells cur e (0, 0)) → e ≠ 5 → x ≠ b → w'.heap[x]? = w.heap[x]? := by
  obtain ⟨i0, hi, hz0, hz1, hz2⟩ := info_parts byteInfo
  go_enter Tryd.func62, Tryd.ntmps62
  go_wp2_with (go_at_call 69; refine (check_fk B b bs _ h).mono ?_)
  rintro e w1 ⟨rfl, ⟨hB, v, hbk, hown, hne⟩, hb1, hkp⟩
  have HKP := Lib.hid hkp
  clear hkp
  have c0 : w1.cell? ⟨b, 0, none⟩ = some (.pointer (some ⟨b, 0, none⟩)) := by rw [Lib.cell_of_heap hbk]; rfl
  have c1 : w1.cell? ⟨b, 1, none⟩ = some v := by rw [Lib.cell_of_heap hbk]; rfl
  go_wp2_with (at_builtin; refine wpList_append_ownF _ rfl _ _ 100 rfl B 5 i0 (.int .u8 0) 1 1 Tryd.underlying100 hi hz0 hz1 hz2 rfl (by decide) _ _ _ rfl (hown.alloc _) ⟨w1.heap.size, 0, none⟩ 1 1 [.int .u8 c] rfl rfl ?c1 ?c2 ?c3 ?c4 ?c5 ?_)
  case c1 =>
    intro j u hj
    match j, hj with
    | 0, hj => simp at hj; subst hj; simp [Addr.add]
  case c2 => intro u hu; simp at hu; subst hu; rfl
  case c3 => unfold maxLen; omega
  case c4 => omega
  case c5 => have := hb1.size; simp; omega
  intro v' w2 hown' hgrow _
  have hlt : b < w1.heap.size := by
    rcases Nat.lt_or_ge b w1.heap.size with h' | h'
    · exact h'
    · simp [Array.getElem?_eq_none h'] at hbk
  have hb2 : w2.heap[b]? = some (.cells #[.pointer (some ⟨b, 0, none⟩), v] 116 (0, 0)) := by
    rw [hgrow.block b (by simp; omega) (fun e => hne e.symm), Lib.alloc_old w1 _ b hlt]
    exact hbk
  have d0 : w2.cell? ⟨b, 0, none⟩ = some (.pointer (some ⟨b, 0, none⟩)) := by rw [Lib.cell_of_heap hb2]; rfl
  have d1 : w2.cell? ⟨b, 1, none⟩ = some v := by rw [Lib.cell_of_heap hb2]; rfl
  have f1 : w2.frozen? ⟨b, 1, none⟩ = false := Lib.frozen_of_heap hb2 1
  obtain ⟨g, cap, rfl⟩ : ∃ g cap, v' = .slice (some ⟨g, 0, none⟩) (bs.length + 1) cap := by
    rcases hown'.2 with ⟨_, h0⟩ | ⟨g, cap, cur, fz, hv, _⟩
    · omega
    · exact ⟨g, cap, hv⟩
  go_wp2
  go_ret
  refine ⟨rfl, .inr ?_, ?_, ?_⟩
  · exact Lib.BuilderAtF.put (T := 116) (e := 5) hB hb2 (bs' := bs ++ [.int .u8 c]) (by simpa using hown') (by decide)
  · exact ((hb1.alloc (by have := hb1.size; omega) _).grown hgrow (by have := hb1.size; simp; omega) (fun k hk => (hown.lt k hk).1)).setCell (p := ⟨b, 1, none⟩) hB _
  · intro x cur e hx he hxb
    have e1 := (HKP.out x hxb).trans hx
    have hxl : x < w1.heap.size := (Array.getElem?_eq_some_iff.1 e1).1
    refine (Below.heap_setCell _ _ _ _ (by show x ≠ b; exact hxb)).trans ?_
    rw [hgrow.block x (by simp; omega) (fun hr => ?_), Lib.alloc_old w1 _ x hxl, HKP.out x hxb]
    obtain ⟨c', fz, hc'⟩ := ownF_block hown hr.symm
    rw [hc'] at e1
    injection e1 with e1
    injection e1 with _ e1
    exact he e1.symm

set_option maxHeartbeats 4000000 in
set_option maxRecDepth 100000 in
theorem describe_any (v : Value) (x : List (Nat × ByteArray)) (hx : ChRow w v (intC x)) (hk : ∀ c ∈ x, c.1 < 65536 ∧ c.2.size ≤ 512) (hl : x.length ≤ 64) (hV : CrcVars w) :
    Calls Tryd.prog 47 #[v] w fun e w' => e = .returned (.string (headB x)) ∧ Below w.heap.size w w' := by
  obtain ⟨ox, cx, hv, hxm, hc⟩ := hx.opened
  subst hv
  obtain ⟨k, hkl⟩ : ∃ k, x.length = k := ⟨_, rfl⟩
  have hki : (k : Int) ≤ 64 := by omega
  have hmod : (k : Int) % 256 = k := by omega
  rw [intC_length, hkl]
  have H0 := Lib.hid (Lib.IsBuilderF.of (Lib.fresh_isBuilder 116 5 w))
  have HB0 : Hid (Below w.heap.size w (w.alloc (.cells #[.pointer none, .slice none 0 0] 116))) := Lib.hid ((Below.refl _ _).alloc (Nat.le_refl _) _)
  have HLN : Hid (∀ j, (hd3 k ++ (x.take j).flatMap secB).length ≤ 131) := Lib.hid (fun j => by rw [List.length_append, secs_len]; have := List.length_take_le' j x; show 3 + _ ≤ _; omega)
  have HX := Lib.hid hkl; have HC := Lib.hid hc; have HV := Lib.hid hV; have HK := Lib.hid hk
  clear hx hc hV hk hkl hxm
  go_enter Tryd.func47, Tryd.ntmps47
  go_wp2_with fail
  refine (write_f w.heap.size w.heap.size [] ⟨#[87, 76]⟩ _ H0.out (by decide) HB0.out.size).mono ?_
  rintro e w1 ⟨rfl, h1, b1⟩
  have H1 := Lib.hid h1; have B1 := Lib.hid (HB0.out.trans b1)
  clear h1 b1
  go_wp2_with fail
  refine (byte_f w.heap.size w.heap.size _ _ w1 H1.out (by decide) B1.out.size).mono ?_
  rintro e w2 ⟨rfl, h2, b2⟩
  have h2' : Lib.IsBuilderF 116 5 w.heap.size w.heap.size (Lib.byteCells (hd3 k ++ (x.take 0).flatMap secB)) w2 := by
    have e : Lib.byteCells (hd3 k ++ (x.take 0).flatMap secB) = ([] ++ Lib.strCells ⟨#[87, 76]⟩) ++ [Value.int .u8 (k : Int)] := by
      rw [← byteCells_one k (by omega)]; rfl
    rw [e]; exact h2
  have H2 := Lib.hid h2'; have B2 := Lib.hid (B1.out.trans b2)
  clear h2 h2' b2
  go_wp2_with fail
  go_loopw [16] (fun i wr => Wd1 w.heap.size k x w i wr) (fun i _ => k - (intOf i).toNat)
  case atStart => exact ⟨0, Nat.zero_le _, rfl, H2.out, B2.out⟩
  case round =>
    obtain ⟨j, hj, rfl, hbd, hbl⟩ := hrel
    have HBD := Lib.hid hbd; have HBL := Lib.hid hbl
    clear hbd hbl
    by_cases hlt : j < k
    · have hji : (j : Int) < k := by omega
      obtain ⟨c, hcx⟩ : ∃ c, x[j]? = some c := ⟨_, List.getElem?_eq_getElem (by rw [HX.out]; exact hlt)⟩
      have hcr := HC.out.below HBL.out
      obtain ⟨b, cur, hob, hcur, d0, d1⟩ := hcr j ((c.1 : Int), c.2) (by unfold intC; rw [List.getElem?_map, hcx]; rfl)
      subst hob
      have hft := Lib.hid (flatMap_take secB x j c hcx)
      obtain ⟨hcn, hcs⟩ := HK.out c (List.mem_of_getElem? hcx)
      obtain ⟨pi, ps⟩ := c
      simp only at d0 d1 hcn hcs
      have hpi : (pi : Int) < 65536 := by omega
      obtain ⟨W1, hW1⟩ : ∃ W1, wr.alloc (.cells #[.int .i64 pi, .string ps] 55) = W1 := ⟨_, rfl⟩
      obtain ⟨gz, hgz⟩ : ∃ gz, wr.heap.size = gz := ⟨_, rfl⟩
      have y0 : W1.cell? ⟨gz, 0, none⟩ = some (.int .i64 pi) := by rw [← hW1, ← hgz]; unfold World.cell?; simp only [heap_alloc_new wr]; rfl
      have hB1 : Below wr.heap.size wr W1 := hW1 ▸ (Below.refl _ _).alloc (Nat.le_refl _) _
      have HD1 := Lib.hid (bldF_below HBD.out hB1)
      have HL1 := Lib.hid (HBL.out.trans (hB1.mono HBL.out.size))
      clear hcr hcx hcur hB1
      go_wp2_with (refine wpList_store_row rfl 55 _ _ rfl wr.heap.size #[.int .i64 pi, .string ps] rfl rfl 55 _ (heap_alloc_new wr _) change_size rfl (by rfl) ?_; rw [hW1, hgz])
      have hz1 : W1.heap[gz]? = some (.cells #[.int .i64 pi, .string ps] 55 (0, 0)) := by rw [← hW1, ← hgz]; exact heap_alloc_new wr _
      have hgzb : gz ≠ w.heap.size := by have := bldF_lt HBD.out; omega
      have HZ1 := Lib.hid hz1
      clear hz1 y0
      refine (byte_fk w.heap.size w.heap.size _ _ W1 HD1.out (by rw [Lib.byteCells_length]; have := HLN.out j; omega) HL1.out.size).mono ?_
      rintro e w3 ⟨rfl, h3, b3, k3⟩
      have hz3 := (k3 gz _ _ HZ1.out (by decide) hgzb).trans HZ1.out
      have y0 : w3.cell? ⟨gz, 0, none⟩ = some (.int .i64 pi) := by unfold World.cell?; simp only [hz3]; rfl
      have H3 := Lib.hid h3; have B3 := Lib.hid (HL1.out.trans b3)
      clear h3 b3 k3 hz3
      go_wp2_with fail
      refine (byte_fk w.heap.size w.heap.size _ _ w3 H3.out (by rw [List.length_append, Lib.byteCells_length, List.length_singleton]; have := HLN.out j; omega) B3.out.size).mono ?_
      rintro e w4 ⟨rfl, h4, b4, k4⟩
      have h4' : Lib.IsBuilderF 116 5 w.heap.size w.heap.size (Lib.byteCells (hd3 k ++ (x.take (j + 1)).flatMap secB)) w4 := by
        have e : Lib.byteCells (hd3 k ++ (x.take (j + 1)).flatMap secB) = (Lib.byteCells (hd3 k ++ (x.take j).flatMap secB) ++ [Value.int .u8 ((pi : Int) / 256)]) ++ [Value.int .u8 ((pi : Int) % 256)] := by
          rw [hft.out, ← List.append_assoc, byteCells_app, List.append_assoc]
          congr 1
          have e1 := byteCells_one (pi / 256 % 256) (by omega)
          have e2 := byteCells_one (pi % 256) (by omega)
          rw [show (((pi / 256 % 256 : Nat) : Int)) = (pi : Int) / 256 by omega] at e1
          rw [show (((pi % 256 : Nat) : Int)) = (pi : Int) % 256 by omega] at e2
          rw [← e1, ← e2, ← byteCells_app]; rfl
        rw [e]; exact h4
      have HN : Hid (Wd1 w.heap.size k x w (.int .i64 ((j : Int) + 1)) w4) := Lib.hid ⟨j + 1, by omega, by rw [Int.natCast_succ], h4', B3.out.trans b4⟩
      clear h4 h4' b4 k4 y0
      go_wp2_with fail
      exact ⟨HN.out, by simp [intOf]; omega⟩
    · obtain rfl : j = k := by omega
      have e : hd3 j ++ (x.take j).flatMap secB = hdL x := by rw [hdL_eq, ← HX.out, List.take_length]
      have hbd := HBD.out
      rw [e] at hbd
      have HBD2 := Lib.hid hbd
      clear hbd e
      go_wp2_with fail
      refine (Tryd.Builder_String_any_f w.heap.size w.heap.size (hdL x) wr HBD2.out HBL.out.size).mono ?_
      rintro e w3 ⟨rfl, h3, b3⟩
      have H3 := Lib.hid h3
      have B3 := Lib.hid (HBL.out.trans b3)
      clear h3 b3
      rw [show (⟨(hdL x).toArray⟩ : ByteArray) = mkBy (hdL x) from rfl]
      go_wp2_with fail
      have hbody0 : Lib.IsBuilderF 116 5 w.heap.size w.heap.size (Lib.byteCells (hdL x ++ bodyL (x.take 0))) w3 := by
        rw [show hdL x ++ bodyL (x.take 0) = hdL x by simp [bodyL]]; exact H3.out
      have HB00 := Lib.hid hbody0
      clear hbody0
      go_loopw [33] (fun i wr => Wd2 w.heap.size j x w i wr) (fun i _ => j - (intOf i).toNat)
      case atStart => exact ⟨0, Nat.zero_le _, rfl, HB00.out, B3.out⟩
      case round =>
        obtain ⟨q, hq, rfl, hbd, hbl⟩ := hrel
        have HBQ := Lib.hid hbd; have HBM := Lib.hid hbl
        clear hbd hbl HB00
        by_cases hlt : q < j
        · have hji : (q : Int) < j := by omega
          obtain ⟨c, hcx⟩ : ∃ c, x[q]? = some c := ⟨_, List.getElem?_eq_getElem (by rw [HX.out]; exact hlt)⟩
          have hcr := HC.out.below HBM.out
          obtain ⟨b, cur, hob, hcur, d0, d1⟩ := hcr q ((c.1 : Int), c.2) (by unfold intC; rw [List.getElem?_map, hcx]; rfl)
          subst hob
          have hft : Hid (bodyL (x.take (q + 1)) = bodyL (x.take q) ++ (padB c.2).data.toList) := Lib.hid (flatMap_take _ x q c hcx)
          obtain ⟨hcn, hcs⟩ := HK.out c (List.mem_of_getElem? hcx)
          obtain ⟨pi, ps⟩ := c
          simp only at d0 d1 hcn hcs
          have hln : Hid ((hdL x ++ bodyL (x.take q)).length ≤ 131 + 512 * 64) := Lib.hid (by
            have e1 := HLN.out j
            have e2 := HX.out
            rw [List.length_append, body_len _ (fun c hc => (HK.out c (List.mem_of_mem_take hc)).2), hdL_eq, HX.out, List.length_append, secs_len, List.length_take, HX.out]
            rw [List.length_append, secs_len, List.length_take, HX.out] at e1
            show 3 + _ + _ ≤ _
            have e3 : (hd3 j).length = 3 := rfl
            omega)
          obtain ⟨W1, hW1⟩ : ∃ W1, wr.alloc (.cells #[.int .i64 pi, .string ps] 55) = W1 := ⟨_, rfl⟩
          obtain ⟨gz, hgz⟩ : ∃ gz, wr.heap.size = gz := ⟨_, rfl⟩
          have y1 : W1.cell? ⟨gz, 1, none⟩ = some (.string ps) := by rw [← hW1, ← hgz]; unfold World.cell?; simp only [heap_alloc_new wr]; rfl
          have hB1 : Below wr.heap.size wr W1 := hW1 ▸ (Below.refl _ _).alloc (Nat.le_refl _) _
          have HD1 := Lib.hid (bldF_below HBQ.out hB1)
          have HL1 := Lib.hid (HBM.out.trans (hB1.mono HBM.out.size))
          clear hcr hcx hcur hB1
          go_wp2_with (first | (refine wpList_store_row rfl 55 _ _ rfl wr.heap.size #[.int .i64 pi, .string ps] rfl rfl 55 _ (heap_alloc_new wr _) change_size rfl (by rfl) ?_; rw [hW1, hgz]) | (go_at_call 63; refine (wpad_any ps W1 hcs).mono ?_))
          first | rintro e w5 rfl b5 | rintro e w5 ⟨rfl, b5⟩
          have HD5 := Lib.hid (bldF_below HD1.out b5)
          have HL5 := Lib.hid (HL1.out.trans (b5.mono HL1.out.size))
          clear b5
          go_wp2_with fail
          refine (write_f w.heap.size w.heap.size _ (padB ps) w5 HD5.out (by rw [Lib.byteCells_length, padB_size _ hcs]; have := hln.out; omega) HL5.out.size).mono ?_
          rintro e w6 ⟨rfl, h6, b6⟩
          have h6' : Lib.IsBuilderF 116 5 w.heap.size w.heap.size (Lib.byteCells (hdL x ++ bodyL (x.take (q + 1)))) w6 := by
            rw [hft.out, ← List.append_assoc, byteCells_app]; exact h6
          have HN : Hid (Wd2 w.heap.size j x w (.int .i64 ((q : Int) + 1)) w6) := Lib.hid ⟨q + 1, by omega, by rw [Int.natCast_succ], h6', HL5.out.trans b6⟩
          clear h6 h6' b6 y1
          go_wp2_with fail
          exact ⟨HN.out, by simp [intOf]; omega⟩
        · obtain rfl : q = j := by omega
          have hbd := HBQ.out
          rw [← HX.out, List.take_length] at hbd
          have HBE := Lib.hid hbd
          have hsz : Hid ((hdL x).length ≤ 131) := Lib.hid (by rw [hdL_eq, HX.out]; have := HLN.out q; rw [← HX.out, List.take_length, HX.out] at this; exact this)
          have hbz : Hid ((hdL x ++ bodyL x).length ≤ 131 + 512 * 64) := Lib.hid (by rw [List.length_append, body_len _ (fun c hc => (HK.out c hc).2), HX.out]; have := hsz.out; omega)
          clear hbd
          go_wp2_with fail
          refine (Tryd.Builder_String_any_f w.heap.size w.heap.size (hdL x ++ bodyL x) wr HBE.out HBM.out.size).mono ?_
          rintro e w5 ⟨rfl, h5, b5⟩
          have B5 := Lib.hid (HBM.out.trans b5)
          clear h5 b5
          rw [show (⟨(hdL x ++ bodyL x).toArray⟩ : ByteArray) = mkBy (hdL x ++ bodyL x) from rfl]
          have hcz : (mkBy (hdL x ++ bodyL x)).size ≤ maxLen := by show (hdL x ++ bodyL x).toArray.size ≤ _; rw [List.size_toArray]; have := hbz.out; unfold maxLen; omega
          go_wp2_with fail
          refine (Sum_any (mkBy (hdL x ++ bodyL x)) w5 hcz (HV.out.below B5.out)).mono ?_
          rintro e w6 ⟨rfl, rfl⟩
          rw [show (mkBy (hdL x ++ bodyL x)).data.toList = hdL x ++ bodyL x from rfl]
          clear hcz
          go_wp2_with fail
          refine (wle_any (crcL (hdL x ++ bodyL x)) w5).mono ?_
          rintro e w6 ⟨rfl, b6⟩
          have B6 := Lib.hid (B5.out.trans (b6.mono B5.out.size))
          clear b6
          have hz1 : (mkBy (hdL x)).size ≤ 131 := by show (hdL x).toArray.size ≤ _; rw [List.size_toArray]; exact hsz.out
          have hz2 := leB_size' (crcL (hdL x ++ bodyL x))
          have hno : ¬ 9223372036854775807 < (mkBy (hdL x)).size + (leB (crcL (hdL x ++ bodyL x))).size := by omega
          have hz3 : (mkBy (hdL x) ++ leB (crcL (hdL x ++ bodyL x))).size ≤ 512 := by rw [ByteArray.size_append]; omega
          have HZ3 := Lib.hid hz3
          clear hz1 hz2 hz3
          go_wp2_with (go_at_call 63; refine (wpad_any _ w6 HZ3.out).mono ?_)
          rintro e w7 ⟨rfl, b7⟩
          have B7 := Lib.hid (B6.out.trans (b7.mono B6.out.size))
          clear b7
          go_wp2_with fail
          go_ret
          exact ⟨rfl, B7.out⟩
end Go.Proofs.YtbpaiiljhdohfaaDoor
