/- Deltas: a match is grown on both sides. -/
import Derived.Test.YtmdhendfmhhniaaJg
import Derived.Deep.CutBlock
import Derived.Deep.DeepCutAuto
namespace Go.Proofs.Ytmdhendfmhhniaa
open Go.RowKit
variable {w w' : World}

/-- A part of the target that is a part of the base. -/
structure Mt (base target : ByteArray) (p q n : Nat) : Prop where
  b : p + n ≤ base.size
  t : q + n ≤ target.size
  e : ∀ i, i < n → base.data[p + i]? = target.data[q + i]?
theorem Mt.down {base target : ByteArray} {p q n : Nat} (h : Mt base target (p + 1) (q + 1) n) (hp : p < base.size) (hq : q < target.size) (he : base[p] = target[q]) : Mt base target p q (n + 1) :=
  ⟨by have := h.b; omega, by have := h.t; omega, fun i hi => by
    cases i with
    | zero => rw [Nat.add_zero, Nat.add_zero, Array.getElem?_eq_getElem (by exact hp), Array.getElem?_eq_getElem (by exact hq)]; exact congrArg some he
    | succ i => have := h.e i (by omega); rw [show p + (i + 1) = p + 1 + i by omega, show q + (i + 1) = q + 1 + i by omega]; exact this⟩
theorem Mt.up {base target : ByteArray} {p q n : Nat} (h : Mt base target p q n) (hp : p + n < base.size) (hq : q + n < target.size) (he : base[p + n] = target[q + n]) : Mt base target p q (n + 1) :=
  ⟨by omega, by omega, fun i hi => by
    rcases Nat.lt_or_ge i n with h1 | h1
    · exact h.e i h1
    · have : i = n := by omega
      subst this
      rw [Array.getElem?_eq_getElem (by exact hp), Array.getElem?_eq_getElem (by exact hq)]; exact congrArg some he⟩
theorem cell_of_rowJ {w : World} {g : Nat} {cur : Array Value} {t : TypeId} {x : Nat × Nat} {j : Nat} (h : w.heap[g]? = some (.cells cur t x)) : w.cell? ⟨g, j, none⟩ = cur[j]? := by
  unfold World.cell?; simp only [h]; rfl
theorem frozen_rowJ {w : World} {g j : Nat} {cur : Array Value} {t : TypeId} (h : w.heap[g]? = some (.cells cur t (0, 0))) : w.frozen? ⟨g, j, none⟩ = false := by simp [World.frozen?, h]
def rowM (p q n : Nat) : Obj := .cells #[.int .i64 p, .int .i64 q, .int .i64 n] 67 (0, 0)
def mcell (g i : Nat) (wr : World) : Nat := match wr.cell? ⟨g, i, none⟩ with
  | some v => (intOf v).toNat
  | none => 0
structure GrS (base target : ByteArray) (done : Nat) (w wr : World) (p q n : Nat) : Prop where
  r : wr.heap[w.heap.size]? = some (rowM p q n)
  z : wr.heap[w.heap.size + 1]? = some (rowM 0 0 0)
  m : Mt base target p q n
  d : done ≤ q
  b : Below w.heap.size w wr
theorem alloc_newJ (w : World) (o : Obj) : (w.alloc o).heap[w.heap.size]? = some o := by
  show (w.heap.push _)[w.heap.size]? = _
  simp
theorem heap_setJ {b i : Nat} {cur : Array Value} {t : TypeId} {x : Nat × Nat} (v : Value) (h : w.heap[b]? = some (.cells cur t x)) : (w.setCell ⟨b, i, none⟩ v).heap[b]? = some (.cells (cur.setIfInBounds i v) t x) := by
  show (w.heap.modify b _)[b]? = _
  rw [Array.getElem?_modify, if_pos rfl, h]
  rfl
theorem below_drewJ {B : Nat} {a w : World} (h : Below B a w) (n : Nat) : Below B a (w.drewN n) := ⟨h.os, h.tape, h.output, h.size, h.block⟩
theorem lt_of_someJ {w : World} {g : Nat} {o : Obj} (h : w.heap[g]? = some o) : g < w.heap.size := (Array.getElem?_eq_some_iff.1 h).1
theorem GrS.drew {base target : ByteArray} {done p q n : Nat} {w wr : World} (h : GrS base target done w wr p q n) (k : Nat) : GrS base target done w (wr.drewN k) p q n := ⟨h.r, h.z, h.m, h.d, below_drewJ h.b k⟩
theorem GrS.down {base target : ByteArray} {done p q n : Nat} {w wr : World} (h : GrS base target done w wr (p + 1) (q + 1) n) (hm : Mt base target p q (n + 1)) (hd : done ≤ q) :
    GrS base target done w (((wr.setCell ⟨w.heap.size, 0, none⟩ (.int .i64 p)).setCell ⟨w.heap.size, 1, none⟩ (.int .i64 q)).setCell ⟨w.heap.size, 2, none⟩ (.int .i64 ((n : Int) + 1))) p q (n + 1) := by
  have h1 := heap_setJ (i := 2) (.int .i64 ((n : Int) + 1)) (heap_setJ (i := 1) (.int .i64 (q : Nat)) (heap_setJ (i := 0) (.int .i64 (p : Nat)) h.r))
  refine ⟨h1, ?_, hm, hd, ((h.b.setCell (p := ⟨w.heap.size, 0, none⟩) (Nat.le_refl _) _).setCell (p := ⟨w.heap.size, 1, none⟩) (Nat.le_refl _) _).setCell (p := ⟨w.heap.size, 2, none⟩) (Nat.le_refl _) _⟩
  have hne : w.heap.size + 1 ≠ w.heap.size := by omega
  exact (Below.heap_setCell _ ⟨w.heap.size, 2, none⟩ _ (w.heap.size + 1) hne).trans ((Below.heap_setCell _ ⟨w.heap.size, 1, none⟩ _ (w.heap.size + 1) hne).trans ((Below.heap_setCell _ ⟨w.heap.size, 0, none⟩ _ (w.heap.size + 1) hne).trans h.z))
theorem GrS.up {base target : ByteArray} {done p q n : Nat} {w wr : World} (h : GrS base target done w wr p q n) (hm : Mt base target p q (n + 1)) :
    GrS base target done w (wr.setCell ⟨w.heap.size, 2, none⟩ (.int .i64 ((n : Int) + 1))) p q (n + 1) := by
  have h1 := heap_setJ (i := 2) (.int .i64 ((n : Int) + 1)) h.r
  have hne : w.heap.size + 1 ≠ w.heap.size := by omega
  exact ⟨h1, (Below.heap_setCell _ ⟨w.heap.size, 2, none⟩ _ (w.heap.size + 1) hne).trans h.z, hm, h.d, h.b.setCell (p := ⟨w.heap.size, 2, none⟩) (Nat.le_refl _) _⟩
theorem GrS.fin {base target : ByteArray} {done p q n : Nat} {w wr : World} (h : GrS base target done w wr p q n) :
    (((wr.setCell ⟨w.heap.size + 1, 0, none⟩ (.int .i64 p)).setCell ⟨w.heap.size + 1, 1, none⟩ (.int .i64 q)).setCell ⟨w.heap.size + 1, 2, none⟩ (.int .i64 n)).cell? ⟨w.heap.size + 1, 0, none⟩ = some (.int .i64 p) ∧ (((wr.setCell ⟨w.heap.size + 1, 0, none⟩ (.int .i64 p)).setCell ⟨w.heap.size + 1, 1, none⟩ (.int .i64 q)).setCell ⟨w.heap.size + 1, 2, none⟩ (.int .i64 n)).cell? ⟨w.heap.size + 1, 1, none⟩ = some (.int .i64 q) ∧ (((wr.setCell ⟨w.heap.size + 1, 0, none⟩ (.int .i64 p)).setCell ⟨w.heap.size + 1, 1, none⟩ (.int .i64 q)).setCell ⟨w.heap.size + 1, 2, none⟩ (.int .i64 n)).cell? ⟨w.heap.size + 1, 2, none⟩ = some (.int .i64 n) ∧ Below w.heap.size w (((wr.setCell ⟨w.heap.size + 1, 0, none⟩ (.int .i64 p)).setCell ⟨w.heap.size + 1, 1, none⟩ (.int .i64 q)).setCell ⟨w.heap.size + 1, 2, none⟩ (.int .i64 n)) := by
  have h1 := heap_setJ (i := 2) (.int .i64 (n : Nat)) (heap_setJ (i := 1) (.int .i64 (q : Nat)) (heap_setJ (i := 0) (.int .i64 (p : Nat)) h.z))
  refine ⟨cell_of_rowJ h1, cell_of_rowJ h1, cell_of_rowJ h1, ((h.b.setCell (p := ⟨w.heap.size + 1, 0, none⟩) (Nat.le_succ _) _).setCell (p := ⟨w.heap.size + 1, 1, none⟩) (Nat.le_succ _) _).setCell (p := ⟨w.heap.size + 1, 2, none⟩) (Nat.le_succ _) _⟩
theorem mcell0 {base target : ByteArray} {done p q n : Nat} {w wr : World} (h : GrS base target done w wr p q n) : mcell w.heap.size 0 wr = p := by
  unfold mcell; rw [cell_of_rowJ h.r]; rfl
theorem mcell2 {base target : ByteArray} {done p q n : Nat} {w wr : World} (h : GrS base target done w wr p q n) : mcell w.heap.size 2 wr = n := by
  unfold mcell; rw [cell_of_rowJ h.r]; rfl
set_option maxHeartbeats 2000000 in
set_option maxRecDepth 100000 in
theorem grow_any (base target : ByteArray) (done p0 q0 n0 : Nat) (w : World) (hbs : base.size ≤ 1000000) (hts : target.size ≤ 1000000) (hm : Mt base target p0 q0 n0) (hd : done ≤ q0) :
    Calls Try.prog 33 #[.agg #[.int .i64 p0, .int .i64 q0, .int .i64 n0], .string base, .string target, .int .i64 done] w fun e w' => ∃ p q n : Nat, e = .returned (.agg #[.int .i64 p, .int .i64 q, .int .i64 n]) ∧ Mt base target p q n ∧ n0 ≤ n ∧ q0 + n0 ≤ q + n ∧ done ≤ q ∧ Below w.heap.size w w' := by
  have H0 : Hid (GrS base target done w ((w.alloc (.cells #[.int .i64 (p0 : Nat), .int .i64 (q0 : Nat), .int .i64 (n0 : Nat)] 67)).alloc (.cells #[.int .i64 0, .int .i64 0, .int .i64 0] 67)) p0 q0 n0) := Lib.hid ⟨(Lib.alloc_old _ _ _ (by simp)).trans (alloc_newJ w _), by
      have := alloc_newJ (w.alloc (.cells #[.int .i64 (p0 : Nat), .int .i64 (q0 : Nat), .int .i64 (n0 : Nat)] 67)) (.cells #[.int .i64 0, .int .i64 0, .int .i64 0] 67)
      rw [World.size_alloc] at this; exact this, hm, hd, ((Below.refl w.heap.size w).alloc (Nat.le_refl _) _).alloc (by simp) _⟩
  clear hm hd
  go_enter Try.func33, Try.ntmps33
  go_upto_block 0 with fail
  go_cut [3] from 9 to 42 (fun d wx => d = .int .i64 done ∧ ∃ p q n : Nat, (n0 ≤ n ∧ q0 + n0 ≤ q + n) ∧ GrS base target done w wx p q n)
  case first =>
    go_wp2_with fail
    go_loopw [9] (fun _ wr => ∃ p q n : Nat, (n0 ≤ n ∧ q0 + n0 ≤ q + n) ∧ GrS base target done w wr p q n) (fun _ wr => mcell w.heap.size 0 wr)
    case atStart => exact ⟨p0, q0, n0, ⟨Nat.le_refl _, Nat.le_refl _⟩, H0.out⟩
    case round =>
      obtain ⟨p, q, n, hn, hG⟩ := hrel
      have hb := hG.m.b; have ht := hG.m.t; have hdq := hG.d
      have hpb : p ≤ 1000000 := by omega
      have hqb : q ≤ 1000000 := by omega
      have hnb : n ≤ 1000000 := by omega
      have hpi : (p : Int) ≤ 1000000 := by omega
      have hqi : (q : Int) ≤ 1000000 := by omega
      have hni : (n : Int) ≤ 1000000 := by omega
      rcases Nat.eq_zero_or_pos p with h0 | h0
      · subst h0
        have c0 : wr.cell? ⟨w.heap.size, 0, none⟩ = some (.int .i64 (0 : Nat)) := cell_of_rowJ hG.r
        have c1 : wr.cell? ⟨w.heap.size, 1, none⟩ = some (.int .i64 (q : Nat)) := cell_of_rowJ hG.r
        have c2 : wr.cell? ⟨w.heap.size, 2, none⟩ = some (.int .i64 (n : Nat)) := cell_of_rowJ hG.r
        have cf : ∀ j, wr.frozen? ⟨w.heap.size, j, none⟩ = false := fun j => frozen_rowJ hG.r
        have HG := Lib.hid hG
        clear hG
        go_wp2_with fail
        go_quiet (fail)
        go_wp2_with fail
        go_meet
        exact ⟨rfl, 0, q, n, hn, HG.out.drew _⟩
      · obtain ⟨p1, hp1⟩ : ∃ p1, p = p1 + 1 := ⟨p - 1, by omega⟩
        have hp0N : 0 < p := h0
        have hp0i : (0 : Int) < p := by omega
        have hp0b : decide ((0 : Int) < p) = true := decide_eq_true hp0i
        have hpm : (p : Int) - 1 = (p1 : Int) := by omega
        have hpw : IntKind.i64.wrap ((p : Int) - 1) = (p1 : Int) := by rw [IntWalk.i64_in _ (by omega)]; omega
        rcases Nat.lt_or_ge done q with hq | hq
        · obtain ⟨q1, hq1⟩ : ∃ q1, q = q1 + 1 := ⟨q - 1, by omega⟩
          have hdqi : (done : Int) < q := by omega
          have hdqb : decide ((done : Int) < q) = true := decide_eq_true hdqi
          have hqm : (q : Int) - 1 = (q1 : Int) := by omega
          have hqw : IntKind.i64.wrap ((q : Int) - 1) = (q1 : Int) := by rw [IntWalk.i64_in _ (by omega)]; omega
          have hbx : p1 < base.size := by omega
          have htx : q1 < target.size := by omega
          have hbxi : (p1 : Int) < base.size := by omega
          have htxi : (q1 : Int) < target.size := by omega
          have hp1i : 0 ≤ (p1 : Int) := by omega
          have hq1i : 0 ≤ (q1 : Int) := by omega
          obtain ⟨x, hx⟩ : ∃ x, base[p1] = x := ⟨_, rfl⟩
          obtain ⟨y, hy⟩ : ∃ y, target[q1] = y := ⟨_, rfl⟩
          by_cases hxy : x = y
          · have HM := Lib.hid (Mt.down (base := base) (target := target) (p := p1) (q := q1) (n := n) (by rw [← hp1, ← hq1]; exact hG.m) hbx htx (by rw [hx, hy]; exact hxy))
            have hG1 := hG
            rw [hp1, hq1] at hG1
            have HG1 := Lib.hid hG1
            have hxyb : ((x.toNat : Int) == (y.toNat : Int)) = true := by rw [hxy]; simp
            have hd1 : done ≤ q1 := by omega
            have HP := Lib.hid hp1
            have HQQ := Lib.hid hq1
            subst hxy
            have c0 : wr.cell? ⟨w.heap.size, 0, none⟩ = some (.int .i64 (p : Nat)) := cell_of_rowJ hG.r
            have c1 : wr.cell? ⟨w.heap.size, 1, none⟩ = some (.int .i64 (q : Nat)) := cell_of_rowJ hG.r
            have c2 : wr.cell? ⟨w.heap.size, 2, none⟩ = some (.int .i64 (n : Nat)) := cell_of_rowJ hG.r
            have cf : ∀ j, wr.frozen? ⟨w.heap.size, j, none⟩ = false := fun j => frozen_rowJ hG.r
            have HG := Lib.hid hG
            clear hG
            clear hp1 hq1 hG1 hb ht hdq
            go_wp2_with fail
            go_quiet (fail)
            clear hpw hqw
            go_wp2_with fail
            refine ⟨⟨p1, q1, n + 1, by have := HQQ.out; omega, (HG1.out.drew _).down HM.out hd1⟩, ?_⟩
            rw [mcell0 ((HG1.out.drew _).down HM.out hd1), mcell0 HG.out]
            have := HP.out
            omega
          · have hxyi : ¬ (x.toNat : Int) = (y.toNat : Int) := fun e => hxy (UInt8.toNat_inj.1 (by omega))
            have hxyb : ((x.toNat : Int) == (y.toNat : Int)) = false := beq_eq_false_iff_ne.2 hxyi
            have c0 : wr.cell? ⟨w.heap.size, 0, none⟩ = some (.int .i64 (p : Nat)) := cell_of_rowJ hG.r
            have c1 : wr.cell? ⟨w.heap.size, 1, none⟩ = some (.int .i64 (q : Nat)) := cell_of_rowJ hG.r
            have c2 : wr.cell? ⟨w.heap.size, 2, none⟩ = some (.int .i64 (n : Nat)) := cell_of_rowJ hG.r
            have cf : ∀ j, wr.frozen? ⟨w.heap.size, j, none⟩ = false := fun j => frozen_rowJ hG.r
            have HG := Lib.hid hG
            clear hG
            clear hp1 hq1 hb ht hdq hxy
            go_wp2_with fail
            go_quiet (fail)
            go_wp2_with fail
            go_meet
            exact ⟨rfl, p, q, n, hn, HG.out.drew _⟩
        · have hdqi : ¬ (done : Int) < q := by omega
          have hdqb : decide ((done : Int) < q) = false := decide_eq_false hdqi
          have hdqN : ¬ done < q := by omega
          have hdqB : decide (done < q) = false := decide_eq_false hdqN
          have c0 : wr.cell? ⟨w.heap.size, 0, none⟩ = some (.int .i64 (p : Nat)) := cell_of_rowJ hG.r
          have c1 : wr.cell? ⟨w.heap.size, 1, none⟩ = some (.int .i64 (q : Nat)) := cell_of_rowJ hG.r
          have c2 : wr.cell? ⟨w.heap.size, 2, none⟩ = some (.int .i64 (n : Nat)) := cell_of_rowJ hG.r
          have cf : ∀ j, wr.frozen? ⟨w.heap.size, j, none⟩ = false := fun j => frozen_rowJ hG.r
          have HG := Lib.hid hG
          clear hG
          clear hp1 hb ht hdq
          go_wp2_with fail
          go_quiet (fail)
          go_wp2_with fail
          go_meet
          exact ⟨rfl, p, q, n, hn, HG.out.drew _⟩
  case rest =>
    obtain ⟨rfl, p, q, n, hn, hG⟩ := hcut
    have HG0 := Lib.hid hG
    clear hG H0
    obtain ⟨wo, hwo⟩ : ∃ wo, wo = wc := ⟨_, rfl⟩
    subst hwo
    go_wp2_with fail
    go_loopw [43] (fun _ wr => ∃ p q n : Nat, (n0 ≤ n ∧ q0 + n0 ≤ q + n) ∧ GrS base target done w wr p q n) (fun _ wr => base.size - mcell w.heap.size 2 wr)
    case atStart => exact ⟨p, q, n, hn, HG0.out⟩
    case round =>
      clear hn HG0 p q n
      obtain ⟨p, q, n, hn, hG⟩ := hrel
      have hb := hG.m.b; have ht := hG.m.t
      have hpi : (p : Int) ≤ 1000000 := by omega
      have hqi : (q : Int) ≤ 1000000 := by omega
      have hni : (n : Int) ≤ 1000000 := by omega
      obtain ⟨pn, hpn⟩ : ∃ k, p + n = k := ⟨_, rfl⟩
      obtain ⟨qn, hqn⟩ : ∃ k, q + n = k := ⟨_, rfl⟩
      have hpni : (p : Int) + (n : Int) = (pn : Int) := by omega
      have hqni : (q : Int) + (n : Int) = (qn : Int) := by omega
      have hpnw : IntKind.i64.wrap ((p : Int) + (n : Int)) = (pn : Int) := by rw [IntWalk.i64_in _ (by omega)]; omega
      have hqnw : IntKind.i64.wrap ((q : Int) + (n : Int)) = (qn : Int) := by rw [IntWalk.i64_in _ (by omega)]; omega
      have hpw2 : IntKind.i64.wrap (pn : Int) = (pn : Int) := IntWalk.i64_in _ (by omega)
      have hqw2 : IntKind.i64.wrap (qn : Int) = (qn : Int) := IntWalk.i64_in _ (by omega)
      by_cases hA : pn < base.size
      · have hAi : (pn : Int) < base.size := by omega
        have hAb : decide ((pn : Int) < base.size) = true := decide_eq_true hAi
        by_cases hB : qn < target.size
        · have hBi : (qn : Int) < target.size := by omega
          have hBb : decide ((qn : Int) < target.size) = true := decide_eq_true hBi
          have hp1i : 0 ≤ (pn : Int) := by omega
          have hq1i : 0 ≤ (qn : Int) := by omega
          obtain ⟨x, hx⟩ : ∃ x, base[pn] = x := ⟨_, rfl⟩
          obtain ⟨y, hy⟩ : ∃ y, target[qn] = y := ⟨_, rfl⟩
          by_cases hxy : x = y
          · have HM := Lib.hid (Mt.up hG.m (by rw [hpn]; exact hA) (by rw [hqn]; exact hB) (by simp only [hpn, hqn]; rw [hx, hy]; exact hxy))
            have HN := Lib.hid (show n < base.size by omega)
            have hxyb : ((x.toNat : Int) == (y.toNat : Int)) = true := by rw [hxy]; simp
            subst hxy
            have c0 : wr.cell? ⟨w.heap.size, 0, none⟩ = some (.int .i64 (p : Nat)) := cell_of_rowJ hG.r
            have c1 : wr.cell? ⟨w.heap.size, 1, none⟩ = some (.int .i64 (q : Nat)) := cell_of_rowJ hG.r
            have c2 : wr.cell? ⟨w.heap.size, 2, none⟩ = some (.int .i64 (n : Nat)) := cell_of_rowJ hG.r
            have cf : ∀ j, wr.frozen? ⟨w.heap.size, j, none⟩ = false := fun j => frozen_rowJ hG.r
            have HG := Lib.hid hG
            clear hG
            clear hpn hqn hb ht
            go_wp2_with fail
            go_quiet (fail)
            clear hpnw hqnw hpw2 hqw2
            go_wp2_with fail
            refine ⟨⟨p, q, n + 1, by omega, (HG.out.drew _).up HM.out⟩, ?_⟩
            rw [mcell2 ((HG.out.drew _).up HM.out), mcell2 HG.out]
            have := HN.out
            omega
          · have hxyi : ¬ (x.toNat : Int) = (y.toNat : Int) := fun e => hxy (UInt8.toNat_inj.1 (by omega))
            have hxyb : ((x.toNat : Int) == (y.toNat : Int)) = false := beq_eq_false_iff_ne.2 hxyi
            have z0 : wr.cell? ⟨w.heap.size + 1, 0, none⟩ = some (.int .i64 0) := cell_of_rowJ hG.z
            have z1 : wr.cell? ⟨w.heap.size + 1, 1, none⟩ = some (.int .i64 0) := cell_of_rowJ hG.z
            have z2 : wr.cell? ⟨w.heap.size + 1, 2, none⟩ = some (.int .i64 0) := cell_of_rowJ hG.z
            have zf : ∀ j, wr.frozen? ⟨w.heap.size + 1, j, none⟩ = false := fun j => frozen_rowJ hG.z
            have c0 : wr.cell? ⟨w.heap.size, 0, none⟩ = some (.int .i64 (p : Nat)) := cell_of_rowJ hG.r
            have c1 : wr.cell? ⟨w.heap.size, 1, none⟩ = some (.int .i64 (q : Nat)) := cell_of_rowJ hG.r
            have c2 : wr.cell? ⟨w.heap.size, 2, none⟩ = some (.int .i64 (n : Nat)) := cell_of_rowJ hG.r
            have cf : ∀ j, wr.frozen? ⟨w.heap.size, j, none⟩ = false := fun j => frozen_rowJ hG.r
            have HG := Lib.hid hG
            clear hG
            clear hpn hqn hb ht hxy
            go_wp2_with fail
            go_quiet (fail)
            first | (have _h : Below wr.heap.size wr (wr.drewN nq) := below_drewJ (Below.refl _ _) nq) | rename_i nq
            clear hpnw hqnw hpw2 hqw2
            go_wp2_with fail
            have HF := (HG.out.drew nq).fin
            obtain ⟨y0, y1, y2, y3⟩ := HF
            have HY := Lib.hid y3
            have HMM := Lib.hid HG.out.m; have HDD := Lib.hid HG.out.d
            clear c0 c1 c2 cf z0 z1 z2 zf y3 HG
            generalize (((wr.drewN nq).setCell ⟨w.heap.size + 1, 0, none⟩ (.int .i64 p)).setCell ⟨w.heap.size + 1, 1, none⟩ (.int .i64 q)).setCell ⟨w.heap.size + 1, 2, none⟩ (.int .i64 n) = V at y0 y1 y2 HY ⊢
            exact bodyPost_ret (v := .agg #[.int .i64 p, .int .i64 q, .int .i64 n]) (by simp [results, Try.results33, go_sem, y0, y1, y2]) rfl ⟨p, q, n, rfl, HMM.out, hn.1, hn.2, HDD.out, HY.out⟩
        · have hBi : ¬ (qn : Int) < target.size := by omega
          have hBb : decide ((qn : Int) < target.size) = false := decide_eq_false hBi
          have hBB : decide (qn < target.size) = false := decide_eq_false hB
          have z0 : wr.cell? ⟨w.heap.size + 1, 0, none⟩ = some (.int .i64 0) := cell_of_rowJ hG.z
          have z1 : wr.cell? ⟨w.heap.size + 1, 1, none⟩ = some (.int .i64 0) := cell_of_rowJ hG.z
          have z2 : wr.cell? ⟨w.heap.size + 1, 2, none⟩ = some (.int .i64 0) := cell_of_rowJ hG.z
          have zf : ∀ j, wr.frozen? ⟨w.heap.size + 1, j, none⟩ = false := fun j => frozen_rowJ hG.z
          have c0 : wr.cell? ⟨w.heap.size, 0, none⟩ = some (.int .i64 (p : Nat)) := cell_of_rowJ hG.r
          have c1 : wr.cell? ⟨w.heap.size, 1, none⟩ = some (.int .i64 (q : Nat)) := cell_of_rowJ hG.r
          have c2 : wr.cell? ⟨w.heap.size, 2, none⟩ = some (.int .i64 (n : Nat)) := cell_of_rowJ hG.r
          have cf : ∀ j, wr.frozen? ⟨w.heap.size, j, none⟩ = false := fun j => frozen_rowJ hG.r
          have HG := Lib.hid hG
          clear hG
          clear hpn hqn hb ht
          go_wp2_with fail
          go_quiet (fail)
          first | (have _h : Below wr.heap.size wr (wr.drewN nq) := below_drewJ (Below.refl _ _) nq) | rename_i nq
          clear hpnw hqnw hpw2 hqw2
          go_wp2_with fail
          have HF := (HG.out.drew nq).fin
          obtain ⟨y0, y1, y2, y3⟩ := HF
          have HY := Lib.hid y3
          have HMM := Lib.hid HG.out.m; have HDD := Lib.hid HG.out.d
          clear c0 c1 c2 cf z0 z1 z2 zf y3 HG
          generalize (((wr.drewN nq).setCell ⟨w.heap.size + 1, 0, none⟩ (.int .i64 p)).setCell ⟨w.heap.size + 1, 1, none⟩ (.int .i64 q)).setCell ⟨w.heap.size + 1, 2, none⟩ (.int .i64 n) = V at y0 y1 y2 HY ⊢
          exact bodyPost_ret (v := .agg #[.int .i64 p, .int .i64 q, .int .i64 n]) (by simp [results, Try.results33, go_sem, y0, y1, y2]) rfl ⟨p, q, n, rfl, HMM.out, hn.1, hn.2, HDD.out, HY.out⟩
      · have hAi : ¬ (pn : Int) < base.size := by omega
        have hAb : decide ((pn : Int) < base.size) = false := decide_eq_false hAi
        have hAB : decide (pn < base.size) = false := decide_eq_false hA
        have z0 : wr.cell? ⟨w.heap.size + 1, 0, none⟩ = some (.int .i64 0) := cell_of_rowJ hG.z
        have z1 : wr.cell? ⟨w.heap.size + 1, 1, none⟩ = some (.int .i64 0) := cell_of_rowJ hG.z
        have z2 : wr.cell? ⟨w.heap.size + 1, 2, none⟩ = some (.int .i64 0) := cell_of_rowJ hG.z
        have zf : ∀ j, wr.frozen? ⟨w.heap.size + 1, j, none⟩ = false := fun j => frozen_rowJ hG.z
        have c0 : wr.cell? ⟨w.heap.size, 0, none⟩ = some (.int .i64 (p : Nat)) := cell_of_rowJ hG.r
        have c1 : wr.cell? ⟨w.heap.size, 1, none⟩ = some (.int .i64 (q : Nat)) := cell_of_rowJ hG.r
        have c2 : wr.cell? ⟨w.heap.size, 2, none⟩ = some (.int .i64 (n : Nat)) := cell_of_rowJ hG.r
        have cf : ∀ j, wr.frozen? ⟨w.heap.size, j, none⟩ = false := fun j => frozen_rowJ hG.r
        have HG := Lib.hid hG
        clear hG
        clear hpn hqn hb ht
        go_wp2_with fail
        go_quiet (fail)
        first | (have _h : Below wr.heap.size wr (wr.drewN nq) := below_drewJ (Below.refl _ _) nq) | rename_i nq
        clear hpnw hqnw hpw2 hqw2
        go_wp2_with fail
        have HF := (HG.out.drew nq).fin
        obtain ⟨y0, y1, y2, y3⟩ := HF
        have HY := Lib.hid y3
        have HMM := Lib.hid HG.out.m; have HDD := Lib.hid HG.out.d
        clear c0 c1 c2 cf z0 z1 z2 zf y3 HG
        generalize (((wr.drewN nq).setCell ⟨w.heap.size + 1, 0, none⟩ (.int .i64 p)).setCell ⟨w.heap.size + 1, 1, none⟩ (.int .i64 q)).setCell ⟨w.heap.size + 1, 2, none⟩ (.int .i64 n) = V at y0 y1 y2 HY ⊢
        exact bodyPost_ret (v := .agg #[.int .i64 p, .int .i64 q, .int .i64 n]) (by simp [results, Try.results33, go_sem, y0, y1, y2]) rfl ⟨p, q, n, rfl, HMM.out, hn.1, hn.2, HDD.out, HY.out⟩
end Go.Proofs.Ytmdhendfmhhniaa
