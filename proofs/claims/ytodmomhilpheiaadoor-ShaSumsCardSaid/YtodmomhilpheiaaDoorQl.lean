/- The digest of three letters, round by round. -/
import Derived.Test.YtodmomhilpheiaaDoorQk
namespace Go.Proofs.YtodmomhilpheiaaDoor
open Go.RowKit

theorem schF_low (blk : Nat → Int) (m : Nat) (h : m < 16) : ∀ k, schF blk k m = wordF blk 64 m
  | 0 => rfl
  | k + 1 => by unfold schF; rw [if_neg (by omega)]; exact schF_low blk m h k
theorem schF_stay (blk : Nat → Int) (m : Nat) : ∀ j, m < 16 + j → ∀ d, schF blk (j + d) m = schF blk j m
  | _, _, 0 => rfl
  | j, h, d + 1 => by
    show (if m = 16 + (j + d) then _ else schF blk (j + d) m) = _
    rw [if_neg (by omega)]; exact schF_stay blk m j h d
theorem schF_at (blk : Nat → Int) (m j : Nat) (h : m < 16 + j) (hj : j ≤ 48) : schF blk j m = schF blk 48 m := by
  have := schF_stay blk m j h (48 - j)
  rw [show j + (48 - j) = 48 by omega] at this
  exact this.symm
theorem schF_rec (blk : Nat → Int) (k : Nat) (h : k < 48) : schF blk 48 (16 + k) = nextW (schF blk 48) (16 + k) := by
  rw [← schF_at blk (16 + k) (k + 1) (by omega) (by omega)]
  show (if 16 + k = 16 + k then _ else _) = _
  rw [if_pos rfl]
  unfold nextW
  rw [schF_at blk _ k (by omega) (by omega), schF_at blk _ k (by omega) (by omega), schF_at blk _ k (by omega) (by omega), schF_at blk _ k (by omega) (by omega)]

def abcD (i : Nat) : Int := if i = 0 then 97 else if i = 1 then 98 else 99
def abcB (i : Nat) : Int := padF abcD 3 (64 * 0 + i)
def abcW : Nat → Int := schF abcB 48
def nxt (a b c d : Int) : Int := (a + s0F b + c + s1F d) % 4294967296
theorem abcW_next (k : Nat) (h : k < 48) {a b c d v : Int} (ha : abcW k = a) (hb : abcW (k + 1) = b) (hc : abcW (k + 9) = c) (hd : abcW (k + 14) = d) (hv : nxt a b c d = v) : abcW (16 + k) = v := by
  have := schF_rec abcB k h
  unfold nextW at this
  rw [show 16 + k - 16 = k by omega, show 16 + k - 15 = k + 1 by omega, show 16 + k - 7 = k + 9 by omega, show 16 + k - 2 = k + 14 by omega] at this
  have e : abcW (16 + k) = nxt (abcW k) (abcW (k + 1)) (abcW (k + 9)) (abcW (k + 14)) := this
  rw [e, ha, hb, hc, hd, hv]
theorem abcW_low (m : Nat) (h : m < 16) : abcW m = wordF abcB 64 m := schF_low abcB m h 48
def abcS : Nat → St := fun k => roundsI kkF abcW k (stOf rootF)
theorem abcS_next (k : Nat) {s s' : St} {w : Int} (hs : abcS k = s) (hw : abcW k = w) (h : stepI (kkF k) w s = s') : abcS (k + 1) = s' := by
  have e : abcS (k + 1) = stepI (kkF k) (abcW k) (abcS k) := rfl
  rw [e, hs, hw, h]
theorem abcW0 : abcW 0 = 1633837952 := (abcW_low 0 (by decide)).trans (by kernel_rfl)
theorem abcW1 : abcW 1 = 0 := (abcW_low 1 (by decide)).trans (by kernel_rfl)
theorem abcW2 : abcW 2 = 0 := (abcW_low 2 (by decide)).trans (by kernel_rfl)
theorem abcW3 : abcW 3 = 0 := (abcW_low 3 (by decide)).trans (by kernel_rfl)
theorem abcW4 : abcW 4 = 0 := (abcW_low 4 (by decide)).trans (by kernel_rfl)
theorem abcW5 : abcW 5 = 0 := (abcW_low 5 (by decide)).trans (by kernel_rfl)
theorem abcW6 : abcW 6 = 0 := (abcW_low 6 (by decide)).trans (by kernel_rfl)
theorem abcW7 : abcW 7 = 0 := (abcW_low 7 (by decide)).trans (by kernel_rfl)
theorem abcW8 : abcW 8 = 0 := (abcW_low 8 (by decide)).trans (by kernel_rfl)
theorem abcW9 : abcW 9 = 0 := (abcW_low 9 (by decide)).trans (by kernel_rfl)
theorem abcW10 : abcW 10 = 0 := (abcW_low 10 (by decide)).trans (by kernel_rfl)
theorem abcW11 : abcW 11 = 0 := (abcW_low 11 (by decide)).trans (by kernel_rfl)
theorem abcW12 : abcW 12 = 0 := (abcW_low 12 (by decide)).trans (by kernel_rfl)
theorem abcW13 : abcW 13 = 0 := (abcW_low 13 (by decide)).trans (by kernel_rfl)
theorem abcW14 : abcW 14 = 0 := (abcW_low 14 (by decide)).trans (by kernel_rfl)
theorem abcW15 : abcW 15 = 24 := (abcW_low 15 (by decide)).trans (by kernel_rfl)
theorem abcW16 : abcW 16 = 1633837952 := abcW_next 0 (by decide) abcW0 abcW1 abcW9 abcW14 (by kernel_rfl)
theorem abcW17 : abcW 17 = 983040 := abcW_next 1 (by decide) abcW1 abcW2 abcW10 abcW15 (by kernel_rfl)
theorem abcW18 : abcW 18 = 2108187653 := abcW_next 2 (by decide) abcW2 abcW3 abcW11 abcW16 (by kernel_rfl)
theorem abcW19 : abcW 19 = 1610613702 := abcW_next 3 (by decide) abcW3 abcW4 abcW12 abcW17 (by kernel_rfl)
theorem abcW20 : abcW 20 = 1050508152 := abcW_next 4 (by decide) abcW4 abcW5 abcW13 abcW18 (by kernel_rfl)
theorem abcW21 : abcW 21 = 25426944 := abcW_next 5 (by decide) abcW5 abcW6 abcW14 abcW19 (by kernel_rfl)
theorem abcW22 : abcW 22 = 316456923 := abcW_next 6 (by decide) abcW6 abcW7 abcW15 abcW20 (by kernel_rfl)
theorem abcW23 : abcW 23 = 3806512014 := abcW_next 7 (by decide) abcW7 abcW8 abcW16 abcW21 (by kernel_rfl)
theorem abcW24 : abcW 24 = 3357629466 := abcW_next 8 (by decide) abcW8 abcW9 abcW17 abcW22 (by kernel_rfl)
theorem abcW25 : abcW 25 = 3073800610 := abcW_next 9 (by decide) abcW9 abcW10 abcW18 abcW23 (by kernel_rfl)
theorem abcW26 : abcW 26 = 3854317833 := abcW_next 10 (by decide) abcW10 abcW11 abcW19 abcW24 (by kernel_rfl)
theorem abcW27 : abcW 27 = 845560923 := abcW_next 11 (by decide) abcW11 abcW12 abcW20 abcW25 (by kernel_rfl)
theorem abcW28 : abcW 28 = 2636160359 := abcW_next 12 (by decide) abcW12 abcW13 abcW21 abcW26 (by kernel_rfl)
theorem abcW29 : abcW 29 = 3968280267 := abcW_next 13 (by decide) abcW13 abcW14 abcW22 abcW27 (by kernel_rfl)
theorem abcW30 : abcW 30 = 1881225380 := abcW_next 14 (by decide) abcW14 abcW15 abcW23 abcW28 (by kernel_rfl)
theorem abcW31 : abcW 31 = 3552024379 := abcW_next 15 (by decide) abcW15 abcW16 abcW24 abcW29 (by kernel_rfl)
theorem abcW32 : abcW 32 = 2482346367 := abcW_next 16 (by decide) abcW16 abcW17 abcW25 abcW30 (by kernel_rfl)
theorem abcW33 : abcW 33 = 996719219 := abcW_next 17 (by decide) abcW17 abcW18 abcW26 abcW31 (by kernel_rfl)
theorem abcW34 : abcW 34 = 2952069057 := abcW_next 18 (by decide) abcW18 abcW19 abcW27 abcW32 (by kernel_rfl)
theorem abcW35 : abcW 35 = 4043988066 := abcW_next 19 (by decide) abcW19 abcW20 abcW28 abcW33 (by kernel_rfl)
theorem abcW36 : abcW 36 = 176896406 := abcW_next 20 (by decide) abcW20 abcW21 abcW29 abcW34 (by kernel_rfl)
theorem abcW37 : abcW 37 = 1924104970 := abcW_next 21 (by decide) abcW21 abcW22 abcW30 abcW35 (by kernel_rfl)
theorem abcW38 : abcW 38 = 2483675966 := abcW_next 22 (by decide) abcW22 abcW23 abcW31 abcW36 (by kernel_rfl)
theorem abcW39 : abcW 39 = 610538786 := abcW_next 23 (by decide) abcW23 abcW24 abcW32 abcW37 (by kernel_rfl)
theorem abcW40 : abcW 40 = 2672279444 := abcW_next 24 (by decide) abcW24 abcW25 abcW33 abcW38 (by kernel_rfl)
theorem abcW41 : abcW 41 = 4037431130 := abcW_next 25 (by decide) abcW25 abcW26 abcW34 abcW39 (by kernel_rfl)
theorem abcW42 : abcW 42 = 1042573945 := abcW_next 26 (by decide) abcW26 abcW27 abcW35 abcW40 (by kernel_rfl)
theorem abcW43 : abcW 43 = 657669027 := abcW_next 27 (by decide) abcW27 abcW28 abcW36 abcW41 (by kernel_rfl)
theorem abcW44 : abcW 44 = 206005234 := abcW_next 28 (by decide) abcW28 abcW29 abcW37 abcW42 (by kernel_rfl)
theorem abcW45 : abcW 45 = 2215296807 := abcW_next 29 (by decide) abcW29 abcW30 abcW38 abcW43 (by kernel_rfl)
theorem abcW46 : abcW 46 = 2049510749 := abcW_next 30 (by decide) abcW30 abcW31 abcW39 abcW44 (by kernel_rfl)
theorem abcW47 : abcW 47 = 106709978 := abcW_next 31 (by decide) abcW31 abcW32 abcW40 abcW45 (by kernel_rfl)
theorem abcW48 : abcW 48 = 4215179723 := abcW_next 32 (by decide) abcW32 abcW33 abcW41 abcW46 (by kernel_rfl)
theorem abcW49 : abcW 49 = 3430291419 := abcW_next 33 (by decide) abcW33 abcW34 abcW42 abcW47 (by kernel_rfl)
theorem abcW50 : abcW 50 = 3118885940 := abcW_next 34 (by decide) abcW34 abcW35 abcW43 abcW48 (by kernel_rfl)
theorem abcW51 : abcW 51 = 2845390439 := abcW_next 35 (by decide) abcW35 abcW36 abcW44 abcW49 (by kernel_rfl)
theorem abcW52 : abcW 52 = 2226839261 := abcW_next 36 (by decide) abcW36 abcW37 abcW45 abcW50 (by kernel_rfl)
theorem abcW53 : abcW 53 = 3256115900 := abcW_next 37 (by decide) abcW37 abcW38 abcW46 abcW51 (by kernel_rfl)
theorem abcW54 : abcW 54 = 344409900 := abcW_next 38 (by decide) abcW38 abcW39 abcW47 abcW52 (by kernel_rfl)
theorem abcW55 : abcW 55 = 2987358873 := abcW_next 39 (by decide) abcW39 abcW40 abcW48 abcW53 (by kernel_rfl)
theorem abcW56 : abcW 56 = 4015503821 := abcW_next 40 (by decide) abcW40 abcW41 abcW49 abcW54 (by kernel_rfl)
theorem abcW57 : abcW 57 = 3957764664 := abcW_next 41 (by decide) abcW41 abcW42 abcW50 abcW55 (by kernel_rfl)
theorem abcW58 : abcW 58 = 2682456414 := abcW_next 42 (by decide) abcW42 abcW43 abcW51 abcW56 (by kernel_rfl)
theorem abcW59 : abcW 59 = 2025622859 := abcW_next 43 (by decide) abcW43 abcW44 abcW52 abcW57 (by kernel_rfl)
theorem abcW60 : abcW 60 = 2755645205 := abcW_next 44 (by decide) abcW44 abcW45 abcW53 abcW58 (by kernel_rfl)
theorem abcW61 : abcW 61 = 1720397816 := abcW_next 45 (by decide) abcW45 abcW46 abcW54 abcW59 (by kernel_rfl)
theorem abcW62 : abcW 62 = 4004225740 := abcW_next 46 (by decide) abcW46 abcW47 abcW55 abcW60 (by kernel_rfl)
theorem abcW63 : abcW 63 = 313650667 := abcW_next 47 (by decide) abcW47 abcW48 abcW56 abcW61 (by kernel_rfl)
theorem abcS0 : abcS 0 = ⟨1779033703, 3144134277, 1013904242, 2773480762, 1359893119, 2600822924, 528734635, 1541459225⟩ := by kernel_rfl
theorem abcS1 : abcS 1 = ⟨1567288269, 1779033703, 3144134277, 1013904242, 4197074466, 1359893119, 2600822924, 528734635⟩ := abcS_next 0 abcS0 abcW0 (by kernel_rfl)
theorem abcS2 : abcS 2 = ⟨1516951981, 1567288269, 1779033703, 3144134277, 2026797449, 4197074466, 1359893119, 2600822924⟩ := abcS_next 1 abcS1 abcW1 (by kernel_rfl)
theorem abcS3 : abcS 3 = ⟨3368241063, 1516951981, 1567288269, 1779033703, 4180228587, 2026797449, 4197074466, 1359893119⟩ := abcS_next 2 abcS2 abcW2 (by kernel_rfl)
theorem abcS4 : abcS 4 = ⟨3578852966, 3368241063, 1516951981, 1567288269, 618661968, 4180228587, 2026797449, 4197074466⟩ := abcS_next 3 abcS3 abcW3 (by kernel_rfl)
theorem abcS5 : abcS 5 = ⟨71342698, 3578852966, 3368241063, 1516951981, 1135452741, 618661968, 4180228587, 2026797449⟩ := abcS_next 4 abcS4 abcW4 (by kernel_rfl)
theorem abcS6 : abcS 6 = ⟨725748213, 71342698, 3578852966, 3368241063, 1900175533, 1135452741, 618661968, 4180228587⟩ := abcS_next 5 abcS5 abcW5 (by kernel_rfl)
theorem abcS7 : abcS 7 = ⟨3842179968, 725748213, 71342698, 3578852966, 2603066369, 1900175533, 1135452741, 618661968⟩ := abcS_next 6 abcS6 abcW6 (by kernel_rfl)
theorem abcS8 : abcS 8 = ⟨2241887071, 3842179968, 725748213, 71342698, 207977081, 2603066369, 1900175533, 1135452741⟩ := abcS_next 7 abcS7 abcW7 (by kernel_rfl)
theorem abcS9 : abcS 9 = ⟨2382687417, 2241887071, 3842179968, 725748213, 852110732, 207977081, 2603066369, 1900175533⟩ := abcS_next 8 abcS8 abcW8 (by kernel_rfl)
theorem abcS10 : abcS 10 = ⟨2357671019, 2382687417, 2241887071, 3842179968, 482944406, 852110732, 207977081, 2603066369⟩ := abcS_next 9 abcS9 abcW9 (by kernel_rfl)
theorem abcS11 : abcS 11 = ⟨1201185780, 2357671019, 2382687417, 2241887071, 1131095016, 482944406, 852110732, 207977081⟩ := abcS_next 10 abcS10 abcW10 (by kernel_rfl)
theorem abcS12 : abcS 12 = ⟨4146054569, 1201185780, 2357671019, 2382687417, 2171590377, 1131095016, 482944406, 852110732⟩ := abcS_next 11 abcS11 abcW11 (by kernel_rfl)
theorem abcS13 : abcS 13 = ⟨2274437520, 4146054569, 1201185780, 2357671019, 509051416, 2171590377, 1131095016, 482944406⟩ := abcS_next 12 abcS12 abcW12 (by kernel_rfl)
theorem abcS14 : abcS 14 = ⟨3643992854, 2274437520, 4146054569, 1201185780, 1952073950, 509051416, 2171590377, 1131095016⟩ := abcS_next 13 abcS13 abcW13 (by kernel_rfl)
theorem abcS15 : abcS 15 = ⟨3227803614, 3643992854, 2274437520, 4146054569, 194179596, 1952073950, 509051416, 2171590377⟩ := abcS_next 14 abcS14 abcW14 (by kernel_rfl)
theorem abcS16 : abcS 16 = ⟨2969183118, 3227803614, 3643992854, 2274437520, 123276749, 194179596, 1952073950, 509051416⟩ := abcS_next 15 abcS15 abcW15 (by kernel_rfl)
theorem abcS17 : abcS 17 = ⟨567974555, 2969183118, 3227803614, 3643992854, 2150900380, 123276749, 194179596, 1952073950⟩ := abcS_next 16 abcS16 abcW16 (by kernel_rfl)
theorem abcS18 : abcS 18 = ⟨3271285201, 567974555, 2969183118, 3227803614, 2221859924, 2150900380, 123276749, 194179596⟩ := abcS_next 17 abcS17 abcW17 (by kernel_rfl)
theorem abcS19 : abcS 19 = ⟨4269243327, 3271285201, 567974555, 2969183118, 3431569761, 2221859924, 2150900380, 123276749⟩ := abcS_next 18 abcS18 abcW18 (by kernel_rfl)
theorem abcS20 : abcS 20 = ⟨3790736435, 4269243327, 3271285201, 567974555, 2959311225, 3431569761, 2221859924, 2150900380⟩ := abcS_next 19 abcS19 abcW19 (by kernel_rfl)
theorem abcS21 : abcS 21 = ⟨2647034723, 3790736435, 4269243327, 3271285201, 2329577776, 2959311225, 3431569761, 2221859924⟩ := abcS_next 20 abcS20 abcW20 (by kernel_rfl)
theorem abcS22 : abcS 22 = ⟨3261099373, 2647034723, 3790736435, 4269243327, 3777329520, 2329577776, 2959311225, 3431569761⟩ := abcS_next 21 abcS21 abcW21 (by kernel_rfl)
theorem abcS23 : abcS 23 = ⟨2812502591, 3261099373, 2647034723, 3790736435, 1240797514, 3777329520, 2329577776, 2959311225⟩ := abcS_next 22 abcS22 abcW22 (by kernel_rfl)
theorem abcS24 : abcS 24 = ⟨3319086477, 2812502591, 3261099373, 2647034723, 2856829767, 1240797514, 3777329520, 2329577776⟩ := abcS_next 23 abcS23 abcW23 (by kernel_rfl)
theorem abcS25 : abcS 25 = ⟨472655928, 3319086477, 2812502591, 3261099373, 673443729, 2856829767, 1240797514, 3777329520⟩ := abcS_next 24 abcS24 abcW24 (by kernel_rfl)
theorem abcS26 : abcS 26 = ⟨3454534525, 472655928, 3319086477, 2812502591, 339230094, 673443729, 2856829767, 1240797514⟩ := abcS_next 25 abcS25 abcW25 (by kernel_rfl)
theorem abcS27 : abcS 27 = ⟨3056518332, 3454534525, 472655928, 3319086477, 3343672598, 339230094, 673443729, 2856829767⟩ := abcS_next 26 abcS26 abcW26 (by kernel_rfl)
theorem abcS28 : abcS 28 = ⟨2010346792, 3056518332, 3454534525, 472655928, 3992961016, 3343672598, 339230094, 673443729⟩ := abcS_next 27 abcS27 abcW27 (by kernel_rfl)
theorem abcS29 : abcS 29 = ⟨909411017, 2010346792, 3056518332, 3454534525, 1628611511, 3992961016, 3343672598, 339230094⟩ := abcS_next 28 abcS28 abcW28 (by kernel_rfl)
theorem abcS30 : abcS 30 = ⟨2684750640, 909411017, 2010346792, 3056518332, 2917635127, 1628611511, 3992961016, 3343672598⟩ := abcS_next 29 abcS29 abcW29 (by kernel_rfl)
theorem abcS31 : abcS 31 = ⟨3935906338, 2684750640, 909411017, 2010346792, 17410874, 2917635127, 1628611511, 3992961016⟩ := abcS_next 30 abcS30 abcW30 (by kernel_rfl)
theorem abcS32 : abcS 32 = ⟨1941126133, 3935906338, 2684750640, 909411017, 3126399250, 17410874, 2917635127, 1628611511⟩ := abcS_next 31 abcS31 abcW31 (by kernel_rfl)
theorem abcS33 : abcS 33 = ⟨2564891911, 1941126133, 3935906338, 2684750640, 2631529974, 3126399250, 17410874, 2917635127⟩ := abcS_next 32 abcS32 abcW32 (by kernel_rfl)
theorem abcS34 : abcS 34 = ⟨4267724277, 2564891911, 1941126133, 3935906338, 1495571923, 2631529974, 3126399250, 17410874⟩ := abcS_next 33 abcS33 abcW33 (by kernel_rfl)
theorem abcS35 : abcS 35 = ⟨2846323596, 4267724277, 2564891911, 1941126133, 140458035, 1495571923, 2631529974, 3126399250⟩ := abcS_next 34 abcS34 abcW34 (by kernel_rfl)
theorem abcS36 : abcS 36 = ⟨1705037796, 2846323596, 4267724277, 2564891911, 4105175766, 140458035, 1495571923, 2631529974⟩ := abcS_next 35 abcS35 abcW35 (by kernel_rfl)
theorem abcS37 : abcS 37 = ⟨1101421745, 1705037796, 2846323596, 4267724277, 124953195, 4105175766, 140458035, 1495571923⟩ := abcS_next 36 abcS36 abcW36 (by kernel_rfl)
theorem abcS38 : abcS 38 = ⟨887035396, 1101421745, 1705037796, 2846323596, 2768741693, 124953195, 4105175766, 140458035⟩ := abcS_next 37 abcS37 abcW37 (by kernel_rfl)
theorem abcS39 : abcS 39 = ⟨1841658506, 887035396, 1101421745, 1705037796, 4034403272, 2768741693, 124953195, 4105175766⟩ := abcS_next 38 abcS38 abcW38 (by kernel_rfl)
theorem abcS40 : abcS 40 = ⟨2045405306, 1841658506, 887035396, 1101421745, 519815328, 4034403272, 2768741693, 124953195⟩ := abcS_next 39 abcS39 abcW39 (by kernel_rfl)
theorem abcS41 : abcS 41 = ⟨3597076326, 2045405306, 1841658506, 887035396, 641019235, 519815328, 4034403272, 2768741693⟩ := abcS_next 40 abcS40 abcW40 (by kernel_rfl)
theorem abcS42 : abcS 42 = ⟨3745932591, 3597076326, 2045405306, 1841658506, 2206934801, 641019235, 519815328, 4034403272⟩ := abcS_next 41 abcS41 abcW41 (by kernel_rfl)
theorem abcS43 : abcS 43 = ⟨397020670, 3745932591, 3597076326, 2045405306, 3737995029, 2206934801, 641019235, 519815328⟩ := abcS_next 42 abcS42 abcW42 (by kernel_rfl)
theorem abcS44 : abcS 44 = ⟨2638983059, 397020670, 3745932591, 3597076326, 4255271982, 3737995029, 2206934801, 641019235⟩ := abcS_next 43 abcS43 abcW43 (by kernel_rfl)
theorem abcS45 : abcS 45 = ⟨643991573, 2638983059, 397020670, 3745932591, 2819559920, 4255271982, 3737995029, 2206934801⟩ := abcS_next 44 abcS44 abcW44 (by kernel_rfl)
theorem abcS46 : abcS 46 = ⟨1923828625, 643991573, 2638983059, 397020670, 3077922209, 2819559920, 4255271982, 3737995029⟩ := abcS_next 45 abcS45 abcW45 (by kernel_rfl)
theorem abcS47 : abcS 47 = ⟨2706117808, 1923828625, 643991573, 2638983059, 3581645993, 3077922209, 2819559920, 4255271982⟩ := abcS_next 46 abcS46 abcW46 (by kernel_rfl)
theorem abcS48 : abcS 48 = ⟨1098003085, 2706117808, 1923828625, 643991573, 4274981830, 3581645993, 3077922209, 2819559920⟩ := abcS_next 47 abcS47 abcW47 (by kernel_rfl)
theorem abcS49 : abcS 49 = ⟨91585771, 1098003085, 2706117808, 1923828625, 3178315832, 4274981830, 3581645993, 3077922209⟩ := abcS_next 48 abcS48 abcW48 (by kernel_rfl)
theorem abcS50 : abcS 50 = ⟨4045142696, 91585771, 1098003085, 2706117808, 1851537676, 3178315832, 4274981830, 3581645993⟩ := abcS_next 49 abcS49 abcW49 (by kernel_rfl)
theorem abcS51 : abcS 51 = ⟨2047150241, 4045142696, 91585771, 1098003085, 1391578359, 1851537676, 3178315832, 4274981830⟩ := abcS_next 50 abcS50 abcW50 (by kernel_rfl)
theorem abcS52 : abcS 52 = ⟨2288941602, 2047150241, 4045142696, 91585771, 1227037726, 1391578359, 1851537676, 3178315832⟩ := abcS_next 51 abcS51 abcW51 (by kernel_rfl)
theorem abcS53 : abcS 53 = ⟨270520975, 2288941602, 2047150241, 4045142696, 1386118400, 1227037726, 1391578359, 1851537676⟩ := abcS_next 52 abcS52 abcW52 (by kernel_rfl)
theorem abcS54 : abcS 54 = ⟨4117770203, 270520975, 2288941602, 2047150241, 2672265155, 1386118400, 1227037726, 1391578359⟩ := abcS_next 53 abcS53 abcW53 (by kernel_rfl)
theorem abcS55 : abcS 55 = ⟨1053056219, 4117770203, 270520975, 2288941602, 3842906959, 2672265155, 1386118400, 1227037726⟩ := abcS_next 54 abcS54 abcW54 (by kernel_rfl)
theorem abcS56 : abcS 56 = ⟨952932627, 1053056219, 4117770203, 270520975, 1422599787, 3842906959, 2672265155, 1386118400⟩ := abcS_next 55 abcS55 abcW55 (by kernel_rfl)
theorem abcS57 : abcS 57 = ⟨4241590395, 952932627, 1053056219, 4117770203, 2606665836, 1422599787, 3842906959, 2672265155⟩ := abcS_next 56 abcS56 abcW56 (by kernel_rfl)
theorem abcS58 : abcS 58 = ⟨3227702383, 4241590395, 952932627, 1053056219, 2118385806, 2606665836, 1422599787, 3842906959⟩ := abcS_next 57 abcS57 abcW57 (by kernel_rfl)
theorem abcS59 : abcS 59 = ⟨4290184306, 3227702383, 4241590395, 952932627, 1837350854, 2118385806, 2606665836, 1422599787⟩ := abcS_next 58 abcS58 abcW58 (by kernel_rfl)
theorem abcS60 : abcS 60 = ⟨3064893439, 4290184306, 3227702383, 4241590395, 2988158269, 1837350854, 2118385806, 2606665836⟩ := abcS_next 59 abcS59 abcW59 (by kernel_rfl)
theorem abcS61 : abcS 61 = ⟨3093179625, 3064893439, 4290184306, 3227702383, 2518632596, 2988158269, 1837350854, 2118385806⟩ := abcS_next 60 abcS60 abcW60 (by kernel_rfl)
theorem abcS62 : abcS 62 = ⟨80891244, 3093179625, 3064893439, 4290184306, 2492278198, 2518632596, 2988158269, 1837350854⟩ := abcS_next 61 abcS61 abcW61 (by kernel_rfl)
theorem abcS63 : abcS 63 = ⟨3550093669, 80891244, 3093179625, 3064893439, 4212265488, 2492278198, 2518632596, 2988158269⟩ := abcS_next 62 abcS62 abcW62 (by kernel_rfl)
theorem abcS64 : abcS 64 = ⟨1349398616, 3550093669, 80891244, 3093179625, 1593118500, 4212265488, 2492278198, 2518632596⟩ := abcS_next 63 abcS63 abcW63 (by kernel_rfl)
def abcF (i : Nat) : Int := ([3128432319, 2399260650, 1094795486, 1571693091, 2953011619, 2518121116, 3021012833, 4060091821] : List Int).getD i 0
theorem abc_state (i : Nat) (h : i < 8) : stF (padF abcD 3) 1 i = abcF i := by
  have e : stF (padF abcD 3) 1 = addF rootF (abcS 64) 8 := rfl
  rw [e, abcS64]
  rcases (show i = 0 ∨ i = 1 ∨ i = 2 ∨ i = 3 ∨ i = 4 ∨ i = 5 ∨ i = 6 ∨ i = 7 by omega) with rfl | rfl | rfl | rfl | rfl | rfl | rfl | rfl <;> decide +kernel
def hexB (s : ByteArray) : ByteArray := strOfNums ((List.range 64).map (hexF (atI s)))
theorem atI_nums (xs : List Int) (i : Nat) (h : i < xs.length) (hr : 0 ≤ xs[i] ∧ xs[i] < 256) : atI (strOfNums xs) i = xs[i] := by
  unfold atI strOfNums
  simp [h]
  omega
theorem atI_sha (D : Nat → Int) (m i : Nat) (h : i < 32) : atI (shaB D m) i = shaI D m i := by
  unfold shaB
  rw [atI_nums _ i (by simp; omega)]
  · simp
  · simp
    unfold shaI beF; omega
theorem hexF_congr {f g : Nat → Int} (h : ∀ i, i < 32 → f i = g i) (i : Nat) (hi : i < 64) : hexF f i = hexF g i := by
  unfold hexF; rw [h _ (by omega)]
theorem beF_congr {f g : Nat → Int} (h : ∀ i, i < 8 → f i = g i) (i : Nat) (hi : i < 32) : beF f i = beF g i := by
  unfold beF; rw [h _ (by omega)]
def abcHex : ByteArray := ⟨#[98, 97, 55, 56, 49, 54, 98, 102, 56, 102, 48, 49, 99, 102, 101, 97, 52, 49, 52, 49, 52, 48, 100, 101, 53, 100, 97, 101, 50, 50, 50, 51, 98, 48, 48, 51, 54, 49, 97, 51, 57, 54, 49, 55, 55, 97, 57, 99, 98, 52, 49, 48, 102, 102, 54, 49, 102, 50, 48, 48, 49, 53, 97, 100]⟩
theorem abc_hex : hexB (shaB abcD 3) = abcHex := by
  have e : (List.range 64).map (hexF (atI (shaB abcD 3))) = (List.range 64).map (hexF (beF abcF)) := by
    refine List.map_congr_left fun i hi => ?_
    have hi := List.mem_range.1 hi
    refine hexF_congr (fun j hj => ?_) i hi
    rw [atI_sha _ _ _ hj]
    unfold shaI
    exact beF_congr (fun q hq => abc_state q hq) j hj
  have e2 : strOfNums ((List.range 64).map (hexF (beF abcF))) = abcHex := by kernel_rfl
  unfold hexB
  rw [e]
  exact e2
theorem abc_sha (D : Nat → Int) (h0 : D 0 = 97) (h1 : D 1 = 98) (h2 : D 2 = 99) : hexB (shaB D 3) = abcHex := by
  rw [shaB_congr (E := abcD) 3 (fun i hi => by rcases (show i = 0 ∨ i = 1 ∨ i = 2 by omega) with rfl | rfl | rfl <;> assumption)]
  exact abc_hex

theorem parts_one (s : ByteArray) : partsLen [s] = s.size := by unfold partsLen; simp
theorem row_cells {w : World} {g t : Nat} (ps : List ByteArray) (h : w.heap[g]? = some (.cells (ps.map Value.string).toArray t (0, 0))) (i : Nat) (hi : i < ps.length) : w.cell? ((⟨g, 0, none⟩ : Addr).add i) = some (.string ps[i]) := by
  have e : (⟨g, 0, none⟩ : Addr).add i = ⟨g, i, none⟩ := by unfold Addr.add; split <;> simp_all
  rw [e, cell_of_row w g i _ t (0, 0) h]
  simp [hi]
def strA : ByteArray := ⟨#[97]⟩
def strBC : ByteArray := ⟨#[98, 99]⟩
theorem abcD_rng : Bytes8 abcD := fun i => by unfold abcD; split <;> (try split) <;> omega

set_option maxHeartbeats 2000000 in
set_option maxRecDepth 100000 in
/-- It speaks, at whatever world that has the package's variables. -/
theorem speaks_any (w : World) (hV : VarsAt w) :
    Calls Tryd.prog 8 #[] w fun e w' => e = .returned (.bool true) ∧ Below w.heap.size w w' := by
  have hV1 : VarsAt (w.alloc (.cells #[.string strA, .string strBC] 9)) := hV.alloc _
  have hrow : (w.alloc (.cells #[.string strA, .string strBC] 9)).heap[w.heap.size]? = some (.cells #[.string strA, .string strBC] 9 (0, 0)) := heap_alloc_last _ _
  have hS := Sum_any ⟨w.heap.size, 0, none⟩ 2 [strA, strBC] abcD (w.alloc (.cells #[.string strA, .string strBC] 9)) (row_cells [strA, strBC] hrow) (by show w.heap.size < (w.heap.push _).size; simp) ⟨fun i hi => by
      have : i < 1 := hi
      obtain rfl : i = 0 := by omega
      rfl, fun i hi => by
      have : i < 2 := hi
      rcases (show i = 0 ∨ i = 1 by omega) with rfl | rfl <;> rfl, trivial⟩ abcD_rng hV1 (by decide) (by decide)
  have HS := Lib.hid hS
  clear hS hrow hV1 hV
  go_enter Tryd.func8, Tryd.ntmps8
  go_wp2_with fail
  refine HS.out.mono ?_
  rintro e w1 ⟨rfl, h1⟩
  have H1 := Lib.hid (((Below.refl w.heap.size w).alloc (Nat.le_refl _) (.cells #[.string strA, .string strBC] 9)).trans (h1.mono (by show _ ≤ (w.heap.push _).size; simp)))
  clear h1 HS
  go_wp2_with fail
  refine (Hex_any (shaB abcD 3) w1 (shaB_size _ _)).mono ?_
  rintro e w2 ⟨rfl, h2⟩
  have H2 := Lib.hid (H1.out.trans (h2.mono H1.out.size))
  clear h2
  have hx : strOfNums ((List.range 64).map (hexF (atI (shaB abcD 3)))) = abcHex := abc_hex
  rw [hx]
  unfold abcHex
  go_wp2_with fail
  go_ret
  exact ⟨rfl, H2.out⟩
end Go.Proofs.YtodmomhilpheiaaDoor
