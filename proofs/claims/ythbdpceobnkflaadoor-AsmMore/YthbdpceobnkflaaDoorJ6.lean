/- Which items may be, and how many bytes they have: the program's. Which items of a source may be, how many bytes one has: the program's Check and Size. Strings as lists of bytes, rows of strings and of bytes in memory. -/
import Derived.Test.YthbdpceobnkflaaDoorJ5
import Derived.Test.YthbdpceobnkflaaDoorRows
import Derived.WalkKit
import Derived.WalkSpells
import Derived.WalkLawsBesides
import Derived.Deep.QuietTactic
import Derived.Deep.OwnRows
import Derived.Laws.IdiomStrings
import Derived.Laws.AppendOwn
import Derived.Lib.AppendStr
namespace Go.Proofs.YthbdpceobnkflaaDoor
open Go Go.RowKit
set_option linter.unusedVariables false
set_option maxHeartbeats 3000000
set_option maxRecDepth 20000

def rN (r : Ri) : Ri := { r with n := ⟨#[]⟩ }
def rA (r : Ri) : Ri := { r with a := 0 }
def rL (r : Ri) : Ri := { r with l := ⟨#[]⟩ }
def rP (r : Ri) : Ri := { r with p := 0 }
def rB (r : Ri) : Ri := { r with sp := none, m := 0, cap := 0 }
theorem may1 {r : Ri} (hk : r.k = 1) : mayI r = (isNm r.n && emptyI (rN r)) := by
  unfold mayI emptyI rN
  rw [if_neg (by omega)]
  by_cases hp : r.p = 0
  · rw [if_neg (by omega), if_pos hk]
    simp only [hp, decide_true, Bool.true_and]
    rw [show decide ((⟨#[]⟩ : ByteArray).size = 0) = true from rfl, Bool.true_and]
  · rw [if_pos hp]
    simp [hp]
theorem may2 {r : Ri} (hk : r.k = 2) : mayI r = (codeM r && emptyI (rP (rL (rA (rN r))))) := by
  unfold mayI emptyI rP rL rA rN
  rw [if_pos hk, codeI_is]
  simp only [decide_true, Bool.true_and]
  rw [show decide ((⟨#[]⟩ : ByteArray).size = 0) = true from rfl, Bool.true_and, Bool.true_and]
theorem may3 {r : Ri} (hk : r.k = 3) : mayI r = ((decide (1 ≤ r.m) && decide (r.m ≤ 256)) && emptyI (rB r)) := by
  unfold mayI emptyI rB
  rw [if_neg (by omega)]
  by_cases hp : r.p = 0
  · rw [if_neg (by omega), if_neg (by omega), if_pos hk]
    simp only [hp, decide_true, Bool.and_true]
    generalize decide (r.n.size = 0) = a1
    generalize decide (r.a = 0) = a2
    generalize decide (r.l.size = 0) = a3
    generalize decide (1 ≤ r.m) = a4
    generalize decide (r.m ≤ 256) = a5
    revert a1 a2 a3 a4 a5
    decide
  · rw [if_pos hp]
    simp [hp]
theorem may4 {r : Ri} (hk : r.k = 4) : mayI r = ((decide (0 ≤ r.a) && decide (r.a ≤ 65535)) && emptyI (rA r)) := by
  unfold mayI emptyI rA
  rw [if_neg (by omega)]
  by_cases hp : r.p = 0
  · rw [if_neg (by omega), if_neg (by omega), if_neg (by omega), if_pos hk]
    simp only [hp, decide_true, Bool.true_and]
    generalize decide (r.n.size = 0) = a1
    generalize decide (0 ≤ r.a) = a2
    generalize decide (r.l.size = 0) = a3
    generalize decide (r.m = 0) = a4
    generalize decide (r.a ≤ 65535) = a5
    revert a1 a2 a3 a4 a5
    decide
  · rw [if_pos hp]
    simp [hp]
theorem may5 {r : Ri} (hk : r.k = 5) : mayI r = (isNm r.l && emptyI (rL r)) := by
  unfold mayI emptyI rL
  rw [if_neg (by omega)]
  by_cases hp : r.p = 0
  · rw [if_neg (by omega), if_neg (by omega), if_neg (by omega), if_neg (by omega), if_pos hk]
    simp only [hp, decide_true, Bool.true_and]
    rw [show decide ((⟨#[]⟩ : ByteArray).size = 0) = true from rfl, Bool.true_and]
  · rw [if_pos hp]
    simp [hp]
theorem may0 {r : Ri} (h1 : r.k ≠ 1) (h2 : r.k ≠ 2) (h3 : r.k ≠ 3) (h4 : r.k ≠ 4) (h5 : r.k ≠ 5) : mayI r = false := by
  unfold mayI
  rw [if_neg h2]
  by_cases hp : r.p = 0
  · rw [if_neg (by omega), if_neg h1, if_neg h3, if_neg h4, if_neg h5]
  · rw [if_pos hp]

theorem maybe1 (w : World) (r : Ri) (T : Hid (Tabs w)) (hk : r.k = 1) : Calls Tryd.prog 32 #[.agg (i6 r)] w fun e w' => e = .returned (.bool (mayI r)) ∧ Below w.heap.size w w' := by
  have hB : Hid (Fm w [(w.heap.size, i6 r, 40)] (w.alloc (.cells (i6 r) 40))) := Fm.one w _ _
  have k1 : (r.k == 1) = true := by rw [beq_iff_eq]; exact hk
  rw [may1 hk]
  have hN := fun v => pisname_any r.n v
  generalize isNm r.n = b at hN
  clear hk
  cases b
  · go_enter Tryd.func32, Tryd.ntmps32
    go_wp2_with (first
      | (go_at_call 46; refine (hN y).mono ?_; rintro e y2 ⟨rfl, rfl⟩; have z1 := (K1.out.bx 0 _ _ _ rfl).fz 1; have K6 : Hid (Fm w [(w.heap.size, i6 (rN r), 40)] (y2.setCell ⟨w.heap.size, 1, none⟩ (.string ⟨#[]⟩))) := K1.out.setCell 0 _ _ _ _ rfl 1 _ rfl)
      | ((with_reducible refine gen_world (w.alloc (.cells (i6 r) 40)) (Fm w [(w.heap.size, i6 r, 40)]) hB.out ?_); intro y K1; have d0 := (K1.out.bx 0 _ _ _ rfl).c 0 (.int .u8 r.k) rfl; have d1 := (K1.out.bx 0 _ _ _ rfl).c 1 (.string r.n) rfl; have d2 := (K1.out.bx 0 _ _ _ rfl).c 2 (.int .i64 r.a) rfl; have d3 := (K1.out.bx 0 _ _ _ rfl).c 3 (.string r.l) rfl; have d4 := (K1.out.bx 0 _ _ _ rfl).c 4 (.int .u8 r.p) rfl; have d5 := (K1.out.bx 0 _ _ _ rfl).c 5 (.slice r.sp r.m r.cap) rfl))
    go_ret
    exact ⟨bool_ret (by rfl), K6.out.low⟩
  · go_enter Tryd.func32, Tryd.ntmps32
    go_wp2_with (first
      | (go_at_call 48; refine (isempty_any _ (rN r)).mono ?_; rintro e y7 ⟨rfl, h7⟩; have K7 : Hid (Below w.heap.size w y7) := (K6.out.below h7).low; clear h7)
      | ((with_reducible refine at_load rt6 w.heap.size (i6 (rN r)) ?_ ?_ (.tmp 1) ?_ ?_ ?_ ?_); exact K6.out.bx 0 _ _ _ rfl; rfl; rfl; rfl; rfl)
      | (go_at_call 46; refine (hN y).mono ?_; rintro e y2 ⟨rfl, rfl⟩; have z1 := (K1.out.bx 0 _ _ _ rfl).fz 1; have K6 : Hid (Fm w [(w.heap.size, i6 (rN r), 40)] (y2.setCell ⟨w.heap.size, 1, none⟩ (.string ⟨#[]⟩))) := K1.out.setCell 0 _ _ _ _ rfl 1 _ rfl)
      | ((with_reducible refine gen_world (w.alloc (.cells (i6 r) 40)) (Fm w [(w.heap.size, i6 r, 40)]) hB.out ?_); intro y K1; have d0 := (K1.out.bx 0 _ _ _ rfl).c 0 (.int .u8 r.k) rfl; have d1 := (K1.out.bx 0 _ _ _ rfl).c 1 (.string r.n) rfl; have d2 := (K1.out.bx 0 _ _ _ rfl).c 2 (.int .i64 r.a) rfl; have d3 := (K1.out.bx 0 _ _ _ rfl).c 3 (.string r.l) rfl; have d4 := (K1.out.bx 0 _ _ _ rfl).c 4 (.int .u8 r.p) rfl; have d5 := (K1.out.bx 0 _ _ _ rfl).c 5 (.slice r.sp r.m r.cap) rfl))
    go_ret
    exact ⟨bool_ret (by rfl), K7.out⟩

theorem maybe5 (w : World) (r : Ri) (T : Hid (Tabs w)) (hk : r.k = 5) : Calls Tryd.prog 32 #[.agg (i6 r)] w fun e w' => e = .returned (.bool (mayI r)) ∧ Below w.heap.size w w' := by
  have hB : Hid (Fm w [(w.heap.size, i6 r, 40)] (w.alloc (.cells (i6 r) 40))) := Fm.one w _ _
  have k1 : (r.k == 1) = false := by rw [beq_eq_false_iff_ne]; omega
  have k2 : (r.k == 2) = false := by rw [beq_eq_false_iff_ne]; omega
  have k3 : (r.k == 3) = false := by rw [beq_eq_false_iff_ne]; omega
  have k4 : (r.k == 4) = false := by rw [beq_eq_false_iff_ne]; omega
  have k5 : (r.k == 5) = true := by rw [beq_iff_eq]; exact hk
  rw [may5 hk]
  have hN := fun v => pisname_any r.l v
  generalize isNm r.l = b at hN
  clear hk
  cases b
  · go_enter Tryd.func32, Tryd.ntmps32
    go_wp2_with (first
      | (go_at_call 46; refine (hN y).mono ?_; rintro e y2 ⟨rfl, rfl⟩; have z3 := (K1.out.bx 0 _ _ _ rfl).fz 3; have K6 : Hid (Fm w [(w.heap.size, i6 (rL r), 40)] (y2.setCell ⟨w.heap.size, 3, none⟩ (.string ⟨#[]⟩))) := K1.out.setCell 0 _ _ _ _ rfl 3 _ rfl)
      | ((with_reducible refine gen_world (w.alloc (.cells (i6 r) 40)) (Fm w [(w.heap.size, i6 r, 40)]) hB.out ?_); intro y K1; have d0 := (K1.out.bx 0 _ _ _ rfl).c 0 (.int .u8 r.k) rfl; have d1 := (K1.out.bx 0 _ _ _ rfl).c 1 (.string r.n) rfl; have d2 := (K1.out.bx 0 _ _ _ rfl).c 2 (.int .i64 r.a) rfl; have d3 := (K1.out.bx 0 _ _ _ rfl).c 3 (.string r.l) rfl; have d4 := (K1.out.bx 0 _ _ _ rfl).c 4 (.int .u8 r.p) rfl; have d5 := (K1.out.bx 0 _ _ _ rfl).c 5 (.slice r.sp r.m r.cap) rfl))
    go_ret
    exact ⟨bool_ret (by rfl), K6.out.low⟩
  · go_enter Tryd.func32, Tryd.ntmps32
    go_wp2_with (first
      | (go_at_call 48; refine (isempty_any _ (rL r)).mono ?_; rintro e y7 ⟨rfl, h7⟩; have K7 : Hid (Below w.heap.size w y7) := (K6.out.below h7).low; clear h7)
      | ((with_reducible refine at_load rt6 w.heap.size (i6 (rL r)) ?_ ?_ (.tmp 1) ?_ ?_ ?_ ?_); exact K6.out.bx 0 _ _ _ rfl; rfl; rfl; rfl; rfl)
      | (go_at_call 46; refine (hN y).mono ?_; rintro e y2 ⟨rfl, rfl⟩; have z3 := (K1.out.bx 0 _ _ _ rfl).fz 3; have K6 : Hid (Fm w [(w.heap.size, i6 (rL r), 40)] (y2.setCell ⟨w.heap.size, 3, none⟩ (.string ⟨#[]⟩))) := K1.out.setCell 0 _ _ _ _ rfl 3 _ rfl)
      | ((with_reducible refine gen_world (w.alloc (.cells (i6 r) 40)) (Fm w [(w.heap.size, i6 r, 40)]) hB.out ?_); intro y K1; have d0 := (K1.out.bx 0 _ _ _ rfl).c 0 (.int .u8 r.k) rfl; have d1 := (K1.out.bx 0 _ _ _ rfl).c 1 (.string r.n) rfl; have d2 := (K1.out.bx 0 _ _ _ rfl).c 2 (.int .i64 r.a) rfl; have d3 := (K1.out.bx 0 _ _ _ rfl).c 3 (.string r.l) rfl; have d4 := (K1.out.bx 0 _ _ _ rfl).c 4 (.int .u8 r.p) rfl; have d5 := (K1.out.bx 0 _ _ _ rfl).c 5 (.slice r.sp r.m r.cap) rfl))
    go_ret
    exact ⟨bool_ret (by rfl), K7.out⟩

theorem maybe2 (w : World) (r : Ri) (T : Hid (Tabs w)) (hk : r.k = 2) : Calls Tryd.prog 32 #[.agg (i6 r)] w fun e w' => e = .returned (.bool (mayI r)) ∧ Below w.heap.size w w' := by
  have hB : Hid (Fm w [(w.heap.size, i6 r, 40)] (w.alloc (.cells (i6 r) 40))) := Fm.one w _ _
  have k1 : (r.k == 1) = false := by rw [beq_eq_false_iff_ne]; omega
  have k2 : (r.k == 2) = true := by rw [beq_iff_eq]; exact hk
  rw [may2 hk]
  have hC := fun v T => code_may v r T
  generalize codeM r = b at hC
  clear hk
  cases b
  · go_enter Tryd.func32, Tryd.ntmps32
    go_wp2_with (first
      | ((with_reducible refine gen_world (y4.setCell ⟨w.heap.size, 3, none⟩ (.string ⟨#[]⟩)) (Fm w [(w.heap.size, i6 (rL (rA (rN r))), 40)]) ?_ ?_); exact K4.out.setCell 0 _ _ _ _ rfl 3 _ rfl; intro y5 K5; have g4 := (K5.out.bx 0 _ _ _ rfl).c 4 (.int .u8 r.p) rfl; have z4 := (K5.out.bx 0 _ _ _ rfl).fz 4; have K6 : Hid (Fm w [(w.heap.size, i6 (rP (rL (rA (rN r)))), 40)] (y5.setCell ⟨w.heap.size, 4, none⟩ (.int .u8 0))) := K5.out.setCell 0 _ _ _ _ rfl 4 _ rfl)
      | ((with_reducible refine gen_world (y3.setCell ⟨w.heap.size, 2, none⟩ (.int .i64 0)) (Fm w [(w.heap.size, i6 (rA (rN r)), 40)]) ?_ ?_); exact K3.out.setCell 0 _ _ _ _ rfl 2 _ rfl; intro y4 K4; have g3 := (K4.out.bx 0 _ _ _ rfl).c 3 (.string r.l) rfl; have z3 := (K4.out.bx 0 _ _ _ rfl).fz 3)
      | ((with_reducible refine gen_world (y2.setCell ⟨w.heap.size, 1, none⟩ (.string ⟨#[]⟩)) (Fm w [(w.heap.size, i6 (rN r), 40)]) ?_ ?_); exact K2.out.setCell 0 _ _ _ _ rfl 1 _ rfl; intro y3 K3; have g2 := (K3.out.bx 0 _ _ _ rfl).c 2 (.int .i64 r.a) rfl; have z2 := (K3.out.bx 0 _ _ _ rfl).fz 2)
      | ((with_reducible refine at_load rt6 w.heap.size (i6 r) ?_ ?_ (.tmp 1) ?_ ?_ ?_ ?_); exact K1.out.bx 0 _ _ _ rfl; rfl; rfl; rfl; rfl)
      | (go_at_call 47; refine (hC y (T.out.below K1.out.low)).mono ?_; rintro e y2 ⟨rfl, h2⟩; have K2 : Hid (Fm w [(w.heap.size, i6 r, 40)] y2) := K1.out.below h2; clear d0 d1 d2 d3 d4 d5 h2; have g1 := (K2.out.bx 0 _ _ _ rfl).c 1 (.string r.n) rfl; have z1 := (K2.out.bx 0 _ _ _ rfl).fz 1)
      | ((with_reducible refine gen_world (w.alloc (.cells (i6 r) 40)) (Fm w [(w.heap.size, i6 r, 40)]) hB.out ?_); intro y K1; have d0 := (K1.out.bx 0 _ _ _ rfl).c 0 (.int .u8 r.k) rfl; have d1 := (K1.out.bx 0 _ _ _ rfl).c 1 (.string r.n) rfl; have d2 := (K1.out.bx 0 _ _ _ rfl).c 2 (.int .i64 r.a) rfl; have d3 := (K1.out.bx 0 _ _ _ rfl).c 3 (.string r.l) rfl; have d4 := (K1.out.bx 0 _ _ _ rfl).c 4 (.int .u8 r.p) rfl; have d5 := (K1.out.bx 0 _ _ _ rfl).c 5 (.slice r.sp r.m r.cap) rfl))
    go_ret
    exact ⟨bool_ret (by rfl), K6.out.low⟩
  · go_enter Tryd.func32, Tryd.ntmps32
    go_wp2_with (first
      | (go_at_call 48; refine (isempty_any _ (rP (rL (rA (rN r))))).mono ?_; rintro e y7 ⟨rfl, h7⟩; have K7 : Hid (Below w.heap.size w y7) := (K6.out.below h7).low; clear h7)
      | ((with_reducible refine at_load rt6 w.heap.size (i6 (rP (rL (rA (rN r))))) ?_ ?_ (.tmp 1) ?_ ?_ ?_ ?_); exact K6.out.bx 0 _ _ _ rfl; rfl; rfl; rfl; rfl)
      | ((with_reducible refine gen_world (y4.setCell ⟨w.heap.size, 3, none⟩ (.string ⟨#[]⟩)) (Fm w [(w.heap.size, i6 (rL (rA (rN r))), 40)]) ?_ ?_); exact K4.out.setCell 0 _ _ _ _ rfl 3 _ rfl; intro y5 K5; have g4 := (K5.out.bx 0 _ _ _ rfl).c 4 (.int .u8 r.p) rfl; have z4 := (K5.out.bx 0 _ _ _ rfl).fz 4; have K6 : Hid (Fm w [(w.heap.size, i6 (rP (rL (rA (rN r)))), 40)] (y5.setCell ⟨w.heap.size, 4, none⟩ (.int .u8 0))) := K5.out.setCell 0 _ _ _ _ rfl 4 _ rfl)
      | ((with_reducible refine gen_world (y3.setCell ⟨w.heap.size, 2, none⟩ (.int .i64 0)) (Fm w [(w.heap.size, i6 (rA (rN r)), 40)]) ?_ ?_); exact K3.out.setCell 0 _ _ _ _ rfl 2 _ rfl; intro y4 K4; have g3 := (K4.out.bx 0 _ _ _ rfl).c 3 (.string r.l) rfl; have z3 := (K4.out.bx 0 _ _ _ rfl).fz 3)
      | ((with_reducible refine gen_world (y2.setCell ⟨w.heap.size, 1, none⟩ (.string ⟨#[]⟩)) (Fm w [(w.heap.size, i6 (rN r), 40)]) ?_ ?_); exact K2.out.setCell 0 _ _ _ _ rfl 1 _ rfl; intro y3 K3; have g2 := (K3.out.bx 0 _ _ _ rfl).c 2 (.int .i64 r.a) rfl; have z2 := (K3.out.bx 0 _ _ _ rfl).fz 2)
      | ((with_reducible refine at_load rt6 w.heap.size (i6 r) ?_ ?_ (.tmp 1) ?_ ?_ ?_ ?_); exact K1.out.bx 0 _ _ _ rfl; rfl; rfl; rfl; rfl)
      | (go_at_call 47; refine (hC y (T.out.below K1.out.low)).mono ?_; rintro e y2 ⟨rfl, h2⟩; have K2 : Hid (Fm w [(w.heap.size, i6 r, 40)] y2) := K1.out.below h2; clear d0 d1 d2 d3 d4 d5 h2; have g1 := (K2.out.bx 0 _ _ _ rfl).c 1 (.string r.n) rfl; have z1 := (K2.out.bx 0 _ _ _ rfl).fz 1)
      | ((with_reducible refine gen_world (w.alloc (.cells (i6 r) 40)) (Fm w [(w.heap.size, i6 r, 40)]) hB.out ?_); intro y K1; have d0 := (K1.out.bx 0 _ _ _ rfl).c 0 (.int .u8 r.k) rfl; have d1 := (K1.out.bx 0 _ _ _ rfl).c 1 (.string r.n) rfl; have d2 := (K1.out.bx 0 _ _ _ rfl).c 2 (.int .i64 r.a) rfl; have d3 := (K1.out.bx 0 _ _ _ rfl).c 3 (.string r.l) rfl; have d4 := (K1.out.bx 0 _ _ _ rfl).c 4 (.int .u8 r.p) rfl; have d5 := (K1.out.bx 0 _ _ _ rfl).c 5 (.slice r.sp r.m r.cap) rfl))
    go_ret
    exact ⟨bool_ret (by rfl), K7.out⟩

theorem and2 (b1 b2 : Bool) : b1 = false ∨ (b1 = true ∧ b2 = false) ∨ (b1 = true ∧ b2 = true) := by revert b1 b2; decide

theorem maybe3 (w : World) (r : Ri) (T : Hid (Tabs w)) (hk : r.k = 3) : Calls Tryd.prog 32 #[.agg (i6 r)] w fun e w' => e = .returned (.bool (mayI r)) ∧ Below w.heap.size w w' := by
  have hB : Hid (Fm w [(w.heap.size, i6 r, 40)] (w.alloc (.cells (i6 r) 40))) := Fm.one w _ _
  have k1 : (r.k == 1) = false := by rw [beq_eq_false_iff_ne]; omega
  have k2 : (r.k == 2) = false := by rw [beq_eq_false_iff_ne]; omega
  have k3 : (r.k == 3) = true := by rw [beq_iff_eq]; exact hk
  rw [may3 hk]
  have e1 : decide ((1 : Int) ≤ (r.m : Int)) = decide (1 ≤ r.m) := by rw [Bool.eq_iff_iff]; simp; omega
  have e2 : decide ((r.m : Int) ≤ 256) = decide (r.m ≤ 256) := by rw [Bool.eq_iff_iff]; simp; omega
  have e3 : (r.m ≤ 256) ↔ decide (r.m ≤ 256) = true := by simp
  have e4 : (1 ≤ r.m) ↔ decide (1 ≤ r.m) = true := by simp
  obtain ⟨b1, hb1⟩ : ∃ b, decide (1 ≤ r.m) = b := ⟨_, rfl⟩
  obtain ⟨b2, hb2⟩ : ∃ b, decide (r.m ≤ 256) = b := ⟨_, rfl⟩
  rw [hb1] at e1 e4
  rw [hb2] at e2 e3
  rw [hb1, hb2]
  clear hk
  rcases and2 b1 b2 with rfl | ⟨rfl, rfl⟩ | ⟨rfl, rfl⟩
  · go_enter Tryd.func32, Tryd.ntmps32
    go_wp2_with (first
      | ((with_reducible refine gen_world (w.alloc (.cells (i6 r) 40)) (Fm w [(w.heap.size, i6 r, 40)]) hB.out ?_); intro y K1; have d0 := (K1.out.bx 0 _ _ _ rfl).c 0 (.int .u8 r.k) rfl; have d1 := (K1.out.bx 0 _ _ _ rfl).c 1 (.string r.n) rfl; have d2 := (K1.out.bx 0 _ _ _ rfl).c 2 (.int .i64 r.a) rfl; have d3 := (K1.out.bx 0 _ _ _ rfl).c 3 (.string r.l) rfl; have d4 := (K1.out.bx 0 _ _ _ rfl).c 4 (.int .u8 r.p) rfl; have d5 := (K1.out.bx 0 _ _ _ rfl).c 5 (.slice r.sp r.m r.cap) rfl; have z5 := (K1.out.bx 0 _ _ _ rfl).fz 5; have K6 : Hid (Fm w [(w.heap.size, i6 (rB r), 40)] (y.setCell ⟨w.heap.size, 5, none⟩ (.slice none 0 0))) := K1.out.setCell 0 _ _ _ _ rfl 5 _ rfl))
    go_ret
    exact ⟨bool_ret (by rfl), K6.out.low⟩
  · go_enter Tryd.func32, Tryd.ntmps32
    go_wp2_with (first
      | ((with_reducible refine gen_world (w.alloc (.cells (i6 r) 40)) (Fm w [(w.heap.size, i6 r, 40)]) hB.out ?_); intro y K1; have d0 := (K1.out.bx 0 _ _ _ rfl).c 0 (.int .u8 r.k) rfl; have d1 := (K1.out.bx 0 _ _ _ rfl).c 1 (.string r.n) rfl; have d2 := (K1.out.bx 0 _ _ _ rfl).c 2 (.int .i64 r.a) rfl; have d3 := (K1.out.bx 0 _ _ _ rfl).c 3 (.string r.l) rfl; have d4 := (K1.out.bx 0 _ _ _ rfl).c 4 (.int .u8 r.p) rfl; have d5 := (K1.out.bx 0 _ _ _ rfl).c 5 (.slice r.sp r.m r.cap) rfl; have z5 := (K1.out.bx 0 _ _ _ rfl).fz 5; have K6 : Hid (Fm w [(w.heap.size, i6 (rB r), 40)] (y.setCell ⟨w.heap.size, 5, none⟩ (.slice none 0 0))) := K1.out.setCell 0 _ _ _ _ rfl 5 _ rfl))
    go_ret
    exact ⟨bool_ret (by rfl), K6.out.low⟩
  · go_enter Tryd.func32, Tryd.ntmps32
    go_wp2_with (first
      | (go_at_call 48; refine (isempty_any _ (rB r)).mono ?_; rintro e y7 ⟨rfl, h7⟩; have K7 : Hid (Below w.heap.size w y7) := (K6.out.below h7).low; clear h7)
      | ((with_reducible refine at_load rt6 w.heap.size (i6 (rB r)) ?_ ?_ (.tmp 1) ?_ ?_ ?_ ?_); exact K6.out.bx 0 _ _ _ rfl; rfl; rfl; rfl; rfl)
      | ((with_reducible refine gen_world (w.alloc (.cells (i6 r) 40)) (Fm w [(w.heap.size, i6 r, 40)]) hB.out ?_); intro y K1; have d0 := (K1.out.bx 0 _ _ _ rfl).c 0 (.int .u8 r.k) rfl; have d1 := (K1.out.bx 0 _ _ _ rfl).c 1 (.string r.n) rfl; have d2 := (K1.out.bx 0 _ _ _ rfl).c 2 (.int .i64 r.a) rfl; have d3 := (K1.out.bx 0 _ _ _ rfl).c 3 (.string r.l) rfl; have d4 := (K1.out.bx 0 _ _ _ rfl).c 4 (.int .u8 r.p) rfl; have d5 := (K1.out.bx 0 _ _ _ rfl).c 5 (.slice r.sp r.m r.cap) rfl; have z5 := (K1.out.bx 0 _ _ _ rfl).fz 5; have K6 : Hid (Fm w [(w.heap.size, i6 (rB r), 40)] (y.setCell ⟨w.heap.size, 5, none⟩ (.slice none 0 0))) := K1.out.setCell 0 _ _ _ _ rfl 5 _ rfl))
    go_ret
    exact ⟨bool_ret (by rfl), K7.out⟩

theorem maybe4 (w : World) (r : Ri) (T : Hid (Tabs w)) (hk : r.k = 4) : Calls Tryd.prog 32 #[.agg (i6 r)] w fun e w' => e = .returned (.bool (mayI r)) ∧ Below w.heap.size w w' := by
  have hB : Hid (Fm w [(w.heap.size, i6 r, 40)] (w.alloc (.cells (i6 r) 40))) := Fm.one w _ _
  have k1 : (r.k == 1) = false := by rw [beq_eq_false_iff_ne]; omega
  have k2 : (r.k == 2) = false := by rw [beq_eq_false_iff_ne]; omega
  have k3 : (r.k == 3) = false := by rw [beq_eq_false_iff_ne]; omega
  have k4 : (r.k == 4) = true := by rw [beq_iff_eq]; exact hk
  rw [may4 hk]
  obtain ⟨b1, hb1⟩ : ∃ b, decide (0 ≤ r.a) = b := ⟨_, rfl⟩
  obtain ⟨b2, hb2⟩ : ∃ b, decide (r.a ≤ 65535) = b := ⟨_, rfl⟩
  rw [hb1, hb2]
  clear hk
  rcases and2 b1 b2 with rfl | ⟨rfl, rfl⟩ | ⟨rfl, rfl⟩
  · go_enter Tryd.func32, Tryd.ntmps32
    go_wp2_with (first
      | ((with_reducible refine gen_world (w.alloc (.cells (i6 r) 40)) (Fm w [(w.heap.size, i6 r, 40)]) hB.out ?_); intro y K1; have d0 := (K1.out.bx 0 _ _ _ rfl).c 0 (.int .u8 r.k) rfl; have d1 := (K1.out.bx 0 _ _ _ rfl).c 1 (.string r.n) rfl; have d2 := (K1.out.bx 0 _ _ _ rfl).c 2 (.int .i64 r.a) rfl; have d3 := (K1.out.bx 0 _ _ _ rfl).c 3 (.string r.l) rfl; have d4 := (K1.out.bx 0 _ _ _ rfl).c 4 (.int .u8 r.p) rfl; have d5 := (K1.out.bx 0 _ _ _ rfl).c 5 (.slice r.sp r.m r.cap) rfl; have z2 := (K1.out.bx 0 _ _ _ rfl).fz 2; have K6 : Hid (Fm w [(w.heap.size, i6 (rA r), 40)] (y.setCell ⟨w.heap.size, 2, none⟩ (.int .i64 0))) := K1.out.setCell 0 _ _ _ _ rfl 2 _ rfl))
    go_ret
    exact ⟨bool_ret (by rfl), K6.out.low⟩
  · go_enter Tryd.func32, Tryd.ntmps32
    go_wp2_with (first
      | ((with_reducible refine gen_world (w.alloc (.cells (i6 r) 40)) (Fm w [(w.heap.size, i6 r, 40)]) hB.out ?_); intro y K1; have d0 := (K1.out.bx 0 _ _ _ rfl).c 0 (.int .u8 r.k) rfl; have d1 := (K1.out.bx 0 _ _ _ rfl).c 1 (.string r.n) rfl; have d2 := (K1.out.bx 0 _ _ _ rfl).c 2 (.int .i64 r.a) rfl; have d3 := (K1.out.bx 0 _ _ _ rfl).c 3 (.string r.l) rfl; have d4 := (K1.out.bx 0 _ _ _ rfl).c 4 (.int .u8 r.p) rfl; have d5 := (K1.out.bx 0 _ _ _ rfl).c 5 (.slice r.sp r.m r.cap) rfl; have z2 := (K1.out.bx 0 _ _ _ rfl).fz 2; have K6 : Hid (Fm w [(w.heap.size, i6 (rA r), 40)] (y.setCell ⟨w.heap.size, 2, none⟩ (.int .i64 0))) := K1.out.setCell 0 _ _ _ _ rfl 2 _ rfl))
    go_ret
    exact ⟨bool_ret (by rfl), K6.out.low⟩
  · go_enter Tryd.func32, Tryd.ntmps32
    go_wp2_with (first
      | (go_at_call 48; refine (isempty_any _ (rA r)).mono ?_; rintro e y7 ⟨rfl, h7⟩; have K7 : Hid (Below w.heap.size w y7) := (K6.out.below h7).low; clear h7)
      | ((with_reducible refine at_load rt6 w.heap.size (i6 (rA r)) ?_ ?_ (.tmp 1) ?_ ?_ ?_ ?_); exact K6.out.bx 0 _ _ _ rfl; rfl; rfl; rfl; rfl)
      | ((with_reducible refine gen_world (w.alloc (.cells (i6 r) 40)) (Fm w [(w.heap.size, i6 r, 40)]) hB.out ?_); intro y K1; have d0 := (K1.out.bx 0 _ _ _ rfl).c 0 (.int .u8 r.k) rfl; have d1 := (K1.out.bx 0 _ _ _ rfl).c 1 (.string r.n) rfl; have d2 := (K1.out.bx 0 _ _ _ rfl).c 2 (.int .i64 r.a) rfl; have d3 := (K1.out.bx 0 _ _ _ rfl).c 3 (.string r.l) rfl; have d4 := (K1.out.bx 0 _ _ _ rfl).c 4 (.int .u8 r.p) rfl; have d5 := (K1.out.bx 0 _ _ _ rfl).c 5 (.slice r.sp r.m r.cap) rfl; have z2 := (K1.out.bx 0 _ _ _ rfl).fz 2; have K6 : Hid (Fm w [(w.heap.size, i6 (rA r), 40)] (y.setCell ⟨w.heap.size, 2, none⟩ (.int .i64 0))) := K1.out.setCell 0 _ _ _ _ rfl 2 _ rfl))
    go_ret
    exact ⟨bool_ret (by rfl), K7.out⟩

theorem maybe0 (w : World) (r : Ri) (T : Hid (Tabs w)) (hk : r.k ≠ 1 ∧ r.k ≠ 2 ∧ r.k ≠ 3 ∧ r.k ≠ 4 ∧ r.k ≠ 5) : Calls Tryd.prog 32 #[.agg (i6 r)] w fun e w' => e = .returned (.bool (mayI r)) ∧ Below w.heap.size w w' := by
  have hB : Hid (Fm w [(w.heap.size, i6 r, 40)] (w.alloc (.cells (i6 r) 40))) := Fm.one w _ _
  have k1 : (r.k == 1) = false := by rw [beq_eq_false_iff_ne]; omega
  have k2 : (r.k == 2) = false := by rw [beq_eq_false_iff_ne]; omega
  have k3 : (r.k == 3) = false := by rw [beq_eq_false_iff_ne]; omega
  have k4 : (r.k == 4) = false := by rw [beq_eq_false_iff_ne]; omega
  have k5 : (r.k == 5) = false := by rw [beq_eq_false_iff_ne]; omega
  rw [may0 hk.1 hk.2.1 hk.2.2.1 hk.2.2.2.1 hk.2.2.2.2]
  clear hk
  go_enter Tryd.func32, Tryd.ntmps32
  go_wp2_with ((with_reducible refine gen_world (w.alloc (.cells (i6 r) 40)) (Fm w [(w.heap.size, i6 r, 40)]) hB.out ?_); intro y K1; have d0 := (K1.out.bx 0 _ _ _ rfl).c 0 (.int .u8 r.k) rfl; have d1 := (K1.out.bx 0 _ _ _ rfl).c 1 (.string r.n) rfl; have d2 := (K1.out.bx 0 _ _ _ rfl).c 2 (.int .i64 r.a) rfl; have d3 := (K1.out.bx 0 _ _ _ rfl).c 3 (.string r.l) rfl; have d4 := (K1.out.bx 0 _ _ _ rfl).c 4 (.int .u8 r.p) rfl; have d5 := (K1.out.bx 0 _ _ _ rfl).c 5 (.slice r.sp r.m r.cap) rfl)
  go_ret
  exact ⟨rfl, K1.out.low⟩

theorem maybe_any (w : World) (r : Ri) (T : Hid (Tabs w)) : Calls Tryd.prog 32 #[.agg (i6 r)] w fun e w' => e = .returned (.bool (mayI r)) ∧ Below w.heap.size w w' := by
  by_cases h1 : r.k = 1
  · exact maybe1 w r T h1
  by_cases h2 : r.k = 2
  · exact maybe2 w r T h2
  by_cases h3 : r.k = 3
  · exact maybe3 w r T h3
  by_cases h4 : r.k = 4
  · exact maybe4 w r T h4
  by_cases h5 : r.k = 5
  · exact maybe5 w r T h5
  exact maybe0 w r T ⟨h1, h2, h3, h4, h5⟩
end Go.Proofs.YthbdpceobnkflaaDoor

namespace Go.Proofs.YthbdpceobnkflaaDoor
open Go Go.RowKit
set_option linter.unusedVariables false
set_option maxHeartbeats 3000000
set_option maxRecDepth 20000

def z0 : Ri := ⟨0, ⟨#[]⟩, 0, ⟨#[]⟩, 0, none, 0, 0⟩
theorem one6 (r : Ri) : (i6 r).all (·.oneCell') = true := by simp [i6, Value.oneCell']
theorem pcheck_any (w : World) (sp : Option Addr) (cap : Nat) (l : List Ri) (hl : Hid (LI w sp l)) (hn : l.length ≤ 9223372036854775807) (T : Hid (Tabs w)) :
    Calls Tryd.prog 20 #[.slice sp l.length cap] w fun e w' => e = .returned (.tuple #[.int .i64 (checkE l), .int .i64 (checkN l)]) ∧ Below w.heap.size w w' := by
  obtain ⟨n, hn'⟩ : ∃ n, l.length = n := ⟨_, rfl⟩
  have ni : (n : Int) ≤ 9223372036854775807 := by omega
  by_cases hbig : 4096 < n
  · have e : checkE l = 2 := by unfold checkE; rw [if_pos (by omega)]
    have e' : checkN l = 0 := by unfold checkN; rw [if_pos (by omega)]
    rw [e, e', hn']
    have q : decide ((4096 : Int) < n) = true := by simp; omega
    clear hbig hn hn' e e'
    go_enter Tryd.func20, Tryd.ntmps20
    go_wp2
    go_ret2
    exact ⟨rfl, Below.refl _ _⟩
  obtain ⟨R, hR⟩ : ∃ R, checkE l = R := ⟨_, rfl⟩
  obtain ⟨N, hN⟩ : ∃ R, checkN l = R := ⟨_, rfl⟩
  have hR' : Hid (R = (if (badI l).isSome then 130 else 0) ∧ N = ((badI l).getD 0 : Nat)) := by
    refine ⟨?_, ?_⟩
    · rw [← hR]
      unfold checkE
      rw [if_neg (by omega)]
    · rw [← hN]
      unfold checkN
      rw [if_neg (by omega)]
  rw [hR, hN, hn']
  have q : decide ((4096 : Int) < n) = false := by simp; omega
  have hl' : Hid (l.length = n) := hn'
  have ni4 : (n : Int) ≤ 4096 := by omega
  clear hR hN hbig hn hn' ni
  go_enter Tryd.func20, Tryd.ntmps20
  go_wp2
  go_loopw [11] (fun i wz => ∃ (j : Nat) (y : World), y = wz ∧ i = .int .i64 (j : Int) ∧ Hid (j ≤ n ∧ ∀ i (hi : i < l.length), i < j → mayI l[i] = true) ∧ Hid (Below w.heap.size w y)) (fun i _ => (n - intOf i).toNat)
  case atStart => exact ⟨0, w, rfl, rfl, ⟨by omega, fun i _ h => absurd h (by omega)⟩, Below.refl _ _⟩
  case round =>
    obtain ⟨j, y, rfl, rfl, J, K⟩ := hrel
    by_cases hlt : j < n
    · have hjl : j < l.length := by rw [hl'.out]; exact hlt
      obtain ⟨gb, ob, rfl, hc0⟩ := hl.out j l[j] (List.getElem?_eq_getElem hjl)
      have hc : Hid (y.rangeAt gb (ob + j * 6) (i6 l[j]).toList) := range_keep hc0 K.out
      clear hc0
      have ij := fun v => idxP (g := gb) (off := ob) (len := n) (cap := cap) Tryd.underlying22 (s := 6) (by kernel_rfl) .i64 j v hlt
      have hji : (j : Int) < n := by omega
      have hlt' : Hid (j < n) := hlt
      have hM := fun v T => maybe_any v l[j] T
      by_cases hb : mayI l[j] = true
      · have fin : Hid (∀ i (hi : i < l.length), i < j + 1 → mayI l[i] = true) := fun i hi h => by
          rcases Nat.lt_succ_iff_lt_or_eq.1 h with h' | rfl
          · exact J.out.2 i hi h'
          · exact hb
        rw [hb] at hM
        generalize l[j] = s at hc hM
        clear hlt hb hjl
        go_wp2_with (first
          | (go_at_call 32; refine (hM y2 (T.out.below (K.out.trans (K2.out.low.mono K.out.size)))).mono ?_; rintro e y3 ⟨rfl, h3⟩; have U2 : Hid (Below w.heap.size w y3) := K.out.trans ((K2.out.low.trans (h3.mono K2.out.low.size)).mono K.out.size); clear h3)
          | ((with_reducible refine at_load rt6 y.heap.size (i6 s) ?_ ?_ (.tmp 5) ?_ ?_ ?_ ?_); exact K2.out.bx 0 _ _ _ rfl; rfl; rfl; rfl; rfl)
          | ((with_reducible refine at_st rt6 y.heap.size (i6 z0) (i6 s) ?_ ?_ ?_ ?_ (.tmp 5) (.tmp 15) ?_ ?_ ?_ ?_ ?_); exact alloc_last' y _; rfl; rfl; exact one6 _; rfl; rfl; rfl; rfl; intro y2 hw2; have K2 : Hid (Fm y [(y.heap.size, i6 s, 40)] y2) := (Fm.one y (i6 z0) 40).put 0 _ _ _ _ rfl hw2.out; clear hw2)
          | ((with_reducible refine at_loadm rt6 gb (ob + j * 6) (i6 s) ?_ ?_ (.tmp 14) ?_ ?_ ?_ ?_); exact hc.out; rfl; kernel_rfl; rfl; rfl))
        go_roundw
        case rel => exact ⟨j + 1, _, rfl, by simp, ⟨by have := hlt'.out; omega, fin.out⟩, U2⟩
        case measure => have := hlt'.out; simp [intOf]; omega
      · have fin : Hid (R = 130 ∧ N = (j : Int)) := by
          have hb' := badI_some J.out.2 hjl (Bool.eq_false_iff.2 hb)
          obtain ⟨r1, r2⟩ := hR'.out
          rw [hb'] at r1 r2
          exact ⟨r1, r2⟩
        rw [Bool.eq_false_iff.2 hb] at hM
        generalize l[j] = s at hc hM
        clear hlt hb hjl
        go_wp2_with (first
          | (go_at_call 32; refine (hM y2 (T.out.below (K.out.trans (K2.out.low.mono K.out.size)))).mono ?_; rintro e y3 ⟨rfl, h3⟩; have U2 : Hid (Below w.heap.size w y3) := K.out.trans ((K2.out.low.trans (h3.mono K2.out.low.size)).mono K.out.size); clear h3)
          | ((with_reducible refine at_load rt6 y.heap.size (i6 s) ?_ ?_ (.tmp 5) ?_ ?_ ?_ ?_); exact K2.out.bx 0 _ _ _ rfl; rfl; rfl; rfl; rfl)
          | ((with_reducible refine at_st rt6 y.heap.size (i6 z0) (i6 s) ?_ ?_ ?_ ?_ (.tmp 5) (.tmp 15) ?_ ?_ ?_ ?_ ?_); exact alloc_last' y _; rfl; rfl; exact one6 _; rfl; rfl; rfl; rfl; intro y2 hw2; have K2 : Hid (Fm y [(y.heap.size, i6 s, 40)] y2) := (Fm.one y (i6 z0) 40).put 0 _ _ _ _ rfl hw2.out; clear hw2)
          | ((with_reducible refine at_loadm rt6 gb (ob + j * 6) (i6 s) ?_ ?_ (.tmp 14) ?_ ?_ ?_ ?_); exact hc.out; rfl; kernel_rfl; rfl; rfl))
        go_ret2
        exact ⟨tup_ret fin.out.1.symm fin.out.2.symm, U2.out⟩
    · have hje : j = n := by have := J.out.1; omega
      subst hje
      have fin : Hid (R = 0 ∧ N = 0) := by
        have hb' := badI_none (l := l) fun i hi => J.out.2 i hi (by rw [← hl'.out]; exact hi)
        obtain ⟨r1, r2⟩ := hR'.out
        rw [hb'] at r1 r2
        exact ⟨r1, r2⟩
      clear hlt
      go_wp2
      go_ret2
      exact ⟨tup_ret fin.out.1.symm fin.out.2.symm, K.out⟩
end Go.Proofs.YthbdpceobnkflaaDoor

namespace Go.Proofs.YthbdpceobnkflaaDoor
open Go Go.RowKit
set_option linter.unusedVariables false
set_option maxHeartbeats 3000000
set_option maxRecDepth 20000

def strL (s : ByteArray) : List UInt8 := s.data.toList
theorem strL_len (s : ByteArray) : (strL s).length = s.size := by unfold strL; rw [Array.length_toList]; rfl
theorem infoB : (Tryd.prog.info? 5).map (fun i => (i.zero, i.size, i.bytes)) = some (some (.int .u8 0), 1, 1) := by kernel_rfl
def byV (b : UInt8) : Value := .int .u8 (b.toNat : Int)
end Go.Proofs.YthbdpceobnkflaaDoor
