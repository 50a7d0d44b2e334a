/- Which items may be, and how many bytes they have, by the document. -/
import Derived.Test.YtfdjifgmlgpjgaaDoorIb
namespace Go.Proofs.YtfdjifgmlgpjgaaDoor
open Go Go.RowKit
set_option linter.unusedVariables false
set_option maxHeartbeats 3000000
set_option maxRecDepth 20000

theorem may_code (w : World) (r : Ri) (hk : Hid (r.k = 2)) : Calls Tryd.prog 26 #[.agg (i6 r)] w fun e w' => e = .returned (.bool (mayI r)) ∧ Below w.heap.size w w' := by
  have hB : Hid (Fm w [(w.heap.size, i6 r, 35)] (w.alloc (.cells (i6 r) 35))) := Fm.one w _ _
  have e0 : mayI r = codeI r := by unfold mayI; rw [if_pos hk.out]
  rw [e0]
  have hC := fun v => rcode_any v r
  generalize codeI r = R at hC
  have k2 : (r.k == 2) = true := by rw [beq_iff_eq]; exact hk.out
  go_enter Tryd.func26, Tryd.ntmps26
  go_wp2_with (first | ((with_reducible refine gen_world (w.alloc (.cells (i6 r) 35)) (Fm w [(w.heap.size, i6 r, 35)]) hB.out ?_); intro y K1; have d0 := (K1.out.bx 0 _ _ _ rfl).c 0 (.int .u8 r.k) rfl; have d1 := (K1.out.bx 0 _ _ _ rfl).c 1 (.string r.n) rfl; have d2 := (K1.out.bx 0 _ _ _ rfl).c 2 (.int .i64 r.a) rfl; have d3 := (K1.out.bx 0 _ _ _ rfl).c 3 (.string r.l) rfl; have d4 := (K1.out.bx 0 _ _ _ rfl).c 4 (.int .u8 r.p) rfl; have d5 := (K1.out.bx 0 _ _ _ rfl).c 5 (.slice r.sp r.m r.cap) rfl) | ((with_reducible refine at_load rt6 w.heap.size (i6 r) ?_ ?_ (.tmp 1) ?_ ?_ ?_ ?_); exact K1.out.bx 0 _ _ _ rfl; rfl; rfl; rfl; rfl) | (go_at_call 45; refine (hC y).mono ?_; rintro e y2 ⟨rfl, h2⟩; have K2 : Hid (Below w.heap.size w y2) := (K1.out.below h2).low; clear h2))
  go_ret
  exact ⟨rfl, K2.out⟩
theorem may_part (w : World) (r : Ri) (hk : Hid (r.k ≠ 2 ∧ r.p ≠ 0)) : Calls Tryd.prog 26 #[.agg (i6 r)] w fun e w' => e = .returned (.bool (mayI r)) ∧ Below w.heap.size w w' := by
  have hB : Hid (Fm w [(w.heap.size, i6 r, 35)] (w.alloc (.cells (i6 r) 35))) := Fm.one w _ _
  have e0 : mayI r = false := by unfold mayI; rw [if_neg hk.out.1, if_pos hk.out.2]
  rw [e0]
  have k2 : (r.k == 2) = false := by rw [beq_eq_false_iff_ne]; exact hk.out.1
  have p0 : (r.p != 0) = true := by rw [bne_iff_ne]; exact hk.out.2
  go_enter Tryd.func26, Tryd.ntmps26
  go_wp2_with (first | ((with_reducible refine gen_world (w.alloc (.cells (i6 r) 35)) (Fm w [(w.heap.size, i6 r, 35)]) hB.out ?_); intro y K1; have d0 := (K1.out.bx 0 _ _ _ rfl).c 0 (.int .u8 r.k) rfl; have d1 := (K1.out.bx 0 _ _ _ rfl).c 1 (.string r.n) rfl; have d2 := (K1.out.bx 0 _ _ _ rfl).c 2 (.int .i64 r.a) rfl; have d3 := (K1.out.bx 0 _ _ _ rfl).c 3 (.string r.l) rfl; have d4 := (K1.out.bx 0 _ _ _ rfl).c 4 (.int .u8 r.p) rfl; have d5 := (K1.out.bx 0 _ _ _ rfl).c 5 (.slice r.sp r.m r.cap) rfl))
  go_ret
  exact ⟨rfl, K1.out.low⟩
theorem may_label (w : World) (r : Ri) (hk : Hid (r.k = 1 ∧ r.p = 0)) : Calls Tryd.prog 26 #[.agg (i6 r)] w fun e w' => e = .returned (.bool (mayI r)) ∧ Below w.heap.size w w' := by
  have hB : Hid (Fm w [(w.heap.size, i6 r, 35)] (w.alloc (.cells (i6 r) 35))) := Fm.one w _ _
  obtain ⟨R, hR⟩ : ∃ R, Hid (mayI r = R) := ⟨_, (rfl : mayI r = mayI r)⟩
  rw [hR.out]
  have hk1 := hk.out.1
  have p0 : (r.p != 0) = false := by rw [bne_eq_false_iff_eq]; exact hk.out.2
  have k2 : (r.k == 2) = false := by rw [beq_eq_false_iff_ne]; omega
  have k1 : (r.k == 1) = true := by rw [beq_iff_eq]; omega
  have fin : Hid (R = (isNm r.n && (decide (r.a = 0) && (decide (r.l.size = 0) && decide (r.m = 0))))) := by
    show _ = _
    rw [← hR.out]
    unfold mayI
    rw [if_neg (by omega), if_neg (by have := hk.out.2; omega), if_pos hk1]
  clear hk1
  have hN := fun v => risname_any r.n v
  generalize isNm r.n = b0 at hN fin
  obtain ⟨b1, s1⟩ : ∃ b, decide (r.a = 0) = b := ⟨_, rfl⟩
  have t1 : (r.a == 0) = b1 := by rw [← s1, Bool.eq_iff_iff]; simp
  obtain ⟨b2, s2⟩ : ∃ b, decide (r.l.size = 0) = b := ⟨_, rfl⟩
  have t2 : r.l.toList.isEmpty = b2 := by rw [emp_is]; exact s2
  obtain ⟨b3, s3⟩ : ∃ b, decide (r.m = 0) = b := ⟨_, rfl⟩
  have t3 : ((r.m : Int) == 0) = b3 := by rw [← s3, Bool.eq_iff_iff]; simp
  rw [s1, s2, s3] at fin
  clear s1 s2 s3
  cases b0 <;> cases b1 <;> cases b2 <;> cases b3
  all_goals
    go_enter Tryd.func26, Tryd.ntmps26
    go_wp2_with (first | ((with_reducible refine gen_world (w.alloc (.cells (i6 r) 35)) (Fm w [(w.heap.size, i6 r, 35)]) hB.out ?_); intro y K1; have d0 := (K1.out.bx 0 _ _ _ rfl).c 0 (.int .u8 r.k) rfl; have d1 := (K1.out.bx 0 _ _ _ rfl).c 1 (.string r.n) rfl; have d2 := (K1.out.bx 0 _ _ _ rfl).c 2 (.int .i64 r.a) rfl; have d3 := (K1.out.bx 0 _ _ _ rfl).c 3 (.string r.l) rfl; have d4 := (K1.out.bx 0 _ _ _ rfl).c 4 (.int .u8 r.p) rfl; have d5 := (K1.out.bx 0 _ _ _ rfl).c 5 (.slice r.sp r.m r.cap) rfl) | (go_at_call 46; refine (hN _).mono ?_; rintro e y2 ⟨rfl, rfl⟩))
    go_ret
    exact ⟨bool_ret (by rw [fin.out]; rfl), K1.out.low⟩
theorem may_data (w : World) (r : Ri) (hk : Hid (r.k = 3 ∧ r.p = 0)) : Calls Tryd.prog 26 #[.agg (i6 r)] w fun e w' => e = .returned (.bool (mayI r)) ∧ Below w.heap.size w w' := by
  have hB : Hid (Fm w [(w.heap.size, i6 r, 35)] (w.alloc (.cells (i6 r) 35))) := Fm.one w _ _
  obtain ⟨R, hR⟩ : ∃ R, Hid (mayI r = R) := ⟨_, (rfl : mayI r = mayI r)⟩
  rw [hR.out]
  have hk1 := hk.out.1
  have p0 : (r.p != 0) = false := by rw [bne_eq_false_iff_eq]; exact hk.out.2
  have k2 : (r.k == 2) = false := by rw [beq_eq_false_iff_ne]; omega
  have k1 : (r.k == 1) = false := by rw [beq_eq_false_iff_ne]; omega
  have k3 : (r.k == 3) = true := by rw [beq_iff_eq]; omega
  have fin : Hid (R = (decide (r.n.size = 0) && (decide (r.a = 0) && (decide (r.l.size = 0) && (decide (1 ≤ r.m) && decide (r.m ≤ 256)))))) := by
    show _ = _
    rw [← hR.out]
    unfold mayI
    rw [if_neg (by omega), if_neg (by have := hk.out.2; omega), if_neg (by omega), if_pos hk1]
  clear hk1
  obtain ⟨b1, s1⟩ : ∃ b, decide (r.n.size = 0) = b := ⟨_, rfl⟩
  have t1 : r.n.toList.isEmpty = b1 := by rw [emp_is]; exact s1
  obtain ⟨b2, s2⟩ : ∃ b, decide (r.a = 0) = b := ⟨_, rfl⟩
  have t2 : (r.a == 0) = b2 := by rw [← s2, Bool.eq_iff_iff]; simp
  obtain ⟨b3, s3⟩ : ∃ b, decide (r.l.size = 0) = b := ⟨_, rfl⟩
  have t3 : r.l.toList.isEmpty = b3 := by rw [emp_is]; exact s3
  obtain ⟨b4, s4⟩ : ∃ b, decide (1 ≤ r.m) = b := ⟨_, rfl⟩
  have t4 : decide ((1 : Int) ≤ (r.m : Int)) = b4 := by rw [← s4, Bool.eq_iff_iff, decide_eq_true_iff, decide_eq_true_iff]; omega
  obtain ⟨b5, s5⟩ : ∃ b, decide (r.m ≤ 256) = b := ⟨_, rfl⟩
  have t5 : decide ((r.m : Int) ≤ 256) = b5 := by rw [← s5, Bool.eq_iff_iff, decide_eq_true_iff, decide_eq_true_iff]; omega
  rw [s1, s2, s3, s4, s5] at fin
  clear s1 s2 s3 s4 s5
  cases b1 <;> cases b2 <;> cases b3 <;> cases b4 <;> cases b5
  all_goals
    go_enter Tryd.func26, Tryd.ntmps26
    go_wp2_with (first | ((with_reducible refine gen_world (w.alloc (.cells (i6 r) 35)) (Fm w [(w.heap.size, i6 r, 35)]) hB.out ?_); intro y K1; have d0 := (K1.out.bx 0 _ _ _ rfl).c 0 (.int .u8 r.k) rfl; have d1 := (K1.out.bx 0 _ _ _ rfl).c 1 (.string r.n) rfl; have d2 := (K1.out.bx 0 _ _ _ rfl).c 2 (.int .i64 r.a) rfl; have d3 := (K1.out.bx 0 _ _ _ rfl).c 3 (.string r.l) rfl; have d4 := (K1.out.bx 0 _ _ _ rfl).c 4 (.int .u8 r.p) rfl; have d5 := (K1.out.bx 0 _ _ _ rfl).c 5 (.slice r.sp r.m r.cap) rfl))
    go_ret
    exact ⟨bool_ret (by rw [fin.out]; rfl), K1.out.low⟩
theorem may_at (w : World) (r : Ri) (hk : Hid (r.k = 4 ∧ r.p = 0)) : Calls Tryd.prog 26 #[.agg (i6 r)] w fun e w' => e = .returned (.bool (mayI r)) ∧ Below w.heap.size w w' := by
  have hB : Hid (Fm w [(w.heap.size, i6 r, 35)] (w.alloc (.cells (i6 r) 35))) := Fm.one w _ _
  obtain ⟨R, hR⟩ : ∃ R, Hid (mayI r = R) := ⟨_, (rfl : mayI r = mayI r)⟩
  rw [hR.out]
  have hk1 := hk.out.1
  have p0 : (r.p != 0) = false := by rw [bne_eq_false_iff_eq]; exact hk.out.2
  have k2 : (r.k == 2) = false := by rw [beq_eq_false_iff_ne]; omega
  have k1 : (r.k == 1) = false := by rw [beq_eq_false_iff_ne]; omega
  have k3 : (r.k == 3) = false := by rw [beq_eq_false_iff_ne]; omega
  have k4 : (r.k == 4) = true := by rw [beq_iff_eq]; omega
  have fin : Hid (R = (decide (r.n.size = 0) && (decide (r.l.size = 0) && (decide (r.m = 0) && (decide (0 ≤ r.a) && decide (r.a ≤ 65535)))))) := by
    show _ = _
    rw [← hR.out]
    unfold mayI
    rw [if_neg (by omega), if_neg (by have := hk.out.2; omega), if_neg (by omega), if_neg (by omega), if_pos hk1]
  clear hk1
  obtain ⟨b1, s1⟩ : ∃ b, decide (r.n.size = 0) = b := ⟨_, rfl⟩
  have t1 : r.n.toList.isEmpty = b1 := by rw [emp_is]; exact s1
  obtain ⟨b2, s2⟩ : ∃ b, decide (r.l.size = 0) = b := ⟨_, rfl⟩
  have t2 : r.l.toList.isEmpty = b2 := by rw [emp_is]; exact s2
  obtain ⟨b3, s3⟩ : ∃ b, decide (r.m = 0) = b := ⟨_, rfl⟩
  have t3 : ((r.m : Int) == 0) = b3 := by rw [← s3, Bool.eq_iff_iff]; simp
  obtain ⟨b4, s4⟩ : ∃ b, decide (0 ≤ r.a) = b := ⟨_, rfl⟩
  have t4 : decide (0 ≤ r.a) = b4 := by exact s4
  obtain ⟨b5, s5⟩ : ∃ b, decide (r.a ≤ 65535) = b := ⟨_, rfl⟩
  have t5 : decide (r.a ≤ 65535) = b5 := by exact s5
  rw [s1, s2, s3, s4, s5] at fin
  clear s1 s2 s3 s4 s5
  cases b1 <;> cases b2 <;> cases b3 <;> cases b4 <;> cases b5
  all_goals
    go_enter Tryd.func26, Tryd.ntmps26
    go_wp2_with (first | ((with_reducible refine gen_world (w.alloc (.cells (i6 r) 35)) (Fm w [(w.heap.size, i6 r, 35)]) hB.out ?_); intro y K1; have d0 := (K1.out.bx 0 _ _ _ rfl).c 0 (.int .u8 r.k) rfl; have d1 := (K1.out.bx 0 _ _ _ rfl).c 1 (.string r.n) rfl; have d2 := (K1.out.bx 0 _ _ _ rfl).c 2 (.int .i64 r.a) rfl; have d3 := (K1.out.bx 0 _ _ _ rfl).c 3 (.string r.l) rfl; have d4 := (K1.out.bx 0 _ _ _ rfl).c 4 (.int .u8 r.p) rfl; have d5 := (K1.out.bx 0 _ _ _ rfl).c 5 (.slice r.sp r.m r.cap) rfl))
    go_ret
    exact ⟨bool_ret (by rw [fin.out]; rfl), K1.out.low⟩
theorem may_addr (w : World) (r : Ri) (hk : Hid (r.k = 5 ∧ r.p = 0)) : Calls Tryd.prog 26 #[.agg (i6 r)] w fun e w' => e = .returned (.bool (mayI r)) ∧ Below w.heap.size w w' := by
  have hB : Hid (Fm w [(w.heap.size, i6 r, 35)] (w.alloc (.cells (i6 r) 35))) := Fm.one w _ _
  obtain ⟨R, hR⟩ : ∃ R, Hid (mayI r = R) := ⟨_, (rfl : mayI r = mayI r)⟩
  rw [hR.out]
  have hk1 := hk.out.1
  have p0 : (r.p != 0) = false := by rw [bne_eq_false_iff_eq]; exact hk.out.2
  have k2 : (r.k == 2) = false := by rw [beq_eq_false_iff_ne]; omega
  have k1 : (r.k == 1) = false := by rw [beq_eq_false_iff_ne]; omega
  have k3 : (r.k == 3) = false := by rw [beq_eq_false_iff_ne]; omega
  have k4 : (r.k == 4) = false := by rw [beq_eq_false_iff_ne]; omega
  have k5 : (r.k == 5) = true := by rw [beq_iff_eq]; omega
  have fin : Hid (R = (isNm r.l && (decide (r.n.size = 0) && (decide (r.a = 0) && decide (r.m = 0))))) := by
    show _ = _
    rw [← hR.out]
    unfold mayI
    rw [if_neg (by omega), if_neg (by have := hk.out.2; omega), if_neg (by omega), if_neg (by omega), if_neg (by omega), if_pos hk1]
  clear hk1
  have hN := fun v => risname_any r.l v
  generalize isNm r.l = b0 at hN fin
  obtain ⟨b1, s1⟩ : ∃ b, decide (r.n.size = 0) = b := ⟨_, rfl⟩
  have t1 : r.n.toList.isEmpty = b1 := by rw [emp_is]; exact s1
  obtain ⟨b2, s2⟩ : ∃ b, decide (r.a = 0) = b := ⟨_, rfl⟩
  have t2 : (r.a == 0) = b2 := by rw [← s2, Bool.eq_iff_iff]; simp
  obtain ⟨b3, s3⟩ : ∃ b, decide (r.m = 0) = b := ⟨_, rfl⟩
  have t3 : ((r.m : Int) == 0) = b3 := by rw [← s3, Bool.eq_iff_iff]; simp
  rw [s1, s2, s3] at fin
  clear s1 s2 s3
  cases b0 <;> cases b1 <;> cases b2 <;> cases b3
  all_goals
    go_enter Tryd.func26, Tryd.ntmps26
    go_wp2_with (first | ((with_reducible refine gen_world (w.alloc (.cells (i6 r) 35)) (Fm w [(w.heap.size, i6 r, 35)]) hB.out ?_); intro y K1; have d0 := (K1.out.bx 0 _ _ _ rfl).c 0 (.int .u8 r.k) rfl; have d1 := (K1.out.bx 0 _ _ _ rfl).c 1 (.string r.n) rfl; have d2 := (K1.out.bx 0 _ _ _ rfl).c 2 (.int .i64 r.a) rfl; have d3 := (K1.out.bx 0 _ _ _ rfl).c 3 (.string r.l) rfl; have d4 := (K1.out.bx 0 _ _ _ rfl).c 4 (.int .u8 r.p) rfl; have d5 := (K1.out.bx 0 _ _ _ rfl).c 5 (.slice r.sp r.m r.cap) rfl) | (go_at_call 46; refine (hN _).mono ?_; rintro e y2 ⟨rfl, rfl⟩))
    go_ret
    exact ⟨bool_ret (by rw [fin.out]; rfl), K1.out.low⟩
theorem may_none (w : World) (r : Ri) (hk : Hid (r.k ≠ 2 ∧ r.k ≠ 1 ∧ r.k ≠ 3 ∧ r.k ≠ 4 ∧ r.k ≠ 5 ∧ r.p = 0)) : Calls Tryd.prog 26 #[.agg (i6 r)] w fun e w' => e = .returned (.bool (mayI r)) ∧ Below w.heap.size w w' := by
  have hB : Hid (Fm w [(w.heap.size, i6 r, 35)] (w.alloc (.cells (i6 r) 35))) := Fm.one w _ _
  obtain ⟨h2, h1, h3, h4, h5, hp⟩ := hk.out
  have e0 : mayI r = false := by unfold mayI; rw [if_neg h2, if_neg (by omega), if_neg h1, if_neg h3, if_neg h4, if_neg h5]
  rw [e0]
  have p0 : (r.p != 0) = false := by rw [bne_eq_false_iff_eq]; exact hp
  have k2 : (r.k == 2) = false := by rw [beq_eq_false_iff_ne]; exact h2
  have k1 : (r.k == 1) = false := by rw [beq_eq_false_iff_ne]; exact h1
  have k3 : (r.k == 3) = false := by rw [beq_eq_false_iff_ne]; exact h3
  have k4 : (r.k == 4) = false := by rw [beq_eq_false_iff_ne]; exact h4
  have k5 : (r.k == 5) = false := by rw [beq_eq_false_iff_ne]; exact h5
  clear h2 h1 h3 h4 h5 hp
  go_enter Tryd.func26, Tryd.ntmps26
  go_wp2_with (first | ((with_reducible refine gen_world (w.alloc (.cells (i6 r) 35)) (Fm w [(w.heap.size, i6 r, 35)]) hB.out ?_); intro y K1; have d0 := (K1.out.bx 0 _ _ _ rfl).c 0 (.int .u8 r.k) rfl; have d1 := (K1.out.bx 0 _ _ _ rfl).c 1 (.string r.n) rfl; have d2 := (K1.out.bx 0 _ _ _ rfl).c 2 (.int .i64 r.a) rfl; have d3 := (K1.out.bx 0 _ _ _ rfl).c 3 (.string r.l) rfl; have d4 := (K1.out.bx 0 _ _ _ rfl).c 4 (.int .u8 r.p) rfl; have d5 := (K1.out.bx 0 _ _ _ rfl).c 5 (.slice r.sp r.m r.cap) rfl))
  go_ret
  exact ⟨rfl, K1.out.low⟩
theorem rmayI_any (w : World) (r : Ri) : Calls Tryd.prog 26 #[.agg (i6 r)] w fun e w' => e = .returned (.bool (mayI r)) ∧ Below w.heap.size w w' := by
  by_cases h2 : r.k = 2
  · exact may_code w r h2
  by_cases hp : r.p = 0
  · by_cases h1 : r.k = 1
    · exact may_label w r ⟨h1, hp⟩
    by_cases h3 : r.k = 3
    · exact may_data w r ⟨h3, hp⟩
    by_cases h4 : r.k = 4
    · exact may_at w r ⟨h4, hp⟩
    by_cases h5 : r.k = 5
    · exact may_addr w r ⟨h5, hp⟩
    exact may_none w r ⟨h2, h1, h3, h4, h5, hp⟩
  · exact may_part w r ⟨h2, hp⟩
end Go.Proofs.YtfdjifgmlgpjgaaDoor
