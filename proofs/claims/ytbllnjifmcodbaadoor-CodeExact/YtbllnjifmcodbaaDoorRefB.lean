/- The document's answer: what an op does to the bus. -/
import Derived.Test.YtbllnjifmcodbaaDoorBus
namespace Go.Proofs.YtbllnjifmcodbaaDoor
open Go.RowKit
set_option linter.unusedVariables false
set_option maxHeartbeats 2000000
set_option maxRecDepth 20000

theorem ret_u8' {a b : Int} (h : a = b) : Ending.returned (.int .u8 a) = .returned (.int .u8 b) := by rw [h]
theorem ret_bool' {a b : Bool} (h : a = b) : Ending.returned (.bool a) = .returned (.bool b) := by rw [h]

def rptI (n : Int) : Int :=
  if n / 16 = 0 then (if n % 16 = 0 then 4 else 0)
  else if n / 16 = 3 ∨ n / 16 = 12 then 2
  else if n / 16 = 6 then 1
  else if n / 16 = 7 then (if n % 16 = 9 then 3 else if 10 ≤ n % 16 then 2 else 1)
  else if n / 16 = 15 then (if 8 ≤ n % 16 then 2 else 1)
  else 0
theorem rpt_eq (n : Nat) (h : n < 256) : (useN (ku n) : Int) = rptI n := by revert n; decide +kernel
theorem rpoint_any (n : Nat) (w : World) (h : n < 256) : Calls Tryd.prog 43 #[.int .u8 n] w fun e w' => e = .returned (.int .u8 (useN (ku n) : Nat)) ∧ w' = w := by
  rw [rpt_eq n h]
  generalize hN : (n : Int) = x
  have hx0 : 0 ≤ x := by omega
  have hx1 : x < 256 := by omega
  clear hN h
  clear n
  obtain ⟨r, hr⟩ : ∃ r, Hid (rptI x = r) := ⟨_, (rfl : rptI x = rptI x)⟩
  rw [hr.out]
  go_enter Tryd.func43, Tryd.ntmps43
  go_wp2
  all_goals go_ret
  all_goals refine ⟨ret_u8' ?_, rfl⟩
  all_goals rw [← hr.out]
  all_goals (unfold rptI; simp only [beq_iff_eq, beq_eq_false_iff_ne] at *)
  all_goals ((repeat' split) <;> omega)

def rrdB (n : Int) : Bool :=
  if n / 16 = 0 ∨ n / 16 = 3 ∨ n / 16 = 4 ∨ n / 16 = 12 then true
  else if n / 16 = 6 then decide (n % 16 < 8)
  else if n / 16 = 7 then decide (n % 16 ≤ 2 ∨ n % 16 = 4 ∨ n % 16 = 5 ∨ n % 16 = 7 ∨ n % 16 = 12 ∨ n % 16 = 13 ∨ n % 16 = 15)
  else if n / 16 = 15 then decide (n % 16 ≠ 6 ∧ n % 16 ≠ 14)
  else false
theorem rrd_eq (n : Nat) (h : n < 256) : useR (ku n) = rrdB n := by revert n; decide +kernel
theorem rreads_any (n : Nat) (w : World) (h : n < 256) : Calls Tryd.prog 44 #[.int .u8 n] w fun e w' => e = .returned (.bool (useR (ku n))) ∧ w' = w := by
  rw [rrd_eq n h]
  generalize hN : (n : Int) = x
  have hx0 : 0 ≤ x := by omega
  have hx1 : x < 256 := by omega
  clear hN h
  clear n
  obtain ⟨r, hr⟩ : ∃ r, Hid (rrdB x = r) := ⟨_, (rfl : rrdB x = rrdB x)⟩
  rw [hr.out]
  go_enter Tryd.func44, Tryd.ntmps44
  go_wp2
  all_goals go_ret
  all_goals refine ⟨ret_bool' ?_, rfl⟩
  all_goals rw [← hr.out]
  all_goals (unfold rrdB; simp only [beq_iff_eq, beq_eq_false_iff_ne] at *)
  all_goals ((repeat' split) <;> first | omega | (refine Bool.eq_iff_iff.2 ?_; simp only [Bool.or_eq_true, Bool.and_eq_true, decide_eq_true_eq, beq_iff_eq, bne_iff_ne, Bool.false_eq_true, eq_self, true_iff, false_iff, ne_eq] at *; first | done | omega))

def rwrB (n : Int) : Bool := decide (n / 16 = 5 ∨ n / 16 = 6 ∧ 8 < n % 16 ∨ n / 16 = 7 ∧ (n % 16 = 3 ∨ n % 16 = 8 ∨ n % 16 = 9))
theorem rwr_eq (n : Nat) (h : n < 256) : useW (ku n) = rwrB n := by revert n; decide +kernel
theorem rwrites_any (n : Nat) (w : World) (h : n < 256) : Calls Tryd.prog 45 #[.int .u8 n] w fun e w' => e = .returned (.bool (useW (ku n))) ∧ w' = w := by
  rw [rwr_eq n h]
  generalize hN : (n : Int) = x
  have hx0 : 0 ≤ x := by omega
  have hx1 : x < 256 := by omega
  clear hN h
  clear n
  obtain ⟨r, hr⟩ : ∃ r, Hid (rwrB x = r) := ⟨_, (rfl : rwrB x = rwrB x)⟩
  rw [hr.out]
  go_enter Tryd.func45, Tryd.ntmps45
  go_wp2
  all_goals go_ret
  all_goals refine ⟨ret_bool' ?_, rfl⟩
  all_goals rw [← hr.out]
  all_goals (unfold rwrB; refine Bool.eq_iff_iff.2 ?_; simp only [Bool.or_eq_true, decide_eq_true_eq, beq_iff_eq, eq_self, true_iff] at *; first | done | omega)

theorem row_eq (n : Nat) (h : n < 256) : useO (ku n) = decide (useW (ku n) = true ∧ (n : Int) / 16 ≠ 6 ∨ 8 ≤ (n : Int) / 16 ∧ (n : Int) / 16 ≤ 11 ∨ (n : Int) / 16 = 13 ∨ (n : Int) / 16 = 14) := by revert n; decide +kernel
theorem rowns_any (n : Nat) (w : World) (h : n < 256) : Calls Tryd.prog 46 #[.int .u8 n] w fun e w' => e = .returned (.bool (useO (ku n))) ∧ w' = w := by
  have hW := rwrites_any n w h
  obtain ⟨r, hr⟩ : ∃ r, Hid (useO (ku n) = r) := ⟨_, (rfl : useO (ku n) = useO (ku n))⟩
  have he := row_eq n h
  rw [hr.out] at he
  rw [hr.out]
  generalize useW (ku n) = b at hW he
  have he' : Hid (r = decide (b = true ∧ (n : Int) / 16 ≠ 6 ∨ 8 ≤ (n : Int) / 16 ∧ (n : Int) / 16 ≤ 11 ∨ (n : Int) / 16 = 13 ∨ (n : Int) / 16 = 14)) := he
  clear he
  cases b
  all_goals
    go_enter Tryd.func46, Tryd.ntmps46
    go_wp2_with (go_at_call 45; refine hW.mono ?_; rintro e v1 ⟨rfl, rfl⟩)
  all_goals go_ret
  all_goals refine ⟨ret_bool' ?_, rfl⟩
  all_goals rw [he'.out]
  all_goals (refine Bool.eq_iff_iff.2 ?_; simp only [Bool.or_eq_true, decide_eq_true_eq, beq_iff_eq, Bool.false_eq_true, eq_self, true_iff, false_iff, false_and, true_and, false_or, ne_eq] at *; first | done | omega)

theorem rport_any (n : Nat) (w : World) (h : n < 256) : Calls Tryd.prog 47 #[.int .u8 n] w fun e w' => e = .returned (.int .u8 (if n / 16 = 6 then n % 8 else 0 : Nat)) ∧ w' = w := by
  by_cases h6 : n / 16 = 6
  · have h6' : ((n : Int) / 16 == 6) = true := by simp; omega
    rw [if_pos h6]
    clear h6
    go_enter Tryd.func47, Tryd.ntmps47
    go_wp2
    go_ret
    exact ⟨by simp, rfl⟩
  · have h6' : ((n : Int) / 16 == 6) = false := by simp; omega
    rw [if_neg h6]
    clear h6
    go_enter Tryd.func47, Tryd.ntmps47
    go_wp2
    go_ret
    exact ⟨rfl, rfl⟩
end Go.Proofs.YtbllnjifmcodbaaDoor
