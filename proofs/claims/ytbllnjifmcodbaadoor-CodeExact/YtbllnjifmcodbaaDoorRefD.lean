/- The document's answer: Find, Bus, which operands may be. -/
import Derived.Test.YtbllnjifmcodbaaDoorRefC
import Derived.Test.YtbllnjifmcodbaaDoorThere
namespace Go.Proofs.YtbllnjifmcodbaaDoor
open Go.RowKit
set_option linter.unusedVariables false
set_option maxHeartbeats 1000000
set_option maxRecDepth 20000

theorem rfind_none (s : ByteArray) (ho : Hid (opOf s = none)) (w : World) :
    Calls Tryd.prog 25 #[.string s] w fun e w' => e = .returned (.tuple #[info0, .bool false]) ∧ Below w.heap.size w w' := by
  go_enter Tryd.func25, Tryd.ntmps25
  go_wp2_with (go_at_call 42; refine (rfirst_any s _ ho _).mono ?_; unfold firstI; rintro e v1 ⟨rfl, hb1⟩; have c0 : v1.cell? ⟨w.heap.size, 0, none⟩ = some (.string ⟨#[]⟩) := own_cell hb1 0; have c1 : v1.cell? ⟨w.heap.size, 1, none⟩ = some (.int .u8 0) := own_cell hb1 1; have c2 : v1.cell? ⟨w.heap.size, 2, none⟩ = some (.int .i64 0) := own_cell hb1 2; have c3 : v1.cell? ⟨w.heap.size, 3, none⟩ = some (.int .i64 0) := own_cell hb1 3; have f0 := own_frozen hb1 0; have f1 := own_frozen hb1 1; have f2 := own_frozen hb1 2; have f3 := own_frozen hb1 3; replace hb1 := below_own hb1)
  (try simp only [Exit.inBlock, Exit.then])
  refine bodyPost_ret (by simp [results, Tryd.results25, go_sem, c0, c1, c2, c3]; try rfl) rfl ?_
  refine ⟨rfl, ?_⟩
  repeat (first | exact hb1 | refine below_set ?_ (Nat.le_refl _))

theorem rfind_some (s : ByteArray) (n : Nat) (ho : Hid (opOf s = some n)) (X : ByteArray) (F L c : Nat) (hI : ∀ v, Calls Tryd.prog 24 #[.int .u8 n] v fun e v' => e = .returned (.agg #[.string X, .int .u8 F, .int .i64 L, .int .i64 c]) ∧ Below v.heap.size v v') (w : World) :
    Calls Tryd.prog 25 #[.string s] w fun e w' => e = .returned (.tuple #[.agg #[.string X, .int .u8 F, .int .i64 L, .int .i64 c], .bool true]) ∧ Below w.heap.size w w' := by
  have hn : (n : Int) < 256 := by have := (opOf_lt ho.out).1; omega
  go_enter Tryd.func25, Tryd.ntmps25
  go_wp2_with (first | (go_at_call 42; refine (rfirst_any s _ ho _).mono ?_; unfold firstI; rintro e v1 ⟨rfl, hb1⟩) | (go_at_call 24; refine (hI _).mono ?_; rintro e v2 ⟨rfl, hb2⟩; replace hb2 := hb1.trans (hb2.mono hb1.size); have c0 : v2.cell? ⟨w.heap.size, 0, none⟩ = some (.string ⟨#[]⟩) := own_cell hb2 0; have c1 : v2.cell? ⟨w.heap.size, 1, none⟩ = some (.int .u8 0) := own_cell hb2 1; have c2 : v2.cell? ⟨w.heap.size, 2, none⟩ = some (.int .i64 0) := own_cell hb2 2; have c3 : v2.cell? ⟨w.heap.size, 3, none⟩ = some (.int .i64 0) := own_cell hb2 3; have f0 := own_frozen hb2 0; have f1 := own_frozen hb2 1; have f2 := own_frozen hb2 2; have f3 := own_frozen hb2 3; replace hb2 := below_own hb2))
  (try simp only [Exit.inBlock, Exit.then])
  refine bodyPost_ret (by simp [results, Tryd.results25, go_sem, c0, c1, c2, c3]; try rfl) rfl ?_
  refine ⟨rfl, ?_⟩
  repeat (first | exact hb2 | refine below_set ?_ (Nat.le_refl _))

theorem rbus_any (n : Nat) (b : Bool) (w : World) (h : n < 256) : Calls Tryd.prog 26 #[.int .u8 n, .bool b] w fun e w' => e = .returned (busV n b) ∧ Below w.heap.size w w' := by
  have hL := fun v => rlong_any n v h
  have h1 := fun v => rpoint_any n v h
  have h2 := fun v => rreads_any n v h
  have h3 := fun v => rwrites_any n v h
  have h4 := fun v => rowns_any n v h
  have h5 := fun v => rport_any n v h
  unfold busV use0
  generalize useN (ku n) = x1 at h1 ⊢
  generalize useR (ku n) = x2 at h2 ⊢
  generalize useW (ku n) = x3 at h3 ⊢
  generalize useO (ku n) = x4 at h4 ⊢
  generalize (if n / 16 = 6 then n % 8 else 0) = x5 at h5 ⊢
  rcases (show (b = false) ∨ (b = true ∧ n / 16 = 12) ∨ (b = true ∧ n / 16 ≠ 12) by cases b <;> simp; omega) with rfl | ⟨rfl, hc⟩ | ⟨rfl, hc⟩
  · rw [if_neg (by simp)]
    go_enter Tryd.func26, Tryd.ntmps26
    go_wp2_with (first
      | (go_at_call 43; refine (h1 _).mono ?_; rintro e v ⟨rfl, rfl⟩) | (go_at_call 44; refine (h2 _).mono ?_; rintro e v ⟨rfl, rfl⟩) | (go_at_call 45; refine (h3 _).mono ?_; rintro e v ⟨rfl, rfl⟩) | (go_at_call 46; refine (h4 _).mono ?_; rintro e v ⟨rfl, rfl⟩) | (go_at_call 47; refine (h5 _).mono ?_; rintro e v ⟨rfl, rfl⟩))
    go_returns
    refine ⟨rfl, ?_⟩
    repeat (first | exact Below.refl _ _ | refine below_set ?_ (Nat.le_refl _) | refine Below.alloc ?_ (Nat.le_refl _) _)
  · rw [if_neg (by simp [hc])]
    simp only [hc, decide_true] at hL
    go_enter Tryd.func26, Tryd.ntmps26
    go_wp2_with (first
      | (go_at_call 39; refine (hL _).mono ?_; rintro e v ⟨rfl, rfl⟩)
      | (go_at_call 43; refine (h1 _).mono ?_; rintro e v ⟨rfl, rfl⟩) | (go_at_call 44; refine (h2 _).mono ?_; rintro e v ⟨rfl, rfl⟩) | (go_at_call 45; refine (h3 _).mono ?_; rintro e v ⟨rfl, rfl⟩) | (go_at_call 46; refine (h4 _).mono ?_; rintro e v ⟨rfl, rfl⟩) | (go_at_call 47; refine (h5 _).mono ?_; rintro e v ⟨rfl, rfl⟩))
    go_returns
    refine ⟨rfl, ?_⟩
    repeat (first | exact Below.refl _ _ | refine below_set ?_ (Nat.le_refl _) | refine Below.alloc ?_ (Nat.le_refl _) _)
  · rw [if_pos ⟨rfl, hc⟩]
    simp only [hc, decide_false] at hL
    go_enter Tryd.func26, Tryd.ntmps26
    go_wp2_with (first | (go_at_call 39; refine (hL _).mono ?_; rintro e v ⟨rfl, rfl⟩))
    go_returns
    refine ⟨rfl, ?_⟩
    repeat (first | exact Below.refl _ _ | refine below_set ?_ (Nat.le_refl _) | refine Below.alloc ?_ (Nat.le_refl _) _)

theorem held_first (n : Nat) (h : n < 256) : bs n = n → (fm n = 2 → held n 2 = if n / 16 = 0 then 1 else 0) ∧ (fm n = 3 → held n 3 = 1) := by revert n; decide +kernel
theorem rmay_any (n : Nat) (A : Int) (w : World) (h : n < 256) (hb : bs n = n) : Calls Tryd.prog 48 #[.int .u8 n, .int .i64 A] w fun e w' => e = .returned (.bool (mayB n A)) ∧ w' = w := by
  have hf := fm_le n h
  have hF := fun v => rform_any n v h
  have hh := held_first n h hb
  have hz := held_lt n (fm n)
  have l1 : lay (1 * 3 + 2) = 0 := by decide
  have l2 : lay (2 * 3 + 2) = 15 := by decide
  have l3 : lay (3 * 3 + 2) = 7 := by decide
  have l4 : lay (4 * 3 + 2) = 255 := by decide
  have l5 : lay (5 * 3 + 2) = 255 := by decide
  have l6 : lay (6 * 3 + 2) = 65535 := by decide
  obtain ⟨r, hr⟩ : ∃ r, Hid (mayB n A = r) := ⟨_, (rfl : mayB n A = mayB n A)⟩
  rw [hr.out]
  have hd : fm n = 1 ∨ fm n = 2 ∨ fm n = 3 ∨ fm n = 4 ∨ fm n = 5 ∨ fm n = 6 := by omega
  have hr' : Hid (r = (decide ((held n (fm n) : Int) ≤ A) && decide (A ≤ (lay (fm n * 3 + 2) : Nat)))) := hr.out.symm
  clear hr
  rcases hd with e | e | e | e | e | e
  all_goals rw [e] at hF hr' hz
  · have hA : (held n 1 : Int) = 0 := by omega
    rw [hA, l1] at hr'
    clear hh hz hf e hA
    go_enter Tryd.func48, Tryd.ntmps48
    go_wp2_with (go_at_call 38; refine (hF _).mono ?_; rintro e v ⟨rfl, rfl⟩)
    all_goals go_ret
    all_goals refine ⟨ret_bool ?_, rfl⟩
    all_goals rw [hr'.out]
    all_goals (refine Bool.eq_iff_iff.2 ?_; (try simp only [Bool.and_eq_true, decide_eq_true_eq, beq_iff_eq] at *); (repeat' split) <;> first | done | omega)
  · have hA : (held n 2 : Int) = if (n : Int) / 16 = 0 then 1 else 0 := by have := hh.1 e; split <;> split at this <;> omega
    rw [hA, l2] at hr'
    clear hh hz hf e hA
    go_enter Tryd.func48, Tryd.ntmps48
    go_wp2_with (go_at_call 38; refine (hF _).mono ?_; rintro e v ⟨rfl, rfl⟩)
    all_goals go_ret
    all_goals refine ⟨ret_bool ?_, rfl⟩
    all_goals rw [hr'.out]
    all_goals (refine Bool.eq_iff_iff.2 ?_; (try simp only [Bool.and_eq_true, decide_eq_true_eq, beq_iff_eq, beq_eq_false_iff_ne, Bool.false_eq_true, false_iff] at *); (repeat' split) <;> first | done | omega)
  · have hA : (held n 3 : Int) = 1 := by have := hh.2 e; omega
    rw [hA, l3] at hr'
    clear hh hz hf e hA
    go_enter Tryd.func48, Tryd.ntmps48
    go_wp2_with (go_at_call 38; refine (hF _).mono ?_; rintro e v ⟨rfl, rfl⟩)
    all_goals go_ret
    all_goals refine ⟨ret_bool ?_, rfl⟩
    all_goals rw [hr'.out]
    all_goals (refine Bool.eq_iff_iff.2 ?_; (try simp only [Bool.and_eq_true, decide_eq_true_eq, Bool.false_eq_true, false_iff] at *); (repeat' split) <;> first | done | omega)
  · have hA : (held n 4 : Int) = 0 := by omega
    rw [hA, l4] at hr'
    clear hh hz hf e hA
    go_enter Tryd.func48, Tryd.ntmps48
    go_wp2_with (go_at_call 38; refine (hF _).mono ?_; rintro e v ⟨rfl, rfl⟩)
    all_goals go_ret
    all_goals refine ⟨ret_bool ?_, rfl⟩
    all_goals rw [hr'.out]
    all_goals (refine Bool.eq_iff_iff.2 ?_; (try simp only [Bool.and_eq_true, decide_eq_true_eq, Bool.false_eq_true, false_iff] at *); (repeat' split) <;> first | done | omega)
  · have hA : (held n 5 : Int) = 0 := by omega
    rw [hA, l5] at hr'
    clear hh hz hf e hA
    go_enter Tryd.func48, Tryd.ntmps48
    go_wp2_with (go_at_call 38; refine (hF _).mono ?_; rintro e v ⟨rfl, rfl⟩)
    all_goals go_ret
    all_goals refine ⟨ret_bool ?_, rfl⟩
    all_goals rw [hr'.out]
    all_goals (refine Bool.eq_iff_iff.2 ?_; (try simp only [Bool.and_eq_true, decide_eq_true_eq, Bool.false_eq_true, false_iff] at *); (repeat' split) <;> first | done | omega)
  · have hA : (held n 6 : Int) = 0 := by omega
    rw [hA, l6] at hr'
    clear hh hz hf e hA
    go_enter Tryd.func48, Tryd.ntmps48
    go_wp2_with (go_at_call 38; refine (hF _).mono ?_; rintro e v ⟨rfl, rfl⟩)
    all_goals go_ret
    all_goals refine ⟨ret_bool ?_, rfl⟩
    all_goals rw [hr'.out]
    all_goals (refine Bool.eq_iff_iff.2 ?_; (try simp only [Bool.and_eq_true, decide_eq_true_eq, Bool.false_eq_true, false_iff] at *); (repeat' split) <;> first | done | omega)
end Go.Proofs.YtbllnjifmcodbaaDoor
