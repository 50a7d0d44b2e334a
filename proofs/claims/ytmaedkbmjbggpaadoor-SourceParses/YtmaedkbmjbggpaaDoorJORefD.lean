/- The document's answer: Find, Bus, which operands may be. -/
import Derived.Test.YtmaedkbmjbggpaaDoorJORefC
import Derived.Test.YtmaedkbmjbggpaaDoorJOThere
namespace Go.Proofs.YtmaedkbmjbggpaaDoor
open Go.RowKit
set_option linter.unusedVariables false
set_option maxHeartbeats 1000000
set_option maxRecDepth 20000

theorem rfind_none (s : ByteArray) (ho : Hid (opOf s = none)) (w : World) :
    Calls Tryd.prog 66 #[.string s] w fun e w' => e = .returned (.tuple #[info0, .bool false]) ∧ Below w.heap.size w w' := by
  go_enter Tryd.func66, Tryd.ntmps66
  go_wp2_with (go_at_call 75; refine (rfirst_any s _ ho _).mono ?_; unfold firstI; rintro e v1 ⟨rfl, hb1⟩; have c0 : v1.cell? ⟨w.heap.size, 0, none⟩ = some (.string ⟨#[]⟩) := own_cell hb1 0; have c1 : v1.cell? ⟨w.heap.size, 1, none⟩ = some (.int .u8 0) := own_cell hb1 1; have c2 : v1.cell? ⟨w.heap.size, 2, none⟩ = some (.int .i64 0) := own_cell hb1 2; have c3 : v1.cell? ⟨w.heap.size, 3, none⟩ = some (.int .i64 0) := own_cell hb1 3; have f0 := own_frozen hb1 0; have f1 := own_frozen hb1 1; have f2 := own_frozen hb1 2; have f3 := own_frozen hb1 3; replace hb1 := below_own hb1)
  (try simp only [Exit.inBlock, Exit.then])
  refine bodyPost_ret (by simp [results, Tryd.results66, go_sem, c0, c1, c2, c3]; try rfl) rfl ?_
  refine ⟨rfl, ?_⟩
  repeat (first | exact hb1 | refine below_set ?_ (Nat.le_refl _))

theorem rfind_some (s : ByteArray) (n : Nat) (ho : Hid (opOf s = some n)) (X : ByteArray) (F L c : Nat) (hI : ∀ v, Calls Tryd.prog 88 #[.int .u8 n] v fun e v' => e = .returned (.agg #[.string X, .int .u8 F, .int .i64 L, .int .i64 c]) ∧ Below v.heap.size v v') (w : World) :
    Calls Tryd.prog 66 #[.string s] w fun e w' => e = .returned (.tuple #[.agg #[.string X, .int .u8 F, .int .i64 L, .int .i64 c], .bool true]) ∧ Below w.heap.size w w' := by
  have hn : (n : Int) < 256 := by have := (opOf_lt ho.out).1; omega
  go_enter Tryd.func66, Tryd.ntmps66
  go_wp2_with (first | (go_at_call 75; refine (rfirst_any s _ ho _).mono ?_; unfold firstI; rintro e v1 ⟨rfl, hb1⟩) | (go_at_call 88; refine (hI _).mono ?_; rintro e v2 ⟨rfl, hb2⟩; replace hb2 := hb1.trans (hb2.mono hb1.size); have c0 : v2.cell? ⟨w.heap.size, 0, none⟩ = some (.string ⟨#[]⟩) := own_cell hb2 0; have c1 : v2.cell? ⟨w.heap.size, 1, none⟩ = some (.int .u8 0) := own_cell hb2 1; have c2 : v2.cell? ⟨w.heap.size, 2, none⟩ = some (.int .i64 0) := own_cell hb2 2; have c3 : v2.cell? ⟨w.heap.size, 3, none⟩ = some (.int .i64 0) := own_cell hb2 3; have f0 := own_frozen hb2 0; have f1 := own_frozen hb2 1; have f2 := own_frozen hb2 2; have f3 := own_frozen hb2 3; replace hb2 := below_own hb2))
  (try simp only [Exit.inBlock, Exit.then])
  refine bodyPost_ret (by simp [results, Tryd.results66, go_sem, c0, c1, c2, c3]; try rfl) rfl ?_
  refine ⟨rfl, ?_⟩
  repeat (first | exact hb2 | refine below_set ?_ (Nat.le_refl _))

theorem held_first (n : Nat) (h : n < 256) : bs n = n → (fm n = 2 → held n 2 = if n / 16 = 0 then 1 else 0) ∧ (fm n = 3 → held n 3 = 1) := by revert n; decide +kernel
theorem rmay_any (n : Nat) (A : Int) (w : World) (h : n < 256) (hb : bs n = n) : Calls Tryd.prog 90 #[.int .u8 n, .int .i64 A] w fun e w' => e = .returned (.bool (mayB n A)) ∧ w' = w := by
  have hf := fm_le n h
  have hF := fun v => rform_any n v h
  have hh := held_first n h hb
  have hz := held_lt n (fm n)
  have l1 : lay (1 * 3 + 2) = 0 := by decide
  have l2 : lay (2 * 3 + 2) = 15 := by decide
  have l3 : lay (3 * 3 + 2) = 7 := by decide
  have l4 : lay (4 * 3 + 2) = 255 := by decide
  have l5 : lay (5 * 3 + 2) = 255 := by decide
  have l6 : lay (6 * 3 + 2) = 65535 := by decide
  obtain ⟨r, hr⟩ : ∃ r, Hid (mayB n A = r) := ⟨_, (rfl : mayB n A = mayB n A)⟩
  rw [hr.out]
  have hd : fm n = 1 ∨ fm n = 2 ∨ fm n = 3 ∨ fm n = 4 ∨ fm n = 5 ∨ fm n = 6 := by omega
  have hr' : Hid (r = (decide ((held n (fm n) : Int) ≤ A) && decide (A ≤ (lay (fm n * 3 + 2) : Nat)))) := hr.out.symm
  clear hr
  rcases hd with e | e | e | e | e | e
  all_goals rw [e] at hF hr' hz
  · have hA : (held n 1 : Int) = 0 := by omega
    rw [hA, l1] at hr'
    clear hh hz hf e hA
    go_enter Tryd.func90, Tryd.ntmps90
    go_wp2_with (go_at_call 74; refine (hF _).mono ?_; rintro e v ⟨rfl, rfl⟩)
    all_goals go_ret
    all_goals refine ⟨ret_bool ?_, rfl⟩
    all_goals rw [hr'.out]
    all_goals (refine Bool.eq_iff_iff.2 ?_; (try simp only [Bool.and_eq_true, decide_eq_true_eq, beq_iff_eq] at *); (repeat' split) <;> first | done | omega)
  · have hA : (held n 2 : Int) = if (n : Int) / 16 = 0 then 1 else 0 := by have := hh.1 e; split <;> split at this <;> omega
    rw [hA, l2] at hr'
    clear hh hz hf e hA
    go_enter Tryd.func90, Tryd.ntmps90
    go_wp2_with (go_at_call 74; refine (hF _).mono ?_; rintro e v ⟨rfl, rfl⟩)
    all_goals go_ret
    all_goals refine ⟨ret_bool ?_, rfl⟩
    all_goals rw [hr'.out]
    all_goals (refine Bool.eq_iff_iff.2 ?_; (try simp only [Bool.and_eq_true, decide_eq_true_eq, beq_iff_eq, beq_eq_false_iff_ne, Bool.false_eq_true, false_iff] at *); (repeat' split) <;> first | done | omega)
  · have hA : (held n 3 : Int) = 1 := by have := hh.2 e; omega
    rw [hA, l3] at hr'
    clear hh hz hf e hA
    go_enter Tryd.func90, Tryd.ntmps90
    go_wp2_with (go_at_call 74; refine (hF _).mono ?_; rintro e v ⟨rfl, rfl⟩)
    all_goals go_ret
    all_goals refine ⟨ret_bool ?_, rfl⟩
    all_goals rw [hr'.out]
    all_goals (refine Bool.eq_iff_iff.2 ?_; (try simp only [Bool.and_eq_true, decide_eq_true_eq, Bool.false_eq_true, false_iff] at *); (repeat' split) <;> first | done | omega)
  · have hA : (held n 4 : Int) = 0 := by omega
    rw [hA, l4] at hr'
    clear hh hz hf e hA
    go_enter Tryd.func90, Tryd.ntmps90
    go_wp2_with (go_at_call 74; refine (hF _).mono ?_; rintro e v ⟨rfl, rfl⟩)
    all_goals go_ret
    all_goals refine ⟨ret_bool ?_, rfl⟩
    all_goals rw [hr'.out]
    all_goals (refine Bool.eq_iff_iff.2 ?_; (try simp only [Bool.and_eq_true, decide_eq_true_eq, Bool.false_eq_true, false_iff] at *); (repeat' split) <;> first | done | omega)
  · have hA : (held n 5 : Int) = 0 := by omega
    rw [hA, l5] at hr'
    clear hh hz hf e hA
    go_enter Tryd.func90, Tryd.ntmps90
    go_wp2_with (go_at_call 74; refine (hF _).mono ?_; rintro e v ⟨rfl, rfl⟩)
    all_goals go_ret
    all_goals refine ⟨ret_bool ?_, rfl⟩
    all_goals rw [hr'.out]
    all_goals (refine Bool.eq_iff_iff.2 ?_; (try simp only [Bool.and_eq_true, decide_eq_true_eq, Bool.false_eq_true, false_iff] at *); (repeat' split) <;> first | done | omega)
  · have hA : (held n 6 : Int) = 0 := by omega
    rw [hA, l6] at hr'
    clear hh hz hf e hA
    go_enter Tryd.func90, Tryd.ntmps90
    go_wp2_with (go_at_call 74; refine (hF _).mono ?_; rintro e v ⟨rfl, rfl⟩)
    all_goals go_ret
    all_goals refine ⟨ret_bool ?_, rfl⟩
    all_goals rw [hr'.out]
    all_goals (refine Bool.eq_iff_iff.2 ?_; (try simp only [Bool.and_eq_true, decide_eq_true_eq, Bool.false_eq_true, false_iff] at *); (repeat' split) <;> first | done | omega)
end Go.Proofs.YtmaedkbmjbggpaaDoor
