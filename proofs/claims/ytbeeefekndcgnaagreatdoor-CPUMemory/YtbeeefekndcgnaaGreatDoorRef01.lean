/- The document's answer of layer 2, as the processor's asks it: Long, FormOf, Bus. The document's answer for Do: what it returns at any sum, for all bytes and DF. -/
import Derived.Test.YtbeeefekndcgnaaGreatDoorPl
import Derived.Test.YtbeeefekndcgnaaGreatDoorCp
import Derived.Test.YtbeeefekndcgnaaGreatDoorMath
namespace Go.Proofs.YtbeeefekndcgnaaGreatDoor
open Go.RowKit
set_option linter.unusedVariables false
set_option maxHeartbeats 2000000
set_option maxRecDepth 20000

theorem below_set {B : Nat} {a w : World} (h : Below B a w) {g off : Nat} {u : Value} (hg : B ≤ g) : Below B a (w.setCell ⟨g, off, none⟩ u) := h.setCell (p := ⟨g, off, none⟩) hg u
theorem rlong_any (n : Nat) (w : World) (h : n < 256) : Calls Tryz.prog 16 #[.int .u8 n] w fun e w' => e = .returned (.bool (decide (n / 16 = 12))) ∧ w' = w := by
  go_enter Tryz.func16, Tryz.ntmps16
  go_wp2
  go_ret
  refine ⟨ret_bool ?_, rfl⟩
  revert n; decide +kernel

/-- A form as the document tells it. -/
theorem rform_any (n : Nat) (w : World) (h : n < 256) : Calls Tryz.prog 50 #[.int .u8 n] w fun e w' => e = .returned (.int .u8 (rfmI n)) ∧ w' = w := by
  generalize hN : (n : Int) = x
  have hx0 : 0 ≤ x := by omega
  have hx1 : x < 256 := by omega
  clear hN h
  clear n
  obtain ⟨r, hr⟩ : ∃ r, Hid (rfmI x = r) := ⟨_, (rfl : rfmI x = rfmI x)⟩
  rw [hr.out]
  go_enter Tryz.func50, Tryz.ntmps50
  go_wp2
  all_goals go_ret
  all_goals refine ⟨ret_u8 ?_, rfl⟩
  all_goals rw [← hr.out]
  all_goals (unfold rfmI; simp only [beq_iff_eq, beq_eq_false_iff_ne, bne_iff_ne, bne_eq_false_iff_eq] at *)
  all_goals ((repeat' split) <;> omega)

theorem rpoint_any (n : Nat) (w : World) (h : n < 256) : Calls Tryz.prog 74 #[.int .u8 n] w fun e w' => e = .returned (.int .u8 (rptI n)) ∧ w' = w := by
  generalize hN : (n : Int) = x
  have hx0 : 0 ≤ x := by omega
  have hx1 : x < 256 := by omega
  clear hN h
  clear n
  obtain ⟨r, hr⟩ : ∃ r, Hid (rptI x = r) := ⟨_, (rfl : rptI x = rptI x)⟩
  rw [hr.out]
  go_enter Tryz.func74, Tryz.ntmps74
  go_wp2
  all_goals go_ret
  all_goals refine ⟨ret_u8 ?_, rfl⟩
  all_goals rw [← hr.out]
  all_goals (unfold rptI; simp only [beq_iff_eq, beq_eq_false_iff_ne] at *)
  all_goals ((repeat' split) <;> omega)

theorem rreads_any (n : Nat) (w : World) (h : n < 256) : Calls Tryz.prog 75 #[.int .u8 n] w fun e w' => e = .returned (.bool (rrdB n)) ∧ w' = w := by
  generalize hN : (n : Int) = x
  have hx0 : 0 ≤ x := by omega
  have hx1 : x < 256 := by omega
  clear hN h
  clear n
  obtain ⟨r, hr⟩ : ∃ r, Hid (rrdB x = r) := ⟨_, (rfl : rrdB x = rrdB x)⟩
  rw [hr.out]
  go_enter Tryz.func75, Tryz.ntmps75
  go_wp2
  all_goals go_ret
  all_goals refine ⟨ret_bool ?_, rfl⟩
  all_goals rw [← hr.out]
  all_goals (unfold rrdB; simp only [beq_iff_eq, beq_eq_false_iff_ne] at *)
  all_goals ((repeat' split) <;> first | omega | (refine Bool.eq_iff_iff.2 ?_; simp only [Bool.or_eq_true, Bool.and_eq_true, decide_eq_true_eq, beq_iff_eq, bne_iff_ne, Bool.false_eq_true, eq_self, true_iff, false_iff, ne_eq] at *; first | done | omega))

theorem rwrites_any (n : Nat) (w : World) (h : n < 256) : Calls Tryz.prog 76 #[.int .u8 n] w fun e w' => e = .returned (.bool (rwrB n)) ∧ w' = w := by
  generalize hN : (n : Int) = x
  have hx0 : 0 ≤ x := by omega
  have hx1 : x < 256 := by omega
  clear hN h
  clear n
  obtain ⟨r, hr⟩ : ∃ r, Hid (rwrB x = r) := ⟨_, (rfl : rwrB x = rwrB x)⟩
  rw [hr.out]
  go_enter Tryz.func76, Tryz.ntmps76
  go_wp2
  all_goals go_ret
  all_goals refine ⟨ret_bool ?_, rfl⟩
  all_goals rw [← hr.out]
  all_goals (unfold rwrB; refine Bool.eq_iff_iff.2 ?_; simp only [Bool.or_eq_true, decide_eq_true_eq, beq_iff_eq, eq_self, true_iff] at *; first | done | omega)

theorem rowns_any (n : Nat) (w : World) (h : n < 256) : Calls Tryz.prog 77 #[.int .u8 n] w fun e w' => e = .returned (.bool (rowB n)) ∧ w' = w := by
  have hW := rwrites_any n w h
  obtain ⟨r, hr⟩ : ∃ r, Hid (rowB n = r) := ⟨_, (rfl : rowB n = rowB n)⟩
  have he : r = rowB n := hr.out.symm
  unfold rowB at he
  rw [hr.out]
  generalize rwrB n = b at hW he
  have he' : Hid (r = decide (b = true ∧ (n : Int) / 16 ≠ 6 ∨ 8 ≤ (n : Int) / 16 ∧ (n : Int) / 16 ≤ 11 ∨ (n : Int) / 16 = 13 ∨ (n : Int) / 16 = 14)) := he
  clear he
  cases b
  all_goals
    go_enter Tryz.func77, Tryz.ntmps77
    go_wp2_with (go_at_call 76; refine hW.mono ?_; rintro e v1 ⟨rfl, rfl⟩)
  all_goals go_ret
  all_goals refine ⟨ret_bool ?_, rfl⟩
  all_goals rw [he'.out]
  all_goals (refine Bool.eq_iff_iff.2 ?_; simp only [Bool.or_eq_true, decide_eq_true_eq, beq_iff_eq, Bool.false_eq_true, eq_self, true_iff, false_iff, false_and, true_and, false_or, ne_eq] at *; first | done | omega)

theorem rport_any (n : Nat) (w : World) (h : n < 256) : Calls Tryz.prog 78 #[.int .u8 n] w fun e w' => e = .returned (.int .u8 (if n / 16 = 6 then n % 8 else 0 : Nat)) ∧ w' = w := by
  by_cases h6 : n / 16 = 6
  · have h6' : ((n : Int) / 16 == 6) = true := by simp; omega
    rw [if_pos h6]
    clear h6
    go_enter Tryz.func78, Tryz.ntmps78
    go_wp2
    go_ret
    exact ⟨by simp, rfl⟩
  · have h6' : ((n : Int) / 16 == 6) = false := by simp; omega
    rw [if_neg h6]
    clear h6
    go_enter Tryz.func78, Tryz.ntmps78
    go_wp2
    go_ret
    exact ⟨rfl, rfl⟩

def use0 : Value := .agg #[.int .u8 0, .bool false, .bool false, .bool false, .int .u8 0]
/-- What Bus says of an op, in its first cycle or its second. -/
def busV (n : Nat) (b : Bool) : Value :=
  if b = true ∧ n / 16 ≠ 12 then use0 else .agg #[.int .u8 (rptI n), .bool (rrdB n), .bool (rwrB n), .bool (rowB n), .int .u8 (if n / 16 = 6 then n % 8 else 0 : Nat)]
theorem rbus_any (n : Nat) (b : Bool) (w : World) (h : n < 256) : Calls Tryz.prog 38 #[.int .u8 n, .bool b] w fun e w' => e = .returned (busV n b) ∧ Below w.heap.size w w' := by
  have hL := fun v => rlong_any n v h
  have h1 := fun v => rpoint_any n v h
  have h2 := fun v => rreads_any n v h
  have h3 := fun v => rwrites_any n v h
  have h4 := fun v => rowns_any n v h
  have h5 := fun v => rport_any n v h
  unfold busV use0
  generalize rptI n = x1 at h1 ⊢
  generalize rrdB n = x2 at h2 ⊢
  generalize rwrB n = x3 at h3 ⊢
  generalize rowB n = x4 at h4 ⊢
  generalize (if n / 16 = 6 then n % 8 else 0) = x5 at h5 ⊢
  rcases (show (b = false) ∨ (b = true ∧ n / 16 = 12) ∨ (b = true ∧ n / 16 ≠ 12) by cases b <;> simp; omega) with rfl | ⟨rfl, hc⟩ | ⟨rfl, hc⟩
  · rw [if_neg (by simp)]
    go_enter Tryz.func38, Tryz.ntmps38
    go_wp2_with (first
      | (go_at_call 74; refine (h1 _).mono ?_; rintro e v ⟨rfl, rfl⟩) | (go_at_call 75; refine (h2 _).mono ?_; rintro e v ⟨rfl, rfl⟩) | (go_at_call 76; refine (h3 _).mono ?_; rintro e v ⟨rfl, rfl⟩) | (go_at_call 77; refine (h4 _).mono ?_; rintro e v ⟨rfl, rfl⟩) | (go_at_call 78; refine (h5 _).mono ?_; rintro e v ⟨rfl, rfl⟩))
    go_returns
    refine ⟨rfl, ?_⟩
    repeat (first | exact Below.refl _ _ | refine below_set ?_ (Nat.le_refl _) | refine Below.alloc ?_ (Nat.le_refl _) _)
  · rw [if_neg (by simp [hc])]
    simp only [hc, decide_true] at hL
    go_enter Tryz.func38, Tryz.ntmps38
    go_wp2_with (first
      | (go_at_call 16; refine (hL _).mono ?_; rintro e v ⟨rfl, rfl⟩)
      | (go_at_call 74; refine (h1 _).mono ?_; rintro e v ⟨rfl, rfl⟩) | (go_at_call 75; refine (h2 _).mono ?_; rintro e v ⟨rfl, rfl⟩) | (go_at_call 76; refine (h3 _).mono ?_; rintro e v ⟨rfl, rfl⟩) | (go_at_call 77; refine (h4 _).mono ?_; rintro e v ⟨rfl, rfl⟩) | (go_at_call 78; refine (h5 _).mono ?_; rintro e v ⟨rfl, rfl⟩))
    go_returns
    refine ⟨rfl, ?_⟩
    repeat (first | exact Below.refl _ _ | refine below_set ?_ (Nat.le_refl _) | refine Below.alloc ?_ (Nat.le_refl _) _)
  · rw [if_pos ⟨rfl, hc⟩]
    simp only [hc, decide_false] at hL
    go_enter Tryz.func38, Tryz.ntmps38
    go_wp2_with (first | (go_at_call 16; refine (hL _).mono ?_; rintro e v ⟨rfl, rfl⟩))
    go_returns
    refine ⟨rfl, ?_⟩
    repeat (first | exact Below.refl _ _ | refine below_set ?_ (Nat.le_refl _) | refine Below.alloc ?_ (Nat.le_refl _) _)

end Go.Proofs.YtbeeefekndcgnaaGreatDoor

namespace Go.Proofs.YtbeeefekndcgnaaGreatDoor
open Go.RowKit
set_option maxHeartbeats 400000

theorem one_any (df : Bool) (w : World) :
    Calls Tryz.prog 103 #[.bool df] w fun e w' => e = .returned (.int .i64 (cw df)) ∧ w' = w := by
  cases df
  all_goals
    go_enter Tryz.func103, Tryz.ntmps103
    go_wp2
    go_ret
    exact ⟨rfl, rfl⟩

theorem rdo0 (d b : Int) (df : Bool) (hd : 0 ≤ d) (hd' : d ≤ 255) (hb : 0 ≤ b) (hb' : b ≤ 255) (w : World) :
    Calls Tryz.prog 91 #[.int .u8 0, .int .u8 d, .int .u8 b, .bool df] w fun e w' => e = .returned (.tuple #[.int .u8 (doV 0 d b df), .bool (doF 0 d b df)]) ∧ w' = w := by
  have hc := cw_lo df
  have hc' := cw_hi df
  go_enter Tryz.func91, Tryz.ntmps91
  go_wp2_with (go_at_call 103; refine (one_any _ _).mono ?_; rintro e w' ⟨rfl, rfl⟩)
  go_ret2
  refine ⟨ret2 ?_ ?_, rfl⟩
  · first | (rw [doV0]; done) | (rw [doV0]; omega)
  · first | (rw [doF0]; done) | (rw [doF0, Bool.eq_iff_iff]; simp; done) | (rw [doF0, Bool.eq_iff_iff]; simp; omega)

theorem rdo1 (d b : Int) (df : Bool) (hd : 0 ≤ d) (hd' : d ≤ 255) (hb : 0 ≤ b) (hb' : b ≤ 255) (w : World) :
    Calls Tryz.prog 91 #[.int .u8 1, .int .u8 d, .int .u8 b, .bool df] w fun e w' => e = .returned (.tuple #[.int .u8 (doV 1 d b df), .bool (doF 1 d b df)]) ∧ w' = w := by
  have hc := cw_lo df
  have hc' := cw_hi df
  go_enter Tryz.func91, Tryz.ntmps91
  go_wp2_with (go_at_call 103; refine (one_any _ _).mono ?_; rintro e w' ⟨rfl, rfl⟩)
  go_ret2
  refine ⟨ret2 ?_ ?_, rfl⟩
  · first | (rw [doV1]; done) | (rw [doV1]; omega) | exact u8_or d b hd (by omega) hb (by omega)
  · first | (rw [doF1]; done) | (rw [doF1, Bool.eq_iff_iff]; simp; done) | (rw [doF1, Bool.eq_iff_iff]; simp; omega)

theorem rdo2 (d b : Int) (df : Bool) (hd : 0 ≤ d) (hd' : d ≤ 255) (hb : 0 ≤ b) (hb' : b ≤ 255) (w : World) :
    Calls Tryz.prog 91 #[.int .u8 2, .int .u8 d, .int .u8 b, .bool df] w fun e w' => e = .returned (.tuple #[.int .u8 (doV 2 d b df), .bool (doF 2 d b df)]) ∧ w' = w := by
  have hc := cw_lo df
  have hc' := cw_hi df
  go_enter Tryz.func91, Tryz.ntmps91
  go_wp2_with (go_at_call 103; refine (one_any _ _).mono ?_; rintro e w' ⟨rfl, rfl⟩)
  go_ret2
  refine ⟨ret2 ?_ ?_, rfl⟩
  · first | (rw [doV2]; done) | (rw [doV2]; omega) | exact u8_and d b hd (by omega) hb (by omega)
  · first | (rw [doF2]; done) | (rw [doF2, Bool.eq_iff_iff]; simp; done) | (rw [doF2, Bool.eq_iff_iff]; simp; omega)

theorem rdo3 (d b : Int) (df : Bool) (hd : 0 ≤ d) (hd' : d ≤ 255) (hb : 0 ≤ b) (hb' : b ≤ 255) (w : World) :
    Calls Tryz.prog 91 #[.int .u8 3, .int .u8 d, .int .u8 b, .bool df] w fun e w' => e = .returned (.tuple #[.int .u8 (doV 3 d b df), .bool (doF 3 d b df)]) ∧ w' = w := by
  have hc := cw_lo df
  have hc' := cw_hi df
  go_enter Tryz.func91, Tryz.ntmps91
  go_wp2_with (go_at_call 103; refine (one_any _ _).mono ?_; rintro e w' ⟨rfl, rfl⟩)
  go_ret2
  refine ⟨ret2 ?_ ?_, rfl⟩
  · first | (rw [doV3]; done) | (rw [doV3]; omega) | exact u8_xor d b hd (by omega) hb (by omega)
  · first | (rw [doF3]; done) | (rw [doF3, Bool.eq_iff_iff]; simp; done) | (rw [doF3, Bool.eq_iff_iff]; simp; omega)

theorem rdo4 (d b : Int) (df : Bool) (hd : 0 ≤ d) (hd' : d ≤ 255) (hb : 0 ≤ b) (hb' : b ≤ 255) (w : World) :
    Calls Tryz.prog 91 #[.int .u8 4, .int .u8 d, .int .u8 b, .bool df] w fun e w' => e = .returned (.tuple #[.int .u8 (doV 4 d b df), .bool (doF 4 d b df)]) ∧ w' = w := by
  have hc := cw_lo df
  have hc' := cw_hi df
  go_enter Tryz.func91, Tryz.ntmps91
  go_wp2_with (go_at_call 103; refine (one_any _ _).mono ?_; rintro e w' ⟨rfl, rfl⟩)
  go_ret2
  refine ⟨ret2 ?_ ?_, rfl⟩
  · first | (rw [doV4]; done) | (rw [doV4]; omega)
  · first | (rw [doF4]; done) | (rw [doF4, Bool.eq_iff_iff]; simp; done) | (rw [doF4, Bool.eq_iff_iff]; simp; omega)

theorem rdo5 (d b : Int) (df : Bool) (hd : 0 ≤ d) (hd' : d ≤ 255) (hb : 0 ≤ b) (hb' : b ≤ 255) (w : World) :
    Calls Tryz.prog 91 #[.int .u8 5, .int .u8 d, .int .u8 b, .bool df] w fun e w' => e = .returned (.tuple #[.int .u8 (doV 5 d b df), .bool (doF 5 d b df)]) ∧ w' = w := by
  have hc := cw_lo df
  have hc' := cw_hi df
  go_enter Tryz.func91, Tryz.ntmps91
  go_wp2_with (go_at_call 103; refine (one_any _ _).mono ?_; rintro e w' ⟨rfl, rfl⟩)
  go_ret2
  refine ⟨ret2 ?_ ?_, rfl⟩
  · first | (rw [doV5]; done) | (rw [doV5]; omega)
  · first | (rw [doF5]; done) | (rw [doF5, Bool.eq_iff_iff]; simp; done) | (rw [doF5, Bool.eq_iff_iff]; simp; omega)

theorem rdo6 (d b : Int) (df : Bool) (hd : 0 ≤ d) (hd' : d ≤ 255) (hb : 0 ≤ b) (hb' : b ≤ 255) (w : World) :
    Calls Tryz.prog 91 #[.int .u8 6, .int .u8 d, .int .u8 b, .bool df] w fun e w' => e = .returned (.tuple #[.int .u8 (doV 6 d b df), .bool (doF 6 d b df)]) ∧ w' = w := by
  have hc := cw_lo df
  have hc' := cw_hi df
  go_enter Tryz.func91, Tryz.ntmps91
  go_wp2_with (go_at_call 103; refine (one_any _ _).mono ?_; rintro e w' ⟨rfl, rfl⟩)
  go_ret2
  refine ⟨ret2 ?_ ?_, rfl⟩
  · first | (rw [doV6]; done) | (rw [doV6]; omega)
  · first | (rw [doF6]; done) | (rw [doF6, Bool.eq_iff_iff]; simp; done) | (rw [doF6, Bool.eq_iff_iff]; simp; omega)

theorem rdo7 (d b : Int) (df : Bool) (hd : 0 ≤ d) (hd' : d ≤ 255) (hb : 0 ≤ b) (hb' : b ≤ 255) (w : World) :
    Calls Tryz.prog 91 #[.int .u8 7, .int .u8 d, .int .u8 b, .bool df] w fun e w' => e = .returned (.tuple #[.int .u8 (doV 7 d b df), .bool (doF 7 d b df)]) ∧ w' = w := by
  have hc := cw_lo df
  have hc' := cw_hi df
  go_enter Tryz.func91, Tryz.ntmps91
  go_wp2_with (go_at_call 103; refine (one_any _ _).mono ?_; rintro e w' ⟨rfl, rfl⟩)
  go_ret2
  refine ⟨ret2 ?_ ?_, rfl⟩
  · first | (rw [doV7]; done) | (rw [doV7]; omega)
  · first | (rw [doF7]; done) | (rw [doF7, Bool.eq_iff_iff]; simp; done) | (rw [doF7, Bool.eq_iff_iff]; simp; omega)

theorem rdo8 (d b : Int) (df : Bool) (hd : 0 ≤ d) (hd' : d ≤ 255) (hb : 0 ≤ b) (hb' : b ≤ 255) (w : World) :
    Calls Tryz.prog 91 #[.int .u8 8, .int .u8 d, .int .u8 b, .bool df] w fun e w' => e = .returned (.tuple #[.int .u8 (doV 8 d b df), .bool (doF 8 d b df)]) ∧ w' = w := by
  have hc := cw_lo df
  have hc' := cw_hi df
  go_enter Tryz.func91, Tryz.ntmps91
  go_wp2_with (go_at_call 103; refine (one_any _ _).mono ?_; rintro e w' ⟨rfl, rfl⟩)
  go_ret2
  refine ⟨ret2 ?_ ?_, rfl⟩
  · first | (rw [doV8]; done) | (rw [doV8]; omega)
  · first | (rw [doF8]; done) | (rw [doF8, Bool.eq_iff_iff]; simp; done) | (rw [doF8, Bool.eq_iff_iff]; simp; omega)

theorem rdo9 (d b : Int) (df : Bool) (hd : 0 ≤ d) (hd' : d ≤ 255) (hb : 0 ≤ b) (hb' : b ≤ 255) (w : World) :
    Calls Tryz.prog 91 #[.int .u8 9, .int .u8 d, .int .u8 b, .bool df] w fun e w' => e = .returned (.tuple #[.int .u8 (doV 9 d b df), .bool (doF 9 d b df)]) ∧ w' = w := by
  have hc := cw_lo df
  have hc' := cw_hi df
  go_enter Tryz.func91, Tryz.ntmps91
  go_wp2_with (go_at_call 103; refine (one_any _ _).mono ?_; rintro e w' ⟨rfl, rfl⟩)
  go_ret2
  refine ⟨ret2 ?_ ?_, rfl⟩
  · first | (rw [doV9]; done) | (rw [doV9]; omega)
  · first | (rw [doF9]; done) | (rw [doF9, Bool.eq_iff_iff]; simp; done) | (rw [doF9, Bool.eq_iff_iff]; simp; omega)

theorem rdo10 (d b : Int) (df : Bool) (hd : 0 ≤ d) (hd' : d ≤ 255) (hb : 0 ≤ b) (hb' : b ≤ 255) (w : World) :
    Calls Tryz.prog 91 #[.int .u8 10, .int .u8 d, .int .u8 b, .bool df] w fun e w' => e = .returned (.tuple #[.int .u8 (doV 10 d b df), .bool (doF 10 d b df)]) ∧ w' = w := by
  have hc := cw_lo df
  have hc' := cw_hi df
  go_enter Tryz.func91, Tryz.ntmps91
  go_wp2_with (go_at_call 103; refine (one_any _ _).mono ?_; rintro e w' ⟨rfl, rfl⟩)
  go_ret2
  refine ⟨ret2 ?_ ?_, rfl⟩
  · first | (rw [doV10]; done) | (rw [doV10]; omega)
  · first | (rw [doF10]; done) | (rw [doF10, Bool.eq_iff_iff]; simp; done) | (rw [doF10, Bool.eq_iff_iff]; simp; omega)

theorem rdo11 (d b : Int) (df : Bool) (hd : 0 ≤ d) (hd' : d ≤ 255) (hb : 0 ≤ b) (hb' : b ≤ 255) (w : World) :
    Calls Tryz.prog 91 #[.int .u8 11, .int .u8 d, .int .u8 b, .bool df] w fun e w' => e = .returned (.tuple #[.int .u8 (doV 11 d b df), .bool (doF 11 d b df)]) ∧ w' = w := by
  have hc := cw_lo df
  have hc' := cw_hi df
  go_enter Tryz.func91, Tryz.ntmps91
  go_wp2_with (go_at_call 103; refine (one_any _ _).mono ?_; rintro e w' ⟨rfl, rfl⟩)
  go_ret2
  refine ⟨ret2 ?_ ?_, rfl⟩
  · first | (rw [doV11]; done) | (rw [doV11]; omega)
  · first | (rw [doF11]; done) | (rw [doF11, Bool.eq_iff_iff]; simp; done) | (rw [doF11, Bool.eq_iff_iff]; simp; omega)

theorem rdo12 (d b : Int) (df : Bool) (hd : 0 ≤ d) (hd' : d ≤ 255) (hb : 0 ≤ b) (hb' : b ≤ 255) (w : World) :
    Calls Tryz.prog 91 #[.int .u8 12, .int .u8 d, .int .u8 b, .bool df] w fun e w' => e = .returned (.tuple #[.int .u8 (doV 12 d b df), .bool (doF 12 d b df)]) ∧ w' = w := by
  have hc := cw_lo df
  have hc' := cw_hi df
  go_enter Tryz.func91, Tryz.ntmps91
  go_wp2_with (go_at_call 103; refine (one_any _ _).mono ?_; rintro e w' ⟨rfl, rfl⟩)
  go_ret2
  refine ⟨ret2 ?_ ?_, rfl⟩
  · first | (rw [doV12]; done) | (rw [doV12]; omega)
  · first | (rw [doF12]; done) | (rw [doF12, Bool.eq_iff_iff]; simp; done) | (rw [doF12, Bool.eq_iff_iff]; simp; omega)

theorem rdo13 (d b : Int) (df : Bool) (hd : 0 ≤ d) (hd' : d ≤ 255) (hb : 0 ≤ b) (hb' : b ≤ 255) (w : World) :
    Calls Tryz.prog 91 #[.int .u8 13, .int .u8 d, .int .u8 b, .bool df] w fun e w' => e = .returned (.tuple #[.int .u8 (doV 13 d b df), .bool (doF 13 d b df)]) ∧ w' = w := by
  have hc := cw_lo df
  have hc' := cw_hi df
  go_enter Tryz.func91, Tryz.ntmps91
  go_wp2_with (go_at_call 103; refine (one_any _ _).mono ?_; rintro e w' ⟨rfl, rfl⟩)
  go_ret2
  refine ⟨ret2 ?_ ?_, rfl⟩
  · first | (rw [doV13]; done) | (rw [doV13]; omega)
  · first | (rw [doF13]; done) | (rw [doF13, Bool.eq_iff_iff]; simp; done) | (rw [doF13, Bool.eq_iff_iff]; simp; omega)

theorem rdo_else (s d b : Int) (df : Bool) (hs : 14 ≤ s) (w : World) :
    Calls Tryz.prog 91 #[.int .u8 s, .int .u8 d, .int .u8 b, .bool df] w fun e w' => e = .returned (.tuple #[.int .u8 (doV s d b df), .bool (doF s d b df)]) ∧ w' = w := by
  have e1 : doV s d b df = 0 := by unfold doV; simp [show ¬ s = 0 by omega, show ¬ s = 1 by omega, show ¬ s = 2 by omega, show ¬ s = 3 by omega, show ¬ s = 4 by omega, show ¬ s = 5 by omega, show ¬ s = 6 by omega, show ¬ s = 7 by omega, show ¬ s = 8 by omega, show ¬ s = 9 by omega, show ¬ s = 10 by omega, show ¬ s = 11 by omega, show ¬ s = 12 by omega, show ¬ s = 13 by omega]
  have e2 : doF s d b df = false := by unfold doF; simp [show ¬ s = 0 by omega, show ¬ s = 1 by omega, show ¬ s = 2 by omega, show ¬ s = 3 by omega, show ¬ s = 4 by omega, show ¬ s = 5 by omega, show ¬ s = 6 by omega, show ¬ s = 7 by omega, show ¬ s = 8 by omega, show ¬ s = 9 by omega, show ¬ s = 10 by omega, show ¬ s = 11 by omega, show ¬ s = 12 by omega, show ¬ s = 13 by omega]
  rw [e1, e2]
  clear e1 e2
  have t0 : (s == 0) = false := by rw [beq_eq_false_iff_ne]; omega
  have t1 : (s == 1) = false := by rw [beq_eq_false_iff_ne]; omega
  have t2 : (s == 2) = false := by rw [beq_eq_false_iff_ne]; omega
  have t3 : (s == 3) = false := by rw [beq_eq_false_iff_ne]; omega
  have t4 : (s == 4) = false := by rw [beq_eq_false_iff_ne]; omega
  have t5 : (s == 5) = false := by rw [beq_eq_false_iff_ne]; omega
  have t6 : (s == 6) = false := by rw [beq_eq_false_iff_ne]; omega
  have t7 : (s == 7) = false := by rw [beq_eq_false_iff_ne]; omega
  have t8 : (s == 8) = false := by rw [beq_eq_false_iff_ne]; omega
  have t9 : (s == 9) = false := by rw [beq_eq_false_iff_ne]; omega
  have t10 : (s == 10) = false := by rw [beq_eq_false_iff_ne]; omega
  have t11 : (s == 11) = false := by rw [beq_eq_false_iff_ne]; omega
  have t12 : (s == 12) = false := by rw [beq_eq_false_iff_ne]; omega
  have t13 : (s == 13) = false := by rw [beq_eq_false_iff_ne]; omega
  go_enter Tryz.func91, Tryz.ntmps91
  go_wp2_with (go_at_call 103; refine (one_any _ _).mono ?_; rintro e w' ⟨rfl, rfl⟩)
  go_ret2
  exact ⟨rfl, rfl⟩

theorem rdo_any (s d b : Int) (df : Bool) (hs : 0 ≤ s) (hd : 0 ≤ d) (hd' : d ≤ 255) (hb : 0 ≤ b) (hb' : b ≤ 255) (w : World) :
    Calls Tryz.prog 91 #[.int .u8 s, .int .u8 d, .int .u8 b, .bool df] w fun e w' => e = .returned (.tuple #[.int .u8 (doV s d b df), .bool (doF s d b df)]) ∧ w' = w := by
  by_cases h : 14 ≤ s
  · exact rdo_else s d b df h w
  · have hc : s = 0 ∨ s = 1 ∨ s = 2 ∨ s = 3 ∨ s = 4 ∨ s = 5 ∨ s = 6 ∨ s = 7 ∨ s = 8 ∨ s = 9 ∨ s = 10 ∨ s = 11 ∨ s = 12 ∨ s = 13 := by omega
    rcases hc with rfl | rfl | rfl | rfl | rfl | rfl | rfl | rfl | rfl | rfl | rfl | rfl | rfl | rfl
    · exact rdo0 d b df hd hd' hb hb' w
    · exact rdo1 d b df hd hd' hb hb' w
    · exact rdo2 d b df hd hd' hb hb' w
    · exact rdo3 d b df hd hd' hb hb' w
    · exact rdo4 d b df hd hd' hb hb' w
    · exact rdo5 d b df hd hd' hb hb' w
    · exact rdo6 d b df hd hd' hb hb' w
    · exact rdo7 d b df hd hd' hb hb' w
    · exact rdo8 d b df hd hd' hb hb' w
    · exact rdo9 d b df hd hd' hb hb' w
    · exact rdo10 d b df hd hd' hb hb' w
    · exact rdo11 d b df hd hd' hb hb' w
    · exact rdo12 d b df hd hd' hb hb' w
    · exact rdo13 d b df hd hd' hb hb' w
end Go.Proofs.YtbeeefekndcgnaaGreatDoor

