/- The document's answer for Do: what it returns at any sum, for all bytes and DF. -/
import Derived.Test.YtcljbfembnbeiaaWake
namespace Go.Proofs.Ytcljbfembnbeiaa
open Go.RowKit
set_option maxHeartbeats 400000

theorem one_any (df : Bool) (w : World) :
    Calls Try.prog 24 #[.bool df] w fun e w' => e = .returned (.int .i64 (cw df)) ∧ w' = w := by
  cases df
  all_goals
    go_enter Try.func24, Try.ntmps24
    go_wp2
    go_ret
    exact ⟨rfl, rfl⟩

theorem rdo0 (d b : Int) (df : Bool) (hd : 0 ≤ d) (hd' : d ≤ 255) (hb : 0 ≤ b) (hb' : b ≤ 255) (w : World) :
    Calls Try.prog 11 #[.int .u8 0, .int .u8 d, .int .u8 b, .bool df] w fun e w' => e = .returned (.tuple #[.int .u8 (doV 0 d b df), .bool (doF 0 d b df)]) ∧ w' = w := by
  have hc := cw_lo df
  have hc' := cw_hi df
  go_enter Try.func11, Try.ntmps11
  go_wp2_with (go_at_call 24; refine (one_any _ _).mono ?_; rintro e w' ⟨rfl, rfl⟩)
  go_ret2
  refine ⟨ret2 ?_ ?_, rfl⟩
  · first | (rw [doV0]; done) | (rw [doV0]; omega)
  · first | (rw [doF0]; done) | (rw [doF0, Bool.eq_iff_iff]; simp; done) | (rw [doF0, Bool.eq_iff_iff]; simp; omega)

theorem rdo1 (d b : Int) (df : Bool) (hd : 0 ≤ d) (hd' : d ≤ 255) (hb : 0 ≤ b) (hb' : b ≤ 255) (w : World) :
    Calls Try.prog 11 #[.int .u8 1, .int .u8 d, .int .u8 b, .bool df] w fun e w' => e = .returned (.tuple #[.int .u8 (doV 1 d b df), .bool (doF 1 d b df)]) ∧ w' = w := by
  have hc := cw_lo df
  have hc' := cw_hi df
  go_enter Try.func11, Try.ntmps11
  go_wp2_with (go_at_call 24; refine (one_any _ _).mono ?_; rintro e w' ⟨rfl, rfl⟩)
  go_ret2
  refine ⟨ret2 ?_ ?_, rfl⟩
  · first | (rw [doV1]; done) | (rw [doV1]; omega) | exact u8_or d b hd (by omega) hb (by omega)
  · first | (rw [doF1]; done) | (rw [doF1, Bool.eq_iff_iff]; simp; done) | (rw [doF1, Bool.eq_iff_iff]; simp; omega)

theorem rdo2 (d b : Int) (df : Bool) (hd : 0 ≤ d) (hd' : d ≤ 255) (hb : 0 ≤ b) (hb' : b ≤ 255) (w : World) :
    Calls Try.prog 11 #[.int .u8 2, .int .u8 d, .int .u8 b, .bool df] w fun e w' => e = .returned (.tuple #[.int .u8 (doV 2 d b df), .bool (doF 2 d b df)]) ∧ w' = w := by
  have hc := cw_lo df
  have hc' := cw_hi df
  go_enter Try.func11, Try.ntmps11
  go_wp2_with (go_at_call 24; refine (one_any _ _).mono ?_; rintro e w' ⟨rfl, rfl⟩)
  go_ret2
  refine ⟨ret2 ?_ ?_, rfl⟩
  · first | (rw [doV2]; done) | (rw [doV2]; omega) | exact u8_and d b hd (by omega) hb (by omega)
  · first | (rw [doF2]; done) | (rw [doF2, Bool.eq_iff_iff]; simp; done) | (rw [doF2, Bool.eq_iff_iff]; simp; omega)

theorem rdo3 (d b : Int) (df : Bool) (hd : 0 ≤ d) (hd' : d ≤ 255) (hb : 0 ≤ b) (hb' : b ≤ 255) (w : World) :
    Calls Try.prog 11 #[.int .u8 3, .int .u8 d, .int .u8 b, .bool df] w fun e w' => e = .returned (.tuple #[.int .u8 (doV 3 d b df), .bool (doF 3 d b df)]) ∧ w' = w := by
  have hc := cw_lo df
  have hc' := cw_hi df
  go_enter Try.func11, Try.ntmps11
  go_wp2_with (go_at_call 24; refine (one_any _ _).mono ?_; rintro e w' ⟨rfl, rfl⟩)
  go_ret2
  refine ⟨ret2 ?_ ?_, rfl⟩
  · first | (rw [doV3]; done) | (rw [doV3]; omega) | exact u8_xor d b hd (by omega) hb (by omega)
  · first | (rw [doF3]; done) | (rw [doF3, Bool.eq_iff_iff]; simp; done) | (rw [doF3, Bool.eq_iff_iff]; simp; omega)

theorem rdo4 (d b : Int) (df : Bool) (hd : 0 ≤ d) (hd' : d ≤ 255) (hb : 0 ≤ b) (hb' : b ≤ 255) (w : World) :
    Calls Try.prog 11 #[.int .u8 4, .int .u8 d, .int .u8 b, .bool df] w fun e w' => e = .returned (.tuple #[.int .u8 (doV 4 d b df), .bool (doF 4 d b df)]) ∧ w' = w := by
  have hc := cw_lo df
  have hc' := cw_hi df
  go_enter Try.func11, Try.ntmps11
  go_wp2_with (go_at_call 24; refine (one_any _ _).mono ?_; rintro e w' ⟨rfl, rfl⟩)
  go_ret2
  refine ⟨ret2 ?_ ?_, rfl⟩
  · first | (rw [doV4]; done) | (rw [doV4]; omega)
  · first | (rw [doF4]; done) | (rw [doF4, Bool.eq_iff_iff]; simp; done) | (rw [doF4, Bool.eq_iff_iff]; simp; omega)

theorem rdo5 (d b : Int) (df : Bool) (hd : 0 ≤ d) (hd' : d ≤ 255) (hb : 0 ≤ b) (hb' : b ≤ 255) (w : World) :
    Calls Try.prog 11 #[.int .u8 5, .int .u8 d, .int .u8 b, .bool df] w fun e w' => e = .returned (.tuple #[.int .u8 (doV 5 d b df), .bool (doF 5 d b df)]) ∧ w' = w := by
  have hc := cw_lo df
  have hc' := cw_hi df
  go_enter Try.func11, Try.ntmps11
  go_wp2_with (go_at_call 24; refine (one_any _ _).mono ?_; rintro e w' ⟨rfl, rfl⟩)
  go_ret2
  refine ⟨ret2 ?_ ?_, rfl⟩
  · first | (rw [doV5]; done) | (rw [doV5]; omega)
  · first | (rw [doF5]; done) | (rw [doF5, Bool.eq_iff_iff]; simp; done) | (rw [doF5, Bool.eq_iff_iff]; simp; omega)

theorem rdo6 (d b : Int) (df : Bool) (hd : 0 ≤ d) (hd' : d ≤ 255) (hb : 0 ≤ b) (hb' : b ≤ 255) (w : World) :
    Calls Try.prog 11 #[.int .u8 6, .int .u8 d, .int .u8 b, .bool df] w fun e w' => e = .returned (.tuple #[.int .u8 (doV 6 d b df), .bool (doF 6 d b df)]) ∧ w' = w := by
  have hc := cw_lo df
  have hc' := cw_hi df
  go_enter Try.func11, Try.ntmps11
  go_wp2_with (go_at_call 24; refine (one_any _ _).mono ?_; rintro e w' ⟨rfl, rfl⟩)
  go_ret2
  refine ⟨ret2 ?_ ?_, rfl⟩
  · first | (rw [doV6]; done) | (rw [doV6]; omega)
  · first | (rw [doF6]; done) | (rw [doF6, Bool.eq_iff_iff]; simp; done) | (rw [doF6, Bool.eq_iff_iff]; simp; omega)

theorem rdo7 (d b : Int) (df : Bool) (hd : 0 ≤ d) (hd' : d ≤ 255) (hb : 0 ≤ b) (hb' : b ≤ 255) (w : World) :
    Calls Try.prog 11 #[.int .u8 7, .int .u8 d, .int .u8 b, .bool df] w fun e w' => e = .returned (.tuple #[.int .u8 (doV 7 d b df), .bool (doF 7 d b df)]) ∧ w' = w := by
  have hc := cw_lo df
  have hc' := cw_hi df
  go_enter Try.func11, Try.ntmps11
  go_wp2_with (go_at_call 24; refine (one_any _ _).mono ?_; rintro e w' ⟨rfl, rfl⟩)
  go_ret2
  refine ⟨ret2 ?_ ?_, rfl⟩
  · first | (rw [doV7]; done) | (rw [doV7]; omega)
  · first | (rw [doF7]; done) | (rw [doF7, Bool.eq_iff_iff]; simp; done) | (rw [doF7, Bool.eq_iff_iff]; simp; omega)

theorem rdo8 (d b : Int) (df : Bool) (hd : 0 ≤ d) (hd' : d ≤ 255) (hb : 0 ≤ b) (hb' : b ≤ 255) (w : World) :
    Calls Try.prog 11 #[.int .u8 8, .int .u8 d, .int .u8 b, .bool df] w fun e w' => e = .returned (.tuple #[.int .u8 (doV 8 d b df), .bool (doF 8 d b df)]) ∧ w' = w := by
  have hc := cw_lo df
  have hc' := cw_hi df
  go_enter Try.func11, Try.ntmps11
  go_wp2_with (go_at_call 24; refine (one_any _ _).mono ?_; rintro e w' ⟨rfl, rfl⟩)
  go_ret2
  refine ⟨ret2 ?_ ?_, rfl⟩
  · first | (rw [doV8]; done) | (rw [doV8]; omega)
  · first | (rw [doF8]; done) | (rw [doF8, Bool.eq_iff_iff]; simp; done) | (rw [doF8, Bool.eq_iff_iff]; simp; omega)

theorem rdo9 (d b : Int) (df : Bool) (hd : 0 ≤ d) (hd' : d ≤ 255) (hb : 0 ≤ b) (hb' : b ≤ 255) (w : World) :
    Calls Try.prog 11 #[.int .u8 9, .int .u8 d, .int .u8 b, .bool df] w fun e w' => e = .returned (.tuple #[.int .u8 (doV 9 d b df), .bool (doF 9 d b df)]) ∧ w' = w := by
  have hc := cw_lo df
  have hc' := cw_hi df
  go_enter Try.func11, Try.ntmps11
  go_wp2_with (go_at_call 24; refine (one_any _ _).mono ?_; rintro e w' ⟨rfl, rfl⟩)
  go_ret2
  refine ⟨ret2 ?_ ?_, rfl⟩
  · first | (rw [doV9]; done) | (rw [doV9]; omega)
  · first | (rw [doF9]; done) | (rw [doF9, Bool.eq_iff_iff]; simp; done) | (rw [doF9, Bool.eq_iff_iff]; simp; omega)

theorem rdo10 (d b : Int) (df : Bool) (hd : 0 ≤ d) (hd' : d ≤ 255) (hb : 0 ≤ b) (hb' : b ≤ 255) (w : World) :
    Calls Try.prog 11 #[.int .u8 10, .int .u8 d, .int .u8 b, .bool df] w fun e w' => e = .returned (.tuple #[.int .u8 (doV 10 d b df), .bool (doF 10 d b df)]) ∧ w' = w := by
  have hc := cw_lo df
  have hc' := cw_hi df
  go_enter Try.func11, Try.ntmps11
  go_wp2_with (go_at_call 24; refine (one_any _ _).mono ?_; rintro e w' ⟨rfl, rfl⟩)
  go_ret2
  refine ⟨ret2 ?_ ?_, rfl⟩
  · first | (rw [doV10]; done) | (rw [doV10]; omega)
  · first | (rw [doF10]; done) | (rw [doF10, Bool.eq_iff_iff]; simp; done) | (rw [doF10, Bool.eq_iff_iff]; simp; omega)

theorem rdo11 (d b : Int) (df : Bool) (hd : 0 ≤ d) (hd' : d ≤ 255) (hb : 0 ≤ b) (hb' : b ≤ 255) (w : World) :
    Calls Try.prog 11 #[.int .u8 11, .int .u8 d, .int .u8 b, .bool df] w fun e w' => e = .returned (.tuple #[.int .u8 (doV 11 d b df), .bool (doF 11 d b df)]) ∧ w' = w := by
  have hc := cw_lo df
  have hc' := cw_hi df
  go_enter Try.func11, Try.ntmps11
  go_wp2_with (go_at_call 24; refine (one_any _ _).mono ?_; rintro e w' ⟨rfl, rfl⟩)
  go_ret2
  refine ⟨ret2 ?_ ?_, rfl⟩
  · first | (rw [doV11]; done) | (rw [doV11]; omega)
  · first | (rw [doF11]; done) | (rw [doF11, Bool.eq_iff_iff]; simp; done) | (rw [doF11, Bool.eq_iff_iff]; simp; omega)

theorem rdo12 (d b : Int) (df : Bool) (hd : 0 ≤ d) (hd' : d ≤ 255) (hb : 0 ≤ b) (hb' : b ≤ 255) (w : World) :
    Calls Try.prog 11 #[.int .u8 12, .int .u8 d, .int .u8 b, .bool df] w fun e w' => e = .returned (.tuple #[.int .u8 (doV 12 d b df), .bool (doF 12 d b df)]) ∧ w' = w := by
  have hc := cw_lo df
  have hc' := cw_hi df
  go_enter Try.func11, Try.ntmps11
  go_wp2_with (go_at_call 24; refine (one_any _ _).mono ?_; rintro e w' ⟨rfl, rfl⟩)
  go_ret2
  refine ⟨ret2 ?_ ?_, rfl⟩
  · first | (rw [doV12]; done) | (rw [doV12]; omega)
  · first | (rw [doF12]; done) | (rw [doF12, Bool.eq_iff_iff]; simp; done) | (rw [doF12, Bool.eq_iff_iff]; simp; omega)

theorem rdo13 (d b : Int) (df : Bool) (hd : 0 ≤ d) (hd' : d ≤ 255) (hb : 0 ≤ b) (hb' : b ≤ 255) (w : World) :
    Calls Try.prog 11 #[.int .u8 13, .int .u8 d, .int .u8 b, .bool df] w fun e w' => e = .returned (.tuple #[.int .u8 (doV 13 d b df), .bool (doF 13 d b df)]) ∧ w' = w := by
  have hc := cw_lo df
  have hc' := cw_hi df
  go_enter Try.func11, Try.ntmps11
  go_wp2_with (go_at_call 24; refine (one_any _ _).mono ?_; rintro e w' ⟨rfl, rfl⟩)
  go_ret2
  refine ⟨ret2 ?_ ?_, rfl⟩
  · first | (rw [doV13]; done) | (rw [doV13]; omega)
  · first | (rw [doF13]; done) | (rw [doF13, Bool.eq_iff_iff]; simp; done) | (rw [doF13, Bool.eq_iff_iff]; simp; omega)

theorem rdo_else (s d b : Int) (df : Bool) (hs : 14 ≤ s) (w : World) :
    Calls Try.prog 11 #[.int .u8 s, .int .u8 d, .int .u8 b, .bool df] w fun e w' => e = .returned (.tuple #[.int .u8 (doV s d b df), .bool (doF s d b df)]) ∧ w' = w := by
  have e1 : doV s d b df = 0 := by unfold doV; simp [show ¬ s = 0 by omega, show ¬ s = 1 by omega, show ¬ s = 2 by omega, show ¬ s = 3 by omega, show ¬ s = 4 by omega, show ¬ s = 5 by omega, show ¬ s = 6 by omega, show ¬ s = 7 by omega, show ¬ s = 8 by omega, show ¬ s = 9 by omega, show ¬ s = 10 by omega, show ¬ s = 11 by omega, show ¬ s = 12 by omega, show ¬ s = 13 by omega]
  have e2 : doF s d b df = false := by unfold doF; simp [show ¬ s = 0 by omega, show ¬ s = 1 by omega, show ¬ s = 2 by omega, show ¬ s = 3 by omega, show ¬ s = 4 by omega, show ¬ s = 5 by omega, show ¬ s = 6 by omega, show ¬ s = 7 by omega, show ¬ s = 8 by omega, show ¬ s = 9 by omega, show ¬ s = 10 by omega, show ¬ s = 11 by omega, show ¬ s = 12 by omega, show ¬ s = 13 by omega]
  rw [e1, e2]
  clear e1 e2
  have t0 : (s == 0) = false := by rw [beq_eq_false_iff_ne]; omega
  have t1 : (s == 1) = false := by rw [beq_eq_false_iff_ne]; omega
  have t2 : (s == 2) = false := by rw [beq_eq_false_iff_ne]; omega
  have t3 : (s == 3) = false := by rw [beq_eq_false_iff_ne]; omega
  have t4 : (s == 4) = false := by rw [beq_eq_false_iff_ne]; omega
  have t5 : (s == 5) = false := by rw [beq_eq_false_iff_ne]; omega
  have t6 : (s == 6) = false := by rw [beq_eq_false_iff_ne]; omega
  have t7 : (s == 7) = false := by rw [beq_eq_false_iff_ne]; omega
  have t8 : (s == 8) = false := by rw [beq_eq_false_iff_ne]; omega
  have t9 : (s == 9) = false := by rw [beq_eq_false_iff_ne]; omega
  have t10 : (s == 10) = false := by rw [beq_eq_false_iff_ne]; omega
  have t11 : (s == 11) = false := by rw [beq_eq_false_iff_ne]; omega
  have t12 : (s == 12) = false := by rw [beq_eq_false_iff_ne]; omega
  have t13 : (s == 13) = false := by rw [beq_eq_false_iff_ne]; omega
  go_enter Try.func11, Try.ntmps11
  go_wp2_with (go_at_call 24; refine (one_any _ _).mono ?_; rintro e w' ⟨rfl, rfl⟩)
  go_ret2
  exact ⟨rfl, rfl⟩

theorem rdo_any (s d b : Int) (df : Bool) (hs : 0 ≤ s) (hd : 0 ≤ d) (hd' : d ≤ 255) (hb : 0 ≤ b) (hb' : b ≤ 255) (w : World) :
    Calls Try.prog 11 #[.int .u8 s, .int .u8 d, .int .u8 b, .bool df] w fun e w' => e = .returned (.tuple #[.int .u8 (doV s d b df), .bool (doF s d b df)]) ∧ w' = w := by
  by_cases h : 14 ≤ s
  · exact rdo_else s d b df h w
  · have hc : s = 0 ∨ s = 1 ∨ s = 2 ∨ s = 3 ∨ s = 4 ∨ s = 5 ∨ s = 6 ∨ s = 7 ∨ s = 8 ∨ s = 9 ∨ s = 10 ∨ s = 11 ∨ s = 12 ∨ s = 13 := by omega
    rcases hc with rfl | rfl | rfl | rfl | rfl | rfl | rfl | rfl | rfl | rfl | rfl | rfl | rfl | rfl
    · exact rdo0 d b df hd hd' hb hb' w
    · exact rdo1 d b df hd hd' hb hb' w
    · exact rdo2 d b df hd hd' hb hb' w
    · exact rdo3 d b df hd hd' hb hb' w
    · exact rdo4 d b df hd hd' hb hb' w
    · exact rdo5 d b df hd hd' hb hb' w
    · exact rdo6 d b df hd hd' hb hb' w
    · exact rdo7 d b df hd hd' hb hb' w
    · exact rdo8 d b df hd hd' hb hb' w
    · exact rdo9 d b df hd hd' hb hb' w
    · exact rdo10 d b df hd hd' hb hb' w
    · exact rdo11 d b df hd hd' hb hb' w
    · exact rdo12 d b df hd hd' hb hb' w
    · exact rdo13 d b df hd hd' hb hb' w
end Go.Proofs.Ytcljbfembnbeiaa

