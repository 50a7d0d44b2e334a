/- bits.Do at the sums 5 to 9: what it returns for all bytes and DF; nothing that was there turns. -/
import Derived.Test.YtbeeefekndcgnaaGreatDoorLeaf
namespace Go.Proofs.YtbeeefekndcgnaaGreatDoor
open Go.RowKit
set_option maxHeartbeats 400000
set_option maxRecDepth 100000

theorem do5 (d b : Int) (df : Bool) (hd : 0 ≤ d) (hd' : d ≤ 255) (hb : 0 ≤ b) (hb' : b ≤ 255) (w : World) :
    Calls Tryz.prog 102 #[.int .u8 5, .int .u8 d, .int .u8 b, .bool df] w fun e w' => e = .returned (.tuple #[.int .u8 (doV 5 d b df), .bool (doF 5 d b df)]) ∧ Below w.heap.size w w' := by
  have hc := cw_lo df
  have hc' := cw_hi df
  have h1 : ((w.alloc (.cells tab 108)).alloc (.cells tab 108)).cell? ⟨w.heap.size + 1, 10, none⟩ = some (fv 113) := by
    rw [cell_of_row _ _ 10 tab 108 (0, 0) (heap_alloc2_new w _ _)]; rfl
  have h2 : ((w.alloc (.cells tab 108)).alloc (.cells tab 108)).cell? ⟨w.heap.size + 1, 11, none⟩ = some (fv 114) := by
    rw [cell_of_row _ _ 11 tab 108 (0, 0) (heap_alloc2_new w _ _)]; rfl
  unfold fv at h1 h2
  go_enter Tryz.func102, Tryz.ntmps102
  go_wp2_with (first | (go_at_call 104; refine (rows_any _).mono ?_; rintro e w' ⟨rfl, rfl⟩) | (go_at_call 105; refine (worth_any _ _).mono ?_; rintro e w' ⟨rfl, rfl⟩) | refine rowst1 rfl 108 _ _ rfl tab rfl rfl _ (by kernel_rfl) (by kernel_rfl) (by kernel_rfl) ?_)
  go_quiet ((first | (go_at_call 113; exact Calls.quiet_of_same (c34 _ _ _ hd hd' hb hb' hc hc' _)) | (go_at_call 114; exact Calls.quiet_of_same (c35 _ _ _ hd hd' hb hb' hc hc' _))))
  go_wp2
  go_ret2
  refine ⟨ret2 ?_ ?_, below_drewN ((((Below.refl _ _).alloc (Nat.le_refl _) _).alloc (by simp) _).alloc (by simp; omega) _) _⟩
  · first | (rw [doV5]; done) | (rw [doV5]; omega)
  · first | (rw [doF5]; done)

theorem do6 (d b : Int) (df : Bool) (hd : 0 ≤ d) (hd' : d ≤ 255) (hb : 0 ≤ b) (hb' : b ≤ 255) (w : World) :
    Calls Tryz.prog 102 #[.int .u8 6, .int .u8 d, .int .u8 b, .bool df] w fun e w' => e = .returned (.tuple #[.int .u8 (doV 6 d b df), .bool (doF 6 d b df)]) ∧ Below w.heap.size w w' := by
  have hc := cw_lo df
  have hc' := cw_hi df
  have h1 : ((w.alloc (.cells tab 108)).alloc (.cells tab 108)).cell? ⟨w.heap.size + 1, 12, none⟩ = some (fv 115) := by
    rw [cell_of_row _ _ 12 tab 108 (0, 0) (heap_alloc2_new w _ _)]; rfl
  have h2 : ((w.alloc (.cells tab 108)).alloc (.cells tab 108)).cell? ⟨w.heap.size + 1, 13, none⟩ = some (fv 116) := by
    rw [cell_of_row _ _ 13 tab 108 (0, 0) (heap_alloc2_new w _ _)]; rfl
  unfold fv at h1 h2
  go_enter Tryz.func102, Tryz.ntmps102
  go_wp2_with (first | (go_at_call 104; refine (rows_any _).mono ?_; rintro e w' ⟨rfl, rfl⟩) | (go_at_call 105; refine (worth_any _ _).mono ?_; rintro e w' ⟨rfl, rfl⟩) | refine rowst1 rfl 108 _ _ rfl tab rfl rfl _ (by kernel_rfl) (by kernel_rfl) (by kernel_rfl) ?_)
  go_quiet ((first | (go_at_call 115; exact Calls.quiet_of_same (c36 _ _ _ hd hd' hb hb' hc hc' _)) | (go_at_call 116; exact Calls.quiet_of_same (c37 _ _ _ hd hd' hb hb' hc hc' _))))
  go_wp2
  go_ret2
  refine ⟨ret2 ?_ ?_, below_drewN ((((Below.refl _ _).alloc (Nat.le_refl _) _).alloc (by simp) _).alloc (by simp; omega) _) _⟩
  · first | (rw [doV6]; done) | (rw [doV6]; omega)
  · first | (rw [doF6]; done)

theorem do7 (d b : Int) (df : Bool) (hd : 0 ≤ d) (hd' : d ≤ 255) (hb : 0 ≤ b) (hb' : b ≤ 255) (w : World) :
    Calls Tryz.prog 102 #[.int .u8 7, .int .u8 d, .int .u8 b, .bool df] w fun e w' => e = .returned (.tuple #[.int .u8 (doV 7 d b df), .bool (doF 7 d b df)]) ∧ Below w.heap.size w w' := by
  have hc := cw_lo df
  have hc' := cw_hi df
  have h1 : ((w.alloc (.cells tab 108)).alloc (.cells tab 108)).cell? ⟨w.heap.size + 1, 14, none⟩ = some (fv 117) := by
    rw [cell_of_row _ _ 14 tab 108 (0, 0) (heap_alloc2_new w _ _)]; rfl
  have h2 : ((w.alloc (.cells tab 108)).alloc (.cells tab 108)).cell? ⟨w.heap.size + 1, 15, none⟩ = some (fv 118) := by
    rw [cell_of_row _ _ 15 tab 108 (0, 0) (heap_alloc2_new w _ _)]; rfl
  unfold fv at h1 h2
  go_enter Tryz.func102, Tryz.ntmps102
  go_wp2_with (first | (go_at_call 104; refine (rows_any _).mono ?_; rintro e w' ⟨rfl, rfl⟩) | (go_at_call 105; refine (worth_any _ _).mono ?_; rintro e w' ⟨rfl, rfl⟩) | refine rowst1 rfl 108 _ _ rfl tab rfl rfl _ (by kernel_rfl) (by kernel_rfl) (by kernel_rfl) ?_)
  go_quiet ((first | (go_at_call 117; exact Calls.quiet_of_same (c38 _ _ _ hd hd' hb hb' hc hc' _)) | (go_at_call 118; exact Calls.quiet_of_same (c39 _ _ _ hd hd' hb hb' hc hc' _))))
  go_wp2
  go_ret2
  refine ⟨ret2 ?_ ?_, below_drewN ((((Below.refl _ _).alloc (Nat.le_refl _) _).alloc (by simp) _).alloc (by simp; omega) _) _⟩
  · first | (rw [doV7]; done) | (rw [doV7]; omega)
  · first | (rw [doF7]; done)

theorem do8 (d b : Int) (df : Bool) (hd : 0 ≤ d) (hd' : d ≤ 255) (hb : 0 ≤ b) (hb' : b ≤ 255) (w : World) :
    Calls Tryz.prog 102 #[.int .u8 8, .int .u8 d, .int .u8 b, .bool df] w fun e w' => e = .returned (.tuple #[.int .u8 (doV 8 d b df), .bool (doF 8 d b df)]) ∧ Below w.heap.size w w' := by
  have hc := cw_lo df
  have hc' := cw_hi df
  have h1 : ((w.alloc (.cells tab 108)).alloc (.cells tab 108)).cell? ⟨w.heap.size + 1, 16, none⟩ = some (fv 119) := by
    rw [cell_of_row _ _ 16 tab 108 (0, 0) (heap_alloc2_new w _ _)]; rfl
  have h2 : ((w.alloc (.cells tab 108)).alloc (.cells tab 108)).cell? ⟨w.heap.size + 1, 17, none⟩ = some (fv 120) := by
    rw [cell_of_row _ _ 17 tab 108 (0, 0) (heap_alloc2_new w _ _)]; rfl
  unfold fv at h1 h2
  go_enter Tryz.func102, Tryz.ntmps102
  go_wp2_with (first | (go_at_call 104; refine (rows_any _).mono ?_; rintro e w' ⟨rfl, rfl⟩) | (go_at_call 105; refine (worth_any _ _).mono ?_; rintro e w' ⟨rfl, rfl⟩) | refine rowst1 rfl 108 _ _ rfl tab rfl rfl _ (by kernel_rfl) (by kernel_rfl) (by kernel_rfl) ?_)
  go_quiet ((first | (go_at_call 119; exact Calls.quiet_of_same (c40 _ _ _ hd hd' hb hb' hc hc' _)) | (go_at_call 120; exact Calls.quiet_of_same (c41 _ _ _ hd hd' hb hb' hc hc' _))))
  go_wp2
  go_ret2
  refine ⟨ret2 ?_ ?_, below_drewN ((((Below.refl _ _).alloc (Nat.le_refl _) _).alloc (by simp) _).alloc (by simp; omega) _) _⟩
  · first | (rw [doV8]; done) | (rw [doV8]; omega)
  · first | (rw [doF8]; done)

theorem do9 (d b : Int) (df : Bool) (hd : 0 ≤ d) (hd' : d ≤ 255) (hb : 0 ≤ b) (hb' : b ≤ 255) (w : World) :
    Calls Tryz.prog 102 #[.int .u8 9, .int .u8 d, .int .u8 b, .bool df] w fun e w' => e = .returned (.tuple #[.int .u8 (doV 9 d b df), .bool (doF 9 d b df)]) ∧ Below w.heap.size w w' := by
  have hc := cw_lo df
  have hc' := cw_hi df
  have h1 : ((w.alloc (.cells tab 108)).alloc (.cells tab 108)).cell? ⟨w.heap.size + 1, 18, none⟩ = some (fv 121) := by
    rw [cell_of_row _ _ 18 tab 108 (0, 0) (heap_alloc2_new w _ _)]; rfl
  have h2 : ((w.alloc (.cells tab 108)).alloc (.cells tab 108)).cell? ⟨w.heap.size + 1, 19, none⟩ = some (fv 122) := by
    rw [cell_of_row _ _ 19 tab 108 (0, 0) (heap_alloc2_new w _ _)]; rfl
  unfold fv at h1 h2
  go_enter Tryz.func102, Tryz.ntmps102
  go_wp2_with (first | (go_at_call 104; refine (rows_any _).mono ?_; rintro e w' ⟨rfl, rfl⟩) | (go_at_call 105; refine (worth_any _ _).mono ?_; rintro e w' ⟨rfl, rfl⟩) | refine rowst1 rfl 108 _ _ rfl tab rfl rfl _ (by kernel_rfl) (by kernel_rfl) (by kernel_rfl) ?_)
  go_quiet ((first | (go_at_call 121; exact Calls.quiet_of_same (c42 _ _ _ hd hd' hb hb' hc hc' _)) | (go_at_call 122; exact Calls.quiet_of_same (c43 _ _ _ hd hd' hb hb' hc hc' _))))
  go_wp2
  go_ret2
  refine ⟨ret2 ?_ ?_, below_drewN ((((Below.refl _ _).alloc (Nat.le_refl _) _).alloc (by simp) _).alloc (by simp; omega) _) _⟩
  · first | (rw [doV9]; done) | (rw [doV9]; omega)
  · first | (rw [doF9]; done)

end Go.Proofs.YtbeeefekndcgnaaGreatDoor
