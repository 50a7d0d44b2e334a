/- bits.Do at the sums 0 to 4: what it returns for all bytes and DF; nothing that was there turns. -/
import Derived.Test.YtbeeefekndcgnaaGreatDoorLeaf
namespace Go.Proofs.YtbeeefekndcgnaaGreatDoor
open Go.RowKit
set_option maxHeartbeats 400000
set_option maxRecDepth 100000

theorem do0 (d b : Int) (df : Bool) (hd : 0 ≤ d) (hd' : d ≤ 255) (hb : 0 ≤ b) (hb' : b ≤ 255) (w : World) :
    Calls Tryz.prog 102 #[.int .u8 0, .int .u8 d, .int .u8 b, .bool df] w fun e w' => e = .returned (.tuple #[.int .u8 (doV 0 d b df), .bool (doF 0 d b df)]) ∧ Below w.heap.size w w' := by
  have hc := cw_lo df
  have hc' := cw_hi df
  have h1 : ((w.alloc (.cells tab 108)).alloc (.cells tab 108)).cell? ⟨w.heap.size + 1, 0, none⟩ = some (fv 106) := by
    rw [cell_of_row _ _ 0 tab 108 (0, 0) (heap_alloc2_new w _ _)]; rfl
  have h2 : ((w.alloc (.cells tab 108)).alloc (.cells tab 108)).cell? ⟨w.heap.size + 1, 1, none⟩ = some (fv 107) := by
    rw [cell_of_row _ _ 1 tab 108 (0, 0) (heap_alloc2_new w _ _)]; rfl
  unfold fv at h1 h2
  go_enter Tryz.func102, Tryz.ntmps102
  go_wp2_with (first | (go_at_call 104; refine (rows_any _).mono ?_; rintro e w' ⟨rfl, rfl⟩) | (go_at_call 105; refine (worth_any _ _).mono ?_; rintro e w' ⟨rfl, rfl⟩) | refine rowst1 rfl 108 _ _ rfl tab rfl rfl _ (by kernel_rfl) (by kernel_rfl) (by kernel_rfl) ?_)
  go_quiet ((first | (go_at_call 106; exact Calls.quiet_of_same (c27 _ _ _ hd hd' hb hb' hc hc' _)) | (go_at_call 107; exact Calls.quiet_of_same (c28 _ _ _ hd hd' hb hb' hc hc' _))))
  go_wp2
  go_ret2
  refine ⟨ret2 ?_ ?_, below_drewN ((((Below.refl _ _).alloc (Nat.le_refl _) _).alloc (by simp) _).alloc (by simp; omega) _) _⟩
  · first | (rw [doV0]; done) | (rw [doV0]; omega)
  · first | (rw [doF0]; done) | (rw [doF0]; exact cw_eq df)

theorem do1 (d b : Int) (df : Bool) (hd : 0 ≤ d) (hd' : d ≤ 255) (hb : 0 ≤ b) (hb' : b ≤ 255) (w : World) :
    Calls Tryz.prog 102 #[.int .u8 1, .int .u8 d, .int .u8 b, .bool df] w fun e w' => e = .returned (.tuple #[.int .u8 (doV 1 d b df), .bool (doF 1 d b df)]) ∧ Below w.heap.size w w' := by
  have hc := cw_lo df
  have hc' := cw_hi df
  have h1 : ((w.alloc (.cells tab 108)).alloc (.cells tab 108)).cell? ⟨w.heap.size + 1, 2, none⟩ = some (fv 108) := by
    rw [cell_of_row _ _ 2 tab 108 (0, 0) (heap_alloc2_new w _ _)]; rfl
  have h2 : ((w.alloc (.cells tab 108)).alloc (.cells tab 108)).cell? ⟨w.heap.size + 1, 3, none⟩ = some (fv 107) := by
    rw [cell_of_row _ _ 3 tab 108 (0, 0) (heap_alloc2_new w _ _)]; rfl
  unfold fv at h1 h2
  go_enter Tryz.func102, Tryz.ntmps102
  go_wp2_with (first | (go_at_call 104; refine (rows_any _).mono ?_; rintro e w' ⟨rfl, rfl⟩) | (go_at_call 105; refine (worth_any _ _).mono ?_; rintro e w' ⟨rfl, rfl⟩) | refine rowst1 rfl 108 _ _ rfl tab rfl rfl _ (by kernel_rfl) (by kernel_rfl) (by kernel_rfl) ?_)
  go_quiet ((first | (go_at_call 108; exact Calls.quiet_of_same (c29 _ _ _ hd hd' hb hb' hc hc' _)) | (go_at_call 107; exact Calls.quiet_of_same (c28 _ _ _ hd hd' hb hb' hc hc' _))))
  go_wp2
  go_ret2
  refine ⟨ret2 ?_ ?_, below_drewN ((((Below.refl _ _).alloc (Nat.le_refl _) _).alloc (by simp) _).alloc (by simp; omega) _) _⟩
  · first | (rw [doV1]; done) | (rw [doV1]; omega) | (rw [doV1]; have o := or_lt d b hd hd' hb hb'; rw [or64 d b hd hd' hb hb']; omega)
  · first | (rw [doF1]; done) | (rw [doF1]; exact cw_eq df)

theorem do2 (d b : Int) (df : Bool) (hd : 0 ≤ d) (hd' : d ≤ 255) (hb : 0 ≤ b) (hb' : b ≤ 255) (w : World) :
    Calls Tryz.prog 102 #[.int .u8 2, .int .u8 d, .int .u8 b, .bool df] w fun e w' => e = .returned (.tuple #[.int .u8 (doV 2 d b df), .bool (doF 2 d b df)]) ∧ Below w.heap.size w w' := by
  have hc := cw_lo df
  have hc' := cw_hi df
  have h1 : ((w.alloc (.cells tab 108)).alloc (.cells tab 108)).cell? ⟨w.heap.size + 1, 4, none⟩ = some (fv 109) := by
    rw [cell_of_row _ _ 4 tab 108 (0, 0) (heap_alloc2_new w _ _)]; rfl
  have h2 : ((w.alloc (.cells tab 108)).alloc (.cells tab 108)).cell? ⟨w.heap.size + 1, 5, none⟩ = some (fv 107) := by
    rw [cell_of_row _ _ 5 tab 108 (0, 0) (heap_alloc2_new w _ _)]; rfl
  unfold fv at h1 h2
  go_enter Tryz.func102, Tryz.ntmps102
  go_wp2_with (first | (go_at_call 104; refine (rows_any _).mono ?_; rintro e w' ⟨rfl, rfl⟩) | (go_at_call 105; refine (worth_any _ _).mono ?_; rintro e w' ⟨rfl, rfl⟩) | refine rowst1 rfl 108 _ _ rfl tab rfl rfl _ (by kernel_rfl) (by kernel_rfl) (by kernel_rfl) ?_)
  go_quiet ((first | (go_at_call 109; exact Calls.quiet_of_same (c30 _ _ _ hd hd' hb hb' hc hc' _)) | (go_at_call 107; exact Calls.quiet_of_same (c28 _ _ _ hd hd' hb hb' hc hc' _))))
  go_wp2
  go_ret2
  refine ⟨ret2 ?_ ?_, below_drewN ((((Below.refl _ _).alloc (Nat.le_refl _) _).alloc (by simp) _).alloc (by simp; omega) _) _⟩
  · first | (rw [doV2]; done) | (rw [doV2]; omega) | (rw [doV2]; have o := and_lt d b hd hd' hb hb'; rw [and64 d b hd hd' hb hb']; omega)
  · first | (rw [doF2]; done) | (rw [doF2]; exact cw_eq df)

theorem do3 (d b : Int) (df : Bool) (hd : 0 ≤ d) (hd' : d ≤ 255) (hb : 0 ≤ b) (hb' : b ≤ 255) (w : World) :
    Calls Tryz.prog 102 #[.int .u8 3, .int .u8 d, .int .u8 b, .bool df] w fun e w' => e = .returned (.tuple #[.int .u8 (doV 3 d b df), .bool (doF 3 d b df)]) ∧ Below w.heap.size w w' := by
  have hc := cw_lo df
  have hc' := cw_hi df
  have h1 : ((w.alloc (.cells tab 108)).alloc (.cells tab 108)).cell? ⟨w.heap.size + 1, 6, none⟩ = some (fv 110) := by
    rw [cell_of_row _ _ 6 tab 108 (0, 0) (heap_alloc2_new w _ _)]; rfl
  have h2 : ((w.alloc (.cells tab 108)).alloc (.cells tab 108)).cell? ⟨w.heap.size + 1, 7, none⟩ = some (fv 107) := by
    rw [cell_of_row _ _ 7 tab 108 (0, 0) (heap_alloc2_new w _ _)]; rfl
  unfold fv at h1 h2
  go_enter Tryz.func102, Tryz.ntmps102
  go_wp2_with (first | (go_at_call 104; refine (rows_any _).mono ?_; rintro e w' ⟨rfl, rfl⟩) | (go_at_call 105; refine (worth_any _ _).mono ?_; rintro e w' ⟨rfl, rfl⟩) | refine rowst1 rfl 108 _ _ rfl tab rfl rfl _ (by kernel_rfl) (by kernel_rfl) (by kernel_rfl) ?_)
  go_quiet ((first | (go_at_call 110; exact Calls.quiet_of_same (c31 _ _ _ hd hd' hb hb' hc hc' _)) | (go_at_call 107; exact Calls.quiet_of_same (c28 _ _ _ hd hd' hb hb' hc hc' _))))
  go_wp2
  go_ret2
  refine ⟨ret2 ?_ ?_, below_drewN ((((Below.refl _ _).alloc (Nat.le_refl _) _).alloc (by simp) _).alloc (by simp; omega) _) _⟩
  · first | (rw [doV3]; done) | (rw [doV3]; omega) | (rw [doV3]; have o := xor_lt d b hd hd' hb hb'; rw [xor64 d b hd hd' hb hb']; omega)
  · first | (rw [doF3]; done) | (rw [doF3]; exact cw_eq df)

theorem do4 (d b : Int) (df : Bool) (hd : 0 ≤ d) (hd' : d ≤ 255) (hb : 0 ≤ b) (hb' : b ≤ 255) (w : World) :
    Calls Tryz.prog 102 #[.int .u8 4, .int .u8 d, .int .u8 b, .bool df] w fun e w' => e = .returned (.tuple #[.int .u8 (doV 4 d b df), .bool (doF 4 d b df)]) ∧ Below w.heap.size w w' := by
  have hc := cw_lo df
  have hc' := cw_hi df
  have h1 : ((w.alloc (.cells tab 108)).alloc (.cells tab 108)).cell? ⟨w.heap.size + 1, 8, none⟩ = some (fv 111) := by
    rw [cell_of_row _ _ 8 tab 108 (0, 0) (heap_alloc2_new w _ _)]; rfl
  have h2 : ((w.alloc (.cells tab 108)).alloc (.cells tab 108)).cell? ⟨w.heap.size + 1, 9, none⟩ = some (fv 112) := by
    rw [cell_of_row _ _ 9 tab 108 (0, 0) (heap_alloc2_new w _ _)]; rfl
  unfold fv at h1 h2
  go_enter Tryz.func102, Tryz.ntmps102
  go_wp2_with (first | (go_at_call 104; refine (rows_any _).mono ?_; rintro e w' ⟨rfl, rfl⟩) | (go_at_call 105; refine (worth_any _ _).mono ?_; rintro e w' ⟨rfl, rfl⟩) | refine rowst1 rfl 108 _ _ rfl tab rfl rfl _ (by kernel_rfl) (by kernel_rfl) (by kernel_rfl) ?_)
  go_quiet ((first | (go_at_call 111; exact Calls.quiet_of_same (c32 _ _ _ hd hd' hb hb' hc hc' _)) | (go_at_call 112; exact Calls.quiet_of_same (c33 _ _ _ hd hd' hb hb' hc hc' _))))
  go_wp2
  go_ret2
  refine ⟨ret2 ?_ ?_, below_drewN ((((Below.refl _ _).alloc (Nat.le_refl _) _).alloc (by simp) _).alloc (by simp; omega) _) _⟩
  · first | (rw [doV4]; done) | (rw [doV4]; omega)
  · first | (rw [doF4]; done)

end Go.Proofs.YtbeeefekndcgnaaGreatDoor
