/- bits.Do at the sums 10 to 13: what it returns for all bytes and DF; nothing that was there turns. -/
import Derived.Test.YtcljbfembnbeiabLeaf
namespace Go.Proofs.Ytcljbfembnbeiab
open Go.RowKit
set_option maxHeartbeats 400000

theorem do10 (d b : Int) (df : Bool) (hd : 0 ≤ d) (hd' : d ≤ 255) (hb : 0 ≤ b) (hb' : b ≤ 255) (w : World) :
    Calls Try.prog 6 #[.int .u8 10, .int .u8 d, .int .u8 b, .bool df] w fun e w' => e = .returned (.tuple #[.int .u8 (doV 10 d b df), .bool (doF 10 d b df)]) ∧ Below w.heap.size w w' := by
  have hc := cw_lo df
  have hc' := cw_hi df
  have h1 : ((w.alloc (.cells tab 37)).alloc (.cells tab 37)).cell? ⟨w.heap.size + 1, 20, none⟩ = some (fv 32) := by
    rw [cell_of_row _ _ 20 tab 37 (0, 0) (heap_alloc2_new w _ _)]; rfl
  have h2 : ((w.alloc (.cells tab 37)).alloc (.cells tab 37)).cell? ⟨w.heap.size + 1, 21, none⟩ = some (fv 33) := by
    rw [cell_of_row _ _ 21 tab 37 (0, 0) (heap_alloc2_new w _ _)]; rfl
  unfold fv at h1 h2
  go_enter Try.func6, Try.ntmps6
  go_wp2_with (first | (go_at_call 11; refine (rows_any _).mono ?_; rintro e w' ⟨rfl, rfl⟩) | (go_at_call 12; refine (worth_any _ _).mono ?_; rintro e w' ⟨rfl, rfl⟩) | refine rowst1 rfl 37 _ _ rfl tab rfl rfl _ (by kernel_rfl) (by kernel_rfl) (by kernel_rfl) ?_)
  go_quiet ((first | (go_at_call 32; exact Calls.quiet_of_same (c44 _ _ _ hd hd' hb hb' hc hc' _)) | (go_at_call 33; exact Calls.quiet_of_same (c45 _ _ _ hd hd' hb hb' hc hc' _))))
  go_wp2
  go_ret2
  refine ⟨ret2 ?_ ?_, below_drewN ((((Below.refl _ _).alloc (Nat.le_refl _) _).alloc (by simp) _).alloc (by simp; omega) _) _⟩
  · first | (rw [doV10]; done) | (rw [doV10]; omega)
  · first | (rw [doF10]; done) | (rw [doF10]; exact low64 d hd hd')

theorem do11 (d b : Int) (df : Bool) (hd : 0 ≤ d) (hd' : d ≤ 255) (hb : 0 ≤ b) (hb' : b ≤ 255) (w : World) :
    Calls Try.prog 6 #[.int .u8 11, .int .u8 d, .int .u8 b, .bool df] w fun e w' => e = .returned (.tuple #[.int .u8 (doV 11 d b df), .bool (doF 11 d b df)]) ∧ Below w.heap.size w w' := by
  have hc := cw_lo df
  have hc' := cw_hi df
  have h1 : ((w.alloc (.cells tab 37)).alloc (.cells tab 37)).cell? ⟨w.heap.size + 1, 22, none⟩ = some (fv 34) := by
    rw [cell_of_row _ _ 22 tab 37 (0, 0) (heap_alloc2_new w _ _)]; rfl
  have h2 : ((w.alloc (.cells tab 37)).alloc (.cells tab 37)).cell? ⟨w.heap.size + 1, 23, none⟩ = some (fv 33) := by
    rw [cell_of_row _ _ 23 tab 37 (0, 0) (heap_alloc2_new w _ _)]; rfl
  unfold fv at h1 h2
  go_enter Try.func6, Try.ntmps6
  go_wp2_with (first | (go_at_call 11; refine (rows_any _).mono ?_; rintro e w' ⟨rfl, rfl⟩) | (go_at_call 12; refine (worth_any _ _).mono ?_; rintro e w' ⟨rfl, rfl⟩) | refine rowst1 rfl 37 _ _ rfl tab rfl rfl _ (by kernel_rfl) (by kernel_rfl) (by kernel_rfl) ?_)
  go_quiet ((first | (go_at_call 34; exact Calls.quiet_of_same (c46 _ _ _ hd hd' hb hb' hc hc' _)) | (go_at_call 33; exact Calls.quiet_of_same (c45 _ _ _ hd hd' hb hb' hc hc' _))))
  go_wp2
  go_ret2
  refine ⟨ret2 ?_ ?_, below_drewN ((((Below.refl _ _).alloc (Nat.le_refl _) _).alloc (by simp) _).alloc (by simp; omega) _) _⟩
  · first | (rw [doV11]; done) | (rw [doV11]; omega) | (rw [doV11]; rw [right64 d df hd hd']; omega)
  · first | (rw [doF11]; done) | (rw [doF11]; exact low64 d hd hd')

theorem do12 (d b : Int) (df : Bool) (hd : 0 ≤ d) (hd' : d ≤ 255) (hb : 0 ≤ b) (hb' : b ≤ 255) (w : World) :
    Calls Try.prog 6 #[.int .u8 12, .int .u8 d, .int .u8 b, .bool df] w fun e w' => e = .returned (.tuple #[.int .u8 (doV 12 d b df), .bool (doF 12 d b df)]) ∧ Below w.heap.size w w' := by
  have hc := cw_lo df
  have hc' := cw_hi df
  have h1 : ((w.alloc (.cells tab 37)).alloc (.cells tab 37)).cell? ⟨w.heap.size + 1, 24, none⟩ = some (fv 35) := by
    rw [cell_of_row _ _ 24 tab 37 (0, 0) (heap_alloc2_new w _ _)]; rfl
  have h2 : ((w.alloc (.cells tab 37)).alloc (.cells tab 37)).cell? ⟨w.heap.size + 1, 25, none⟩ = some (fv 36) := by
    rw [cell_of_row _ _ 25 tab 37 (0, 0) (heap_alloc2_new w _ _)]; rfl
  unfold fv at h1 h2
  go_enter Try.func6, Try.ntmps6
  go_wp2_with (first | (go_at_call 11; refine (rows_any _).mono ?_; rintro e w' ⟨rfl, rfl⟩) | (go_at_call 12; refine (worth_any _ _).mono ?_; rintro e w' ⟨rfl, rfl⟩) | refine rowst1 rfl 37 _ _ rfl tab rfl rfl _ (by kernel_rfl) (by kernel_rfl) (by kernel_rfl) ?_)
  go_quiet ((first | (go_at_call 35; exact Calls.quiet_of_same (c47 _ _ _ hd hd' hb hb' hc hc' _)) | (go_at_call 36; exact Calls.quiet_of_same (c48 _ _ _ hd hd' hb hb' hc hc' _))))
  go_wp2
  go_ret2
  refine ⟨ret2 ?_ ?_, below_drewN ((((Below.refl _ _).alloc (Nat.le_refl _) _).alloc (by simp) _).alloc (by simp; omega) _) _⟩
  · first | (rw [doV12]; done) | (rw [doV12]; omega)
  · first | (rw [doF12]; done) | (rw [doF12]; exact high64 d hd hd')

theorem do13 (d b : Int) (df : Bool) (hd : 0 ≤ d) (hd' : d ≤ 255) (hb : 0 ≤ b) (hb' : b ≤ 255) (w : World) :
    Calls Try.prog 6 #[.int .u8 13, .int .u8 d, .int .u8 b, .bool df] w fun e w' => e = .returned (.tuple #[.int .u8 (doV 13 d b df), .bool (doF 13 d b df)]) ∧ Below w.heap.size w w' := by
  have hc := cw_lo df
  have hc' := cw_hi df
  have h1 : ((w.alloc (.cells tab 37)).alloc (.cells tab 37)).cell? ⟨w.heap.size + 1, 26, none⟩ = some (fv 37) := by
    rw [cell_of_row _ _ 26 tab 37 (0, 0) (heap_alloc2_new w _ _)]; rfl
  have h2 : ((w.alloc (.cells tab 37)).alloc (.cells tab 37)).cell? ⟨w.heap.size + 1, 27, none⟩ = some (fv 36) := by
    rw [cell_of_row _ _ 27 tab 37 (0, 0) (heap_alloc2_new w _ _)]; rfl
  unfold fv at h1 h2
  go_enter Try.func6, Try.ntmps6
  go_wp2_with (first | (go_at_call 11; refine (rows_any _).mono ?_; rintro e w' ⟨rfl, rfl⟩) | (go_at_call 12; refine (worth_any _ _).mono ?_; rintro e w' ⟨rfl, rfl⟩) | refine rowst1 rfl 37 _ _ rfl tab rfl rfl _ (by kernel_rfl) (by kernel_rfl) (by kernel_rfl) ?_)
  go_quiet ((first | (go_at_call 37; exact Calls.quiet_of_same (c49 _ _ _ hd hd' hb hb' hc hc' _)) | (go_at_call 36; exact Calls.quiet_of_same (c48 _ _ _ hd hd' hb hb' hc hc' _))))
  go_wp2
  go_ret2
  refine ⟨ret2 ?_ ?_, below_drewN ((((Below.refl _ _).alloc (Nat.le_refl _) _).alloc (by simp) _).alloc (by simp; omega) _) _⟩
  · first | (rw [doV13]; done) | (rw [doV13]; omega) | (rw [doV13]; rw [left64 d df hd hd']; omega)
  · first | (rw [doF13]; done) | (rw [doF13]; exact high64 d hd hd')

end Go.Proofs.Ytcljbfembnbeiab
