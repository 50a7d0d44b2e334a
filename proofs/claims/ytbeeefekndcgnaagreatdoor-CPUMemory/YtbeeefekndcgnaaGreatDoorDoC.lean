/- bits.Do at the sums 10 to 13: what it returns for all bytes and DF; nothing that was there turns. bits.High, Low and Word, bits.Do at any sum. -/
import Derived.Test.YtbeeefekndcgnaaGreatDoorLeaf
import Derived.Test.YtbeeefekndcgnaaGreatDoorDoA
import Derived.Test.YtbeeefekndcgnaaGreatDoorDoB
namespace Go.Proofs.YtbeeefekndcgnaaGreatDoor
open Go.RowKit
set_option maxHeartbeats 400000
set_option maxRecDepth 100000

theorem do10 (d b : Int) (df : Bool) (hd : 0 ≤ d) (hd' : d ≤ 255) (hb : 0 ≤ b) (hb' : b ≤ 255) (w : World) :
    Calls Tryz.prog 102 #[.int .u8 10, .int .u8 d, .int .u8 b, .bool df] w fun e w' => e = .returned (.tuple #[.int .u8 (doV 10 d b df), .bool (doF 10 d b df)]) ∧ Below w.heap.size w w' := by
  have hc := cw_lo df
  have hc' := cw_hi df
  have h1 : ((w.alloc (.cells tab 108)).alloc (.cells tab 108)).cell? ⟨w.heap.size + 1, 20, none⟩ = some (fv 123) := by
    rw [cell_of_row _ _ 20 tab 108 (0, 0) (heap_alloc2_new w _ _)]; rfl
  have h2 : ((w.alloc (.cells tab 108)).alloc (.cells tab 108)).cell? ⟨w.heap.size + 1, 21, none⟩ = some (fv 124) := by
    rw [cell_of_row _ _ 21 tab 108 (0, 0) (heap_alloc2_new w _ _)]; rfl
  unfold fv at h1 h2
  go_enter Tryz.func102, Tryz.ntmps102
  go_wp2_with (first | (go_at_call 104; refine (rows_any _).mono ?_; rintro e w' ⟨rfl, rfl⟩) | (go_at_call 105; refine (worth_any _ _).mono ?_; rintro e w' ⟨rfl, rfl⟩) | refine rowst1 rfl 108 _ _ rfl tab rfl rfl _ (by kernel_rfl) (by kernel_rfl) (by kernel_rfl) ?_)
  go_quiet ((first | (go_at_call 123; exact Calls.quiet_of_same (c44 _ _ _ hd hd' hb hb' hc hc' _)) | (go_at_call 124; exact Calls.quiet_of_same (c45 _ _ _ hd hd' hb hb' hc hc' _))))
  go_wp2
  go_ret2
  refine ⟨ret2 ?_ ?_, below_drewN ((((Below.refl _ _).alloc (Nat.le_refl _) _).alloc (by simp) _).alloc (by simp; omega) _) _⟩
  · first | (rw [doV10]; done) | (rw [doV10]; omega)
  · first | (rw [doF10]; done) | (rw [doF10]; exact low64 d hd hd')

theorem do11 (d b : Int) (df : Bool) (hd : 0 ≤ d) (hd' : d ≤ 255) (hb : 0 ≤ b) (hb' : b ≤ 255) (w : World) :
    Calls Tryz.prog 102 #[.int .u8 11, .int .u8 d, .int .u8 b, .bool df] w fun e w' => e = .returned (.tuple #[.int .u8 (doV 11 d b df), .bool (doF 11 d b df)]) ∧ Below w.heap.size w w' := by
  have hc := cw_lo df
  have hc' := cw_hi df
  have h1 : ((w.alloc (.cells tab 108)).alloc (.cells tab 108)).cell? ⟨w.heap.size + 1, 22, none⟩ = some (fv 125) := by
    rw [cell_of_row _ _ 22 tab 108 (0, 0) (heap_alloc2_new w _ _)]; rfl
  have h2 : ((w.alloc (.cells tab 108)).alloc (.cells tab 108)).cell? ⟨w.heap.size + 1, 23, none⟩ = some (fv 124) := by
    rw [cell_of_row _ _ 23 tab 108 (0, 0) (heap_alloc2_new w _ _)]; rfl
  unfold fv at h1 h2
  go_enter Tryz.func102, Tryz.ntmps102
  go_wp2_with (first | (go_at_call 104; refine (rows_any _).mono ?_; rintro e w' ⟨rfl, rfl⟩) | (go_at_call 105; refine (worth_any _ _).mono ?_; rintro e w' ⟨rfl, rfl⟩) | refine rowst1 rfl 108 _ _ rfl tab rfl rfl _ (by kernel_rfl) (by kernel_rfl) (by kernel_rfl) ?_)
  go_quiet ((first | (go_at_call 125; exact Calls.quiet_of_same (c46 _ _ _ hd hd' hb hb' hc hc' _)) | (go_at_call 124; exact Calls.quiet_of_same (c45 _ _ _ hd hd' hb hb' hc hc' _))))
  go_wp2
  go_ret2
  refine ⟨ret2 ?_ ?_, below_drewN ((((Below.refl _ _).alloc (Nat.le_refl _) _).alloc (by simp) _).alloc (by simp; omega) _) _⟩
  · first | (rw [doV11]; done) | (rw [doV11]; omega) | (rw [doV11]; rw [right64 d df hd hd']; omega)
  · first | (rw [doF11]; done) | (rw [doF11]; exact low64 d hd hd')

theorem do12 (d b : Int) (df : Bool) (hd : 0 ≤ d) (hd' : d ≤ 255) (hb : 0 ≤ b) (hb' : b ≤ 255) (w : World) :
    Calls Tryz.prog 102 #[.int .u8 12, .int .u8 d, .int .u8 b, .bool df] w fun e w' => e = .returned (.tuple #[.int .u8 (doV 12 d b df), .bool (doF 12 d b df)]) ∧ Below w.heap.size w w' := by
  have hc := cw_lo df
  have hc' := cw_hi df
  have h1 : ((w.alloc (.cells tab 108)).alloc (.cells tab 108)).cell? ⟨w.heap.size + 1, 24, none⟩ = some (fv 126) := by
    rw [cell_of_row _ _ 24 tab 108 (0, 0) (heap_alloc2_new w _ _)]; rfl
  have h2 : ((w.alloc (.cells tab 108)).alloc (.cells tab 108)).cell? ⟨w.heap.size + 1, 25, none⟩ = some (fv 127) := by
    rw [cell_of_row _ _ 25 tab 108 (0, 0) (heap_alloc2_new w _ _)]; rfl
  unfold fv at h1 h2
  go_enter Tryz.func102, Tryz.ntmps102
  go_wp2_with (first | (go_at_call 104; refine (rows_any _).mono ?_; rintro e w' ⟨rfl, rfl⟩) | (go_at_call 105; refine (worth_any _ _).mono ?_; rintro e w' ⟨rfl, rfl⟩) | refine rowst1 rfl 108 _ _ rfl tab rfl rfl _ (by kernel_rfl) (by kernel_rfl) (by kernel_rfl) ?_)
  go_quiet ((first | (go_at_call 126; exact Calls.quiet_of_same (c47 _ _ _ hd hd' hb hb' hc hc' _)) | (go_at_call 127; exact Calls.quiet_of_same (c48 _ _ _ hd hd' hb hb' hc hc' _))))
  go_wp2
  go_ret2
  refine ⟨ret2 ?_ ?_, below_drewN ((((Below.refl _ _).alloc (Nat.le_refl _) _).alloc (by simp) _).alloc (by simp; omega) _) _⟩
  · first | (rw [doV12]; done) | (rw [doV12]; omega)
  · first | (rw [doF12]; done) | (rw [doF12]; exact high64 d hd hd')

theorem do13 (d b : Int) (df : Bool) (hd : 0 ≤ d) (hd' : d ≤ 255) (hb : 0 ≤ b) (hb' : b ≤ 255) (w : World) :
    Calls Tryz.prog 102 #[.int .u8 13, .int .u8 d, .int .u8 b, .bool df] w fun e w' => e = .returned (.tuple #[.int .u8 (doV 13 d b df), .bool (doF 13 d b df)]) ∧ Below w.heap.size w w' := by
  have hc := cw_lo df
  have hc' := cw_hi df
  have h1 : ((w.alloc (.cells tab 108)).alloc (.cells tab 108)).cell? ⟨w.heap.size + 1, 26, none⟩ = some (fv 128) := by
    rw [cell_of_row _ _ 26 tab 108 (0, 0) (heap_alloc2_new w _ _)]; rfl
  have h2 : ((w.alloc (.cells tab 108)).alloc (.cells tab 108)).cell? ⟨w.heap.size + 1, 27, none⟩ = some (fv 127) := by
    rw [cell_of_row _ _ 27 tab 108 (0, 0) (heap_alloc2_new w _ _)]; rfl
  unfold fv at h1 h2
  go_enter Tryz.func102, Tryz.ntmps102
  go_wp2_with (first | (go_at_call 104; refine (rows_any _).mono ?_; rintro e w' ⟨rfl, rfl⟩) | (go_at_call 105; refine (worth_any _ _).mono ?_; rintro e w' ⟨rfl, rfl⟩) | refine rowst1 rfl 108 _ _ rfl tab rfl rfl _ (by kernel_rfl) (by kernel_rfl) (by kernel_rfl) ?_)
  go_quiet ((first | (go_at_call 128; exact Calls.quiet_of_same (c49 _ _ _ hd hd' hb hb' hc hc' _)) | (go_at_call 127; exact Calls.quiet_of_same (c48 _ _ _ hd hd' hb hb' hc hc' _))))
  go_wp2
  go_ret2
  refine ⟨ret2 ?_ ?_, below_drewN ((((Below.refl _ _).alloc (Nat.le_refl _) _).alloc (by simp) _).alloc (by simp; omega) _) _⟩
  · first | (rw [doV13]; done) | (rw [doV13]; omega) | (rw [doV13]; rw [left64 d df hd hd']; omega)
  · first | (rw [doF13]; done) | (rw [doF13]; exact high64 d hd hd')

end Go.Proofs.YtbeeefekndcgnaaGreatDoor

namespace Go.Proofs.YtbeeefekndcgnaaGreatDoor
open Go.RowKit
set_option maxHeartbeats 400000
set_option maxRecDepth 100000

theorem w16 (n : Int) (h0 : 0 ≤ n) (h1 : n < 2 ^ 16) : IntKind.u16.wrap n = n := by rw [IntKind.wrap_u16]; omega
theorem ret_int {k : IntKind} {a b : Int} (h : a = b) : Ending.returned (.int k a) = .returned (.int k b) := by rw [h]

theorem high_any (x : Int) (w : World) (h0 : 0 ≤ x) (h1 : x ≤ 65535) :
    Calls Tryz.prog 84 #[.int .u16 x] w fun e w' => e = .returned (.int .u8 (x / 256)) ∧ w' = w := by
  go_enter Tryz.func84, Tryz.ntmps84
  go_wp2
  go_ret
  exact ⟨ret_int (by omega), rfl⟩
theorem low_any (x : Int) (w : World) (_h0 : 0 ≤ x) (_h1 : x ≤ 65535) :
    Calls Tryz.prog 86 #[.int .u16 x] w fun e w' => e = .returned (.int .u8 (x % 256)) ∧ w' = w := by
  go_enter Tryz.func86, Tryz.ntmps86
  go_wp2
  go_ret
  exact ⟨ret_int (by omega), rfl⟩
theorem word_any (h l : Int) (w : World) (h0 : 0 ≤ h) (h1 : h ≤ 255) (l0 : 0 ≤ l) (l1 : l ≤ 255) :
    Calls Tryz.prog 83 #[.int .u8 h, .int .u8 l] w fun e w' => e = .returned (.int .u16 (h * 256 + l)) ∧ w' = w := by
  have hj : bits .or .u16 (h * 256) l = h * 256 + l := bits_join .u16 16 (by decide) w16 8 _ _ (by omega) (by omega) (by omega) l0 (by omega) (by omega)
  go_enter Tryz.func83, Tryz.ntmps83
  go_wp2
  go_ret
  exact ⟨rfl, rfl⟩

theorem do_else (s d b : Int) (df : Bool) (hs : 14 ≤ s) (hs' : s ≤ 255) (w : World) :
    Calls Tryz.prog 102 #[.int .u8 s, .int .u8 d, .int .u8 b, .bool df] w fun e w' => e = .returned (.tuple #[.int .u8 (doV s d b df), .bool (doF s d b df)]) ∧ Below w.heap.size w w' := by
  have e1 : doV s d b df = 0 := by unfold doV; simp [show ¬ s = 0 by omega, show ¬ s = 1 by omega, show ¬ s = 2 by omega, show ¬ s = 3 by omega, show ¬ s = 4 by omega, show ¬ s = 5 by omega, show ¬ s = 6 by omega, show ¬ s = 7 by omega, show ¬ s = 8 by omega, show ¬ s = 9 by omega, show ¬ s = 10 by omega, show ¬ s = 11 by omega, show ¬ s = 12 by omega, show ¬ s = 13 by omega]
  have e2 : doF s d b df = false := by unfold doF; simp [show ¬ s = 0 by omega, show ¬ s = 1 by omega, show ¬ s = 2 by omega, show ¬ s = 3 by omega, show ¬ s = 4 by omega, show ¬ s = 5 by omega, show ¬ s = 6 by omega, show ¬ s = 7 by omega, show ¬ s = 8 by omega, show ¬ s = 9 by omega, show ¬ s = 10 by omega, show ¬ s = 11 by omega, show ¬ s = 12 by omega, show ¬ s = 13 by omega]
  rw [e1, e2]
  go_enter Tryz.func102, Tryz.ntmps102
  go_wp2_with (first | (go_at_call 104; refine (rows_any _).mono ?_; rintro e w' ⟨rfl, rfl⟩) | refine rowst1 rfl 108 _ _ rfl tab rfl rfl _ (by kernel_rfl) (by kernel_rfl) (by kernel_rfl) ?_)
  go_ret2
  exact ⟨rfl, ((Below.refl _ _).alloc (Nat.le_refl _) _).alloc (by simp) _⟩

/-- bits.Do, whole. -/
theorem do_any (s d b : Int) (df : Bool) (hs : 0 ≤ s) (hs' : s ≤ 255) (hd : 0 ≤ d) (hd' : d ≤ 255) (hb : 0 ≤ b) (hb' : b ≤ 255) (w : World) :
    Calls Tryz.prog 102 #[.int .u8 s, .int .u8 d, .int .u8 b, .bool df] w fun e w' => e = .returned (.tuple #[.int .u8 (doV s d b df), .bool (doF s d b df)]) ∧ Below w.heap.size w w' := by
  by_cases h : 14 ≤ s
  · exact do_else s d b df h hs' w
  · have hc : s = 0 ∨ s = 1 ∨ s = 2 ∨ s = 3 ∨ s = 4 ∨ s = 5 ∨ s = 6 ∨ s = 7 ∨ s = 8 ∨ s = 9 ∨ s = 10 ∨ s = 11 ∨ s = 12 ∨ s = 13 := by omega
    rcases hc with rfl | rfl | rfl | rfl | rfl | rfl | rfl | rfl | rfl | rfl | rfl | rfl | rfl | rfl
    · exact do0 d b df hd hd' hb hb' w
    · exact do1 d b df hd hd' hb hb' w
    · exact do2 d b df hd hd' hb hb' w
    · exact do3 d b df hd hd' hb hb' w
    · exact do4 d b df hd hd' hb hb' w
    · exact do5 d b df hd hd' hb hb' w
    · exact do6 d b df hd hd' hb hb' w
    · exact do7 d b df hd hd' hb hb' w
    · exact do8 d b df hd hd' hb hb' w
    · exact do9 d b df hd hd' hb hb' w
    · exact do10 d b df hd hd' hb hb' w
    · exact do11 d b df hd hd' hb hb' w
    · exact do12 d b df hd hd' hb hb' w
    · exact do13 d b df hd hd' hb hb' w

end Go.Proofs.YtbeeefekndcgnaaGreatDoor
