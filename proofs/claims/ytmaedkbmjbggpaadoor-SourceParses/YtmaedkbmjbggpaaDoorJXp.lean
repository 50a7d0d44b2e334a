/- The document's hexadecimal digits. -/
import Derived.Test.YtmaedkbmjbggpaaDoorJHex
import Derived.Test.YtmaedkbmjbggpaaDoorJNum
namespace Go.Proofs.YtmaedkbmjbggpaaDoor
open Go Go.RowKit
set_option linter.unusedVariables false
set_option maxHeartbeats 3000000
set_option maxRecDepth 20000

theorem rint {k : IntKind} {a b : Int} (h : a = b) : Ending.returned (.int k a) = .returned (.int k b) := by rw [h]

theorem rdigit_any (x : Int) (w : World) (h0 : 0 ≤ x) (h1 : x < 16) :
    Calls Tryd.prog 71 #[.int .i64 x] w fun e w' => e = .returned (.int .u8 (hexC x)) ∧ w' = w := by
  by_cases h : x < 10
  · have e : hexC x = 48 + x := by unfold hexC; rw [if_pos h]
    rw [e]
    go_enter Tryd.func71, Tryd.ntmps71
    go_wp2
    go_ret
    exact ⟨rint (by omega), rfl⟩
  · have e : hexC x = 87 + x := by unfold hexC; rw [if_neg h]
    rw [e]
    go_enter Tryd.func71, Tryd.ntmps71
    go_wp2
    go_ret
    exact ⟨rint (by omega), rfl⟩

theorem rhex_no (n d : Int) (w : World) (h : d < 1 ∨ 8 < d ∨ n < 0) :
    Calls Tryd.prog 44 #[.int .i64 n, .int .i64 d] w fun e w' => e = .returned (.string (hexOf n d)) ∧ w' = w := by
  have e : hexOf n d = ⟨#[]⟩ := by unfold hexOf; rw [if_neg (by omega)]
  rw [e]
  by_cases h1 : d < 1
  · go_enter Tryd.func44, Tryd.ntmps44
    go_wp2
    go_ret
    exact ⟨rfl, rfl⟩
  · by_cases h2 : 8 < d
    · go_enter Tryd.func44, Tryd.ntmps44
      go_wp2
      go_ret
      exact ⟨rfl, rfl⟩
    · have h3 : n < 0 := by omega
      go_enter Tryd.func44, Tryd.ntmps44
      go_wp2
      go_ret
      exact ⟨rfl, rfl⟩

theorem rhex_yes (N D : Nat) (w : World) (h1 : 1 ≤ D) (h2 : D ≤ 8) (h3 : N ≤ 9223372036854775807) :
    Calls Tryd.prog 44 #[.int .i64 N, .int .i64 D] w fun e w' => e = .returned (.string (hexOf N D)) ∧ Below w.heap.size w w' := by
  have hmk := run_make_row' (P := Tryd.prog) 37 5 (.int .u8 0) 1 Tryd.underlying37 info5 rfl .i64 .i64 D (by omega) (by omega)
  have hst := hexA_start D N
  go_enter Tryd.func44, Tryd.ntmps44
  go_wp2
  clear hmk hst
  go_loopw [0, 6] (fun n i wr => ∃ (k M : Nat), k ≤ D ∧ i = .int .i64 ((k : Int) - 1) ∧ n = .int .i64 (M : Int) ∧ Hid (M = N / 16 ^ (D - k)) ∧ wr = w.alloc (.cells (hexA D N k) 5)) (fun _ i _ => (intOf i + 1).toNat)
  case atStart => exact ⟨D, N, Nat.le_refl _, rfl, rfl, show N = N / 16 ^ (D - D) by simp, rfl⟩
  case round =>
    obtain ⟨k, M, hk, rfl, rfl, hM, rfl⟩ := hrel
    have hMN : M ≤ 9223372036854775807 := Nat.le_trans (hM.out ▸ Nat.div_le_self _ _) h3
    cases k with
    | zero =>
      have hcv := hex_conv D N w
      by_cases hz : M = 0
      · subst hz
        go_wp2
        go_ret
        exact ⟨ret_str (hexOf_yes N D h1 h2 hM.out.symm).symm, (Below.refl _ _).alloc (Nat.le_refl _) _⟩
      · have hz' : (0 : Int) < (M : Int) := by omega
        go_wp2
        go_ret
        exact ⟨ret_str (hexOf_no N D (fun e => hz (hM.out.trans e))).symm, (Below.refl _ _).alloc (Nat.le_refl _) _⟩
    | succ j =>
      rw [show ((j + 1 : Nat) : Int) - 1 = (j : Int) from by omega]
      have hg := hexA_get D N (j + 1) j (by omega)
      rw [if_pos (by omega)] at hg
      go_wp2_with (go_at_call 71; refine (rdigit_any _ _ (by omega) (by omega)).mono ?_; rintro e w' ⟨rfl, rfl⟩)
      go_roundw
      case rel => exact ⟨j, M / 16, by omega, rfl, by simp, hex_next N D j M (by omega) hM.out, by rw [hex_here N D j M hM.out, hexA_set]⟩
      case measure => simp [intOf]

theorem rhex_any (n d : Int) (w : World) (hn : n ≤ 9223372036854775807) :
    Calls Tryd.prog 44 #[.int .i64 n, .int .i64 d] w fun e w' => e = .returned (.string (hexOf n d)) ∧ Below w.heap.size w w' := by
  by_cases h : d < 1 ∨ 8 < d ∨ n < 0
  · refine (rhex_no n d w h).mono ?_
    rintro e w' ⟨he, rfl⟩
    exact ⟨he, Below.refl _ _⟩
  · obtain ⟨N, rfl⟩ := Int.eq_ofNat_of_zero_le (show 0 ≤ n by omega)
    obtain ⟨D, rfl⟩ := Int.eq_ofNat_of_zero_le (show 0 ≤ d by omega)
    exact rhex_yes N D w (by omega) (by omega) (by omega)

end Go.Proofs.YtmaedkbmjbggpaaDoor
