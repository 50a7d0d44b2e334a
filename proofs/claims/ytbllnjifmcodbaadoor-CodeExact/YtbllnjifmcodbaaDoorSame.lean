/- The law's own comparing of two rows of bytes: of two that are the same it says so, and turns nothing. -/
import Derived.Test.YtbllnjifmcodbaaDoorDec
namespace Go.Proofs.YtbllnjifmcodbaaDoor
open Go.RowKit
set_option linter.unusedVariables false
set_option maxHeartbeats 400000

theorem same_true (w : World) (a b : Option Addr) (len ca cb : Nat) (f : Nat → Int) (hlen : len ≤ 9223372036854775807)
    (hc : ∀ j, j < len → ∃ ga oa gb ob, a = some ⟨ga, oa, none⟩ ∧ b = some ⟨gb, ob, none⟩ ∧ w.cell? ⟨ga, oa + j, none⟩ = some (.int .u8 (f j)) ∧ w.cell? ⟨gb, ob + j, none⟩ = some (.int .u8 (f j))) :
    Calls Tryd.prog 15 #[.slice a len ca, .slice b len cb] w fun e w' => e = .returned (.bool true) ∧ ∃ k, w' = w.drewN k := by
  have hq : ((len : Int) != len) = false := by simp
  go_enter Tryd.func15, Tryd.ntmps15
  go_wp2
  go_loopw [5] (fun i wr => ∃ (j k : Nat), j ≤ len ∧ i = .int .i64 (j : Int) ∧ wr = w.drewN k) (fun i _ => (len - intOf i).toNat)
  case atStart => exact ⟨0, 0, by omega, rfl, rfl⟩
  case round =>
    obtain ⟨j, k, hj, rfl, rfl⟩ := hrel
    by_cases hlt : j < len
    · obtain ⟨ga, oa, gb, ob, rfl, rfl, h1, h2⟩ := hc j hlt
      have i1 := fun w => idxS (g := ga) (off := oa) (cap := ca) Tryd.underlying37 (s := 1) (by kernel_rfl) .i64 j w hlt
      have i2 := fun w => idxS (g := gb) (off := ob) (cap := cb) Tryd.underlying37 (s := 1) (by kernel_rfl) .i64 j w hlt
      simp only [Nat.mul_one] at i1 i2
      have hne : (f j != f j) = false := by simp
      go_wp2
      go_quiet (fail)
      go_wp2
      go_roundw
      case rel => exact ⟨j + 1, _, by omega, by simp, rfl⟩
      case measure => simp [intOf]; omega
    · go_wp2
      go_ret
      exact ⟨rfl, _, rfl⟩
end Go.Proofs.YtbllnjifmcodbaaDoor
