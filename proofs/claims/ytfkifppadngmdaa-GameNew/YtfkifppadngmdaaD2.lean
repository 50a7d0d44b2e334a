/- Each place of so many rows, handed to whatever function. -/
import Derived.Test.YtfkifppadngmdaaD1
import Derived.Shelf.Abstract
namespace Go.Proofs.Ytfkifppadngmdaa
open Go Go.RowKit Go.Shelf
set_option linter.unusedVariables false
set_option maxHeartbeats 1000000
set_option maxRecDepth 20000

theorem each_any (W0 : World) (wide high : Nat) (hw : wide ≤ 64) (hh : high ≤ 32) (cb : Nat) (lb : Array Value) (ecb : ∀ args w, (callFunc cb args).run Try.prog w = .ok (.enter cb args) w)
    (I : Nat → World → Prop) (hcb : Hid (∀ (i j : Nat) (W : World), i < wide → j < high → I (wide * j + i) W → Calls Try.prog cb (#[.int .i64 (i : Int), .int .i64 (j : Int)] ++ lb) W fun e W' => e = .returned (.tuple #[]) ∧ I (wide * j + i + 1) W'))
    (h0 : Hid (I 0 W0)) :
    Calls Try.prog 70 #[.int .i64 (wide : Int), .int .i64 (high : Int), .func (.func cb) #[] lb] W0 fun e W' => e = .returned (.tuple #[]) ∧ Hid (I (wide * high) W') := by
  have hwi : (wide : Int) ≤ 64 := by omega
  have hhi : (high : Int) ≤ 32 := by omega
  have hw' : Hid (wide ≤ 64) := hw
  have hh' : Hid (high ≤ 32) := hh
  clear hw hh
  go_enter Try.func70, Try.ntmps70
  go_wp2
  go_loopw [9] (fun t wz => ∃ (j : Nat) (y : World), y = wz ∧ t = .int .i64 (j : Int) ∧ j ≤ high ∧ Hid (I (wide * j) y)) (fun t _ => (high - intOf t).toNat)
  case atStart => exact ⟨0, W0, rfl, rfl, Nat.zero_le _, h0⟩
  case round =>
    obtain ⟨j, y, rfl, rfl, hj, K⟩ := hrel
    by_cases hlt : j < high
    · have hji : (j : Int) < high := by omega
      have hlt' : Hid (j < high) := hlt
      clear hj hlt
      go_wp2
      go_loopw [13] (fun t wz => ∃ (i : Nat) (z : World), z = wz ∧ t = .int .i64 (i : Int) ∧ i ≤ wide ∧ Hid (I (wide * j + i) z)) (fun t _ => (wide - intOf t).toNat)
      case atStart => exact ⟨0, y, rfl, rfl, Nat.zero_le _, K⟩
      case round =>
        obtain ⟨i, z, rfl, rfl, hi, L⟩ := hrel
        by_cases hit : i < wide
        · have hii : (i : Int) < wide := by omega
          have hcall := hcb.out i j z hit hlt'.out L.out
          have hit' : Hid (i < wide) := hit
          clear hi hit
          go_wp2_with (go_at_fn cb; refine hcall.mono ?_; rintro e z2 ⟨rfl, L2⟩)
          go_roundw
          case rel => exact ⟨i + 1, z2, rfl, by simp, hit'.out, L2⟩
          case measure => have := hit'.out; simp [intOf]; omega
        · have hie : i = wide := by omega
          subst hie
          clear hi hit
          go_wp2
          go_roundw
          case rel => exact ⟨j + 1, z, rfl, by simp, hlt'.out, by rw [Nat.mul_succ]; exact L⟩
          case measure => have := hlt'.out; simp [intOf]; omega
    · have hje : j = high := by omega
      subst hje
      clear hj hlt
      go_wp2
      go_end0
      exact ⟨rfl, K⟩
end Go.Proofs.Ytfkifppadngmdaa
