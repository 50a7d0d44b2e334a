/- What was lent came back as it was. -/
import Derived.Test.YtbllnjifmcodbaaDoorLent
namespace Go.Proofs.YtbllnjifmcodbaaDoor
open Go.RowKit
set_option linter.unusedVariables false
set_option maxHeartbeats 1000000
set_option maxRecDepth 20000

theorem back_any (w : World) (g : Nat) (sp : Option Addr) (len cap : Nat) (hlen : len ≤ 2147483647) (B : Nat → Int) (Z : List Value) (hZ : Hid (∀ j, j < len → Z[j]? = some (.int .u8 (B j)))) (hL : Hid (LentAt w g len Z))
    (hb : Hid (∀ j, j < len → ∃ gb ob, sp = some ⟨gb, ob, none⟩ ∧ w.cell? ⟨gb, ob + j, none⟩ = some (.int .u8 (B j)))) :
    Calls Tryd.prog 31 #[.slice (some ⟨g, 0, none⟩) len (len + 9), .slice sp len cap] w fun e w' => e = .returned (.bool true) ∧ ∃ q, w' = w.drewN q := by
  go_enter Tryd.func31, Tryd.ntmps31
  go_wp2
  go_loopw [6] (fun i wz => ∃ k q : Nat, k ≤ len + 9 ∧ i = .int .i64 (k : Int) ∧ wz = w.drewN q) (fun i _ => (len + 9 - intOf i).toNat)
  case atStart => exact ⟨0, 0, by omega, rfl, rfl⟩
  case round =>
    obtain ⟨k, q, hk, rfl, rfl⟩ := hrel
    by_cases hlt : k < len + 9
    · have ij := fun v => idxS (g := g) (off := 0) (len := len + 9) (cap := len + 9) Tryd.underlying37 (s := 1) (by kernel_rfl) .i64 k v hlt
      simp only [Nat.zero_add, Nat.mul_one] at ij
      by_cases hkl : k < len
      · have c1 : w.cell? ⟨g, k, none⟩ = some (.int .u8 (B k)) := by
          obtain ⟨cur, h1, h2, h3, h4⟩ := hL.out
          unfold World.cell?
          simp [h1]
          rw [h3 k hkl, hZ.out k hkl]
        obtain ⟨gb, ob, rfl, c2⟩ := hb.out k hkl
        have ib := fun v => idxS (g := gb) (off := ob) (len := len) (cap := cap) Tryd.underlying37 (s := 1) (by kernel_rfl) .i64 k v hkl
        simp only [Nat.mul_one] at ib
        have hne : (B k != B k) = false := by simp
        have hd1 : (k : Int) < (len : Int) := by omega
        have hd2 : decide (k < len) = true := by simp; omega
        have hd3 : decide (len ≤ k) = false := by simp; omega
        clear hb hL hZ hkl hlt
        go_wp2
        go_region
        go_wp2
        go_roundw
        case rel => exact ⟨k + 1, _, by omega, by simp, rfl⟩
        case measure => simp [intOf]; omega
      · have c1 : w.cell? ⟨g, k, none⟩ = some (.int .u8 90) := by
          obtain ⟨cur, h1, h2, h3, h4⟩ := hL.out
          unfold World.cell?
          simp [h1]
          rw [h4 k (by omega) hlt]
        have hd1 : (len : Int) ≤ (k : Int) := by omega
        have hd2 : decide (k < len) = false := by simp; omega
        have hd3 : decide (len ≤ k) = true := by simp; omega
        have hd4 : (k : Int) < (len : Int) + 9 := by omega
        clear hb hL hZ hkl
        go_wp2
        go_region
        go_wp2
        go_roundw
        case rel => exact ⟨k + 1, _, by omega, by simp, rfl⟩
        case measure => simp [intOf]; omega
    · go_wp2
      go_ret
      exact ⟨rfl, _, rfl⟩
end Go.Proofs.YtbllnjifmcodbaaDoor
