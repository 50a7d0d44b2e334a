/- code.cut: a line parted at its first blank. -/
import Derived.Test.YtmaedkbmjbggpaaDoorJOHolds
namespace Go.Proofs.YtmaedkbmjbggpaaDoor
open Go.RowKit
set_option linter.unusedVariables false
set_option maxHeartbeats 1000000
set_option maxRecDepth 20000

theorem cut_at (s : ByteArray) (w : World) (hs : s.size ≤ maxLen) (K : Nat) (hK : K < s.size) (hK4 : K ≤ 4) (hb : s[K] = 32) (hno : Hid (∀ j (hj : j < s.size), j < K → s[j] ≠ 32)) :
    Calls Tryd.prog 107 #[.string s] w fun e w' => e = .returned (.tuple #[.string (s.extract 0 K), .string (s.extract (K + 1) s.size)]) ∧ Below w.heap.size w w' := by
  unfold maxLen at hs
  go_enter Tryd.func107, Tryd.ntmps107
  go_wp2
  go_step3
  go_wp2
  go_step3
  go_wp2
  go_loopw [2, 3, 8] (fun a b i wr => ∃ k : Nat, k ≤ K ∧ a = .string s ∧ b = .string ⟨#[]⟩ ∧ i = .int .i64 (k : Int) ∧ wr = w) (fun _ _ i _ => (5 - intOf i).toNat)
  case atStart => exact ⟨0, by omega, rfl, rfl, rfl, rfl⟩
  case round =>
    obtain ⟨k, hk, rfl, rfl, rfl, rfl⟩ := hrel
    have hlt : k < s.size := by omega
    by_cases he : k = K
    · subst he
      go_wp2
      go_quiet (fail)
      go_wp2
      rw [Exit.noGoto_ret]
      go_ret2
      exact ⟨rfl, below_drewN (Below.refl _ _)⟩
    · have hnb : (((s[k]'hlt).toNat : Int) == 32) = false := by
        have := hno.out k hlt (by omega)
        rw [beq_eq_false_iff_ne]
        intro e
        apply this
        apply UInt8.toNat_inj.1
        have : (32 : UInt8).toNat = 32 := rfl
        omega
      have hk4 : ((k : Int) == 4) = false := by simp; omega
      go_wp2
      go_roundw
      case rel => exact ⟨k + 1, by omega, rfl, rfl, by simp, trivial⟩
      case measure => simp [intOf]; omega

theorem cut_none (s : ByteArray) (w : World) (hs : s.size ≤ maxLen) (hno : Hid (∀ j (hj : j < s.size), j ≤ 4 → s[j] ≠ 32)) :
    Calls Tryd.prog 107 #[.string s] w fun e w' => e = .returned (.tuple #[.string s, .string ⟨#[]⟩]) ∧ Below w.heap.size w w' := by
  unfold maxLen at hs
  go_enter Tryd.func107, Tryd.ntmps107
  go_wp2
  go_step3
  go_wp2
  go_step3
  go_wp2
  go_loopw [2, 3, 8] (fun a b i wr => ∃ k : Nat, k ≤ 4 ∧ k ≤ s.size ∧ a = .string s ∧ b = .string ⟨#[]⟩ ∧ i = .int .i64 (k : Int) ∧ wr = w) (fun _ _ i _ => (5 - intOf i).toNat)
  case atStart => exact ⟨0, by omega, by omega, rfl, rfl, rfl, rfl⟩
  case round =>
    obtain ⟨k, hk, hks, rfl, rfl, rfl, rfl⟩ := hrel
    by_cases hlt : k < s.size
    · have hnb : (((s[k]'hlt).toNat : Int) == 32) = false := by
        have := hno.out k hlt (by omega)
        rw [beq_eq_false_iff_ne]
        intro e
        apply this
        apply UInt8.toNat_inj.1
        have : (32 : UInt8).toNat = 32 := rfl
        omega
      by_cases h4 : k = 4
      · subst h4
        go_wp2
        rw [Exit.noGoto_ret]
        go_ret2
        exact ⟨rfl, Below.refl _ _⟩
      · have hk4 : ((k : Int) == 4) = false := by simp; omega
        go_wp2
        go_roundw
        case rel => exact ⟨k + 1, by omega, by omega, rfl, rfl, by simp, trivial⟩
        case measure => simp [intOf]; omega
    · go_wp2
      rw [Exit.noGoto_ret]
      go_ret2
      exact ⟨rfl, Below.refl _ _⟩
end Go.Proofs.YtmaedkbmjbggpaaDoor
