/- A record that bytes begin with: the program's. -/
import Derived.Test.YtoajmicdphffnabDoorGb
import Derived.Test.YtoajmicdphffnabDoorKn
import Derived.Test.YtoajmicdphffnabDoorKx
import Derived.Deep.RegionHeld3
import Derived.Deep.RegionWith
namespace Go.Proofs.YtoajmicdphffnabDoor
open Go Go.RowKit
set_option linter.unusedVariables false
set_option maxHeartbeats 4000000
set_option maxRecDepth 20000

theorem and_all : ∀ n : Fin 256, bits .and .u8 (n.val : Int) 3 = ((n.val % 4 : Nat) : Int) ∧ (bits .and .u8 (n.val : Int) 4 != 0) = decide (n.val / 4 % 2 = 1) ∧ (bits .and .u8 (n.val : Int) 8 != 0) = decide (n.val / 8 % 2 = 1) ∧ (bits .and .u8 (n.val : Int) 16 != 0) = decide (n.val / 16 % 2 = 1) ∧ bits .and .u8 (n.val : Int) 96 / 32 = ((n.val / 32 % 4 : Nat) : Int) ∧ 0 ≤ bits .and .u8 (n.val : Int) 96 ∧ bits .and .u8 (n.val : Int) 96 ≤ 255 ∧ (bits .and .u8 (n.val : Int) 128 != 0) = decide (128 ≤ n.val) := by decide +kernel
theorem ok_near (h : Nat) (hh : h < 128) (next d : Int) : okH (recH h 0 next d) next h = mayR (recH h 0 next d) := by
  unfold okH
  have e : headR (recH h 0 next d) next = h := by
    have b1 := bi_two (decide ((h : Int) / 4 % 2 = 1))
    have b2 := bi_two (decide ((h : Int) / 8 % 2 = 1))
    have b3 := bi_two (decide ((h : Int) / 16 % 2 = 1))
    simp only [decide_eq_true_eq] at b1 b2 b3
    have hf : farR (recH h 0 next d) next = false := by simp [farR, recH]
    unfold headR
    rw [hf]
    simp only [recH]
    simp only [show bi false = 0 from rfl]
    omega
  rw [e]
  simp
theorem ok_far (h : Nat) (h0 : 128 ≤ h) (hh : h < 256) (next p a d : Int) : okH (recH h p a d) next h = (mayR (recH h p a d) && farR (recH h p a d) next) := by
  unfold okH
  have b1 := bi_two (decide ((h : Int) / 4 % 2 = 1))
  have b2 := bi_two (decide ((h : Int) / 8 % 2 = 1))
  have b3 := bi_two (decide ((h : Int) / 16 % 2 = 1))
  have b4 := bi_two (farR (recH h p a d) next)
  simp only [decide_eq_true_eq] at b1 b2 b3
  congr 1
  rw [Bool.eq_iff_iff, decide_eq_true_iff, ← b4.2.2]
  unfold headR
  simp only [recH] at *
  generalize bi (farR _ next) = f at *
  omega
def endE : Option (Rc × Nat) → Ending
  | none => .panicked [{ v := pv, recovered := false }]
  | some x => .returned (.tuple #[.agg (rcC x.1), .int .i64 (x.2 : Int)])
theorem word_any (h l : Int) (w : World) (h0 : 0 ≤ h) (h1 : h ≤ 255) (l0 : 0 ≤ l) (l1 : l ≤ 255) : Calls Tryd.prog 56 #[.int .u8 h, .int .u8 l] w fun e w' => e = .returned (.int .u16 (l + 256 * h)) ∧ w' = w := by
  have hj : bits .or .u16 (h * 256) l = l + 256 * h := by
    obtain ⟨x, rfl⟩ := Int.eq_ofNat_of_zero_le h0
    obtain ⟨y, rfl⟩ := Int.eq_ofNat_of_zero_le l0
    have hy : y < 2 ^ 8 := by omega
    have e : (x * 256 ||| y) = y + 256 * x := by
      have := Nat.two_pow_add_eq_or_of_lt hy x
      rw [show x * 256 = 2 ^ 8 * x by omega, ← this]
      omega
    rw [show ((x : Int) * 256) = ((x * 256 : Nat) : Int) by push_cast; rfl]
    show IntKind.u16.wrap ((BitVec.ofInt 16 ((x * 256 : Nat) : Int) ||| BitVec.ofInt 16 (y : Int)).toNat : Int) = _
    have b16 : ∀ m : Nat, BitVec.ofInt 16 (m : Int) = BitVec.ofNat 16 m := fun m => by apply BitVec.eq_of_toInt_eq; simp
    rw [b16, b16, BitVec.toNat_or, BitVec.toNat_ofNat, BitVec.toNat_ofNat, Nat.mod_eq_of_lt (by omega), Nat.mod_eq_of_lt (by omega), e, IntKind.wrap_u16]
    push_cast
    omega
  have hw : IntKind.u16.wrap h = h := by rw [IntKind.wrap_u16]; omega
  have hl : IntKind.u16.wrap l = l := by rw [IntKind.wrap_u16]; omega
  have hs : IntKind.u16.wrap (h * 256) = h * 256 := by rw [IntKind.wrap_u16]; omega
  go_enter Tryd.func56, Tryd.ntmps56
  go_wp2
  go_ret
  exact ⟨rfl, rfl⟩
end Go.Proofs.YtoajmicdphffnabDoor
