/- code.Bus: what it returns of every op, in both cycles. -/
import Derived.Test.YtfdjifgmlgpjgaaDoorOFirst
namespace Go.Proofs.YtfdjifgmlgpjgaaDoor
open Go.RowKit
set_option linter.unusedVariables false
set_option maxHeartbeats 400000

theorem low3' (m : Nat) (h : m < 16) : bits .and .u8 ((m : Nat) : Int) 7 = ((m % 8 : Nat) : Int) := by
  have : ∀ n : Nat, n < 16 → bits .and .u8 (n : Int) 7 = ((n % 8 : Nat) : Int) := by decide +kernel
  exact this m h
theorem rowUs_lt (i : Nat) (h : i < 16) : rowUs i < 12 := by revert i; decide +kernel
theorem splUs_lt (i : Nat) (h : i < 96) : splUs i < 12 := by revert i; decide +kernel

/-- The kind of use that an op has, by the program's tables. -/
def ku (n : Nat) : Nat := if spr (n / 16) = 0 then rowUs (n / 16) else splUs ((spr (n / 16) - 1) * 16 + n % 16)
def use0 : Value := .agg #[.int .u8 0, .bool false, .bool false, .bool false, .int .u8 0]

/-- What Bus says of an op, in its first cycle or its second. -/
def busV (n : Nat) (b : Bool) : Value :=
  if b = true ∧ n / 16 ≠ 12 then use0 else .agg #[.int .u8 (useN (ku n) : Nat), .bool (useR (ku n)), .bool (useW (ku n)), .bool (useO (ku n)), .int .u8 (if n / 16 = 6 then n % 8 else 0 : Nat)]
end Go.Proofs.YtfdjifgmlgpjgaaDoor
