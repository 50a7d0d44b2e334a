/- The document's answer: what an op does to the bus. -/
import Derived.Test.YtfdjifgmlgpjgaaDoorOBus
namespace Go.Proofs.YtfdjifgmlgpjgaaDoor
open Go.RowKit
set_option linter.unusedVariables false
set_option maxHeartbeats 2000000
set_option maxRecDepth 20000

theorem ret_u8' {a b : Int} (h : a = b) : Ending.returned (.int .u8 a) = .returned (.int .u8 b) := by rw [h]
theorem ret_bool' {a b : Bool} (h : a = b) : Ending.returned (.bool a) = .returned (.bool b) := by rw [h]

def rptI (n : Int) : Int :=
  if n / 16 = 0 then (if n % 16 = 0 then 4 else 0)
  else if n / 16 = 3 ∨ n / 16 = 12 then 2
  else if n / 16 = 6 then 1
  else if n / 16 = 7 then (if n % 16 = 9 then 3 else if 10 ≤ n % 16 then 2 else 1)
  else if n / 16 = 15 then (if 8 ≤ n % 16 then 2 else 1)
  else 0
theorem rpt_eq (n : Nat) (h : n < 256) : (useN (ku n) : Int) = rptI n := by revert n; decide +kernel
def rrdB (n : Int) : Bool :=
  if n / 16 = 0 ∨ n / 16 = 3 ∨ n / 16 = 4 ∨ n / 16 = 12 then true
  else if n / 16 = 6 then decide (n % 16 < 8)
  else if n / 16 = 7 then decide (n % 16 ≤ 2 ∨ n % 16 = 4 ∨ n % 16 = 5 ∨ n % 16 = 7 ∨ n % 16 = 12 ∨ n % 16 = 13 ∨ n % 16 = 15)
  else if n / 16 = 15 then decide (n % 16 ≠ 6 ∧ n % 16 ≠ 14)
  else false
theorem rrd_eq (n : Nat) (h : n < 256) : useR (ku n) = rrdB n := by revert n; decide +kernel
def rwrB (n : Int) : Bool := decide (n / 16 = 5 ∨ n / 16 = 6 ∧ 8 < n % 16 ∨ n / 16 = 7 ∧ (n % 16 = 3 ∨ n % 16 = 8 ∨ n % 16 = 9))
theorem rwr_eq (n : Nat) (h : n < 256) : useW (ku n) = rwrB n := by revert n; decide +kernel
theorem row_eq (n : Nat) (h : n < 256) : useO (ku n) = decide (useW (ku n) = true ∧ (n : Int) / 16 ≠ 6 ∨ 8 ≤ (n : Int) / 16 ∧ (n : Int) / 16 ≤ 11 ∨ (n : Int) / 16 = 13 ∨ (n : Int) / 16 = 14) := by revert n; decide +kernel
end Go.Proofs.YtfdjifgmlgpjgaaDoor
