/- Items of a source: what a label's name is, by plain mathematics and by the document. -/
import Derived.Test.YtfdjifgmlgpjgabDoorJGn
import Derived.Test.YtfdjifgmlgpjgabDoorJOStr
namespace Go.Proofs.YtfdjifgmlgpjgabDoor
open Go Go.RowKit
set_option linter.unusedVariables false
set_option maxHeartbeats 3000000
set_option maxRecDepth 20000

def nmc (c : UInt8) : Bool := decide ((97 ≤ c.toNat ∧ c.toNat ≤ 122) ∨ (48 ≤ c.toNat ∧ c.toNat ≤ 57) ∨ c.toNat = 45)
/-- Is it a label's name? -/
def isNm (s : ByteArray) : Bool := decide (0 < s.size ∧ s.size ≤ 16 ∧ (∃ h : 0 < s.size, 97 ≤ (s[0]'h).toNat ∧ (s[0]'h).toNat ≤ 122) ∧ ∀ j (h : j < s.size), nmc (s[j]'h) = true)
theorem size_zero {s : ByteArray} (h : s.size = 0) : s = ⟨#[]⟩ := by
  cases s with
  | mk d =>
    congr 1
    exact Array.size_eq_zero_iff.1 h
theorem ne_empty {s : ByteArray} (h : 0 < s.size) : ¬ s = ⟨#[]⟩ := fun e => by rw [e] at h; exact absurd h (by decide)
theorem emp_is (s : ByteArray) : s.toList.isEmpty = decide (s.size = 0) := by
  rw [toList_eq]
  rcases h : s.data.toList with _ | ⟨a, r⟩
  · have : s.size = 0 := by show s.data.size = 0; rw [← Array.length_toList, h]; rfl
    simp [this]
  · have : s.size ≠ 0 := by show s.data.size ≠ 0; rw [← Array.length_toList, h]; simp
    simp [this]
theorem emp_no {s : ByteArray} (h : s.size ≠ 0) : s.toList.isEmpty = false := by rw [emp_is]; exact decide_eq_false h
/-- A text held against one of the program's own. -/
theorem str_is (x : ByteArray) (l : List UInt8) : (x.toList == l) = decide (x = ⟨l.toArray⟩) := by
  rw [toList_eq]
  rcases h : x.data.toList == l with _ | _
  · rw [beq_eq_false_iff_ne] at h
    exact (decide_eq_false fun e => h (by rw [e])).symm
  · rw [beq_iff_eq] at h
    exact (decide_eq_true (by cases x; simp_all [← h])).symm
theorem bool_ret {a b : Bool} (h : a = b) : Ending.returned (.bool a) = .returned (.bool b) := by rw [h]

end Go.Proofs.YtfdjifgmlgpjgabDoor
