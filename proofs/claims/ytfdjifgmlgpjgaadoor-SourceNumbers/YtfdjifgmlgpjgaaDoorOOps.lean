/- The ops and their names as plain mathematics: which op is the first of its name, which bytes an instruction has. -/
import Derived.Test.YtfdjifgmlgpjgaaDoorOFirst
namespace Go.Proofs.YtfdjifgmlgpjgaaDoor
open Go.RowKit

/-- A name's bytes. -/
def nmB (n : Nat) : List UInt8 := if spr (n / 16) = 0 then rowNmL.getD (n / 16) [] else splNmL.getD ((spr (n / 16) - 1) * 16 + n % 16) []
theorem nm_eq (n : Nat) : nm n = ⟨(nmB n).toArray⟩ := by unfold nm nmB rowNm splNm; split <;> rfl
theorem nm_inj {a b : Nat} (h : nm a = nm b) : nmB a = nmB b := by
  rw [nm_eq, nm_eq] at h
  have := congrArg (fun x : ByteArray => x.data.toList) h
  simpa using this

/-- How many bytes an op's instruction has. -/
def by1 (n : Nat) : Nat := lay (fm n * 3)
/-- The first op of an op's name. -/
def bs (n : Nat) : Nat := if fm n = 2 then (if n < 16 then 1 else n / 16 * 16) else if fm n = 3 then n / 8 * 8 + 1 else n

theorem fm_le (n : Nat) (h : n < 256) : 1 ≤ fm n ∧ fm n ≤ 6 := by revert n; decide +kernel
theorem by1_eq (n : Nat) (h : n < 256) : by1 n = if fm n ≤ 3 then 1 else if fm n ≤ 5 then 2 else 3 := by revert n; decide +kernel
theorem bs_ok (n : Nat) (h : n < 256) : bs n < 256 ∧ fm (bs n) = fm n ∧ nmB (bs n) = nmB n ∧ cyc (bs n) = cyc n := by revert n; decide +kernel
theorem bs_first : (List.range 256).all (fun n => (List.range (bs n)).all fun j => nmB j != nmB n) = true := by decide +kernel
theorem opOf_nm (n : Nat) (h : n < 256) : opOf (nm n) = some (bs n) := by
  have hb := bs_ok n h
  refine opOf_some hb.1 (by rw [nm_eq, nm_eq, hb.2.2.1]) fun m hm e => ?_
  have h1 := List.all_eq_true.1 (List.all_eq_true.1 bs_first n (List.mem_range.2 h)) m (List.mem_range.2 hm)
  rw [nm_inj e] at h1
  simp at h1
theorem held_bs (n : Nat) (h : n < 256) : (fm n = 2 → held (bs n) 2 ≤ held n 2 ∧ bs n + (held n 2 - held (bs n) 2) = n) ∧ (fm n = 3 → held (bs n) 3 ≤ held n 3 ∧ bs n + (held n 3 - held (bs n) 3) = n) ∧ (fm n ≠ 2 → fm n ≠ 3 → bs n = n) := by
  revert n; decide +kernel
end Go.Proofs.YtfdjifgmlgpjgaaDoor
