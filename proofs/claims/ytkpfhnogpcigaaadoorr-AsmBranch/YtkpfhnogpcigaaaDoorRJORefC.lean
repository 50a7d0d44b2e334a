/- code.Print, code.cut and code.Parse, whole; a line that was printed is read again. -/
import Derived.Test.YtkpfhnogpcigaaaDoorRJOPrint
import Derived.Test.YtkpfhnogpcigaaaDoorRJOParseW
import Derived.Test.YtkpfhnogpcigaaaDoorRJOHolds
namespace Go.Proofs.YtkpfhnogpcigaaaDoorR
open Go.RowKit
set_option linter.unusedVariables false
set_option maxHeartbeats 400000

def mayB (n : Nat) (A : Int) : Bool := decide ((held n (fm n) : Int) ≤ A) && decide (A ≤ (lay (fm n * 3 + 2) : Nat))
theorem mayB_iff (n : Nat) (A : Int) : mayB n A = true ↔ may n A := by unfold mayB may; simp
def digs (n : Nat) : Nat := lay (fm n * 3 + 1)
/-- The line of an instruction. -/
def textOf (n : Nat) (A : Int) : ByteArray := if fm n = 1 then nm n else nm n ++ ⟨#[32]⟩ ++ hexOf A (digs n : Nat)
def printS (S : ByteArray) (A : Int) : ByteArray := match opOf S with
  | none => ⟨#[]⟩
  | some n => if mayB n A then textOf n A else ⟨#[]⟩
def printE (S : ByteArray) (A : Int) : Int := match opOf S with
  | none => 20
  | some n => if mayB n A then 0 else 21

theorem nmB_small (n : Nat) (h : n < 256) : (nmB n).length ≤ 4 := by revert n; decide +kernel
theorem nm_size (n : Nat) (h : n < 256) : (nm n).size ≤ 4 := by
  have := nmB_small n h
  rw [nm_eq]
  show (nmB n).toArray.size ≤ 4
  simpa using this
theorem most_le (n : Nat) (h : n < 256) : lay (fm n * 3 + 2) ≤ 65535 := by revert n; decide +kernel

/-- Where the first blank stands, if one stands ahead of a sixth byte. -/
def blk (s : ByteArray) : Option Nat := (List.range 5).find? fun k => s.data[k]? == some 32
def cutN (s : ByteArray) : ByteArray := match blk s with
  | none => s
  | some k => s.extract 0 k
def cutB (s : ByteArray) : ByteArray := match blk s with
  | none => ⟨#[]⟩
  | some k => s.extract (k + 1) s.size

theorem blk_some {s : ByteArray} {k : Nat} (h : blk s = some k) : k ≤ 4 ∧ s.data[k]? = some 32 ∧ ∀ j, j < k → s.data[j]? ≠ some 32 := by
  unfold blk at h
  rw [List.find?_range_eq_some] at h
  obtain ⟨h1, h2, h3⟩ := h
  refine ⟨by have := List.mem_range.1 h2; omega, by simpa using h1, fun j hj => ?_⟩
  have := h3 j hj
  simpa using this
theorem blk_none {s : ByteArray} (h : blk s = none) : ∀ j, j ≤ 4 → s.data[j]? ≠ some 32 := by
  unfold blk at h
  rw [List.find?_range_eq_none] at h
  intro j hj
  have := h j (by omega)
  simpa using this

/-- What a line says: the instruction that it seems to be. -/
def argS (s : ByteArray) : Int := if cutB s = ⟨#[]⟩ then 0 else numV (cutB s)
def okS (s : ByteArray) (n : Nat) : Bool := decide (printE (nm n) (argS s) = 0) && decide (printS (nm n) (argS s) = s)
def parseN (s : ByteArray) : ByteArray := match opOf (cutN s) with
  | none => ⟨#[]⟩
  | some n => if okS s n then nm n else ⟨#[]⟩
def parseA (s : ByteArray) : Int := match opOf (cutN s) with
  | none => 0
  | some n => if okS s n then argS s else 0
def parseE (s : ByteArray) : Int := match opOf (cutN s) with
  | none => 20
  | some n => if okS s n then 0 else 21

theorem cutB_size (s : ByteArray) (h : s.size ≤ maxLen) : (cutB s).size ≤ maxLen := by
  unfold cutB
  split
  · exact Nat.zero_le _
  · rw [ByteArray.size_extract]; omega

/-- What is read is printed so; what isn't read is nothing. -/
theorem parse_says (s : ByteArray) : (parseE s = 0 ∧ printS (parseN s) (parseA s) = s ∧ printE (parseN s) (parseA s) = 0) ∨ (parseN s = ⟨#[]⟩ ∧ parseA s = 0 ∧ (parseE s = 20 ∨ parseE s = 21)) := by
  unfold parseN parseA parseE
  rcases ho : opOf (cutN s) with _ | n
  · exact .inr ⟨rfl, rfl, .inl rfl⟩
  · rcases h : okS s n with _ | _
    · refine .inr ?_
      simp [h]
    · refine .inl ?_
      simp only [h, if_true]
      unfold okS at h
      simp at h
      exact ⟨trivial, h.2, h.1⟩
end Go.Proofs.YtkpfhnogpcigaaaDoorR
/- The document's answer: Info, First, Find, Bus, which operands may be. -/
namespace Go.Proofs.YtkpfhnogpcigaaaDoorR
open Go.RowKit
set_option linter.unusedVariables false
set_option maxHeartbeats 1000000
set_option maxRecDepth 20000

def firstI (o : Option Nat) : Int := match o with
  | none => -1
  | some n => n
end Go.Proofs.YtkpfhnogpcigaaaDoorR
