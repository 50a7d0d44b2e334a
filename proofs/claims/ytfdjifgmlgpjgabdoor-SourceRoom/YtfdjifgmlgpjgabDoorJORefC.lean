/- code.Print, code.cut and code.Parse, whole; a line that was printed is read again. -/
import Derived.Test.YtfdjifgmlgpjgabDoorJOPrint
import Derived.Test.YtfdjifgmlgpjgabDoorJOParseW
import Derived.Test.YtfdjifgmlgpjgabDoorJOEnc
namespace Go.Proofs.YtfdjifgmlgpjgabDoor
open Go.RowKit
set_option linter.unusedVariables false
set_option maxHeartbeats 400000

def mayB (n : Nat) (A : Int) : Bool := decide ((held n (fm n) : Int) ≤ A) && decide (A ≤ (lay (fm n * 3 + 2) : Nat))
theorem mayB_iff (n : Nat) (A : Int) : mayB n A = true ↔ may n A := by unfold mayB may; simp
def digs (n : Nat) : Nat := lay (fm n * 3 + 1)
/-- The line of an instruction. -/
def textOf (n : Nat) (A : Int) : ByteArray := if fm n = 1 then nm n else nm n ++ ⟨#[32]⟩ ++ hexOf A (digs n : Nat)
def printS (S : ByteArray) (A : Int) : ByteArray := match opOf S with
  | none => ⟨#[]⟩
  | some n => if mayB n A then textOf n A else ⟨#[]⟩
def printE (S : ByteArray) (A : Int) : Int := match opOf S with
  | none => 20
  | some n => if mayB n A then 0 else 21

theorem nmB_small (n : Nat) (h : n < 256) : (nmB n).length ≤ 4 := by revert n; decide +kernel
theorem nm_size (n : Nat) (h : n < 256) : (nm n).size ≤ 4 := by
  have := nmB_small n h
  rw [nm_eq]
  show (nmB n).toArray.size ≤ 4
  simpa using this
theorem most_le (n : Nat) (h : n < 256) : lay (fm n * 3 + 2) ≤ 65535 := by revert n; decide +kernel

theorem print_any (S : ByteArray) (A : Int) (w : World) (T : Tabs w) :
    Calls Tryd.prog 43 #[.agg #[.string S, .int .i64 A]] w fun e w' => e = .returned (.tuple #[.string (printS S A), .int .i64 (printE S A)]) ∧ Below w.heap.size w w' := by
  unfold printS printE
  rcases ho : opOf S with _ | n
  · exact print_name S A ho w T
  · have hn := (opOf_lt ho).1
    by_cases hm : may n A
    · simp only [(mayB_iff n A).2 hm, if_true]
      have hA : A ≤ 65535 := by have := hm.2; have := most_le n hn; omega
      unfold textOf
      have hf := fm_le n hn
      by_cases h1 : fm n = 1
      · rw [if_pos h1]
        exact print_bare S A n ho hm _ _ _ (show nm n = nm n from rfl) h1 (show lay (fm n * 3) = lay (fm n * 3) from rfl) (show cyc n = cyc n from rfl) w T
      · rw [if_neg h1]
        exact print_reg S A n ho hm _ _ _ _ _ (show nm n = nm n from rfl) (show fm n = fm n from rfl) (show lay (fm n * 3) = lay (fm n * 3) from rfl) (show cyc n = cyc n from rfl) (by omega) hf.2 (show lay (fm n * 3 + 1) = digs n from rfl) w T hA (nm_size n hn)
    · have : mayB n A = false := by
        rcases h : mayB n A with _ | _
        · rfl
        · exact absurd ((mayB_iff n A).1 h) hm
      simp only [this]
      exact print_bad S A n ho hm w T

/-- Where the first blank stands, if one stands ahead of a sixth byte. -/
def blk (s : ByteArray) : Option Nat := (List.range 5).find? fun k => s.data[k]? == some 32
def cutN (s : ByteArray) : ByteArray := match blk s with
  | none => s
  | some k => s.extract 0 k
def cutB (s : ByteArray) : ByteArray := match blk s with
  | none => ⟨#[]⟩
  | some k => s.extract (k + 1) s.size

theorem blk_some {s : ByteArray} {k : Nat} (h : blk s = some k) : k ≤ 4 ∧ s.data[k]? = some 32 ∧ ∀ j, j < k → s.data[j]? ≠ some 32 := by
  unfold blk at h
  rw [List.find?_range_eq_some] at h
  obtain ⟨h1, h2, h3⟩ := h
  refine ⟨by have := List.mem_range.1 h2; omega, by simpa using h1, fun j hj => ?_⟩
  have := h3 j hj
  simpa using this
theorem blk_none {s : ByteArray} (h : blk s = none) : ∀ j, j ≤ 4 → s.data[j]? ≠ some 32 := by
  unfold blk at h
  rw [List.find?_range_eq_none] at h
  intro j hj
  have := h j (by omega)
  simpa using this

theorem cut_any (s : ByteArray) (w : World) (hs : s.size ≤ maxLen) :
    Calls Tryd.prog 72 #[.string s] w fun e w' => e = .returned (.tuple #[.string (cutN s), .string (cutB s)]) ∧ Below w.heap.size w w' := by
  unfold cutN cutB
  rcases hb : blk s with _ | k
  · refine cut_none s w hs (fun j hj h4 e => ?_)
    refine blk_none hb j h4 ?_
    have : s.data[j]? = some (s[j]) := by
      rw [Array.getElem?_eq_getElem (by simpa using hj)]; rfl
    rw [this, e]
  · obtain ⟨h4, hk, hno⟩ := blk_some hb
    have hlt : k < s.size := by
      rcases Nat.lt_or_ge k s.size with h | h
      · exact h
      · rw [Array.getElem?_eq_none (by simpa using h)] at hk; cases hk
    have hk' : s[k] = 32 := by
      rw [Array.getElem?_eq_getElem (by simpa using hlt)] at hk
      exact Option.some.inj hk
    refine cut_at s w hs k hlt h4 hk' (fun j hj hjk e => ?_)
    refine hno j hjk ?_
    have : s.data[j]? = some (s[j]) := by
      rw [Array.getElem?_eq_getElem (by simpa using hj)]; rfl
    rw [this, e]

/-- What a line says: the instruction that it seems to be. -/
def argS (s : ByteArray) : Int := if cutB s = ⟨#[]⟩ then 0 else numV (cutB s)
def okS (s : ByteArray) (n : Nat) : Bool := decide (printE (nm n) (argS s) = 0) && decide (printS (nm n) (argS s) = s)
def parseN (s : ByteArray) : ByteArray := match opOf (cutN s) with
  | none => ⟨#[]⟩
  | some n => if okS s n then nm n else ⟨#[]⟩
def parseA (s : ByteArray) : Int := match opOf (cutN s) with
  | none => 0
  | some n => if okS s n then argS s else 0
def parseE (s : ByteArray) : Int := match opOf (cutN s) with
  | none => 20
  | some n => if okS s n then 0 else 21

theorem cutB_size (s : ByteArray) (h : s.size ≤ maxLen) : (cutB s).size ≤ maxLen := by
  unfold cutB
  split
  · exact Nat.zero_le _
  · rw [ByteArray.size_extract]; omega

theorem parse_any (s : ByteArray) (hs : s.size ≤ maxLen) (w : World) (T : Tabs w) :
    Calls Tryd.prog 59 #[.string s] w fun e w' => e = retI (parseN s) (parseA s) (parseE s) ∧ Below w.heap.size w w' := by
  unfold parseN parseA parseE
  have hcut := fun v => cut_any s v hs
  rcases ho : opOf (cutN s) with _ | n
  · exact parse_none s _ _ w T hcut ho
  · have hp := fun v Tv => print_any (nm n) (argS s) v Tv
    have e1 : nm n = nm n := rfl
    have e2 : fm n = fm n := rfl
    have e3 : lay (fm n * 3) = lay (fm n * 3) := rfl
    have e4 : cyc n = cyc n := rfl
    by_cases hB : cutB s = ⟨#[]⟩
    · have hA : argS s = 0 := by unfold argS; rw [if_pos hB]
      by_cases hE : printE (nm n) (argS s) = 0
      · by_cases hS : printS (nm n) (argS s) = s
        · have : okS s n = true := by unfold okS; simp [hE, hS]
          simp only [this, if_true]
          exact parse_ok0 s _ _ w T hcut n ho _ _ _ _ e1 e2 e3 e4 (argS s) _ _ hp hB hA hE hS
        · have : okS s n = false := by unfold okS; simp [hE, hS]
          simp only [this]
          exact parse_not0 s _ _ w T hcut n ho _ _ _ _ e1 e2 e3 e4 (argS s) _ _ hp hB hA hE hS
      · have : okS s n = false := by unfold okS; simp [hE]
        simp only [this]
        exact parse_bad0 s _ _ w T hcut n ho _ _ _ _ e1 e2 e3 e4 (argS s) _ _ hp hB hA hE
    · have hA : numV (cutB s) = argS s := by unfold argS; rw [if_neg hB]
      have hz := cutB_size s hs
      by_cases hE : printE (nm n) (argS s) = 0
      · by_cases hS : printS (nm n) (argS s) = s
        · have : okS s n = true := by unfold okS; simp [hE, hS]
          simp only [this, if_true]
          exact parse_ok1 s _ _ w T hcut n ho _ _ _ _ e1 e2 e3 e4 (argS s) _ _ hp hB hz hA hE hS
        · have : okS s n = false := by unfold okS; simp [hE, hS]
          simp only [this]
          exact parse_not1 s _ _ w T hcut n ho _ _ _ _ e1 e2 e3 e4 (argS s) _ _ hp hB hz hA hE hS
      · have : okS s n = false := by unfold okS; simp [hE]
        simp only [this]
        exact parse_bad1 s _ _ w T hcut n ho _ _ _ _ e1 e2 e3 e4 (argS s) _ _ hp hB hz hA hE

/-- What is read is printed so; what isn't read is nothing. -/
theorem parse_says (s : ByteArray) : (parseE s = 0 ∧ printS (parseN s) (parseA s) = s ∧ printE (parseN s) (parseA s) = 0) ∨ (parseN s = ⟨#[]⟩ ∧ parseA s = 0 ∧ (parseE s = 20 ∨ parseE s = 21)) := by
  unfold parseN parseA parseE
  rcases ho : opOf (cutN s) with _ | n
  · exact .inr ⟨rfl, rfl, .inl rfl⟩
  · rcases h : okS s n with _ | _
    · refine .inr ?_
      simp [h]
    · refine .inl ?_
      simp only [h, if_true]
      unfold okS at h
      simp at h
      exact ⟨trivial, h.2, h.1⟩
end Go.Proofs.YtfdjifgmlgpjgabDoor
/- The document's answer: Info, First, Find, Bus, which operands may be. -/
namespace Go.Proofs.YtfdjifgmlgpjgabDoor
open Go.RowKit
set_option linter.unusedVariables false
set_option maxHeartbeats 1000000
set_option maxRecDepth 20000

def firstI (o : Option Nat) : Int := match o with
  | none => -1
  | some n => n
end Go.Proofs.YtfdjifgmlgpjgabDoor
