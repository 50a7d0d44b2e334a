/- How many words are orders. -/
import Derived.Test.YtenlkihbffbniaaP0
namespace Go.Proofs.Ytenlkihbffbniaa
open Go Go.RowKit
set_option linter.unusedVariables false
set_option maxHeartbeats 1000000
set_option maxRecDepth 100000

def mkF (fs : List Nat) : Nat := if fs = [] then 65535 else if fs = [0] then 61695 else if fs = [4] then 61440 else if fs = [0, 1] then 61455 else if fs = [0, 3] then 61440 else 61440
theorem clr_mk (i w : Nat) (hi : i < 31) (hw : w < 65536) : clrF w (fsR i) = w &&& mkF (fsR i) := by
  rcases fs_pats i hi with e | e | e | e | e | e <;> rw [e]
  · show w = w &&& 65535
    have := Nat.and_two_pow_sub_one_eq_mod w 16
    rw [show (65535 : Nat) = 2 ^ 16 - 1 by decide, this]
    omega
  · rfl
  · rfl
  · show w &&& 61695 &&& 65295 = w &&& 61455
    rw [Nat.and_assoc]
    rfl
  · show w &&& 61695 &&& 65280 = w &&& 61440
    rw [Nat.and_assoc]
    rfl
  · show w &&& 61695 &&& 65295 &&& 65520 = w &&& 61440
    rw [Nat.and_assoc, Nat.and_assoc]
    rfl
def maskT : List (Nat × Nat) := (List.range 31).map fun i => (mkF (fsR i), wdR i)
def maskL : List (Nat × Nat) := [(65535, 224), (65535, 238), (61440, 0), (61440, 4096), (61440, 8192), (61440, 12288), (61440, 16384), (61455, 20480), (61440, 24576), (61440, 28672), (61455, 32768), (61455, 32769), (61455, 32770), (61455, 32772), (61455, 32773), (61455, 36864), (61440, 40960), (61440, 45056), (61440, 49152), (61440, 53248), (61695, 57502), (61695, 57505), (61695, 61447), (61695, 61450), (61695, 61461), (61695, 61464), (61695, 61470), (61695, 61481), (61695, 61491), (61695, 61525), (61695, 61541)]
theorem maskT_eq : maskT = maskL := by decide +kernel
def isB (w : Nat) : Bool := (Nat.beq (Nat.land w 65535) 224 || (Nat.beq (Nat.land w 65535) 238 || (Nat.beq (Nat.land w 61440) 0 || (Nat.beq (Nat.land w 61440) 4096 || (Nat.beq (Nat.land w 61440) 8192 || (Nat.beq (Nat.land w 61440) 12288 || (Nat.beq (Nat.land w 61440) 16384 || (Nat.beq (Nat.land w 61455) 20480 || (Nat.beq (Nat.land w 61440) 24576 || (Nat.beq (Nat.land w 61440) 28672 || (Nat.beq (Nat.land w 61455) 32768 || (Nat.beq (Nat.land w 61455) 32769 || (Nat.beq (Nat.land w 61455) 32770 || (Nat.beq (Nat.land w 61455) 32772 || (Nat.beq (Nat.land w 61455) 32773 || (Nat.beq (Nat.land w 61455) 36864 || (Nat.beq (Nat.land w 61440) 40960 || (Nat.beq (Nat.land w 61440) 45056 || (Nat.beq (Nat.land w 61440) 49152 || (Nat.beq (Nat.land w 61440) 53248 || (Nat.beq (Nat.land w 61695) 57502 || (Nat.beq (Nat.land w 61695) 57505 || (Nat.beq (Nat.land w 61695) 61447 || (Nat.beq (Nat.land w 61695) 61450 || (Nat.beq (Nat.land w 61695) 61461 || (Nat.beq (Nat.land w 61695) 61464 || (Nat.beq (Nat.land w 61695) 61470 || (Nat.beq (Nat.land w 61695) 61481 || (Nat.beq (Nat.land w 61695) 61491 || (Nat.beq (Nat.land w 61695) 61525 || (Nat.beq (Nat.land w 61695) 61541 || false)))))))))))))))))))))))))))))))
theorem beqN (a b : Nat) : (a == b) = Nat.beq a b := by
  rw [Bool.eq_iff_iff]
  simp
theorem isB_any (w : Nat) : (maskL.any fun x => (w &&& x.1) == x.2) = isB w := by
  simp only [beqN]
  rfl
theorem decB_is (w : Nat) (hw : w < 65536) : decB w = isB w := by
  rw [← isB_any, ← maskT_eq]
  unfold decB decR fstI maskT
  rw [List.any_map, Bool.eq_iff_iff, List.find?_isSome, List.any_eq_true]
  constructor
  · rintro ⟨i, hi, h⟩
    refine ⟨i, hi, ?_⟩
    have h' : takR i w = true := h
    unfold takR at h'
    rw [clr_mk i w (List.mem_range.1 hi) hw] at h'
    exact h'
  · rintro ⟨i, hi, h⟩
    refine ⟨i, hi, ?_⟩
    show takR i w = true
    unfold takR
    rw [clr_mk i w (List.mem_range.1 hi) hw]
    exact h
/-- How many below n. -/
def cntW : Nat → Nat
  | 0 => 0
  | n + 1 => cntW n + (if decB n then 1 else 0)
def cntE : Nat → Nat → Nat
  | 0, _ => 0
  | n + 1, a => Nat.add (cntE n a) (cond (isB (Nat.add a n)) 1 0)
theorem cntW_add (a n : Nat) (h : a + n ≤ 65536) : cntW (a + n) = cntW a + cntE n a := by
  induction n with
  | zero => rfl
  | succ n ih =>
    show cntW (a + n) + (if decB (a + n) then 1 else 0) = cntW a + (cntE n a + cond (isB (a + n)) 1 0)
    rw [ih (by omega), decB_is (a + n) (by omega), Nat.add_assoc]
    cases isB (a + n) <;> rfl
/-- By 256 words at a time. -/
def sumE : Nat → Nat
  | 0 => 0
  | h + 1 => Nat.add (sumE h) (cntE 256 (Nat.mul 256 h))
theorem cntW_chunks (h : Nat) (hh : h ≤ 256) : cntW (256 * h) = sumE h := by
  induction h with
  | zero => rfl
  | succ h ih =>
    rw [Nat.mul_succ, cntW_add _ _ (by omega), ih (by omega)]
    rfl
theorem cnt_sum : sumE 256 = 47024 := by decide +kernel
theorem cntW_all : cntW 65536 = 47024 := by
  have h := cntW_chunks 256 (Nat.le_refl _)
  rw [cnt_sum] at h
  exact h
theorem cntW_le (n : Nat) : cntW n ≤ n := by
  induction n with
  | zero => exact Nat.le_refl _
  | succ n ih =>
    rw [cntW]
    split <;> omega
end Go.Proofs.Ytenlkihbffbniaa
