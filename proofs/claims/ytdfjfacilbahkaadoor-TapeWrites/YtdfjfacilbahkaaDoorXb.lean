/- Two scripts held against each other span by span. -/
import Derived.Test.YtdfjfacilbahkaaDoorXa
namespace Go.Proofs.YtdfjfacilbahkaaDoor
set_option linter.unusedVariables false
set_option maxHeartbeats 400000

/-- What is left of a script whose first span has u cycles behind it. -/
def remE : List Sn → Int → List At
  | [], _ => []
  | s :: l, u => List.replicate (s.c - u).toNat s.a ++ expand l
theorem remE_zero (l : List Sn) : remE l 0 = expand l := by
  cases l with
  | nil => rfl
  | cons s l => simp only [remE, expand, Int.sub_zero]
/-- Behind n cycles. -/
def advL (x : Sn) (a : List Sn) (u : Int) : List Sn := if u = x.c then a else x :: a
def advU (x : Sn) (u : Int) : Int := if u = x.c then 0 else u
theorem adv_rem (x : Sn) (a : List Sn) (u : Int) : remE (advL x a u) (advU x u) = List.replicate (x.c - u).toNat x.a ++ expand a := by
  unfold advL advU
  split
  · rename_i h
    rw [remE_zero, h, Int.sub_self]
    rfl
  · rfl
theorem flat_step (x y : Sn) (a b : List Sn) (u d n : Int) (h : x.a = y.a) (n0 : 0 ≤ n) (h1 : n ≤ x.c - u) (h2 : n ≤ y.c - d) :
    (remE (x :: a) u = remE (y :: b) d) ↔ (remE (advL x a (u + n)) (advU x (u + n)) = remE (advL y b (d + n)) (advU y (d + n))) := by
  rw [adv_rem, adv_rem]
  simp only [remE]
  rw [show (x.c - u).toNat = n.toNat + (x.c - (u + n)).toNat by omega, show (y.c - d).toNat = n.toNat + (y.c - (d + n)).toNat by omega, ← replicate_add, ← replicate_add, List.append_assoc, List.append_assoc, h, List.append_cancel_left_eq]
theorem flat_differ (x y : Sn) (a b : List Sn) (u d : Int) (h : x.a ≠ y.a) (h1 : u < x.c) (h2 : d < y.c) : remE (x :: a) u ≠ remE (y :: b) d := fun e => by
  simp only [remE] at e
  obtain ⟨p, hp⟩ : ∃ p, (x.c - u).toNat = p + 1 := ⟨(x.c - u).toNat - 1, by omega⟩
  obtain ⟨q, hq⟩ : ∃ q, (y.c - d).toNat = q + 1 := ⟨(y.c - d).toNat - 1, by omega⟩
  rw [hp, hq, List.replicate_succ, List.replicate_succ, List.cons_append, List.cons_append] at e
  exact h (List.cons.inj e).1
theorem rem_nil (x : Sn) (a : List Sn) (u : Int) (h : u < x.c) : remE (x :: a) u ≠ [] := fun e => by
  simp only [remE] at e
  have := congrArg List.length e
  simp at this
  omega
end Go.Proofs.YtdfjfacilbahkaaDoor
