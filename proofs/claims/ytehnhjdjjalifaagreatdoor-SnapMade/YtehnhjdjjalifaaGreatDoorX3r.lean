/- Saving: the two statements that draw their order. -/
import Derived.Test.YtehnhjdjjalifaaGreatDoorX3
import Derived.Test.YtehnhjdjjalifaaGreatDoorIw
namespace Go.Proofs.YtehnhjdjjalifaaGreatDoor
open Go Go.RowKit
set_option linter.unusedVariables false
set_option maxHeartbeats 4000000
set_option maxRecDepth 100000

theorem ev_put {a : Act} {d j : Nat} {v : Value} (hd : d < a.tmps.size) : (a.put (some d) v).eval (.tmp j) = if j = d then v else a.eval (.tmp j) := by
  show (a.tmps.setIfInBounds d v).getD j undef = _
  rw [Array.getD_eq_getD_getElem?, Array.getElem?_setIfInBounds]
  split
  · rename_i h
    rw [if_pos h.symm]
    rfl
  · rename_i h
    rw [if_neg (fun e => h e.symm)]
    exact (Array.getD_eq_getD_getElem? ..).symm
theorem ev_ne {a : Act} {d j : Nat} {v : Value} (h : j ≠ d) : (a.put (some d) v).eval (.tmp j) = a.eval (.tmp j) := by
  show (a.tmps.setIfInBounds d v).getD j undef = _
  rw [Array.getD_eq_getD_getElem?, Array.getElem?_setIfInBounds, if_neg (fun e => h e.symm)]
  exact (Array.getD_eq_getD_getElem? ..).symm
theorem ev_eq {a : Act} {d : Nat} {v : Value} (hd : d < a.tmps.size) : (a.put (some d) v).eval (.tmp d) = v := by rw [ev_put hd, if_pos rfl]
theorem act_ext {a b : Act} (h1 : a.defers = b.defers) (h2 : a.tmps.size = b.tmps.size) (h3 : ∀ j, a.eval (.tmp j) = b.eval (.tmp j)) : a = b := by
  obtain ⟨ta, da⟩ := a
  obtain ⟨tb, db⟩ := b
  obtain rfl : da = db := h1
  have : ta = tb := Array.ext h2 fun i hi hj => by
    have := h3 i
    have e1 : (Act.mk ta da).eval (.tmp i) = ta.getD i undef := rfl
    have e2 : (Act.mk tb da).eval (.tmp i) = tb.getD i undef := rfl
    rw [e1, e2, Array.getD, Array.getD, dif_pos hi, dif_pos hj] at this
    exact this
  rw [this]
theorem szP (x : Act) (d : Nat) (v : Value) : (x.put (some d) v).tmps.size = x.tmps.size := by show (x.tmps.setIfInBounds d v).size = _; rw [Array.size_setIfInBounds]
theorem dfP (x : Act) (d : Nat) (v : Value) : (x.put (some d) v).defers = x.defers := rfl
def Wt (o : Oper) (q : Nat) : Prop := ∃ e ∈ o.after, Region.binds .any e = true ∧ e.on = q
def OpA (ops : Array Oper) (i : Nat) (d : Option Nat) (p : Op) (on : List Nat) : Prop := ∃ o : Oper, ops[i]? = some o ∧ o.guard = none ∧ o.dst = d ∧ o.op = p ∧ ∀ q ∈ on, Wt o q
def isQ (j : Nat) : Bool := Nat.beq j 7 || (Nat.ble 29 j && Nat.ble j 54)
structure FQ (A a : Act) : Prop where
  df : a.defers = A.defers
  sz : a.tmps.size = A.tmps.size
  ev : ∀ j, isQ j = false → a.eval (.tmp j) = A.eval (.tmp j)
theorem FQ.put {A a : Act} (h : FQ A a) (d : Nat) (v : Value) (hd : isQ d = true) : FQ A (a.put (some d) v) := by
  refine ⟨h.df, ?_, fun j hj => ?_⟩
  · rw [szP]
    exact h.sz
  · rw [ev_ne (fun e => by rw [e, hd] at hj; cases hj)]
    exact h.ev j hj
def actQ (A : Act) (v7 v29 v30 v31 v32 v33 v34 v35 v36 v37 v38 v39 v40 v41 v42 v43 v44 v45 v46 v47 v48 v49 v50 v51 v52 v53 v54 : Value) : Act := ((((((((((((((((((((((((((A.put (some 7) v7).put (some 29) v29).put (some 30) v30).put (some 31) v31).put (some 32) v32).put (some 33) v33).put (some 34) v34).put (some 35) v35).put (some 36) v36).put (some 37) v37).put (some 38) v38).put (some 39) v39).put (some 40) v40).put (some 41) v41).put (some 42) v42).put (some 43) v43).put (some 44) v44).put (some 45) v45).put (some 46) v46).put (some 47) v47).put (some 48) v48).put (some 49) v49).put (some 50) v50).put (some 51) v51).put (some 52) v52).put (some 53) v53).put (some 54) v54
theorem QAt7 (A : Act) (hA : A.tmps.size = 100) (v7 v29 v30 v31 v32 v33 v34 v35 v36 v37 v38 v39 v40 v41 v42 v43 v44 v45 v46 v47 v48 v49 v50 v51 v52 v53 v54 : Value) : (actQ A v7 v29 v30 v31 v32 v33 v34 v35 v36 v37 v38 v39 v40 v41 v42 v43 v44 v45 v46 v47 v48 v49 v50 v51 v52 v53 v54).eval (.tmp 7) = v7 := by
  unfold actQ
  rw [ev_ne (by decide), ev_ne (by decide), ev_ne (by decide), ev_ne (by decide), ev_ne (by decide), ev_ne (by decide), ev_ne (by decide), ev_ne (by decide), ev_ne (by decide), ev_ne (by decide), ev_ne (by decide), ev_ne (by decide), ev_ne (by decide), ev_ne (by decide), ev_ne (by decide), ev_ne (by decide), ev_ne (by decide), ev_ne (by decide), ev_ne (by decide), ev_ne (by decide), ev_ne (by decide), ev_ne (by decide), ev_ne (by decide), ev_ne (by decide), ev_ne (by decide), ev_ne (by decide), ev_eq (by simp only [hA]; decide)]
theorem QAt29 (A : Act) (hA : A.tmps.size = 100) (v7 v29 v30 v31 v32 v33 v34 v35 v36 v37 v38 v39 v40 v41 v42 v43 v44 v45 v46 v47 v48 v49 v50 v51 v52 v53 v54 : Value) : (actQ A v7 v29 v30 v31 v32 v33 v34 v35 v36 v37 v38 v39 v40 v41 v42 v43 v44 v45 v46 v47 v48 v49 v50 v51 v52 v53 v54).eval (.tmp 29) = v29 := by
  unfold actQ
  rw [ev_ne (by decide), ev_ne (by decide), ev_ne (by decide), ev_ne (by decide), ev_ne (by decide), ev_ne (by decide), ev_ne (by decide), ev_ne (by decide), ev_ne (by decide), ev_ne (by decide), ev_ne (by decide), ev_ne (by decide), ev_ne (by decide), ev_ne (by decide), ev_ne (by decide), ev_ne (by decide), ev_ne (by decide), ev_ne (by decide), ev_ne (by decide), ev_ne (by decide), ev_ne (by decide), ev_ne (by decide), ev_ne (by decide), ev_ne (by decide), ev_ne (by decide), ev_eq (by simp only [szP, hA]; decide)]
theorem QAt30 (A : Act) (hA : A.tmps.size = 100) (v7 v29 v30 v31 v32 v33 v34 v35 v36 v37 v38 v39 v40 v41 v42 v43 v44 v45 v46 v47 v48 v49 v50 v51 v52 v53 v54 : Value) : (actQ A v7 v29 v30 v31 v32 v33 v34 v35 v36 v37 v38 v39 v40 v41 v42 v43 v44 v45 v46 v47 v48 v49 v50 v51 v52 v53 v54).eval (.tmp 30) = v30 := by
  unfold actQ
  rw [ev_ne (by decide), ev_ne (by decide), ev_ne (by decide), ev_ne (by decide), ev_ne (by decide), ev_ne (by decide), ev_ne (by decide), ev_ne (by decide), ev_ne (by decide), ev_ne (by decide), ev_ne (by decide), ev_ne (by decide), ev_ne (by decide), ev_ne (by decide), ev_ne (by decide), ev_ne (by decide), ev_ne (by decide), ev_ne (by decide), ev_ne (by decide), ev_ne (by decide), ev_ne (by decide), ev_ne (by decide), ev_ne (by decide), ev_ne (by decide), ev_eq (by simp only [szP, hA]; decide)]
theorem QAt31 (A : Act) (hA : A.tmps.size = 100) (v7 v29 v30 v31 v32 v33 v34 v35 v36 v37 v38 v39 v40 v41 v42 v43 v44 v45 v46 v47 v48 v49 v50 v51 v52 v53 v54 : Value) : (actQ A v7 v29 v30 v31 v32 v33 v34 v35 v36 v37 v38 v39 v40 v41 v42 v43 v44 v45 v46 v47 v48 v49 v50 v51 v52 v53 v54).eval (.tmp 31) = v31 := by
  unfold actQ
  rw [ev_ne (by decide), ev_ne (by decide), ev_ne (by decide), ev_ne (by decide), ev_ne (by decide), ev_ne (by decide), ev_ne (by decide), ev_ne (by decide), ev_ne (by decide), ev_ne (by decide), ev_ne (by decide), ev_ne (by decide), ev_ne (by decide), ev_ne (by decide), ev_ne (by decide), ev_ne (by decide), ev_ne (by decide), ev_ne (by decide), ev_ne (by decide), ev_ne (by decide), ev_ne (by decide), ev_ne (by decide), ev_ne (by decide), ev_eq (by simp only [szP, hA]; decide)]
theorem QAt32 (A : Act) (hA : A.tmps.size = 100) (v7 v29 v30 v31 v32 v33 v34 v35 v36 v37 v38 v39 v40 v41 v42 v43 v44 v45 v46 v47 v48 v49 v50 v51 v52 v53 v54 : Value) : (actQ A v7 v29 v30 v31 v32 v33 v34 v35 v36 v37 v38 v39 v40 v41 v42 v43 v44 v45 v46 v47 v48 v49 v50 v51 v52 v53 v54).eval (.tmp 32) = v32 := by
  unfold actQ
  rw [ev_ne (by decide), ev_ne (by decide), ev_ne (by decide), ev_ne (by decide), ev_ne (by decide), ev_ne (by decide), ev_ne (by decide), ev_ne (by decide), ev_ne (by decide), ev_ne (by decide), ev_ne (by decide), ev_ne (by decide), ev_ne (by decide), ev_ne (by decide), ev_ne (by decide), ev_ne (by decide), ev_ne (by decide), ev_ne (by decide), ev_ne (by decide), ev_ne (by decide), ev_ne (by decide), ev_ne (by decide), ev_eq (by simp only [szP, hA]; decide)]
theorem QAt33 (A : Act) (hA : A.tmps.size = 100) (v7 v29 v30 v31 v32 v33 v34 v35 v36 v37 v38 v39 v40 v41 v42 v43 v44 v45 v46 v47 v48 v49 v50 v51 v52 v53 v54 : Value) : (actQ A v7 v29 v30 v31 v32 v33 v34 v35 v36 v37 v38 v39 v40 v41 v42 v43 v44 v45 v46 v47 v48 v49 v50 v51 v52 v53 v54).eval (.tmp 33) = v33 := by
  unfold actQ
  rw [ev_ne (by decide), ev_ne (by decide), ev_ne (by decide), ev_ne (by decide), ev_ne (by decide), ev_ne (by decide), ev_ne (by decide), ev_ne (by decide), ev_ne (by decide), ev_ne (by decide), ev_ne (by decide), ev_ne (by decide), ev_ne (by decide), ev_ne (by decide), ev_ne (by decide), ev_ne (by decide), ev_ne (by decide), ev_ne (by decide), ev_ne (by decide), ev_ne (by decide), ev_ne (by decide), ev_eq (by simp only [szP, hA]; decide)]
theorem QAt34 (A : Act) (hA : A.tmps.size = 100) (v7 v29 v30 v31 v32 v33 v34 v35 v36 v37 v38 v39 v40 v41 v42 v43 v44 v45 v46 v47 v48 v49 v50 v51 v52 v53 v54 : Value) : (actQ A v7 v29 v30 v31 v32 v33 v34 v35 v36 v37 v38 v39 v40 v41 v42 v43 v44 v45 v46 v47 v48 v49 v50 v51 v52 v53 v54).eval (.tmp 34) = v34 := by
  unfold actQ
  rw [ev_ne (by decide), ev_ne (by decide), ev_ne (by decide), ev_ne (by decide), ev_ne (by decide), ev_ne (by decide), ev_ne (by decide), ev_ne (by decide), ev_ne (by decide), ev_ne (by decide), ev_ne (by decide), ev_ne (by decide), ev_ne (by decide), ev_ne (by decide), ev_ne (by decide), ev_ne (by decide), ev_ne (by decide), ev_ne (by decide), ev_ne (by decide), ev_ne (by decide), ev_eq (by simp only [szP, hA]; decide)]
theorem QAt35 (A : Act) (hA : A.tmps.size = 100) (v7 v29 v30 v31 v32 v33 v34 v35 v36 v37 v38 v39 v40 v41 v42 v43 v44 v45 v46 v47 v48 v49 v50 v51 v52 v53 v54 : Value) : (actQ A v7 v29 v30 v31 v32 v33 v34 v35 v36 v37 v38 v39 v40 v41 v42 v43 v44 v45 v46 v47 v48 v49 v50 v51 v52 v53 v54).eval (.tmp 35) = v35 := by
  unfold actQ
  rw [ev_ne (by decide), ev_ne (by decide), ev_ne (by decide), ev_ne (by decide), ev_ne (by decide), ev_ne (by decide), ev_ne (by decide), ev_ne (by decide), ev_ne (by decide), ev_ne (by decide), ev_ne (by decide), ev_ne (by decide), ev_ne (by decide), ev_ne (by decide), ev_ne (by decide), ev_ne (by decide), ev_ne (by decide), ev_ne (by decide), ev_ne (by decide), ev_eq (by simp only [szP, hA]; decide)]
theorem QAt36 (A : Act) (hA : A.tmps.size = 100) (v7 v29 v30 v31 v32 v33 v34 v35 v36 v37 v38 v39 v40 v41 v42 v43 v44 v45 v46 v47 v48 v49 v50 v51 v52 v53 v54 : Value) : (actQ A v7 v29 v30 v31 v32 v33 v34 v35 v36 v37 v38 v39 v40 v41 v42 v43 v44 v45 v46 v47 v48 v49 v50 v51 v52 v53 v54).eval (.tmp 36) = v36 := by
  unfold actQ
  rw [ev_ne (by decide), ev_ne (by decide), ev_ne (by decide), ev_ne (by decide), ev_ne (by decide), ev_ne (by decide), ev_ne (by decide), ev_ne (by decide), ev_ne (by decide), ev_ne (by decide), ev_ne (by decide), ev_ne (by decide), ev_ne (by decide), ev_ne (by decide), ev_ne (by decide), ev_ne (by decide), ev_ne (by decide), ev_ne (by decide), ev_eq (by simp only [szP, hA]; decide)]
theorem QAt37 (A : Act) (hA : A.tmps.size = 100) (v7 v29 v30 v31 v32 v33 v34 v35 v36 v37 v38 v39 v40 v41 v42 v43 v44 v45 v46 v47 v48 v49 v50 v51 v52 v53 v54 : Value) : (actQ A v7 v29 v30 v31 v32 v33 v34 v35 v36 v37 v38 v39 v40 v41 v42 v43 v44 v45 v46 v47 v48 v49 v50 v51 v52 v53 v54).eval (.tmp 37) = v37 := by
  unfold actQ
  rw [ev_ne (by decide), ev_ne (by decide), ev_ne (by decide), ev_ne (by decide), ev_ne (by decide), ev_ne (by decide), ev_ne (by decide), ev_ne (by decide), ev_ne (by decide), ev_ne (by decide), ev_ne (by decide), ev_ne (by decide), ev_ne (by decide), ev_ne (by decide), ev_ne (by decide), ev_ne (by decide), ev_ne (by decide), ev_eq (by simp only [szP, hA]; decide)]
theorem QAt38 (A : Act) (hA : A.tmps.size = 100) (v7 v29 v30 v31 v32 v33 v34 v35 v36 v37 v38 v39 v40 v41 v42 v43 v44 v45 v46 v47 v48 v49 v50 v51 v52 v53 v54 : Value) : (actQ A v7 v29 v30 v31 v32 v33 v34 v35 v36 v37 v38 v39 v40 v41 v42 v43 v44 v45 v46 v47 v48 v49 v50 v51 v52 v53 v54).eval (.tmp 38) = v38 := by
  unfold actQ
  rw [ev_ne (by decide), ev_ne (by decide), ev_ne (by decide), ev_ne (by decide), ev_ne (by decide), ev_ne (by decide), ev_ne (by decide), ev_ne (by decide), ev_ne (by decide), ev_ne (by decide), ev_ne (by decide), ev_ne (by decide), ev_ne (by decide), ev_ne (by decide), ev_ne (by decide), ev_ne (by decide), ev_eq (by simp only [szP, hA]; decide)]
theorem QAt39 (A : Act) (hA : A.tmps.size = 100) (v7 v29 v30 v31 v32 v33 v34 v35 v36 v37 v38 v39 v40 v41 v42 v43 v44 v45 v46 v47 v48 v49 v50 v51 v52 v53 v54 : Value) : (actQ A v7 v29 v30 v31 v32 v33 v34 v35 v36 v37 v38 v39 v40 v41 v42 v43 v44 v45 v46 v47 v48 v49 v50 v51 v52 v53 v54).eval (.tmp 39) = v39 := by
  unfold actQ
  rw [ev_ne (by decide), ev_ne (by decide), ev_ne (by decide), ev_ne (by decide), ev_ne (by decide), ev_ne (by decide), ev_ne (by decide), ev_ne (by decide), ev_ne (by decide), ev_ne (by decide), ev_ne (by decide), ev_ne (by decide), ev_ne (by decide), ev_ne (by decide), ev_ne (by decide), ev_eq (by simp only [szP, hA]; decide)]
theorem QAt40 (A : Act) (hA : A.tmps.size = 100) (v7 v29 v30 v31 v32 v33 v34 v35 v36 v37 v38 v39 v40 v41 v42 v43 v44 v45 v46 v47 v48 v49 v50 v51 v52 v53 v54 : Value) : (actQ A v7 v29 v30 v31 v32 v33 v34 v35 v36 v37 v38 v39 v40 v41 v42 v43 v44 v45 v46 v47 v48 v49 v50 v51 v52 v53 v54).eval (.tmp 40) = v40 := by
  unfold actQ
  rw [ev_ne (by decide), ev_ne (by decide), ev_ne (by decide), ev_ne (by decide), ev_ne (by decide), ev_ne (by decide), ev_ne (by decide), ev_ne (by decide), ev_ne (by decide), ev_ne (by decide), ev_ne (by decide), ev_ne (by decide), ev_ne (by decide), ev_ne (by decide), ev_eq (by simp only [szP, hA]; decide)]
theorem QAt41 (A : Act) (hA : A.tmps.size = 100) (v7 v29 v30 v31 v32 v33 v34 v35 v36 v37 v38 v39 v40 v41 v42 v43 v44 v45 v46 v47 v48 v49 v50 v51 v52 v53 v54 : Value) : (actQ A v7 v29 v30 v31 v32 v33 v34 v35 v36 v37 v38 v39 v40 v41 v42 v43 v44 v45 v46 v47 v48 v49 v50 v51 v52 v53 v54).eval (.tmp 41) = v41 := by
  unfold actQ
  rw [ev_ne (by decide), ev_ne (by decide), ev_ne (by decide), ev_ne (by decide), ev_ne (by decide), ev_ne (by decide), ev_ne (by decide), ev_ne (by decide), ev_ne (by decide), ev_ne (by decide), ev_ne (by decide), ev_ne (by decide), ev_ne (by decide), ev_eq (by simp only [szP, hA]; decide)]
theorem QAt42 (A : Act) (hA : A.tmps.size = 100) (v7 v29 v30 v31 v32 v33 v34 v35 v36 v37 v38 v39 v40 v41 v42 v43 v44 v45 v46 v47 v48 v49 v50 v51 v52 v53 v54 : Value) : (actQ A v7 v29 v30 v31 v32 v33 v34 v35 v36 v37 v38 v39 v40 v41 v42 v43 v44 v45 v46 v47 v48 v49 v50 v51 v52 v53 v54).eval (.tmp 42) = v42 := by
  unfold actQ
  rw [ev_ne (by decide), ev_ne (by decide), ev_ne (by decide), ev_ne (by decide), ev_ne (by decide), ev_ne (by decide), ev_ne (by decide), ev_ne (by decide), ev_ne (by decide), ev_ne (by decide), ev_ne (by decide), ev_ne (by decide), ev_eq (by simp only [szP, hA]; decide)]
theorem QAt43 (A : Act) (hA : A.tmps.size = 100) (v7 v29 v30 v31 v32 v33 v34 v35 v36 v37 v38 v39 v40 v41 v42 v43 v44 v45 v46 v47 v48 v49 v50 v51 v52 v53 v54 : Value) : (actQ A v7 v29 v30 v31 v32 v33 v34 v35 v36 v37 v38 v39 v40 v41 v42 v43 v44 v45 v46 v47 v48 v49 v50 v51 v52 v53 v54).eval (.tmp 43) = v43 := by
  unfold actQ
  rw [ev_ne (by decide), ev_ne (by decide), ev_ne (by decide), ev_ne (by decide), ev_ne (by decide), ev_ne (by decide), ev_ne (by decide), ev_ne (by decide), ev_ne (by decide), ev_ne (by decide), ev_ne (by decide), ev_eq (by simp only [szP, hA]; decide)]
theorem QAt44 (A : Act) (hA : A.tmps.size = 100) (v7 v29 v30 v31 v32 v33 v34 v35 v36 v37 v38 v39 v40 v41 v42 v43 v44 v45 v46 v47 v48 v49 v50 v51 v52 v53 v54 : Value) : (actQ A v7 v29 v30 v31 v32 v33 v34 v35 v36 v37 v38 v39 v40 v41 v42 v43 v44 v45 v46 v47 v48 v49 v50 v51 v52 v53 v54).eval (.tmp 44) = v44 := by
  unfold actQ
  rw [ev_ne (by decide), ev_ne (by decide), ev_ne (by decide), ev_ne (by decide), ev_ne (by decide), ev_ne (by decide), ev_ne (by decide), ev_ne (by decide), ev_ne (by decide), ev_ne (by decide), ev_eq (by simp only [szP, hA]; decide)]
theorem QAt45 (A : Act) (hA : A.tmps.size = 100) (v7 v29 v30 v31 v32 v33 v34 v35 v36 v37 v38 v39 v40 v41 v42 v43 v44 v45 v46 v47 v48 v49 v50 v51 v52 v53 v54 : Value) : (actQ A v7 v29 v30 v31 v32 v33 v34 v35 v36 v37 v38 v39 v40 v41 v42 v43 v44 v45 v46 v47 v48 v49 v50 v51 v52 v53 v54).eval (.tmp 45) = v45 := by
  unfold actQ
  rw [ev_ne (by decide), ev_ne (by decide), ev_ne (by decide), ev_ne (by decide), ev_ne (by decide), ev_ne (by decide), ev_ne (by decide), ev_ne (by decide), ev_ne (by decide), ev_eq (by simp only [szP, hA]; decide)]
theorem QAt46 (A : Act) (hA : A.tmps.size = 100) (v7 v29 v30 v31 v32 v33 v34 v35 v36 v37 v38 v39 v40 v41 v42 v43 v44 v45 v46 v47 v48 v49 v50 v51 v52 v53 v54 : Value) : (actQ A v7 v29 v30 v31 v32 v33 v34 v35 v36 v37 v38 v39 v40 v41 v42 v43 v44 v45 v46 v47 v48 v49 v50 v51 v52 v53 v54).eval (.tmp 46) = v46 := by
  unfold actQ
  rw [ev_ne (by decide), ev_ne (by decide), ev_ne (by decide), ev_ne (by decide), ev_ne (by decide), ev_ne (by decide), ev_ne (by decide), ev_ne (by decide), ev_eq (by simp only [szP, hA]; decide)]
theorem QAt47 (A : Act) (hA : A.tmps.size = 100) (v7 v29 v30 v31 v32 v33 v34 v35 v36 v37 v38 v39 v40 v41 v42 v43 v44 v45 v46 v47 v48 v49 v50 v51 v52 v53 v54 : Value) : (actQ A v7 v29 v30 v31 v32 v33 v34 v35 v36 v37 v38 v39 v40 v41 v42 v43 v44 v45 v46 v47 v48 v49 v50 v51 v52 v53 v54).eval (.tmp 47) = v47 := by
  unfold actQ
  rw [ev_ne (by decide), ev_ne (by decide), ev_ne (by decide), ev_ne (by decide), ev_ne (by decide), ev_ne (by decide), ev_ne (by decide), ev_eq (by simp only [szP, hA]; decide)]
theorem QAt48 (A : Act) (hA : A.tmps.size = 100) (v7 v29 v30 v31 v32 v33 v34 v35 v36 v37 v38 v39 v40 v41 v42 v43 v44 v45 v46 v47 v48 v49 v50 v51 v52 v53 v54 : Value) : (actQ A v7 v29 v30 v31 v32 v33 v34 v35 v36 v37 v38 v39 v40 v41 v42 v43 v44 v45 v46 v47 v48 v49 v50 v51 v52 v53 v54).eval (.tmp 48) = v48 := by
  unfold actQ
  rw [ev_ne (by decide), ev_ne (by decide), ev_ne (by decide), ev_ne (by decide), ev_ne (by decide), ev_ne (by decide), ev_eq (by simp only [szP, hA]; decide)]
theorem QAt49 (A : Act) (hA : A.tmps.size = 100) (v7 v29 v30 v31 v32 v33 v34 v35 v36 v37 v38 v39 v40 v41 v42 v43 v44 v45 v46 v47 v48 v49 v50 v51 v52 v53 v54 : Value) : (actQ A v7 v29 v30 v31 v32 v33 v34 v35 v36 v37 v38 v39 v40 v41 v42 v43 v44 v45 v46 v47 v48 v49 v50 v51 v52 v53 v54).eval (.tmp 49) = v49 := by
  unfold actQ
  rw [ev_ne (by decide), ev_ne (by decide), ev_ne (by decide), ev_ne (by decide), ev_ne (by decide), ev_eq (by simp only [szP, hA]; decide)]
theorem QAt50 (A : Act) (hA : A.tmps.size = 100) (v7 v29 v30 v31 v32 v33 v34 v35 v36 v37 v38 v39 v40 v41 v42 v43 v44 v45 v46 v47 v48 v49 v50 v51 v52 v53 v54 : Value) : (actQ A v7 v29 v30 v31 v32 v33 v34 v35 v36 v37 v38 v39 v40 v41 v42 v43 v44 v45 v46 v47 v48 v49 v50 v51 v52 v53 v54).eval (.tmp 50) = v50 := by
  unfold actQ
  rw [ev_ne (by decide), ev_ne (by decide), ev_ne (by decide), ev_ne (by decide), ev_eq (by simp only [szP, hA]; decide)]
theorem QAt51 (A : Act) (hA : A.tmps.size = 100) (v7 v29 v30 v31 v32 v33 v34 v35 v36 v37 v38 v39 v40 v41 v42 v43 v44 v45 v46 v47 v48 v49 v50 v51 v52 v53 v54 : Value) : (actQ A v7 v29 v30 v31 v32 v33 v34 v35 v36 v37 v38 v39 v40 v41 v42 v43 v44 v45 v46 v47 v48 v49 v50 v51 v52 v53 v54).eval (.tmp 51) = v51 := by
  unfold actQ
  rw [ev_ne (by decide), ev_ne (by decide), ev_ne (by decide), ev_eq (by simp only [szP, hA]; decide)]
theorem QAt52 (A : Act) (hA : A.tmps.size = 100) (v7 v29 v30 v31 v32 v33 v34 v35 v36 v37 v38 v39 v40 v41 v42 v43 v44 v45 v46 v47 v48 v49 v50 v51 v52 v53 v54 : Value) : (actQ A v7 v29 v30 v31 v32 v33 v34 v35 v36 v37 v38 v39 v40 v41 v42 v43 v44 v45 v46 v47 v48 v49 v50 v51 v52 v53 v54).eval (.tmp 52) = v52 := by
  unfold actQ
  rw [ev_ne (by decide), ev_ne (by decide), ev_eq (by simp only [szP, hA]; decide)]
theorem QAt53 (A : Act) (hA : A.tmps.size = 100) (v7 v29 v30 v31 v32 v33 v34 v35 v36 v37 v38 v39 v40 v41 v42 v43 v44 v45 v46 v47 v48 v49 v50 v51 v52 v53 v54 : Value) : (actQ A v7 v29 v30 v31 v32 v33 v34 v35 v36 v37 v38 v39 v40 v41 v42 v43 v44 v45 v46 v47 v48 v49 v50 v51 v52 v53 v54).eval (.tmp 53) = v53 := by
  unfold actQ
  rw [ev_ne (by decide), ev_eq (by simp only [szP, hA]; decide)]
theorem QAt54 (A : Act) (hA : A.tmps.size = 100) (v7 v29 v30 v31 v32 v33 v34 v35 v36 v37 v38 v39 v40 v41 v42 v43 v44 v45 v46 v47 v48 v49 v50 v51 v52 v53 v54 : Value) : (actQ A v7 v29 v30 v31 v32 v33 v34 v35 v36 v37 v38 v39 v40 v41 v42 v43 v44 v45 v46 v47 v48 v49 v50 v51 v52 v53 v54).eval (.tmp 54) = v54 := by
  unfold actQ
  rw [ev_eq (by simp only [szP, hA]; decide)]
theorem QOut (A : Act) (j : Nat) (e7 : j ≠ 7) (e29 : j ≠ 29) (e30 : j ≠ 30) (e31 : j ≠ 31) (e32 : j ≠ 32) (e33 : j ≠ 33) (e34 : j ≠ 34) (e35 : j ≠ 35) (e36 : j ≠ 36) (e37 : j ≠ 37) (e38 : j ≠ 38) (e39 : j ≠ 39) (e40 : j ≠ 40) (e41 : j ≠ 41) (e42 : j ≠ 42) (e43 : j ≠ 43) (e44 : j ≠ 44) (e45 : j ≠ 45) (e46 : j ≠ 46) (e47 : j ≠ 47) (e48 : j ≠ 48) (e49 : j ≠ 49) (e50 : j ≠ 50) (e51 : j ≠ 51) (e52 : j ≠ 52) (e53 : j ≠ 53) (e54 : j ≠ 54) (v7 v29 v30 v31 v32 v33 v34 v35 v36 v37 v38 v39 v40 v41 v42 v43 v44 v45 v46 v47 v48 v49 v50 v51 v52 v53 v54 : Value) : (actQ A v7 v29 v30 v31 v32 v33 v34 v35 v36 v37 v38 v39 v40 v41 v42 v43 v44 v45 v46 v47 v48 v49 v50 v51 v52 v53 v54).eval (.tmp j) = A.eval (.tmp j) := by
  unfold actQ
  rw [ev_ne e54, ev_ne e53, ev_ne e52, ev_ne e51, ev_ne e50, ev_ne e49, ev_ne e48, ev_ne e47, ev_ne e46, ev_ne e45, ev_ne e44, ev_ne e43, ev_ne e42, ev_ne e41, ev_ne e40, ev_ne e39, ev_ne e38, ev_ne e37, ev_ne e36, ev_ne e35, ev_ne e34, ev_ne e33, ev_ne e32, ev_ne e31, ev_ne e30, ev_ne e29, ev_ne e7]
theorem FQ.eq {A a : Act} (h : FQ A a) (hA : A.tmps.size = 100) : a = actQ A (a.eval (.tmp 7)) (a.eval (.tmp 29)) (a.eval (.tmp 30)) (a.eval (.tmp 31)) (a.eval (.tmp 32)) (a.eval (.tmp 33)) (a.eval (.tmp 34)) (a.eval (.tmp 35)) (a.eval (.tmp 36)) (a.eval (.tmp 37)) (a.eval (.tmp 38)) (a.eval (.tmp 39)) (a.eval (.tmp 40)) (a.eval (.tmp 41)) (a.eval (.tmp 42)) (a.eval (.tmp 43)) (a.eval (.tmp 44)) (a.eval (.tmp 45)) (a.eval (.tmp 46)) (a.eval (.tmp 47)) (a.eval (.tmp 48)) (a.eval (.tmp 49)) (a.eval (.tmp 50)) (a.eval (.tmp 51)) (a.eval (.tmp 52)) (a.eval (.tmp 53)) (a.eval (.tmp 54)) := by
  have df : (actQ A (a.eval (.tmp 7)) (a.eval (.tmp 29)) (a.eval (.tmp 30)) (a.eval (.tmp 31)) (a.eval (.tmp 32)) (a.eval (.tmp 33)) (a.eval (.tmp 34)) (a.eval (.tmp 35)) (a.eval (.tmp 36)) (a.eval (.tmp 37)) (a.eval (.tmp 38)) (a.eval (.tmp 39)) (a.eval (.tmp 40)) (a.eval (.tmp 41)) (a.eval (.tmp 42)) (a.eval (.tmp 43)) (a.eval (.tmp 44)) (a.eval (.tmp 45)) (a.eval (.tmp 46)) (a.eval (.tmp 47)) (a.eval (.tmp 48)) (a.eval (.tmp 49)) (a.eval (.tmp 50)) (a.eval (.tmp 51)) (a.eval (.tmp 52)) (a.eval (.tmp 53)) (a.eval (.tmp 54))).defers = A.defers := by unfold actQ; simp only [dfP]
  have sz2 : (actQ A (a.eval (.tmp 7)) (a.eval (.tmp 29)) (a.eval (.tmp 30)) (a.eval (.tmp 31)) (a.eval (.tmp 32)) (a.eval (.tmp 33)) (a.eval (.tmp 34)) (a.eval (.tmp 35)) (a.eval (.tmp 36)) (a.eval (.tmp 37)) (a.eval (.tmp 38)) (a.eval (.tmp 39)) (a.eval (.tmp 40)) (a.eval (.tmp 41)) (a.eval (.tmp 42)) (a.eval (.tmp 43)) (a.eval (.tmp 44)) (a.eval (.tmp 45)) (a.eval (.tmp 46)) (a.eval (.tmp 47)) (a.eval (.tmp 48)) (a.eval (.tmp 49)) (a.eval (.tmp 50)) (a.eval (.tmp 51)) (a.eval (.tmp 52)) (a.eval (.tmp 53)) (a.eval (.tmp 54))).tmps.size = A.tmps.size := by unfold actQ; simp only [szP]
  refine act_ext (h.df.trans df.symm) (h.sz.trans sz2.symm) fun (j : Nat) => ?_
  by_cases e7 : j = 7; (subst e7; exact (QAt7 A hA _ _ _ _ _ _ _ _ _ _ _ _ _ _ _ _ _ _ _ _ _ _ _ _ _ _ _).symm); by_cases e29 : j = 29; (subst e29; exact (QAt29 A hA _ _ _ _ _ _ _ _ _ _ _ _ _ _ _ _ _ _ _ _ _ _ _ _ _ _ _).symm); by_cases e30 : j = 30; (subst e30; exact (QAt30 A hA _ _ _ _ _ _ _ _ _ _ _ _ _ _ _ _ _ _ _ _ _ _ _ _ _ _ _).symm); by_cases e31 : j = 31; (subst e31; exact (QAt31 A hA _ _ _ _ _ _ _ _ _ _ _ _ _ _ _ _ _ _ _ _ _ _ _ _ _ _ _).symm); by_cases e32 : j = 32; (subst e32; exact (QAt32 A hA _ _ _ _ _ _ _ _ _ _ _ _ _ _ _ _ _ _ _ _ _ _ _ _ _ _ _).symm); by_cases e33 : j = 33; (subst e33; exact (QAt33 A hA _ _ _ _ _ _ _ _ _ _ _ _ _ _ _ _ _ _ _ _ _ _ _ _ _ _ _).symm); by_cases e34 : j = 34; (subst e34; exact (QAt34 A hA _ _ _ _ _ _ _ _ _ _ _ _ _ _ _ _ _ _ _ _ _ _ _ _ _ _ _).symm); by_cases e35 : j = 35; (subst e35; exact (QAt35 A hA _ _ _ _ _ _ _ _ _ _ _ _ _ _ _ _ _ _ _ _ _ _ _ _ _ _ _).symm); by_cases e36 : j = 36; (subst e36; exact (QAt36 A hA _ _ _ _ _ _ _ _ _ _ _ _ _ _ _ _ _ _ _ _ _ _ _ _ _ _ _).symm); by_cases e37 : j = 37; (subst e37; exact (QAt37 A hA _ _ _ _ _ _ _ _ _ _ _ _ _ _ _ _ _ _ _ _ _ _ _ _ _ _ _).symm); by_cases e38 : j = 38; (subst e38; exact (QAt38 A hA _ _ _ _ _ _ _ _ _ _ _ _ _ _ _ _ _ _ _ _ _ _ _ _ _ _ _).symm); by_cases e39 : j = 39; (subst e39; exact (QAt39 A hA _ _ _ _ _ _ _ _ _ _ _ _ _ _ _ _ _ _ _ _ _ _ _ _ _ _ _).symm); by_cases e40 : j = 40; (subst e40; exact (QAt40 A hA _ _ _ _ _ _ _ _ _ _ _ _ _ _ _ _ _ _ _ _ _ _ _ _ _ _ _).symm); by_cases e41 : j = 41; (subst e41; exact (QAt41 A hA _ _ _ _ _ _ _ _ _ _ _ _ _ _ _ _ _ _ _ _ _ _ _ _ _ _ _).symm); by_cases e42 : j = 42; (subst e42; exact (QAt42 A hA _ _ _ _ _ _ _ _ _ _ _ _ _ _ _ _ _ _ _ _ _ _ _ _ _ _ _).symm); by_cases e43 : j = 43; (subst e43; exact (QAt43 A hA _ _ _ _ _ _ _ _ _ _ _ _ _ _ _ _ _ _ _ _ _ _ _ _ _ _ _).symm); by_cases e44 : j = 44; (subst e44; exact (QAt44 A hA _ _ _ _ _ _ _ _ _ _ _ _ _ _ _ _ _ _ _ _ _ _ _ _ _ _ _).symm); by_cases e45 : j = 45; (subst e45; exact (QAt45 A hA _ _ _ _ _ _ _ _ _ _ _ _ _ _ _ _ _ _ _ _ _ _ _ _ _ _ _).symm); by_cases e46 : j = 46; (subst e46; exact (QAt46 A hA _ _ _ _ _ _ _ _ _ _ _ _ _ _ _ _ _ _ _ _ _ _ _ _ _ _ _).symm); by_cases e47 : j = 47; (subst e47; exact (QAt47 A hA _ _ _ _ _ _ _ _ _ _ _ _ _ _ _ _ _ _ _ _ _ _ _ _ _ _ _).symm); by_cases e48 : j = 48; (subst e48; exact (QAt48 A hA _ _ _ _ _ _ _ _ _ _ _ _ _ _ _ _ _ _ _ _ _ _ _ _ _ _ _).symm); by_cases e49 : j = 49; (subst e49; exact (QAt49 A hA _ _ _ _ _ _ _ _ _ _ _ _ _ _ _ _ _ _ _ _ _ _ _ _ _ _ _).symm); by_cases e50 : j = 50; (subst e50; exact (QAt50 A hA _ _ _ _ _ _ _ _ _ _ _ _ _ _ _ _ _ _ _ _ _ _ _ _ _ _ _).symm); by_cases e51 : j = 51; (subst e51; exact (QAt51 A hA _ _ _ _ _ _ _ _ _ _ _ _ _ _ _ _ _ _ _ _ _ _ _ _ _ _ _).symm); by_cases e52 : j = 52; (subst e52; exact (QAt52 A hA _ _ _ _ _ _ _ _ _ _ _ _ _ _ _ _ _ _ _ _ _ _ _ _ _ _ _).symm); by_cases e53 : j = 53; (subst e53; exact (QAt53 A hA _ _ _ _ _ _ _ _ _ _ _ _ _ _ _ _ _ _ _ _ _ _ _ _ _ _ _).symm); by_cases e54 : j = 54; (subst e54; exact (QAt54 A hA _ _ _ _ _ _ _ _ _ _ _ _ _ _ _ _ _ _ _ _ _ _ _ _ _ _ _).symm)
  refine (h.ev j ?_).trans (QOut A j e7 e29 e30 e31 e32 e33 e34 e35 e36 e37 e38 e39 e40 e41 e42 e43 e44 e45 e46 e47 e48 e49 e50 e51 e52 e53 e54 _ _ _ _ _ _ _ _ _ _ _ _ _ _ _ _ _ _ _ _ _ _ _ _ _ _ _).symm
  rcases hb : isQ j with _ | _
  · rfl
  · exfalso
    unfold isQ at hb
    simp only [Bool.or_eq_true, Bool.and_eq_true, Nat.ble_eq] at hb
    have k1 : Nat.beq j 7 = true → j = 7 := Nat.eq_of_beq_eq_true
    rcases hb with hb | hb
    · exact e7 (k1 hb)
    · omega
theorem ltQ {i : Nat} (h : i < 27) : i = 0 ∨ i = 1 ∨ i = 2 ∨ i = 3 ∨ i = 4 ∨ i = 5 ∨ i = 6 ∨ i = 7 ∨ i = 8 ∨ i = 9 ∨ i = 10 ∨ i = 11 ∨ i = 12 ∨ i = 13 ∨ i = 14 ∨ i = 15 ∨ i = 16 ∨ i = 17 ∨ i = 18 ∨ i = 19 ∨ i = 20 ∨ i = 21 ∨ i = 22 ∨ i = 23 ∨ i = 24 ∨ i = 25 ∨ i = 26 := by omega
def IQ (w : World) (B b1 b2 : Nat) (C : Array Value) (s : Bd) (v : Value) (l1 : List UInt8) (A : Act) (s' : Array Bool) (a : Act) (y : World) : Prop := s'.size = 27 ∧ FQ A a ∧ ∃ v' : Value, True
  ∧ (s'.getD 0 false = true → a.eval (.tmp 29) = v)
  ∧ (s'.getD 1 false = true → a.eval (.tmp 30) = .pointer (some ⟨b1, 16, none⟩))
  ∧ (s'.getD 2 false = true → a.eval (.tmp 31) = byV s.d)
  ∧ (s'.getD 3 false = true → a.eval (.tmp 32) = .pointer (some ⟨b1, 17, none⟩))
  ∧ (s'.getD 4 false = true → a.eval (.tmp 33) = .bool s.df)
  ∧ (s'.getD 5 false = true → a.eval (.tmp 34) = .int .u8 ((flB s.df).toNat : Int))
  ∧ (s'.getD 6 false = true → a.eval (.tmp 35) = .pointer (some ⟨b1, 18, none⟩))
  ∧ (s'.getD 7 false = true → a.eval (.tmp 36) = byV s.p)
  ∧ (s'.getD 8 false = true → a.eval (.tmp 37) = .pointer (some ⟨b1, 19, none⟩))
  ∧ (s'.getD 9 false = true → a.eval (.tmp 38) = byV s.x)
  ∧ (s'.getD 10 false = true → a.eval (.tmp 39) = .pointer (some ⟨b1, 20, none⟩))
  ∧ (s'.getD 11 false = true → a.eval (.tmp 40) = byV s.t)
  ∧ (s'.getD 12 false = true → a.eval (.tmp 41) = .pointer (some ⟨b1, 21, none⟩))
  ∧ (s'.getD 13 false = true → a.eval (.tmp 42) = .bool s.ie)
  ∧ (s'.getD 14 false = true → a.eval (.tmp 43) = .int .u8 ((flB s.ie).toNat : Int))
  ∧ (s'.getD 15 false = true → a.eval (.tmp 44) = .pointer (some ⟨b1, 22, none⟩))
  ∧ (s'.getD 16 false = true → a.eval (.tmp 45) = .bool s.q)
  ∧ (s'.getD 17 false = true → a.eval (.tmp 46) = .int .u8 ((flB s.q).toNat : Int))
  ∧ (s'.getD 18 false = true → a.eval (.tmp 47) = .pointer (some ⟨b1, 23, none⟩))
  ∧ (s'.getD 19 false = true → a.eval (.tmp 48) = byV s.op)
  ∧ (s'.getD 20 false = true → a.eval (.tmp 49) = .pointer (some ⟨b1, 24, none⟩))
  ∧ (s'.getD 21 false = true → a.eval (.tmp 50) = byV s.b)
  ∧ (s'.getD 22 false = true → a.eval (.tmp 51) = .pointer (some ⟨b1, 25, none⟩))
  ∧ (s'.getD 23 false = true → a.eval (.tmp 52) = byV s.ph)
  ∧ (s'.getD 24 false = true → s'.getD 25 false = false → ∃ g, a.eval (.tmp 53) = .slice (some ⟨g, 0, none⟩) 10 10 ∧ LB y (some ⟨g, 0, none⟩) [s.d, flB s.df, s.p, s.x, s.t, flB s.ie, flB s.q, s.op, s.b, s.ph])
  ∧ (s'.getD 25 false = false → SvK w B b1 b2 C s v l1 y)
  ∧ (s'.getD 25 false = true → SvK w B b1 b2 C s v' (l1 ++ [s.d, flB s.df, s.p, s.x, s.t, flB s.ie, flB s.q, s.op, s.b, s.ph]) y)
  ∧ (s'.getD 25 false = true → a.eval (.tmp 54) = v')
  ∧ (s'.getD 26 false = true → a.eval (.tmp 7) = v')
  ∧ (s'.getD 26 false = false → a.eval (.tmp 7) = v)
  ∧ (s'.getD 26 false = true → s'.getD 25 false = true ∧ s'.getD 0 false = true)
  ∧ (s'.getD 25 false = true → s'.getD 24 false = true)
theorem regQ {ops : Array Oper} {Q : Exit → Act → World → Prop} {id : Nat} {A : Act} {y0 : World} (w : World) (B b1 b2 : Nat) (C : Array Value) (s : Bd) (v : Value) (l1 : List UInt8)  (hl : l1.length ≤ 10000000000) (hsz : ops.size = 27) (hu : upB .any ops = true)
    (o0 : OpA ops 0 (some 29) (.move (.tmp 7)) [])
    (o1 : OpA ops 1 (some 30) (.fieldAddr 26 (.tmp 5) 1) [])
    (o2 : OpA ops 2 (some 31) (.load 5 (.tmp 30)) [1])
    (o3 : OpA ops 3 (some 32) (.fieldAddr 26 (.tmp 5) 2) [])
    (o4 : OpA ops 4 (some 33) (.load 4 (.tmp 32)) [3])
    (o5 : OpA ops 5 (some 34) (.call { callee := .value (.func 21), args := #[.tmp 33], argTypes := #[4] }) [4])
    (o6 : OpA ops 6 (some 35) (.fieldAddr 26 (.tmp 5) 3) [])
    (o7 : OpA ops 7 (some 36) (.load 5 (.tmp 35)) [6])
    (o8 : OpA ops 8 (some 37) (.fieldAddr 26 (.tmp 5) 4) [])
    (o9 : OpA ops 9 (some 38) (.load 5 (.tmp 37)) [8])
    (o10 : OpA ops 10 (some 39) (.fieldAddr 26 (.tmp 5) 5) [])
    (o11 : OpA ops 11 (some 40) (.load 5 (.tmp 39)) [10])
    (o12 : OpA ops 12 (some 41) (.fieldAddr 26 (.tmp 5) 6) [])
    (o13 : OpA ops 13 (some 42) (.load 4 (.tmp 41)) [12])
    (o14 : OpA ops 14 (some 43) (.call { callee := .value (.func 21), args := #[.tmp 42], argTypes := #[4] }) [13])
    (o15 : OpA ops 15 (some 44) (.fieldAddr 26 (.tmp 5) 7) [])
    (o16 : OpA ops 16 (some 45) (.load 4 (.tmp 44)) [15])
    (o17 : OpA ops 17 (some 46) (.call { callee := .value (.func 21), args := #[.tmp 45], argTypes := #[4] }) [16])
    (o18 : OpA ops 18 (some 47) (.fieldAddr 26 (.tmp 5) 8) [])
    (o19 : OpA ops 19 (some 48) (.load 5 (.tmp 47)) [18])
    (o20 : OpA ops 20 (some 49) (.fieldAddr 26 (.tmp 5) 9) [])
    (o21 : OpA ops 21 (some 50) (.load 5 (.tmp 49)) [20])
    (o22 : OpA ops 22 (some 51) (.fieldAddr 26 (.tmp 5) 10) [])
    (o23 : OpA ops 23 (some 52) (.load 24 (.tmp 51)) [22])
    (o24 : OpA ops 24 (some 53) (.buildSlice 31 10 #[(0, .tmp 31), (1, .tmp 34), (2, .tmp 36), (3, .tmp 38), (4, .tmp 40), (5, .tmp 43), (6, .tmp 46), (7, .tmp 48), (8, .tmp 50), (9, .tmp 52)]) [2, 5, 7, 9, 11, 14, 17, 19, 21, 23])
    (o25 : OpA ops 25 (some 54) (.call { callee := .builtin .append, args := #[.tmp 29, .tmp 53], argTypes := #[31, 31] }) [0, 24])
    (o26 : OpA ops 26 (some 7) (.assign (.tmp 54)) [25, 0])
    (ht : A.tmps.size = 100) (e7 : A.eval (.tmp 7) = v) (e5 : A.eval (.tmp 5) = .pointer (some ⟨b1, 0, none⟩)) (e6 : A.eval (.tmp 6) = .pointer (some ⟨b2, 0, none⟩)) (e1 : A.eval (.tmp 1) = .pointer (some ⟨w.heap.size, 0, none⟩)) (h0 : SvK w B b1 b2 C s v l1 y0)
    (fin : ∀ (y : World) (v' : Value) (v29 v30 v31 v32 v33 v34 v35 v36 v37 v38 v39 v40 v41 v42 v43 v44 v45 v46 v47 v48 v49 v50 v51 v52 v53 v54 : Value), Hid (SvK w B b1 b2 C s v' (l1 ++ [s.d, flB s.df, s.p, s.x, s.t, flB s.ie, flB s.q, s.op, s.b, s.ph]) y) → Q .normal (actQ A v' v29 v30 v31 v32 v33 v34 v35 v36 v37 v38 v39 v40 v41 v42 v43 v44 v45 v46 v47 v48 v49 v50 v51 v52 v53 v54) y) : (Code.region id ops true).wp Tryz.prog Q A y0 := by
  refine region_inv2 (IQ w B b1 b2 C s v l1 A) (by kernel_rfl) hu (fun s' a y h => by rw [h.1, hsz]) ?_ ?_ ?_
  · rw [hsz]
    refine ⟨rfl, ⟨rfl, rfl, fun _ _ => rfl⟩, undef, trivial, fun h => absurd h (by decide), fun h => absurd h (by decide), fun h => absurd h (by decide), fun h => absurd h (by decide), fun h => absurd h (by decide), fun h => absurd h (by decide), fun h => absurd h (by decide), fun h => absurd h (by decide), fun h => absurd h (by decide), fun h => absurd h (by decide), fun h => absurd h (by decide), fun h => absurd h (by decide), fun h => absurd h (by decide), fun h => absurd h (by decide), fun h => absurd h (by decide), fun h => absurd h (by decide), fun h => absurd h (by decide), fun h => absurd h (by decide), fun h => absurd h (by decide), fun h => absurd h (by decide), fun h => absurd h (by decide), fun h => absurd h (by decide), fun h => absurd h (by decide), fun h => absurd h (by decide), fun h _ => absurd h (by decide), fun _ => h0.drew, fun h => absurd h (by decide), fun h => absurd h (by decide), fun h => absurd h (by decide), fun _ => e7, fun h => absurd h (by decide), fun h => absurd h (by decide)⟩
  · intro s' a y k o' hI' hoi hnd haf
    have hi : k < 27 := by rw [← hsz]; exact (Array.getElem?_eq_some_iff.1 hoi).1
    obtain ⟨hs', hfr, v', _, c0, c1, c2, c3, c4, c5, c6, c7, c8, c9, c10, c11, c12, c13, c14, c15, c16, c17, c18, c19, c20, c21, c22, c23, c24, m0, m1, c25, c26, e7n, d26, d25⟩ := hI'
    have hta : a.tmps.size = 100 := by rw [hfr.sz]; exact ht
    have a5 := (hfr.ev 5 (by decide)).trans e5
    have a6 := (hfr.ev 6 (by decide)).trans e6
    have a1 := (hfr.ev 1 (by decide)).trans e1
    have hset : ∀ j, (s'.setIfInBounds k true).getD j false = if j = k then true else s'.getD j false := fun j => getD_set s' k j (by omega)
    have hsz' : (s'.setIfInBounds k true).size = 27 := by simpa using hs'
    have up : ∀ j b, j ≠ k → (s'.setIfInBounds k true).getD j false = b → s'.getD j false = b := fun j b hj h => by rw [hset, if_neg hj] at h; exact h
    rcases ltQ hi with rfl | rfl | rfl | rfl | rfl | rfl | rfl | rfl | rfl | rfl | rfl | rfl | rfl | rfl | rfl | rfl | rfl | rfl | rfl | rfl | rfl | rfl | rfl | rfl | rfl | rfl | rfl
    · obtain ⟨o1', ho', og, od, oo, ow⟩ := o0
      rw [ho'] at hoi
      injection hoi with hoi
      subst hoi
      have ns0 : s'.getD 26 false = false := by
        rcases hh : s'.getD 26 false with _ | _
        · rfl
        · rw [(d26 hh).2] at hnd; cases hnd
      have q7 := e7n ns0
      refine wpOp_val (v) ho' og ?_ ?_
      · unfold execOp; simp only [oo, q7, Sem.run_pure]
      · rw [od]
        exact ⟨hsz', hfr.put 29 _ (by decide), v', trivial, fun _ => ev_eq (by rw [hta]; decide), fun h0 => by rw [ev_ne (by decide)]; exact c1 (up 1 _ (by decide) h0), fun h0 => by rw [ev_ne (by decide)]; exact c2 (up 2 _ (by decide) h0), fun h0 => by rw [ev_ne (by decide)]; exact c3 (up 3 _ (by decide) h0), fun h0 => by rw [ev_ne (by decide)]; exact c4 (up 4 _ (by decide) h0), fun h0 => by rw [ev_ne (by decide)]; exact c5 (up 5 _ (by decide) h0), fun h0 => by rw [ev_ne (by decide)]; exact c6 (up 6 _ (by decide) h0), fun h0 => by rw [ev_ne (by decide)]; exact c7 (up 7 _ (by decide) h0), fun h0 => by rw [ev_ne (by decide)]; exact c8 (up 8 _ (by decide) h0), fun h0 => by rw [ev_ne (by decide)]; exact c9 (up 9 _ (by decide) h0), fun h0 => by rw [ev_ne (by decide)]; exact c10 (up 10 _ (by decide) h0), fun h0 => by rw [ev_ne (by decide)]; exact c11 (up 11 _ (by decide) h0), fun h0 => by rw [ev_ne (by decide)]; exact c12 (up 12 _ (by decide) h0), fun h0 => by rw [ev_ne (by decide)]; exact c13 (up 13 _ (by decide) h0), fun h0 => by rw [ev_ne (by decide)]; exact c14 (up 14 _ (by decide) h0), fun h0 => by rw [ev_ne (by decide)]; exact c15 (up 15 _ (by decide) h0), fun h0 => by rw [ev_ne (by decide)]; exact c16 (up 16 _ (by decide) h0), fun h0 => by rw [ev_ne (by decide)]; exact c17 (up 17 _ (by decide) h0), fun h0 => by rw [ev_ne (by decide)]; exact c18 (up 18 _ (by decide) h0), fun h0 => by rw [ev_ne (by decide)]; exact c19 (up 19 _ (by decide) h0), fun h0 => by rw [ev_ne (by decide)]; exact c20 (up 20 _ (by decide) h0), fun h0 => by rw [ev_ne (by decide)]; exact c21 (up 21 _ (by decide) h0), fun h0 => by rw [ev_ne (by decide)]; exact c22 (up 22 _ (by decide) h0), fun h0 => by rw [ev_ne (by decide)]; exact c23 (up 23 _ (by decide) h0), fun h0 h1 => by rw [ev_ne (by decide)]; exact c24 (up 24 _ (by decide) h0) (up 25 _ (by decide) h1), fun h0 => m0 (up 25 _ (by decide) h0), fun h0 => m1 (up 25 _ (by decide) h0), fun h0 => by rw [ev_ne (by decide)]; exact c25 (up 25 _ (by decide) h0), fun h0 => by rw [ev_ne (by decide)]; exact c26 (up 26 _ (by decide) h0), fun h0 => by rw [ev_ne (by decide)]; exact e7n (up 26 _ (by decide) h0), fun h0 => ⟨by rw [hset]; split; rfl; exact (d26 (up 26 _ (by decide) h0)).1, by rw [hset]; split; rfl; exact (d26 (up 26 _ (by decide) h0)).2⟩, fun h0 => by rw [hset]; split; rfl; exact d25 (up 25 _ (by decide) h0)⟩
    · obtain ⟨o1', ho', og, od, oo, ow⟩ := o1
      rw [ho'] at hoi
      injection hoi with hoi
      subst hoi
      refine wpOp_val (.pointer (some ⟨b1, 16, none⟩)) ho' og ?_ ?_
      · unfold execOp; simp only [oo, a5]; show _ = _; kernel_rfl
      · rw [od]
        exact ⟨hsz', hfr.put 30 _ (by decide), v', trivial, fun h0 => by rw [ev_ne (by decide)]; exact c0 (up 0 _ (by decide) h0), fun _ => ev_eq (by rw [hta]; decide), fun h0 => by rw [ev_ne (by decide)]; exact c2 (up 2 _ (by decide) h0), fun h0 => by rw [ev_ne (by decide)]; exact c3 (up 3 _ (by decide) h0), fun h0 => by rw [ev_ne (by decide)]; exact c4 (up 4 _ (by decide) h0), fun h0 => by rw [ev_ne (by decide)]; exact c5 (up 5 _ (by decide) h0), fun h0 => by rw [ev_ne (by decide)]; exact c6 (up 6 _ (by decide) h0), fun h0 => by rw [ev_ne (by decide)]; exact c7 (up 7 _ (by decide) h0), fun h0 => by rw [ev_ne (by decide)]; exact c8 (up 8 _ (by decide) h0), fun h0 => by rw [ev_ne (by decide)]; exact c9 (up 9 _ (by decide) h0), fun h0 => by rw [ev_ne (by decide)]; exact c10 (up 10 _ (by decide) h0), fun h0 => by rw [ev_ne (by decide)]; exact c11 (up 11 _ (by decide) h0), fun h0 => by rw [ev_ne (by decide)]; exact c12 (up 12 _ (by decide) h0), fun h0 => by rw [ev_ne (by decide)]; exact c13 (up 13 _ (by decide) h0), fun h0 => by rw [ev_ne (by decide)]; exact c14 (up 14 _ (by decide) h0), fun h0 => by rw [ev_ne (by decide)]; exact c15 (up 15 _ (by decide) h0), fun h0 => by rw [ev_ne (by decide)]; exact c16 (up 16 _ (by decide) h0), fun h0 => by rw [ev_ne (by decide)]; exact c17 (up 17 _ (by decide) h0), fun h0 => by rw [ev_ne (by decide)]; exact c18 (up 18 _ (by decide) h0), fun h0 => by rw [ev_ne (by decide)]; exact c19 (up 19 _ (by decide) h0), fun h0 => by rw [ev_ne (by decide)]; exact c20 (up 20 _ (by decide) h0), fun h0 => by rw [ev_ne (by decide)]; exact c21 (up 21 _ (by decide) h0), fun h0 => by rw [ev_ne (by decide)]; exact c22 (up 22 _ (by decide) h0), fun h0 => by rw [ev_ne (by decide)]; exact c23 (up 23 _ (by decide) h0), fun h0 h1 => by rw [ev_ne (by decide)]; exact c24 (up 24 _ (by decide) h0) (up 25 _ (by decide) h1), fun h0 => m0 (up 25 _ (by decide) h0), fun h0 => m1 (up 25 _ (by decide) h0), fun h0 => by rw [ev_ne (by decide)]; exact c25 (up 25 _ (by decide) h0), fun h0 => by rw [ev_ne (by decide)]; exact c26 (up 26 _ (by decide) h0), fun h0 => by rw [ev_ne (by decide)]; exact e7n (up 26 _ (by decide) h0), fun h0 => ⟨by rw [hset]; split; rfl; exact (d26 (up 26 _ (by decide) h0)).1, by rw [hset]; split; rfl; exact (d26 (up 26 _ (by decide) h0)).2⟩, fun h0 => by rw [hset]; split; rfl; exact d25 (up 25 _ (by decide) h0)⟩
    · obtain ⟨o1', ho', og, od, oo, ow⟩ := o2
      rw [ho'] at hoi
      injection hoi with hoi
      subst hoi
      have y1 : s'.getD 1 false = true := by
        obtain ⟨e, m', b, n'⟩ := ow 1 (by simp)
        have := haf e m' b
        rwa [n'] at this
      have hbx : Bx y w.heap.size C 34 ∧ Bx y b1 (cCs s) 26 ∧ Bx y b2 (rCs s) 28 := by
        rcases hh : s'.getD 25 false with _ | _
        · exact ⟨(m0 hh).x0, (m0 hh).x1, (m0 hh).x2⟩
        · exact ⟨(m1 hh).x0, (m1 hh).x1, (m1 hh).x2⟩
      have x := hbx.2.1.c 16 (byV s.d) (rfl)
      refine wpOp_val (byV s.d) ho' og ?_ ?_
      · unfold execOp; simp only [oo, c1 y1]; go_simp
      · rw [od]
        exact ⟨hsz', hfr.put 31 _ (by decide), v', trivial, fun h0 => by rw [ev_ne (by decide)]; exact c0 (up 0 _ (by decide) h0), fun h0 => by rw [ev_ne (by decide)]; exact c1 (up 1 _ (by decide) h0), fun _ => ev_eq (by rw [hta]; decide), fun h0 => by rw [ev_ne (by decide)]; exact c3 (up 3 _ (by decide) h0), fun h0 => by rw [ev_ne (by decide)]; exact c4 (up 4 _ (by decide) h0), fun h0 => by rw [ev_ne (by decide)]; exact c5 (up 5 _ (by decide) h0), fun h0 => by rw [ev_ne (by decide)]; exact c6 (up 6 _ (by decide) h0), fun h0 => by rw [ev_ne (by decide)]; exact c7 (up 7 _ (by decide) h0), fun h0 => by rw [ev_ne (by decide)]; exact c8 (up 8 _ (by decide) h0), fun h0 => by rw [ev_ne (by decide)]; exact c9 (up 9 _ (by decide) h0), fun h0 => by rw [ev_ne (by decide)]; exact c10 (up 10 _ (by decide) h0), fun h0 => by rw [ev_ne (by decide)]; exact c11 (up 11 _ (by decide) h0), fun h0 => by rw [ev_ne (by decide)]; exact c12 (up 12 _ (by decide) h0), fun h0 => by rw [ev_ne (by decide)]; exact c13 (up 13 _ (by decide) h0), fun h0 => by rw [ev_ne (by decide)]; exact c14 (up 14 _ (by decide) h0), fun h0 => by rw [ev_ne (by decide)]; exact c15 (up 15 _ (by decide) h0), fun h0 => by rw [ev_ne (by decide)]; exact c16 (up 16 _ (by decide) h0), fun h0 => by rw [ev_ne (by decide)]; exact c17 (up 17 _ (by decide) h0), fun h0 => by rw [ev_ne (by decide)]; exact c18 (up 18 _ (by decide) h0), fun h0 => by rw [ev_ne (by decide)]; exact c19 (up 19 _ (by decide) h0), fun h0 => by rw [ev_ne (by decide)]; exact c20 (up 20 _ (by decide) h0), fun h0 => by rw [ev_ne (by decide)]; exact c21 (up 21 _ (by decide) h0), fun h0 => by rw [ev_ne (by decide)]; exact c22 (up 22 _ (by decide) h0), fun h0 => by rw [ev_ne (by decide)]; exact c23 (up 23 _ (by decide) h0), fun h0 h1 => by rw [ev_ne (by decide)]; exact c24 (up 24 _ (by decide) h0) (up 25 _ (by decide) h1), fun h0 => m0 (up 25 _ (by decide) h0), fun h0 => m1 (up 25 _ (by decide) h0), fun h0 => by rw [ev_ne (by decide)]; exact c25 (up 25 _ (by decide) h0), fun h0 => by rw [ev_ne (by decide)]; exact c26 (up 26 _ (by decide) h0), fun h0 => by rw [ev_ne (by decide)]; exact e7n (up 26 _ (by decide) h0), fun h0 => ⟨by rw [hset]; split; rfl; exact (d26 (up 26 _ (by decide) h0)).1, by rw [hset]; split; rfl; exact (d26 (up 26 _ (by decide) h0)).2⟩, fun h0 => by rw [hset]; split; rfl; exact d25 (up 25 _ (by decide) h0)⟩
    · obtain ⟨o1', ho', og, od, oo, ow⟩ := o3
      rw [ho'] at hoi
      injection hoi with hoi
      subst hoi
      refine wpOp_val (.pointer (some ⟨b1, 17, none⟩)) ho' og ?_ ?_
      · unfold execOp; simp only [oo, a5]; show _ = _; kernel_rfl
      · rw [od]
        exact ⟨hsz', hfr.put 32 _ (by decide), v', trivial, fun h0 => by rw [ev_ne (by decide)]; exact c0 (up 0 _ (by decide) h0), fun h0 => by rw [ev_ne (by decide)]; exact c1 (up 1 _ (by decide) h0), fun h0 => by rw [ev_ne (by decide)]; exact c2 (up 2 _ (by decide) h0), fun _ => ev_eq (by rw [hta]; decide), fun h0 => by rw [ev_ne (by decide)]; exact c4 (up 4 _ (by decide) h0), fun h0 => by rw [ev_ne (by decide)]; exact c5 (up 5 _ (by decide) h0), fun h0 => by rw [ev_ne (by decide)]; exact c6 (up 6 _ (by decide) h0), fun h0 => by rw [ev_ne (by decide)]; exact c7 (up 7 _ (by decide) h0), fun h0 => by rw [ev_ne (by decide)]; exact c8 (up 8 _ (by decide) h0), fun h0 => by rw [ev_ne (by decide)]; exact c9 (up 9 _ (by decide) h0), fun h0 => by rw [ev_ne (by decide)]; exact c10 (up 10 _ (by decide) h0), fun h0 => by rw [ev_ne (by decide)]; exact c11 (up 11 _ (by decide) h0), fun h0 => by rw [ev_ne (by decide)]; exact c12 (up 12 _ (by decide) h0), fun h0 => by rw [ev_ne (by decide)]; exact c13 (up 13 _ (by decide) h0), fun h0 => by rw [ev_ne (by decide)]; exact c14 (up 14 _ (by decide) h0), fun h0 => by rw [ev_ne (by decide)]; exact c15 (up 15 _ (by decide) h0), fun h0 => by rw [ev_ne (by decide)]; exact c16 (up 16 _ (by decide) h0), fun h0 => by rw [ev_ne (by decide)]; exact c17 (up 17 _ (by decide) h0), fun h0 => by rw [ev_ne (by decide)]; exact c18 (up 18 _ (by decide) h0), fun h0 => by rw [ev_ne (by decide)]; exact c19 (up 19 _ (by decide) h0), fun h0 => by rw [ev_ne (by decide)]; exact c20 (up 20 _ (by decide) h0), fun h0 => by rw [ev_ne (by decide)]; exact c21 (up 21 _ (by decide) h0), fun h0 => by rw [ev_ne (by decide)]; exact c22 (up 22 _ (by decide) h0), fun h0 => by rw [ev_ne (by decide)]; exact c23 (up 23 _ (by decide) h0), fun h0 h1 => by rw [ev_ne (by decide)]; exact c24 (up 24 _ (by decide) h0) (up 25 _ (by decide) h1), fun h0 => m0 (up 25 _ (by decide) h0), fun h0 => m1 (up 25 _ (by decide) h0), fun h0 => by rw [ev_ne (by decide)]; exact c25 (up 25 _ (by decide) h0), fun h0 => by rw [ev_ne (by decide)]; exact c26 (up 26 _ (by decide) h0), fun h0 => by rw [ev_ne (by decide)]; exact e7n (up 26 _ (by decide) h0), fun h0 => ⟨by rw [hset]; split; rfl; exact (d26 (up 26 _ (by decide) h0)).1, by rw [hset]; split; rfl; exact (d26 (up 26 _ (by decide) h0)).2⟩, fun h0 => by rw [hset]; split; rfl; exact d25 (up 25 _ (by decide) h0)⟩
    · obtain ⟨o1', ho', og, od, oo, ow⟩ := o4
      rw [ho'] at hoi
      injection hoi with hoi
      subst hoi
      have y3 : s'.getD 3 false = true := by
        obtain ⟨e, m', b, n'⟩ := ow 3 (by simp)
        have := haf e m' b
        rwa [n'] at this
      have hbx : Bx y w.heap.size C 34 ∧ Bx y b1 (cCs s) 26 ∧ Bx y b2 (rCs s) 28 := by
        rcases hh : s'.getD 25 false with _ | _
        · exact ⟨(m0 hh).x0, (m0 hh).x1, (m0 hh).x2⟩
        · exact ⟨(m1 hh).x0, (m1 hh).x1, (m1 hh).x2⟩
      have x := hbx.2.1.c 17 (.bool s.df) (rfl)
      refine wpOp_val (.bool s.df) ho' og ?_ ?_
      · unfold execOp; simp only [oo, c3 y3]; go_simp
      · rw [od]
        exact ⟨hsz', hfr.put 33 _ (by decide), v', trivial, fun h0 => by rw [ev_ne (by decide)]; exact c0 (up 0 _ (by decide) h0), fun h0 => by rw [ev_ne (by decide)]; exact c1 (up 1 _ (by decide) h0), fun h0 => by rw [ev_ne (by decide)]; exact c2 (up 2 _ (by decide) h0), fun h0 => by rw [ev_ne (by decide)]; exact c3 (up 3 _ (by decide) h0), fun _ => ev_eq (by rw [hta]; decide), fun h0 => by rw [ev_ne (by decide)]; exact c5 (up 5 _ (by decide) h0), fun h0 => by rw [ev_ne (by decide)]; exact c6 (up 6 _ (by decide) h0), fun h0 => by rw [ev_ne (by decide)]; exact c7 (up 7 _ (by decide) h0), fun h0 => by rw [ev_ne (by decide)]; exact c8 (up 8 _ (by decide) h0), fun h0 => by rw [ev_ne (by decide)]; exact c9 (up 9 _ (by decide) h0), fun h0 => by rw [ev_ne (by decide)]; exact c10 (up 10 _ (by decide) h0), fun h0 => by rw [ev_ne (by decide)]; exact c11 (up 11 _ (by decide) h0), fun h0 => by rw [ev_ne (by decide)]; exact c12 (up 12 _ (by decide) h0), fun h0 => by rw [ev_ne (by decide)]; exact c13 (up 13 _ (by decide) h0), fun h0 => by rw [ev_ne (by decide)]; exact c14 (up 14 _ (by decide) h0), fun h0 => by rw [ev_ne (by decide)]; exact c15 (up 15 _ (by decide) h0), fun h0 => by rw [ev_ne (by decide)]; exact c16 (up 16 _ (by decide) h0), fun h0 => by rw [ev_ne (by decide)]; exact c17 (up 17 _ (by decide) h0), fun h0 => by rw [ev_ne (by decide)]; exact c18 (up 18 _ (by decide) h0), fun h0 => by rw [ev_ne (by decide)]; exact c19 (up 19 _ (by decide) h0), fun h0 => by rw [ev_ne (by decide)]; exact c20 (up 20 _ (by decide) h0), fun h0 => by rw [ev_ne (by decide)]; exact c21 (up 21 _ (by decide) h0), fun h0 => by rw [ev_ne (by decide)]; exact c22 (up 22 _ (by decide) h0), fun h0 => by rw [ev_ne (by decide)]; exact c23 (up 23 _ (by decide) h0), fun h0 h1 => by rw [ev_ne (by decide)]; exact c24 (up 24 _ (by decide) h0) (up 25 _ (by decide) h1), fun h0 => m0 (up 25 _ (by decide) h0), fun h0 => m1 (up 25 _ (by decide) h0), fun h0 => by rw [ev_ne (by decide)]; exact c25 (up 25 _ (by decide) h0), fun h0 => by rw [ev_ne (by decide)]; exact c26 (up 26 _ (by decide) h0), fun h0 => by rw [ev_ne (by decide)]; exact e7n (up 26 _ (by decide) h0), fun h0 => ⟨by rw [hset]; split; rfl; exact (d26 (up 26 _ (by decide) h0)).1, by rw [hset]; split; rfl; exact (d26 (up 26 _ (by decide) h0)).2⟩, fun h0 => by rw [hset]; split; rfl; exact d25 (up 25 _ (by decide) h0)⟩
    · obtain ⟨o1', ho', og, od, oo, ow⟩ := o5
      rw [ho'] at hoi
      injection hoi with hoi
      subst hoi
      have y4 : s'.getD 4 false = true := by
        obtain ⟨e, m', b, n'⟩ := ow 4 (by simp)
        have := haf e m' b
        rwa [n'] at this
      have q1 := c4 y4
      refine wpOp_call 21 #[.bool s.df] _ ho' og ?_ (flag_any y s.df) ?_
      · have b1' : 33 < a.tmps.size := by rw [hta]; decide
        simp only [Act.eval, Array.getD_eq_getD_getElem?] at q1
        unfold execOp
        simp only [oo]
        go_simp
        simp only [Array.getElem?_eq_getElem b1', Option.getD_some] at q1
        exact q1
      · rintro x z ⟨rfl, rfl⟩
        refine ⟨_, rfl, ?_⟩
        rw [od]
        exact ⟨hsz', hfr.put 34 _ (by decide), v', trivial, fun h0 => by rw [ev_ne (by decide)]; exact c0 (up 0 _ (by decide) h0), fun h0 => by rw [ev_ne (by decide)]; exact c1 (up 1 _ (by decide) h0), fun h0 => by rw [ev_ne (by decide)]; exact c2 (up 2 _ (by decide) h0), fun h0 => by rw [ev_ne (by decide)]; exact c3 (up 3 _ (by decide) h0), fun h0 => by rw [ev_ne (by decide)]; exact c4 (up 4 _ (by decide) h0), fun _ => ev_eq (by rw [hta]; decide), fun h0 => by rw [ev_ne (by decide)]; exact c6 (up 6 _ (by decide) h0), fun h0 => by rw [ev_ne (by decide)]; exact c7 (up 7 _ (by decide) h0), fun h0 => by rw [ev_ne (by decide)]; exact c8 (up 8 _ (by decide) h0), fun h0 => by rw [ev_ne (by decide)]; exact c9 (up 9 _ (by decide) h0), fun h0 => by rw [ev_ne (by decide)]; exact c10 (up 10 _ (by decide) h0), fun h0 => by rw [ev_ne (by decide)]; exact c11 (up 11 _ (by decide) h0), fun h0 => by rw [ev_ne (by decide)]; exact c12 (up 12 _ (by decide) h0), fun h0 => by rw [ev_ne (by decide)]; exact c13 (up 13 _ (by decide) h0), fun h0 => by rw [ev_ne (by decide)]; exact c14 (up 14 _ (by decide) h0), fun h0 => by rw [ev_ne (by decide)]; exact c15 (up 15 _ (by decide) h0), fun h0 => by rw [ev_ne (by decide)]; exact c16 (up 16 _ (by decide) h0), fun h0 => by rw [ev_ne (by decide)]; exact c17 (up 17 _ (by decide) h0), fun h0 => by rw [ev_ne (by decide)]; exact c18 (up 18 _ (by decide) h0), fun h0 => by rw [ev_ne (by decide)]; exact c19 (up 19 _ (by decide) h0), fun h0 => by rw [ev_ne (by decide)]; exact c20 (up 20 _ (by decide) h0), fun h0 => by rw [ev_ne (by decide)]; exact c21 (up 21 _ (by decide) h0), fun h0 => by rw [ev_ne (by decide)]; exact c22 (up 22 _ (by decide) h0), fun h0 => by rw [ev_ne (by decide)]; exact c23 (up 23 _ (by decide) h0), fun h0 h1 => by rw [ev_ne (by decide)]; exact c24 (up 24 _ (by decide) h0) (up 25 _ (by decide) h1), fun h0 => m0 (up 25 _ (by decide) h0), fun h0 => m1 (up 25 _ (by decide) h0), fun h0 => by rw [ev_ne (by decide)]; exact c25 (up 25 _ (by decide) h0), fun h0 => by rw [ev_ne (by decide)]; exact c26 (up 26 _ (by decide) h0), fun h0 => by rw [ev_ne (by decide)]; exact e7n (up 26 _ (by decide) h0), fun h0 => ⟨by rw [hset]; split; rfl; exact (d26 (up 26 _ (by decide) h0)).1, by rw [hset]; split; rfl; exact (d26 (up 26 _ (by decide) h0)).2⟩, fun h0 => by rw [hset]; split; rfl; exact d25 (up 25 _ (by decide) h0)⟩
    · obtain ⟨o1', ho', og, od, oo, ow⟩ := o6
      rw [ho'] at hoi
      injection hoi with hoi
      subst hoi
      refine wpOp_val (.pointer (some ⟨b1, 18, none⟩)) ho' og ?_ ?_
      · unfold execOp; simp only [oo, a5]; show _ = _; kernel_rfl
      · rw [od]
        exact ⟨hsz', hfr.put 35 _ (by decide), v', trivial, fun h0 => by rw [ev_ne (by decide)]; exact c0 (up 0 _ (by decide) h0), fun h0 => by rw [ev_ne (by decide)]; exact c1 (up 1 _ (by decide) h0), fun h0 => by rw [ev_ne (by decide)]; exact c2 (up 2 _ (by decide) h0), fun h0 => by rw [ev_ne (by decide)]; exact c3 (up 3 _ (by decide) h0), fun h0 => by rw [ev_ne (by decide)]; exact c4 (up 4 _ (by decide) h0), fun h0 => by rw [ev_ne (by decide)]; exact c5 (up 5 _ (by decide) h0), fun _ => ev_eq (by rw [hta]; decide), fun h0 => by rw [ev_ne (by decide)]; exact c7 (up 7 _ (by decide) h0), fun h0 => by rw [ev_ne (by decide)]; exact c8 (up 8 _ (by decide) h0), fun h0 => by rw [ev_ne (by decide)]; exact c9 (up 9 _ (by decide) h0), fun h0 => by rw [ev_ne (by decide)]; exact c10 (up 10 _ (by decide) h0), fun h0 => by rw [ev_ne (by decide)]; exact c11 (up 11 _ (by decide) h0), fun h0 => by rw [ev_ne (by decide)]; exact c12 (up 12 _ (by decide) h0), fun h0 => by rw [ev_ne (by decide)]; exact c13 (up 13 _ (by decide) h0), fun h0 => by rw [ev_ne (by decide)]; exact c14 (up 14 _ (by decide) h0), fun h0 => by rw [ev_ne (by decide)]; exact c15 (up 15 _ (by decide) h0), fun h0 => by rw [ev_ne (by decide)]; exact c16 (up 16 _ (by decide) h0), fun h0 => by rw [ev_ne (by decide)]; exact c17 (up 17 _ (by decide) h0), fun h0 => by rw [ev_ne (by decide)]; exact c18 (up 18 _ (by decide) h0), fun h0 => by rw [ev_ne (by decide)]; exact c19 (up 19 _ (by decide) h0), fun h0 => by rw [ev_ne (by decide)]; exact c20 (up 20 _ (by decide) h0), fun h0 => by rw [ev_ne (by decide)]; exact c21 (up 21 _ (by decide) h0), fun h0 => by rw [ev_ne (by decide)]; exact c22 (up 22 _ (by decide) h0), fun h0 => by rw [ev_ne (by decide)]; exact c23 (up 23 _ (by decide) h0), fun h0 h1 => by rw [ev_ne (by decide)]; exact c24 (up 24 _ (by decide) h0) (up 25 _ (by decide) h1), fun h0 => m0 (up 25 _ (by decide) h0), fun h0 => m1 (up 25 _ (by decide) h0), fun h0 => by rw [ev_ne (by decide)]; exact c25 (up 25 _ (by decide) h0), fun h0 => by rw [ev_ne (by decide)]; exact c26 (up 26 _ (by decide) h0), fun h0 => by rw [ev_ne (by decide)]; exact e7n (up 26 _ (by decide) h0), fun h0 => ⟨by rw [hset]; split; rfl; exact (d26 (up 26 _ (by decide) h0)).1, by rw [hset]; split; rfl; exact (d26 (up 26 _ (by decide) h0)).2⟩, fun h0 => by rw [hset]; split; rfl; exact d25 (up 25 _ (by decide) h0)⟩
    · obtain ⟨o1', ho', og, od, oo, ow⟩ := o7
      rw [ho'] at hoi
      injection hoi with hoi
      subst hoi
      have y6 : s'.getD 6 false = true := by
        obtain ⟨e, m', b, n'⟩ := ow 6 (by simp)
        have := haf e m' b
        rwa [n'] at this
      have hbx : Bx y w.heap.size C 34 ∧ Bx y b1 (cCs s) 26 ∧ Bx y b2 (rCs s) 28 := by
        rcases hh : s'.getD 25 false with _ | _
        · exact ⟨(m0 hh).x0, (m0 hh).x1, (m0 hh).x2⟩
        · exact ⟨(m1 hh).x0, (m1 hh).x1, (m1 hh).x2⟩
      have x := hbx.2.1.c 18 (byV s.p) (rfl)
      refine wpOp_val (byV s.p) ho' og ?_ ?_
      · unfold execOp; simp only [oo, c6 y6]; go_simp
      · rw [od]
        exact ⟨hsz', hfr.put 36 _ (by decide), v', trivial, fun h0 => by rw [ev_ne (by decide)]; exact c0 (up 0 _ (by decide) h0), fun h0 => by rw [ev_ne (by decide)]; exact c1 (up 1 _ (by decide) h0), fun h0 => by rw [ev_ne (by decide)]; exact c2 (up 2 _ (by decide) h0), fun h0 => by rw [ev_ne (by decide)]; exact c3 (up 3 _ (by decide) h0), fun h0 => by rw [ev_ne (by decide)]; exact c4 (up 4 _ (by decide) h0), fun h0 => by rw [ev_ne (by decide)]; exact c5 (up 5 _ (by decide) h0), fun h0 => by rw [ev_ne (by decide)]; exact c6 (up 6 _ (by decide) h0), fun _ => ev_eq (by rw [hta]; decide), fun h0 => by rw [ev_ne (by decide)]; exact c8 (up 8 _ (by decide) h0), fun h0 => by rw [ev_ne (by decide)]; exact c9 (up 9 _ (by decide) h0), fun h0 => by rw [ev_ne (by decide)]; exact c10 (up 10 _ (by decide) h0), fun h0 => by rw [ev_ne (by decide)]; exact c11 (up 11 _ (by decide) h0), fun h0 => by rw [ev_ne (by decide)]; exact c12 (up 12 _ (by decide) h0), fun h0 => by rw [ev_ne (by decide)]; exact c13 (up 13 _ (by decide) h0), fun h0 => by rw [ev_ne (by decide)]; exact c14 (up 14 _ (by decide) h0), fun h0 => by rw [ev_ne (by decide)]; exact c15 (up 15 _ (by decide) h0), fun h0 => by rw [ev_ne (by decide)]; exact c16 (up 16 _ (by decide) h0), fun h0 => by rw [ev_ne (by decide)]; exact c17 (up 17 _ (by decide) h0), fun h0 => by rw [ev_ne (by decide)]; exact c18 (up 18 _ (by decide) h0), fun h0 => by rw [ev_ne (by decide)]; exact c19 (up 19 _ (by decide) h0), fun h0 => by rw [ev_ne (by decide)]; exact c20 (up 20 _ (by decide) h0), fun h0 => by rw [ev_ne (by decide)]; exact c21 (up 21 _ (by decide) h0), fun h0 => by rw [ev_ne (by decide)]; exact c22 (up 22 _ (by decide) h0), fun h0 => by rw [ev_ne (by decide)]; exact c23 (up 23 _ (by decide) h0), fun h0 h1 => by rw [ev_ne (by decide)]; exact c24 (up 24 _ (by decide) h0) (up 25 _ (by decide) h1), fun h0 => m0 (up 25 _ (by decide) h0), fun h0 => m1 (up 25 _ (by decide) h0), fun h0 => by rw [ev_ne (by decide)]; exact c25 (up 25 _ (by decide) h0), fun h0 => by rw [ev_ne (by decide)]; exact c26 (up 26 _ (by decide) h0), fun h0 => by rw [ev_ne (by decide)]; exact e7n (up 26 _ (by decide) h0), fun h0 => ⟨by rw [hset]; split; rfl; exact (d26 (up 26 _ (by decide) h0)).1, by rw [hset]; split; rfl; exact (d26 (up 26 _ (by decide) h0)).2⟩, fun h0 => by rw [hset]; split; rfl; exact d25 (up 25 _ (by decide) h0)⟩
    · obtain ⟨o1', ho', og, od, oo, ow⟩ := o8
      rw [ho'] at hoi
      injection hoi with hoi
      subst hoi
      refine wpOp_val (.pointer (some ⟨b1, 19, none⟩)) ho' og ?_ ?_
      · unfold execOp; simp only [oo, a5]; show _ = _; kernel_rfl
      · rw [od]
        exact ⟨hsz', hfr.put 37 _ (by decide), v', trivial, fun h0 => by rw [ev_ne (by decide)]; exact c0 (up 0 _ (by decide) h0), fun h0 => by rw [ev_ne (by decide)]; exact c1 (up 1 _ (by decide) h0), fun h0 => by rw [ev_ne (by decide)]; exact c2 (up 2 _ (by decide) h0), fun h0 => by rw [ev_ne (by decide)]; exact c3 (up 3 _ (by decide) h0), fun h0 => by rw [ev_ne (by decide)]; exact c4 (up 4 _ (by decide) h0), fun h0 => by rw [ev_ne (by decide)]; exact c5 (up 5 _ (by decide) h0), fun h0 => by rw [ev_ne (by decide)]; exact c6 (up 6 _ (by decide) h0), fun h0 => by rw [ev_ne (by decide)]; exact c7 (up 7 _ (by decide) h0), fun _ => ev_eq (by rw [hta]; decide), fun h0 => by rw [ev_ne (by decide)]; exact c9 (up 9 _ (by decide) h0), fun h0 => by rw [ev_ne (by decide)]; exact c10 (up 10 _ (by decide) h0), fun h0 => by rw [ev_ne (by decide)]; exact c11 (up 11 _ (by decide) h0), fun h0 => by rw [ev_ne (by decide)]; exact c12 (up 12 _ (by decide) h0), fun h0 => by rw [ev_ne (by decide)]; exact c13 (up 13 _ (by decide) h0), fun h0 => by rw [ev_ne (by decide)]; exact c14 (up 14 _ (by decide) h0), fun h0 => by rw [ev_ne (by decide)]; exact c15 (up 15 _ (by decide) h0), fun h0 => by rw [ev_ne (by decide)]; exact c16 (up 16 _ (by decide) h0), fun h0 => by rw [ev_ne (by decide)]; exact c17 (up 17 _ (by decide) h0), fun h0 => by rw [ev_ne (by decide)]; exact c18 (up 18 _ (by decide) h0), fun h0 => by rw [ev_ne (by decide)]; exact c19 (up 19 _ (by decide) h0), fun h0 => by rw [ev_ne (by decide)]; exact c20 (up 20 _ (by decide) h0), fun h0 => by rw [ev_ne (by decide)]; exact c21 (up 21 _ (by decide) h0), fun h0 => by rw [ev_ne (by decide)]; exact c22 (up 22 _ (by decide) h0), fun h0 => by rw [ev_ne (by decide)]; exact c23 (up 23 _ (by decide) h0), fun h0 h1 => by rw [ev_ne (by decide)]; exact c24 (up 24 _ (by decide) h0) (up 25 _ (by decide) h1), fun h0 => m0 (up 25 _ (by decide) h0), fun h0 => m1 (up 25 _ (by decide) h0), fun h0 => by rw [ev_ne (by decide)]; exact c25 (up 25 _ (by decide) h0), fun h0 => by rw [ev_ne (by decide)]; exact c26 (up 26 _ (by decide) h0), fun h0 => by rw [ev_ne (by decide)]; exact e7n (up 26 _ (by decide) h0), fun h0 => ⟨by rw [hset]; split; rfl; exact (d26 (up 26 _ (by decide) h0)).1, by rw [hset]; split; rfl; exact (d26 (up 26 _ (by decide) h0)).2⟩, fun h0 => by rw [hset]; split; rfl; exact d25 (up 25 _ (by decide) h0)⟩
    · obtain ⟨o1', ho', og, od, oo, ow⟩ := o9
      rw [ho'] at hoi
      injection hoi with hoi
      subst hoi
      have y8 : s'.getD 8 false = true := by
        obtain ⟨e, m', b, n'⟩ := ow 8 (by simp)
        have := haf e m' b
        rwa [n'] at this
      have hbx : Bx y w.heap.size C 34 ∧ Bx y b1 (cCs s) 26 ∧ Bx y b2 (rCs s) 28 := by
        rcases hh : s'.getD 25 false with _ | _
        · exact ⟨(m0 hh).x0, (m0 hh).x1, (m0 hh).x2⟩
        · exact ⟨(m1 hh).x0, (m1 hh).x1, (m1 hh).x2⟩
      have x := hbx.2.1.c 19 (byV s.x) (rfl)
      refine wpOp_val (byV s.x) ho' og ?_ ?_
      · unfold execOp; simp only [oo, c8 y8]; go_simp
      · rw [od]
        exact ⟨hsz', hfr.put 38 _ (by decide), v', trivial, fun h0 => by rw [ev_ne (by decide)]; exact c0 (up 0 _ (by decide) h0), fun h0 => by rw [ev_ne (by decide)]; exact c1 (up 1 _ (by decide) h0), fun h0 => by rw [ev_ne (by decide)]; exact c2 (up 2 _ (by decide) h0), fun h0 => by rw [ev_ne (by decide)]; exact c3 (up 3 _ (by decide) h0), fun h0 => by rw [ev_ne (by decide)]; exact c4 (up 4 _ (by decide) h0), fun h0 => by rw [ev_ne (by decide)]; exact c5 (up 5 _ (by decide) h0), fun h0 => by rw [ev_ne (by decide)]; exact c6 (up 6 _ (by decide) h0), fun h0 => by rw [ev_ne (by decide)]; exact c7 (up 7 _ (by decide) h0), fun h0 => by rw [ev_ne (by decide)]; exact c8 (up 8 _ (by decide) h0), fun _ => ev_eq (by rw [hta]; decide), fun h0 => by rw [ev_ne (by decide)]; exact c10 (up 10 _ (by decide) h0), fun h0 => by rw [ev_ne (by decide)]; exact c11 (up 11 _ (by decide) h0), fun h0 => by rw [ev_ne (by decide)]; exact c12 (up 12 _ (by decide) h0), fun h0 => by rw [ev_ne (by decide)]; exact c13 (up 13 _ (by decide) h0), fun h0 => by rw [ev_ne (by decide)]; exact c14 (up 14 _ (by decide) h0), fun h0 => by rw [ev_ne (by decide)]; exact c15 (up 15 _ (by decide) h0), fun h0 => by rw [ev_ne (by decide)]; exact c16 (up 16 _ (by decide) h0), fun h0 => by rw [ev_ne (by decide)]; exact c17 (up 17 _ (by decide) h0), fun h0 => by rw [ev_ne (by decide)]; exact c18 (up 18 _ (by decide) h0), fun h0 => by rw [ev_ne (by decide)]; exact c19 (up 19 _ (by decide) h0), fun h0 => by rw [ev_ne (by decide)]; exact c20 (up 20 _ (by decide) h0), fun h0 => by rw [ev_ne (by decide)]; exact c21 (up 21 _ (by decide) h0), fun h0 => by rw [ev_ne (by decide)]; exact c22 (up 22 _ (by decide) h0), fun h0 => by rw [ev_ne (by decide)]; exact c23 (up 23 _ (by decide) h0), fun h0 h1 => by rw [ev_ne (by decide)]; exact c24 (up 24 _ (by decide) h0) (up 25 _ (by decide) h1), fun h0 => m0 (up 25 _ (by decide) h0), fun h0 => m1 (up 25 _ (by decide) h0), fun h0 => by rw [ev_ne (by decide)]; exact c25 (up 25 _ (by decide) h0), fun h0 => by rw [ev_ne (by decide)]; exact c26 (up 26 _ (by decide) h0), fun h0 => by rw [ev_ne (by decide)]; exact e7n (up 26 _ (by decide) h0), fun h0 => ⟨by rw [hset]; split; rfl; exact (d26 (up 26 _ (by decide) h0)).1, by rw [hset]; split; rfl; exact (d26 (up 26 _ (by decide) h0)).2⟩, fun h0 => by rw [hset]; split; rfl; exact d25 (up 25 _ (by decide) h0)⟩
    · obtain ⟨o1', ho', og, od, oo, ow⟩ := o10
      rw [ho'] at hoi
      injection hoi with hoi
      subst hoi
      refine wpOp_val (.pointer (some ⟨b1, 20, none⟩)) ho' og ?_ ?_
      · unfold execOp; simp only [oo, a5]; show _ = _; kernel_rfl
      · rw [od]
        exact ⟨hsz', hfr.put 39 _ (by decide), v', trivial, fun h0 => by rw [ev_ne (by decide)]; exact c0 (up 0 _ (by decide) h0), fun h0 => by rw [ev_ne (by decide)]; exact c1 (up 1 _ (by decide) h0), fun h0 => by rw [ev_ne (by decide)]; exact c2 (up 2 _ (by decide) h0), fun h0 => by rw [ev_ne (by decide)]; exact c3 (up 3 _ (by decide) h0), fun h0 => by rw [ev_ne (by decide)]; exact c4 (up 4 _ (by decide) h0), fun h0 => by rw [ev_ne (by decide)]; exact c5 (up 5 _ (by decide) h0), fun h0 => by rw [ev_ne (by decide)]; exact c6 (up 6 _ (by decide) h0), fun h0 => by rw [ev_ne (by decide)]; exact c7 (up 7 _ (by decide) h0), fun h0 => by rw [ev_ne (by decide)]; exact c8 (up 8 _ (by decide) h0), fun h0 => by rw [ev_ne (by decide)]; exact c9 (up 9 _ (by decide) h0), fun _ => ev_eq (by rw [hta]; decide), fun h0 => by rw [ev_ne (by decide)]; exact c11 (up 11 _ (by decide) h0), fun h0 => by rw [ev_ne (by decide)]; exact c12 (up 12 _ (by decide) h0), fun h0 => by rw [ev_ne (by decide)]; exact c13 (up 13 _ (by decide) h0), fun h0 => by rw [ev_ne (by decide)]; exact c14 (up 14 _ (by decide) h0), fun h0 => by rw [ev_ne (by decide)]; exact c15 (up 15 _ (by decide) h0), fun h0 => by rw [ev_ne (by decide)]; exact c16 (up 16 _ (by decide) h0), fun h0 => by rw [ev_ne (by decide)]; exact c17 (up 17 _ (by decide) h0), fun h0 => by rw [ev_ne (by decide)]; exact c18 (up 18 _ (by decide) h0), fun h0 => by rw [ev_ne (by decide)]; exact c19 (up 19 _ (by decide) h0), fun h0 => by rw [ev_ne (by decide)]; exact c20 (up 20 _ (by decide) h0), fun h0 => by rw [ev_ne (by decide)]; exact c21 (up 21 _ (by decide) h0), fun h0 => by rw [ev_ne (by decide)]; exact c22 (up 22 _ (by decide) h0), fun h0 => by rw [ev_ne (by decide)]; exact c23 (up 23 _ (by decide) h0), fun h0 h1 => by rw [ev_ne (by decide)]; exact c24 (up 24 _ (by decide) h0) (up 25 _ (by decide) h1), fun h0 => m0 (up 25 _ (by decide) h0), fun h0 => m1 (up 25 _ (by decide) h0), fun h0 => by rw [ev_ne (by decide)]; exact c25 (up 25 _ (by decide) h0), fun h0 => by rw [ev_ne (by decide)]; exact c26 (up 26 _ (by decide) h0), fun h0 => by rw [ev_ne (by decide)]; exact e7n (up 26 _ (by decide) h0), fun h0 => ⟨by rw [hset]; split; rfl; exact (d26 (up 26 _ (by decide) h0)).1, by rw [hset]; split; rfl; exact (d26 (up 26 _ (by decide) h0)).2⟩, fun h0 => by rw [hset]; split; rfl; exact d25 (up 25 _ (by decide) h0)⟩
    · obtain ⟨o1', ho', og, od, oo, ow⟩ := o11
      rw [ho'] at hoi
      injection hoi with hoi
      subst hoi
      have y10 : s'.getD 10 false = true := by
        obtain ⟨e, m', b, n'⟩ := ow 10 (by simp)
        have := haf e m' b
        rwa [n'] at this
      have hbx : Bx y w.heap.size C 34 ∧ Bx y b1 (cCs s) 26 ∧ Bx y b2 (rCs s) 28 := by
        rcases hh : s'.getD 25 false with _ | _
        · exact ⟨(m0 hh).x0, (m0 hh).x1, (m0 hh).x2⟩
        · exact ⟨(m1 hh).x0, (m1 hh).x1, (m1 hh).x2⟩
      have x := hbx.2.1.c 20 (byV s.t) (rfl)
      refine wpOp_val (byV s.t) ho' og ?_ ?_
      · unfold execOp; simp only [oo, c10 y10]; go_simp
      · rw [od]
        exact ⟨hsz', hfr.put 40 _ (by decide), v', trivial, fun h0 => by rw [ev_ne (by decide)]; exact c0 (up 0 _ (by decide) h0), fun h0 => by rw [ev_ne (by decide)]; exact c1 (up 1 _ (by decide) h0), fun h0 => by rw [ev_ne (by decide)]; exact c2 (up 2 _ (by decide) h0), fun h0 => by rw [ev_ne (by decide)]; exact c3 (up 3 _ (by decide) h0), fun h0 => by rw [ev_ne (by decide)]; exact c4 (up 4 _ (by decide) h0), fun h0 => by rw [ev_ne (by decide)]; exact c5 (up 5 _ (by decide) h0), fun h0 => by rw [ev_ne (by decide)]; exact c6 (up 6 _ (by decide) h0), fun h0 => by rw [ev_ne (by decide)]; exact c7 (up 7 _ (by decide) h0), fun h0 => by rw [ev_ne (by decide)]; exact c8 (up 8 _ (by decide) h0), fun h0 => by rw [ev_ne (by decide)]; exact c9 (up 9 _ (by decide) h0), fun h0 => by rw [ev_ne (by decide)]; exact c10 (up 10 _ (by decide) h0), fun _ => ev_eq (by rw [hta]; decide), fun h0 => by rw [ev_ne (by decide)]; exact c12 (up 12 _ (by decide) h0), fun h0 => by rw [ev_ne (by decide)]; exact c13 (up 13 _ (by decide) h0), fun h0 => by rw [ev_ne (by decide)]; exact c14 (up 14 _ (by decide) h0), fun h0 => by rw [ev_ne (by decide)]; exact c15 (up 15 _ (by decide) h0), fun h0 => by rw [ev_ne (by decide)]; exact c16 (up 16 _ (by decide) h0), fun h0 => by rw [ev_ne (by decide)]; exact c17 (up 17 _ (by decide) h0), fun h0 => by rw [ev_ne (by decide)]; exact c18 (up 18 _ (by decide) h0), fun h0 => by rw [ev_ne (by decide)]; exact c19 (up 19 _ (by decide) h0), fun h0 => by rw [ev_ne (by decide)]; exact c20 (up 20 _ (by decide) h0), fun h0 => by rw [ev_ne (by decide)]; exact c21 (up 21 _ (by decide) h0), fun h0 => by rw [ev_ne (by decide)]; exact c22 (up 22 _ (by decide) h0), fun h0 => by rw [ev_ne (by decide)]; exact c23 (up 23 _ (by decide) h0), fun h0 h1 => by rw [ev_ne (by decide)]; exact c24 (up 24 _ (by decide) h0) (up 25 _ (by decide) h1), fun h0 => m0 (up 25 _ (by decide) h0), fun h0 => m1 (up 25 _ (by decide) h0), fun h0 => by rw [ev_ne (by decide)]; exact c25 (up 25 _ (by decide) h0), fun h0 => by rw [ev_ne (by decide)]; exact c26 (up 26 _ (by decide) h0), fun h0 => by rw [ev_ne (by decide)]; exact e7n (up 26 _ (by decide) h0), fun h0 => ⟨by rw [hset]; split; rfl; exact (d26 (up 26 _ (by decide) h0)).1, by rw [hset]; split; rfl; exact (d26 (up 26 _ (by decide) h0)).2⟩, fun h0 => by rw [hset]; split; rfl; exact d25 (up 25 _ (by decide) h0)⟩
    · obtain ⟨o1', ho', og, od, oo, ow⟩ := o12
      rw [ho'] at hoi
      injection hoi with hoi
      subst hoi
      refine wpOp_val (.pointer (some ⟨b1, 21, none⟩)) ho' og ?_ ?_
      · unfold execOp; simp only [oo, a5]; show _ = _; kernel_rfl
      · rw [od]
        exact ⟨hsz', hfr.put 41 _ (by decide), v', trivial, fun h0 => by rw [ev_ne (by decide)]; exact c0 (up 0 _ (by decide) h0), fun h0 => by rw [ev_ne (by decide)]; exact c1 (up 1 _ (by decide) h0), fun h0 => by rw [ev_ne (by decide)]; exact c2 (up 2 _ (by decide) h0), fun h0 => by rw [ev_ne (by decide)]; exact c3 (up 3 _ (by decide) h0), fun h0 => by rw [ev_ne (by decide)]; exact c4 (up 4 _ (by decide) h0), fun h0 => by rw [ev_ne (by decide)]; exact c5 (up 5 _ (by decide) h0), fun h0 => by rw [ev_ne (by decide)]; exact c6 (up 6 _ (by decide) h0), fun h0 => by rw [ev_ne (by decide)]; exact c7 (up 7 _ (by decide) h0), fun h0 => by rw [ev_ne (by decide)]; exact c8 (up 8 _ (by decide) h0), fun h0 => by rw [ev_ne (by decide)]; exact c9 (up 9 _ (by decide) h0), fun h0 => by rw [ev_ne (by decide)]; exact c10 (up 10 _ (by decide) h0), fun h0 => by rw [ev_ne (by decide)]; exact c11 (up 11 _ (by decide) h0), fun _ => ev_eq (by rw [hta]; decide), fun h0 => by rw [ev_ne (by decide)]; exact c13 (up 13 _ (by decide) h0), fun h0 => by rw [ev_ne (by decide)]; exact c14 (up 14 _ (by decide) h0), fun h0 => by rw [ev_ne (by decide)]; exact c15 (up 15 _ (by decide) h0), fun h0 => by rw [ev_ne (by decide)]; exact c16 (up 16 _ (by decide) h0), fun h0 => by rw [ev_ne (by decide)]; exact c17 (up 17 _ (by decide) h0), fun h0 => by rw [ev_ne (by decide)]; exact c18 (up 18 _ (by decide) h0), fun h0 => by rw [ev_ne (by decide)]; exact c19 (up 19 _ (by decide) h0), fun h0 => by rw [ev_ne (by decide)]; exact c20 (up 20 _ (by decide) h0), fun h0 => by rw [ev_ne (by decide)]; exact c21 (up 21 _ (by decide) h0), fun h0 => by rw [ev_ne (by decide)]; exact c22 (up 22 _ (by decide) h0), fun h0 => by rw [ev_ne (by decide)]; exact c23 (up 23 _ (by decide) h0), fun h0 h1 => by rw [ev_ne (by decide)]; exact c24 (up 24 _ (by decide) h0) (up 25 _ (by decide) h1), fun h0 => m0 (up 25 _ (by decide) h0), fun h0 => m1 (up 25 _ (by decide) h0), fun h0 => by rw [ev_ne (by decide)]; exact c25 (up 25 _ (by decide) h0), fun h0 => by rw [ev_ne (by decide)]; exact c26 (up 26 _ (by decide) h0), fun h0 => by rw [ev_ne (by decide)]; exact e7n (up 26 _ (by decide) h0), fun h0 => ⟨by rw [hset]; split; rfl; exact (d26 (up 26 _ (by decide) h0)).1, by rw [hset]; split; rfl; exact (d26 (up 26 _ (by decide) h0)).2⟩, fun h0 => by rw [hset]; split; rfl; exact d25 (up 25 _ (by decide) h0)⟩
    · obtain ⟨o1', ho', og, od, oo, ow⟩ := o13
      rw [ho'] at hoi
      injection hoi with hoi
      subst hoi
      have y12 : s'.getD 12 false = true := by
        obtain ⟨e, m', b, n'⟩ := ow 12 (by simp)
        have := haf e m' b
        rwa [n'] at this
      have hbx : Bx y w.heap.size C 34 ∧ Bx y b1 (cCs s) 26 ∧ Bx y b2 (rCs s) 28 := by
        rcases hh : s'.getD 25 false with _ | _
        · exact ⟨(m0 hh).x0, (m0 hh).x1, (m0 hh).x2⟩
        · exact ⟨(m1 hh).x0, (m1 hh).x1, (m1 hh).x2⟩
      have x := hbx.2.1.c 21 (.bool s.ie) (rfl)
      refine wpOp_val (.bool s.ie) ho' og ?_ ?_
      · unfold execOp; simp only [oo, c12 y12]; go_simp
      · rw [od]
        exact ⟨hsz', hfr.put 42 _ (by decide), v', trivial, fun h0 => by rw [ev_ne (by decide)]; exact c0 (up 0 _ (by decide) h0), fun h0 => by rw [ev_ne (by decide)]; exact c1 (up 1 _ (by decide) h0), fun h0 => by rw [ev_ne (by decide)]; exact c2 (up 2 _ (by decide) h0), fun h0 => by rw [ev_ne (by decide)]; exact c3 (up 3 _ (by decide) h0), fun h0 => by rw [ev_ne (by decide)]; exact c4 (up 4 _ (by decide) h0), fun h0 => by rw [ev_ne (by decide)]; exact c5 (up 5 _ (by decide) h0), fun h0 => by rw [ev_ne (by decide)]; exact c6 (up 6 _ (by decide) h0), fun h0 => by rw [ev_ne (by decide)]; exact c7 (up 7 _ (by decide) h0), fun h0 => by rw [ev_ne (by decide)]; exact c8 (up 8 _ (by decide) h0), fun h0 => by rw [ev_ne (by decide)]; exact c9 (up 9 _ (by decide) h0), fun h0 => by rw [ev_ne (by decide)]; exact c10 (up 10 _ (by decide) h0), fun h0 => by rw [ev_ne (by decide)]; exact c11 (up 11 _ (by decide) h0), fun h0 => by rw [ev_ne (by decide)]; exact c12 (up 12 _ (by decide) h0), fun _ => ev_eq (by rw [hta]; decide), fun h0 => by rw [ev_ne (by decide)]; exact c14 (up 14 _ (by decide) h0), fun h0 => by rw [ev_ne (by decide)]; exact c15 (up 15 _ (by decide) h0), fun h0 => by rw [ev_ne (by decide)]; exact c16 (up 16 _ (by decide) h0), fun h0 => by rw [ev_ne (by decide)]; exact c17 (up 17 _ (by decide) h0), fun h0 => by rw [ev_ne (by decide)]; exact c18 (up 18 _ (by decide) h0), fun h0 => by rw [ev_ne (by decide)]; exact c19 (up 19 _ (by decide) h0), fun h0 => by rw [ev_ne (by decide)]; exact c20 (up 20 _ (by decide) h0), fun h0 => by rw [ev_ne (by decide)]; exact c21 (up 21 _ (by decide) h0), fun h0 => by rw [ev_ne (by decide)]; exact c22 (up 22 _ (by decide) h0), fun h0 => by rw [ev_ne (by decide)]; exact c23 (up 23 _ (by decide) h0), fun h0 h1 => by rw [ev_ne (by decide)]; exact c24 (up 24 _ (by decide) h0) (up 25 _ (by decide) h1), fun h0 => m0 (up 25 _ (by decide) h0), fun h0 => m1 (up 25 _ (by decide) h0), fun h0 => by rw [ev_ne (by decide)]; exact c25 (up 25 _ (by decide) h0), fun h0 => by rw [ev_ne (by decide)]; exact c26 (up 26 _ (by decide) h0), fun h0 => by rw [ev_ne (by decide)]; exact e7n (up 26 _ (by decide) h0), fun h0 => ⟨by rw [hset]; split; rfl; exact (d26 (up 26 _ (by decide) h0)).1, by rw [hset]; split; rfl; exact (d26 (up 26 _ (by decide) h0)).2⟩, fun h0 => by rw [hset]; split; rfl; exact d25 (up 25 _ (by decide) h0)⟩
    · obtain ⟨o1', ho', og, od, oo, ow⟩ := o14
      rw [ho'] at hoi
      injection hoi with hoi
      subst hoi
      have y13 : s'.getD 13 false = true := by
        obtain ⟨e, m', b, n'⟩ := ow 13 (by simp)
        have := haf e m' b
        rwa [n'] at this
      have q1 := c13 y13
      refine wpOp_call 21 #[.bool s.ie] _ ho' og ?_ (flag_any y s.ie) ?_
      · have b1' : 42 < a.tmps.size := by rw [hta]; decide
        simp only [Act.eval, Array.getD_eq_getD_getElem?] at q1
        unfold execOp
        simp only [oo]
        go_simp
        simp only [Array.getElem?_eq_getElem b1', Option.getD_some] at q1
        exact q1
      · rintro x z ⟨rfl, rfl⟩
        refine ⟨_, rfl, ?_⟩
        rw [od]
        exact ⟨hsz', hfr.put 43 _ (by decide), v', trivial, fun h0 => by rw [ev_ne (by decide)]; exact c0 (up 0 _ (by decide) h0), fun h0 => by rw [ev_ne (by decide)]; exact c1 (up 1 _ (by decide) h0), fun h0 => by rw [ev_ne (by decide)]; exact c2 (up 2 _ (by decide) h0), fun h0 => by rw [ev_ne (by decide)]; exact c3 (up 3 _ (by decide) h0), fun h0 => by rw [ev_ne (by decide)]; exact c4 (up 4 _ (by decide) h0), fun h0 => by rw [ev_ne (by decide)]; exact c5 (up 5 _ (by decide) h0), fun h0 => by rw [ev_ne (by decide)]; exact c6 (up 6 _ (by decide) h0), fun h0 => by rw [ev_ne (by decide)]; exact c7 (up 7 _ (by decide) h0), fun h0 => by rw [ev_ne (by decide)]; exact c8 (up 8 _ (by decide) h0), fun h0 => by rw [ev_ne (by decide)]; exact c9 (up 9 _ (by decide) h0), fun h0 => by rw [ev_ne (by decide)]; exact c10 (up 10 _ (by decide) h0), fun h0 => by rw [ev_ne (by decide)]; exact c11 (up 11 _ (by decide) h0), fun h0 => by rw [ev_ne (by decide)]; exact c12 (up 12 _ (by decide) h0), fun h0 => by rw [ev_ne (by decide)]; exact c13 (up 13 _ (by decide) h0), fun _ => ev_eq (by rw [hta]; decide), fun h0 => by rw [ev_ne (by decide)]; exact c15 (up 15 _ (by decide) h0), fun h0 => by rw [ev_ne (by decide)]; exact c16 (up 16 _ (by decide) h0), fun h0 => by rw [ev_ne (by decide)]; exact c17 (up 17 _ (by decide) h0), fun h0 => by rw [ev_ne (by decide)]; exact c18 (up 18 _ (by decide) h0), fun h0 => by rw [ev_ne (by decide)]; exact c19 (up 19 _ (by decide) h0), fun h0 => by rw [ev_ne (by decide)]; exact c20 (up 20 _ (by decide) h0), fun h0 => by rw [ev_ne (by decide)]; exact c21 (up 21 _ (by decide) h0), fun h0 => by rw [ev_ne (by decide)]; exact c22 (up 22 _ (by decide) h0), fun h0 => by rw [ev_ne (by decide)]; exact c23 (up 23 _ (by decide) h0), fun h0 h1 => by rw [ev_ne (by decide)]; exact c24 (up 24 _ (by decide) h0) (up 25 _ (by decide) h1), fun h0 => m0 (up 25 _ (by decide) h0), fun h0 => m1 (up 25 _ (by decide) h0), fun h0 => by rw [ev_ne (by decide)]; exact c25 (up 25 _ (by decide) h0), fun h0 => by rw [ev_ne (by decide)]; exact c26 (up 26 _ (by decide) h0), fun h0 => by rw [ev_ne (by decide)]; exact e7n (up 26 _ (by decide) h0), fun h0 => ⟨by rw [hset]; split; rfl; exact (d26 (up 26 _ (by decide) h0)).1, by rw [hset]; split; rfl; exact (d26 (up 26 _ (by decide) h0)).2⟩, fun h0 => by rw [hset]; split; rfl; exact d25 (up 25 _ (by decide) h0)⟩
    · obtain ⟨o1', ho', og, od, oo, ow⟩ := o15
      rw [ho'] at hoi
      injection hoi with hoi
      subst hoi
      refine wpOp_val (.pointer (some ⟨b1, 22, none⟩)) ho' og ?_ ?_
      · unfold execOp; simp only [oo, a5]; show _ = _; kernel_rfl
      · rw [od]
        exact ⟨hsz', hfr.put 44 _ (by decide), v', trivial, fun h0 => by rw [ev_ne (by decide)]; exact c0 (up 0 _ (by decide) h0), fun h0 => by rw [ev_ne (by decide)]; exact c1 (up 1 _ (by decide) h0), fun h0 => by rw [ev_ne (by decide)]; exact c2 (up 2 _ (by decide) h0), fun h0 => by rw [ev_ne (by decide)]; exact c3 (up 3 _ (by decide) h0), fun h0 => by rw [ev_ne (by decide)]; exact c4 (up 4 _ (by decide) h0), fun h0 => by rw [ev_ne (by decide)]; exact c5 (up 5 _ (by decide) h0), fun h0 => by rw [ev_ne (by decide)]; exact c6 (up 6 _ (by decide) h0), fun h0 => by rw [ev_ne (by decide)]; exact c7 (up 7 _ (by decide) h0), fun h0 => by rw [ev_ne (by decide)]; exact c8 (up 8 _ (by decide) h0), fun h0 => by rw [ev_ne (by decide)]; exact c9 (up 9 _ (by decide) h0), fun h0 => by rw [ev_ne (by decide)]; exact c10 (up 10 _ (by decide) h0), fun h0 => by rw [ev_ne (by decide)]; exact c11 (up 11 _ (by decide) h0), fun h0 => by rw [ev_ne (by decide)]; exact c12 (up 12 _ (by decide) h0), fun h0 => by rw [ev_ne (by decide)]; exact c13 (up 13 _ (by decide) h0), fun h0 => by rw [ev_ne (by decide)]; exact c14 (up 14 _ (by decide) h0), fun _ => ev_eq (by rw [hta]; decide), fun h0 => by rw [ev_ne (by decide)]; exact c16 (up 16 _ (by decide) h0), fun h0 => by rw [ev_ne (by decide)]; exact c17 (up 17 _ (by decide) h0), fun h0 => by rw [ev_ne (by decide)]; exact c18 (up 18 _ (by decide) h0), fun h0 => by rw [ev_ne (by decide)]; exact c19 (up 19 _ (by decide) h0), fun h0 => by rw [ev_ne (by decide)]; exact c20 (up 20 _ (by decide) h0), fun h0 => by rw [ev_ne (by decide)]; exact c21 (up 21 _ (by decide) h0), fun h0 => by rw [ev_ne (by decide)]; exact c22 (up 22 _ (by decide) h0), fun h0 => by rw [ev_ne (by decide)]; exact c23 (up 23 _ (by decide) h0), fun h0 h1 => by rw [ev_ne (by decide)]; exact c24 (up 24 _ (by decide) h0) (up 25 _ (by decide) h1), fun h0 => m0 (up 25 _ (by decide) h0), fun h0 => m1 (up 25 _ (by decide) h0), fun h0 => by rw [ev_ne (by decide)]; exact c25 (up 25 _ (by decide) h0), fun h0 => by rw [ev_ne (by decide)]; exact c26 (up 26 _ (by decide) h0), fun h0 => by rw [ev_ne (by decide)]; exact e7n (up 26 _ (by decide) h0), fun h0 => ⟨by rw [hset]; split; rfl; exact (d26 (up 26 _ (by decide) h0)).1, by rw [hset]; split; rfl; exact (d26 (up 26 _ (by decide) h0)).2⟩, fun h0 => by rw [hset]; split; rfl; exact d25 (up 25 _ (by decide) h0)⟩
    · obtain ⟨o1', ho', og, od, oo, ow⟩ := o16
      rw [ho'] at hoi
      injection hoi with hoi
      subst hoi
      have y15 : s'.getD 15 false = true := by
        obtain ⟨e, m', b, n'⟩ := ow 15 (by simp)
        have := haf e m' b
        rwa [n'] at this
      have hbx : Bx y w.heap.size C 34 ∧ Bx y b1 (cCs s) 26 ∧ Bx y b2 (rCs s) 28 := by
        rcases hh : s'.getD 25 false with _ | _
        · exact ⟨(m0 hh).x0, (m0 hh).x1, (m0 hh).x2⟩
        · exact ⟨(m1 hh).x0, (m1 hh).x1, (m1 hh).x2⟩
      have x := hbx.2.1.c 22 (.bool s.q) (rfl)
      refine wpOp_val (.bool s.q) ho' og ?_ ?_
      · unfold execOp; simp only [oo, c15 y15]; go_simp
      · rw [od]
        exact ⟨hsz', hfr.put 45 _ (by decide), v', trivial, fun h0 => by rw [ev_ne (by decide)]; exact c0 (up 0 _ (by decide) h0), fun h0 => by rw [ev_ne (by decide)]; exact c1 (up 1 _ (by decide) h0), fun h0 => by rw [ev_ne (by decide)]; exact c2 (up 2 _ (by decide) h0), fun h0 => by rw [ev_ne (by decide)]; exact c3 (up 3 _ (by decide) h0), fun h0 => by rw [ev_ne (by decide)]; exact c4 (up 4 _ (by decide) h0), fun h0 => by rw [ev_ne (by decide)]; exact c5 (up 5 _ (by decide) h0), fun h0 => by rw [ev_ne (by decide)]; exact c6 (up 6 _ (by decide) h0), fun h0 => by rw [ev_ne (by decide)]; exact c7 (up 7 _ (by decide) h0), fun h0 => by rw [ev_ne (by decide)]; exact c8 (up 8 _ (by decide) h0), fun h0 => by rw [ev_ne (by decide)]; exact c9 (up 9 _ (by decide) h0), fun h0 => by rw [ev_ne (by decide)]; exact c10 (up 10 _ (by decide) h0), fun h0 => by rw [ev_ne (by decide)]; exact c11 (up 11 _ (by decide) h0), fun h0 => by rw [ev_ne (by decide)]; exact c12 (up 12 _ (by decide) h0), fun h0 => by rw [ev_ne (by decide)]; exact c13 (up 13 _ (by decide) h0), fun h0 => by rw [ev_ne (by decide)]; exact c14 (up 14 _ (by decide) h0), fun h0 => by rw [ev_ne (by decide)]; exact c15 (up 15 _ (by decide) h0), fun _ => ev_eq (by rw [hta]; decide), fun h0 => by rw [ev_ne (by decide)]; exact c17 (up 17 _ (by decide) h0), fun h0 => by rw [ev_ne (by decide)]; exact c18 (up 18 _ (by decide) h0), fun h0 => by rw [ev_ne (by decide)]; exact c19 (up 19 _ (by decide) h0), fun h0 => by rw [ev_ne (by decide)]; exact c20 (up 20 _ (by decide) h0), fun h0 => by rw [ev_ne (by decide)]; exact c21 (up 21 _ (by decide) h0), fun h0 => by rw [ev_ne (by decide)]; exact c22 (up 22 _ (by decide) h0), fun h0 => by rw [ev_ne (by decide)]; exact c23 (up 23 _ (by decide) h0), fun h0 h1 => by rw [ev_ne (by decide)]; exact c24 (up 24 _ (by decide) h0) (up 25 _ (by decide) h1), fun h0 => m0 (up 25 _ (by decide) h0), fun h0 => m1 (up 25 _ (by decide) h0), fun h0 => by rw [ev_ne (by decide)]; exact c25 (up 25 _ (by decide) h0), fun h0 => by rw [ev_ne (by decide)]; exact c26 (up 26 _ (by decide) h0), fun h0 => by rw [ev_ne (by decide)]; exact e7n (up 26 _ (by decide) h0), fun h0 => ⟨by rw [hset]; split; rfl; exact (d26 (up 26 _ (by decide) h0)).1, by rw [hset]; split; rfl; exact (d26 (up 26 _ (by decide) h0)).2⟩, fun h0 => by rw [hset]; split; rfl; exact d25 (up 25 _ (by decide) h0)⟩
    · obtain ⟨o1', ho', og, od, oo, ow⟩ := o17
      rw [ho'] at hoi
      injection hoi with hoi
      subst hoi
      have y16 : s'.getD 16 false = true := by
        obtain ⟨e, m', b, n'⟩ := ow 16 (by simp)
        have := haf e m' b
        rwa [n'] at this
      have q1 := c16 y16
      refine wpOp_call 21 #[.bool s.q] _ ho' og ?_ (flag_any y s.q) ?_
      · have b1' : 45 < a.tmps.size := by rw [hta]; decide
        simp only [Act.eval, Array.getD_eq_getD_getElem?] at q1
        unfold execOp
        simp only [oo]
        go_simp
        simp only [Array.getElem?_eq_getElem b1', Option.getD_some] at q1
        exact q1
      · rintro x z ⟨rfl, rfl⟩
        refine ⟨_, rfl, ?_⟩
        rw [od]
        exact ⟨hsz', hfr.put 46 _ (by decide), v', trivial, fun h0 => by rw [ev_ne (by decide)]; exact c0 (up 0 _ (by decide) h0), fun h0 => by rw [ev_ne (by decide)]; exact c1 (up 1 _ (by decide) h0), fun h0 => by rw [ev_ne (by decide)]; exact c2 (up 2 _ (by decide) h0), fun h0 => by rw [ev_ne (by decide)]; exact c3 (up 3 _ (by decide) h0), fun h0 => by rw [ev_ne (by decide)]; exact c4 (up 4 _ (by decide) h0), fun h0 => by rw [ev_ne (by decide)]; exact c5 (up 5 _ (by decide) h0), fun h0 => by rw [ev_ne (by decide)]; exact c6 (up 6 _ (by decide) h0), fun h0 => by rw [ev_ne (by decide)]; exact c7 (up 7 _ (by decide) h0), fun h0 => by rw [ev_ne (by decide)]; exact c8 (up 8 _ (by decide) h0), fun h0 => by rw [ev_ne (by decide)]; exact c9 (up 9 _ (by decide) h0), fun h0 => by rw [ev_ne (by decide)]; exact c10 (up 10 _ (by decide) h0), fun h0 => by rw [ev_ne (by decide)]; exact c11 (up 11 _ (by decide) h0), fun h0 => by rw [ev_ne (by decide)]; exact c12 (up 12 _ (by decide) h0), fun h0 => by rw [ev_ne (by decide)]; exact c13 (up 13 _ (by decide) h0), fun h0 => by rw [ev_ne (by decide)]; exact c14 (up 14 _ (by decide) h0), fun h0 => by rw [ev_ne (by decide)]; exact c15 (up 15 _ (by decide) h0), fun h0 => by rw [ev_ne (by decide)]; exact c16 (up 16 _ (by decide) h0), fun _ => ev_eq (by rw [hta]; decide), fun h0 => by rw [ev_ne (by decide)]; exact c18 (up 18 _ (by decide) h0), fun h0 => by rw [ev_ne (by decide)]; exact c19 (up 19 _ (by decide) h0), fun h0 => by rw [ev_ne (by decide)]; exact c20 (up 20 _ (by decide) h0), fun h0 => by rw [ev_ne (by decide)]; exact c21 (up 21 _ (by decide) h0), fun h0 => by rw [ev_ne (by decide)]; exact c22 (up 22 _ (by decide) h0), fun h0 => by rw [ev_ne (by decide)]; exact c23 (up 23 _ (by decide) h0), fun h0 h1 => by rw [ev_ne (by decide)]; exact c24 (up 24 _ (by decide) h0) (up 25 _ (by decide) h1), fun h0 => m0 (up 25 _ (by decide) h0), fun h0 => m1 (up 25 _ (by decide) h0), fun h0 => by rw [ev_ne (by decide)]; exact c25 (up 25 _ (by decide) h0), fun h0 => by rw [ev_ne (by decide)]; exact c26 (up 26 _ (by decide) h0), fun h0 => by rw [ev_ne (by decide)]; exact e7n (up 26 _ (by decide) h0), fun h0 => ⟨by rw [hset]; split; rfl; exact (d26 (up 26 _ (by decide) h0)).1, by rw [hset]; split; rfl; exact (d26 (up 26 _ (by decide) h0)).2⟩, fun h0 => by rw [hset]; split; rfl; exact d25 (up 25 _ (by decide) h0)⟩
    · obtain ⟨o1', ho', og, od, oo, ow⟩ := o18
      rw [ho'] at hoi
      injection hoi with hoi
      subst hoi
      refine wpOp_val (.pointer (some ⟨b1, 23, none⟩)) ho' og ?_ ?_
      · unfold execOp; simp only [oo, a5]; show _ = _; kernel_rfl
      · rw [od]
        exact ⟨hsz', hfr.put 47 _ (by decide), v', trivial, fun h0 => by rw [ev_ne (by decide)]; exact c0 (up 0 _ (by decide) h0), fun h0 => by rw [ev_ne (by decide)]; exact c1 (up 1 _ (by decide) h0), fun h0 => by rw [ev_ne (by decide)]; exact c2 (up 2 _ (by decide) h0), fun h0 => by rw [ev_ne (by decide)]; exact c3 (up 3 _ (by decide) h0), fun h0 => by rw [ev_ne (by decide)]; exact c4 (up 4 _ (by decide) h0), fun h0 => by rw [ev_ne (by decide)]; exact c5 (up 5 _ (by decide) h0), fun h0 => by rw [ev_ne (by decide)]; exact c6 (up 6 _ (by decide) h0), fun h0 => by rw [ev_ne (by decide)]; exact c7 (up 7 _ (by decide) h0), fun h0 => by rw [ev_ne (by decide)]; exact c8 (up 8 _ (by decide) h0), fun h0 => by rw [ev_ne (by decide)]; exact c9 (up 9 _ (by decide) h0), fun h0 => by rw [ev_ne (by decide)]; exact c10 (up 10 _ (by decide) h0), fun h0 => by rw [ev_ne (by decide)]; exact c11 (up 11 _ (by decide) h0), fun h0 => by rw [ev_ne (by decide)]; exact c12 (up 12 _ (by decide) h0), fun h0 => by rw [ev_ne (by decide)]; exact c13 (up 13 _ (by decide) h0), fun h0 => by rw [ev_ne (by decide)]; exact c14 (up 14 _ (by decide) h0), fun h0 => by rw [ev_ne (by decide)]; exact c15 (up 15 _ (by decide) h0), fun h0 => by rw [ev_ne (by decide)]; exact c16 (up 16 _ (by decide) h0), fun h0 => by rw [ev_ne (by decide)]; exact c17 (up 17 _ (by decide) h0), fun _ => ev_eq (by rw [hta]; decide), fun h0 => by rw [ev_ne (by decide)]; exact c19 (up 19 _ (by decide) h0), fun h0 => by rw [ev_ne (by decide)]; exact c20 (up 20 _ (by decide) h0), fun h0 => by rw [ev_ne (by decide)]; exact c21 (up 21 _ (by decide) h0), fun h0 => by rw [ev_ne (by decide)]; exact c22 (up 22 _ (by decide) h0), fun h0 => by rw [ev_ne (by decide)]; exact c23 (up 23 _ (by decide) h0), fun h0 h1 => by rw [ev_ne (by decide)]; exact c24 (up 24 _ (by decide) h0) (up 25 _ (by decide) h1), fun h0 => m0 (up 25 _ (by decide) h0), fun h0 => m1 (up 25 _ (by decide) h0), fun h0 => by rw [ev_ne (by decide)]; exact c25 (up 25 _ (by decide) h0), fun h0 => by rw [ev_ne (by decide)]; exact c26 (up 26 _ (by decide) h0), fun h0 => by rw [ev_ne (by decide)]; exact e7n (up 26 _ (by decide) h0), fun h0 => ⟨by rw [hset]; split; rfl; exact (d26 (up 26 _ (by decide) h0)).1, by rw [hset]; split; rfl; exact (d26 (up 26 _ (by decide) h0)).2⟩, fun h0 => by rw [hset]; split; rfl; exact d25 (up 25 _ (by decide) h0)⟩
    · obtain ⟨o1', ho', og, od, oo, ow⟩ := o19
      rw [ho'] at hoi
      injection hoi with hoi
      subst hoi
      have y18 : s'.getD 18 false = true := by
        obtain ⟨e, m', b, n'⟩ := ow 18 (by simp)
        have := haf e m' b
        rwa [n'] at this
      have hbx : Bx y w.heap.size C 34 ∧ Bx y b1 (cCs s) 26 ∧ Bx y b2 (rCs s) 28 := by
        rcases hh : s'.getD 25 false with _ | _
        · exact ⟨(m0 hh).x0, (m0 hh).x1, (m0 hh).x2⟩
        · exact ⟨(m1 hh).x0, (m1 hh).x1, (m1 hh).x2⟩
      have x := hbx.2.1.c 23 (byV s.op) (rfl)
      refine wpOp_val (byV s.op) ho' og ?_ ?_
      · unfold execOp; simp only [oo, c18 y18]; go_simp
      · rw [od]
        exact ⟨hsz', hfr.put 48 _ (by decide), v', trivial, fun h0 => by rw [ev_ne (by decide)]; exact c0 (up 0 _ (by decide) h0), fun h0 => by rw [ev_ne (by decide)]; exact c1 (up 1 _ (by decide) h0), fun h0 => by rw [ev_ne (by decide)]; exact c2 (up 2 _ (by decide) h0), fun h0 => by rw [ev_ne (by decide)]; exact c3 (up 3 _ (by decide) h0), fun h0 => by rw [ev_ne (by decide)]; exact c4 (up 4 _ (by decide) h0), fun h0 => by rw [ev_ne (by decide)]; exact c5 (up 5 _ (by decide) h0), fun h0 => by rw [ev_ne (by decide)]; exact c6 (up 6 _ (by decide) h0), fun h0 => by rw [ev_ne (by decide)]; exact c7 (up 7 _ (by decide) h0), fun h0 => by rw [ev_ne (by decide)]; exact c8 (up 8 _ (by decide) h0), fun h0 => by rw [ev_ne (by decide)]; exact c9 (up 9 _ (by decide) h0), fun h0 => by rw [ev_ne (by decide)]; exact c10 (up 10 _ (by decide) h0), fun h0 => by rw [ev_ne (by decide)]; exact c11 (up 11 _ (by decide) h0), fun h0 => by rw [ev_ne (by decide)]; exact c12 (up 12 _ (by decide) h0), fun h0 => by rw [ev_ne (by decide)]; exact c13 (up 13 _ (by decide) h0), fun h0 => by rw [ev_ne (by decide)]; exact c14 (up 14 _ (by decide) h0), fun h0 => by rw [ev_ne (by decide)]; exact c15 (up 15 _ (by decide) h0), fun h0 => by rw [ev_ne (by decide)]; exact c16 (up 16 _ (by decide) h0), fun h0 => by rw [ev_ne (by decide)]; exact c17 (up 17 _ (by decide) h0), fun h0 => by rw [ev_ne (by decide)]; exact c18 (up 18 _ (by decide) h0), fun _ => ev_eq (by rw [hta]; decide), fun h0 => by rw [ev_ne (by decide)]; exact c20 (up 20 _ (by decide) h0), fun h0 => by rw [ev_ne (by decide)]; exact c21 (up 21 _ (by decide) h0), fun h0 => by rw [ev_ne (by decide)]; exact c22 (up 22 _ (by decide) h0), fun h0 => by rw [ev_ne (by decide)]; exact c23 (up 23 _ (by decide) h0), fun h0 h1 => by rw [ev_ne (by decide)]; exact c24 (up 24 _ (by decide) h0) (up 25 _ (by decide) h1), fun h0 => m0 (up 25 _ (by decide) h0), fun h0 => m1 (up 25 _ (by decide) h0), fun h0 => by rw [ev_ne (by decide)]; exact c25 (up 25 _ (by decide) h0), fun h0 => by rw [ev_ne (by decide)]; exact c26 (up 26 _ (by decide) h0), fun h0 => by rw [ev_ne (by decide)]; exact e7n (up 26 _ (by decide) h0), fun h0 => ⟨by rw [hset]; split; rfl; exact (d26 (up 26 _ (by decide) h0)).1, by rw [hset]; split; rfl; exact (d26 (up 26 _ (by decide) h0)).2⟩, fun h0 => by rw [hset]; split; rfl; exact d25 (up 25 _ (by decide) h0)⟩
    · obtain ⟨o1', ho', og, od, oo, ow⟩ := o20
      rw [ho'] at hoi
      injection hoi with hoi
      subst hoi
      refine wpOp_val (.pointer (some ⟨b1, 24, none⟩)) ho' og ?_ ?_
      · unfold execOp; simp only [oo, a5]; show _ = _; kernel_rfl
      · rw [od]
        exact ⟨hsz', hfr.put 49 _ (by decide), v', trivial, fun h0 => by rw [ev_ne (by decide)]; exact c0 (up 0 _ (by decide) h0), fun h0 => by rw [ev_ne (by decide)]; exact c1 (up 1 _ (by decide) h0), fun h0 => by rw [ev_ne (by decide)]; exact c2 (up 2 _ (by decide) h0), fun h0 => by rw [ev_ne (by decide)]; exact c3 (up 3 _ (by decide) h0), fun h0 => by rw [ev_ne (by decide)]; exact c4 (up 4 _ (by decide) h0), fun h0 => by rw [ev_ne (by decide)]; exact c5 (up 5 _ (by decide) h0), fun h0 => by rw [ev_ne (by decide)]; exact c6 (up 6 _ (by decide) h0), fun h0 => by rw [ev_ne (by decide)]; exact c7 (up 7 _ (by decide) h0), fun h0 => by rw [ev_ne (by decide)]; exact c8 (up 8 _ (by decide) h0), fun h0 => by rw [ev_ne (by decide)]; exact c9 (up 9 _ (by decide) h0), fun h0 => by rw [ev_ne (by decide)]; exact c10 (up 10 _ (by decide) h0), fun h0 => by rw [ev_ne (by decide)]; exact c11 (up 11 _ (by decide) h0), fun h0 => by rw [ev_ne (by decide)]; exact c12 (up 12 _ (by decide) h0), fun h0 => by rw [ev_ne (by decide)]; exact c13 (up 13 _ (by decide) h0), fun h0 => by rw [ev_ne (by decide)]; exact c14 (up 14 _ (by decide) h0), fun h0 => by rw [ev_ne (by decide)]; exact c15 (up 15 _ (by decide) h0), fun h0 => by rw [ev_ne (by decide)]; exact c16 (up 16 _ (by decide) h0), fun h0 => by rw [ev_ne (by decide)]; exact c17 (up 17 _ (by decide) h0), fun h0 => by rw [ev_ne (by decide)]; exact c18 (up 18 _ (by decide) h0), fun h0 => by rw [ev_ne (by decide)]; exact c19 (up 19 _ (by decide) h0), fun _ => ev_eq (by rw [hta]; decide), fun h0 => by rw [ev_ne (by decide)]; exact c21 (up 21 _ (by decide) h0), fun h0 => by rw [ev_ne (by decide)]; exact c22 (up 22 _ (by decide) h0), fun h0 => by rw [ev_ne (by decide)]; exact c23 (up 23 _ (by decide) h0), fun h0 h1 => by rw [ev_ne (by decide)]; exact c24 (up 24 _ (by decide) h0) (up 25 _ (by decide) h1), fun h0 => m0 (up 25 _ (by decide) h0), fun h0 => m1 (up 25 _ (by decide) h0), fun h0 => by rw [ev_ne (by decide)]; exact c25 (up 25 _ (by decide) h0), fun h0 => by rw [ev_ne (by decide)]; exact c26 (up 26 _ (by decide) h0), fun h0 => by rw [ev_ne (by decide)]; exact e7n (up 26 _ (by decide) h0), fun h0 => ⟨by rw [hset]; split; rfl; exact (d26 (up 26 _ (by decide) h0)).1, by rw [hset]; split; rfl; exact (d26 (up 26 _ (by decide) h0)).2⟩, fun h0 => by rw [hset]; split; rfl; exact d25 (up 25 _ (by decide) h0)⟩
    · obtain ⟨o1', ho', og, od, oo, ow⟩ := o21
      rw [ho'] at hoi
      injection hoi with hoi
      subst hoi
      have y20 : s'.getD 20 false = true := by
        obtain ⟨e, m', b, n'⟩ := ow 20 (by simp)
        have := haf e m' b
        rwa [n'] at this
      have hbx : Bx y w.heap.size C 34 ∧ Bx y b1 (cCs s) 26 ∧ Bx y b2 (rCs s) 28 := by
        rcases hh : s'.getD 25 false with _ | _
        · exact ⟨(m0 hh).x0, (m0 hh).x1, (m0 hh).x2⟩
        · exact ⟨(m1 hh).x0, (m1 hh).x1, (m1 hh).x2⟩
      have x := hbx.2.1.c 24 (byV s.b) (rfl)
      refine wpOp_val (byV s.b) ho' og ?_ ?_
      · unfold execOp; simp only [oo, c20 y20]; go_simp
      · rw [od]
        exact ⟨hsz', hfr.put 50 _ (by decide), v', trivial, fun h0 => by rw [ev_ne (by decide)]; exact c0 (up 0 _ (by decide) h0), fun h0 => by rw [ev_ne (by decide)]; exact c1 (up 1 _ (by decide) h0), fun h0 => by rw [ev_ne (by decide)]; exact c2 (up 2 _ (by decide) h0), fun h0 => by rw [ev_ne (by decide)]; exact c3 (up 3 _ (by decide) h0), fun h0 => by rw [ev_ne (by decide)]; exact c4 (up 4 _ (by decide) h0), fun h0 => by rw [ev_ne (by decide)]; exact c5 (up 5 _ (by decide) h0), fun h0 => by rw [ev_ne (by decide)]; exact c6 (up 6 _ (by decide) h0), fun h0 => by rw [ev_ne (by decide)]; exact c7 (up 7 _ (by decide) h0), fun h0 => by rw [ev_ne (by decide)]; exact c8 (up 8 _ (by decide) h0), fun h0 => by rw [ev_ne (by decide)]; exact c9 (up 9 _ (by decide) h0), fun h0 => by rw [ev_ne (by decide)]; exact c10 (up 10 _ (by decide) h0), fun h0 => by rw [ev_ne (by decide)]; exact c11 (up 11 _ (by decide) h0), fun h0 => by rw [ev_ne (by decide)]; exact c12 (up 12 _ (by decide) h0), fun h0 => by rw [ev_ne (by decide)]; exact c13 (up 13 _ (by decide) h0), fun h0 => by rw [ev_ne (by decide)]; exact c14 (up 14 _ (by decide) h0), fun h0 => by rw [ev_ne (by decide)]; exact c15 (up 15 _ (by decide) h0), fun h0 => by rw [ev_ne (by decide)]; exact c16 (up 16 _ (by decide) h0), fun h0 => by rw [ev_ne (by decide)]; exact c17 (up 17 _ (by decide) h0), fun h0 => by rw [ev_ne (by decide)]; exact c18 (up 18 _ (by decide) h0), fun h0 => by rw [ev_ne (by decide)]; exact c19 (up 19 _ (by decide) h0), fun h0 => by rw [ev_ne (by decide)]; exact c20 (up 20 _ (by decide) h0), fun _ => ev_eq (by rw [hta]; decide), fun h0 => by rw [ev_ne (by decide)]; exact c22 (up 22 _ (by decide) h0), fun h0 => by rw [ev_ne (by decide)]; exact c23 (up 23 _ (by decide) h0), fun h0 h1 => by rw [ev_ne (by decide)]; exact c24 (up 24 _ (by decide) h0) (up 25 _ (by decide) h1), fun h0 => m0 (up 25 _ (by decide) h0), fun h0 => m1 (up 25 _ (by decide) h0), fun h0 => by rw [ev_ne (by decide)]; exact c25 (up 25 _ (by decide) h0), fun h0 => by rw [ev_ne (by decide)]; exact c26 (up 26 _ (by decide) h0), fun h0 => by rw [ev_ne (by decide)]; exact e7n (up 26 _ (by decide) h0), fun h0 => ⟨by rw [hset]; split; rfl; exact (d26 (up 26 _ (by decide) h0)).1, by rw [hset]; split; rfl; exact (d26 (up 26 _ (by decide) h0)).2⟩, fun h0 => by rw [hset]; split; rfl; exact d25 (up 25 _ (by decide) h0)⟩
    · obtain ⟨o1', ho', og, od, oo, ow⟩ := o22
      rw [ho'] at hoi
      injection hoi with hoi
      subst hoi
      refine wpOp_val (.pointer (some ⟨b1, 25, none⟩)) ho' og ?_ ?_
      · unfold execOp; simp only [oo, a5]; show _ = _; kernel_rfl
      · rw [od]
        exact ⟨hsz', hfr.put 51 _ (by decide), v', trivial, fun h0 => by rw [ev_ne (by decide)]; exact c0 (up 0 _ (by decide) h0), fun h0 => by rw [ev_ne (by decide)]; exact c1 (up 1 _ (by decide) h0), fun h0 => by rw [ev_ne (by decide)]; exact c2 (up 2 _ (by decide) h0), fun h0 => by rw [ev_ne (by decide)]; exact c3 (up 3 _ (by decide) h0), fun h0 => by rw [ev_ne (by decide)]; exact c4 (up 4 _ (by decide) h0), fun h0 => by rw [ev_ne (by decide)]; exact c5 (up 5 _ (by decide) h0), fun h0 => by rw [ev_ne (by decide)]; exact c6 (up 6 _ (by decide) h0), fun h0 => by rw [ev_ne (by decide)]; exact c7 (up 7 _ (by decide) h0), fun h0 => by rw [ev_ne (by decide)]; exact c8 (up 8 _ (by decide) h0), fun h0 => by rw [ev_ne (by decide)]; exact c9 (up 9 _ (by decide) h0), fun h0 => by rw [ev_ne (by decide)]; exact c10 (up 10 _ (by decide) h0), fun h0 => by rw [ev_ne (by decide)]; exact c11 (up 11 _ (by decide) h0), fun h0 => by rw [ev_ne (by decide)]; exact c12 (up 12 _ (by decide) h0), fun h0 => by rw [ev_ne (by decide)]; exact c13 (up 13 _ (by decide) h0), fun h0 => by rw [ev_ne (by decide)]; exact c14 (up 14 _ (by decide) h0), fun h0 => by rw [ev_ne (by decide)]; exact c15 (up 15 _ (by decide) h0), fun h0 => by rw [ev_ne (by decide)]; exact c16 (up 16 _ (by decide) h0), fun h0 => by rw [ev_ne (by decide)]; exact c17 (up 17 _ (by decide) h0), fun h0 => by rw [ev_ne (by decide)]; exact c18 (up 18 _ (by decide) h0), fun h0 => by rw [ev_ne (by decide)]; exact c19 (up 19 _ (by decide) h0), fun h0 => by rw [ev_ne (by decide)]; exact c20 (up 20 _ (by decide) h0), fun h0 => by rw [ev_ne (by decide)]; exact c21 (up 21 _ (by decide) h0), fun _ => ev_eq (by rw [hta]; decide), fun h0 => by rw [ev_ne (by decide)]; exact c23 (up 23 _ (by decide) h0), fun h0 h1 => by rw [ev_ne (by decide)]; exact c24 (up 24 _ (by decide) h0) (up 25 _ (by decide) h1), fun h0 => m0 (up 25 _ (by decide) h0), fun h0 => m1 (up 25 _ (by decide) h0), fun h0 => by rw [ev_ne (by decide)]; exact c25 (up 25 _ (by decide) h0), fun h0 => by rw [ev_ne (by decide)]; exact c26 (up 26 _ (by decide) h0), fun h0 => by rw [ev_ne (by decide)]; exact e7n (up 26 _ (by decide) h0), fun h0 => ⟨by rw [hset]; split; rfl; exact (d26 (up 26 _ (by decide) h0)).1, by rw [hset]; split; rfl; exact (d26 (up 26 _ (by decide) h0)).2⟩, fun h0 => by rw [hset]; split; rfl; exact d25 (up 25 _ (by decide) h0)⟩
    · obtain ⟨o1', ho', og, od, oo, ow⟩ := o23
      rw [ho'] at hoi
      injection hoi with hoi
      subst hoi
      have y22 : s'.getD 22 false = true := by
        obtain ⟨e, m', b, n'⟩ := ow 22 (by simp)
        have := haf e m' b
        rwa [n'] at this
      have hbx : Bx y w.heap.size C 34 ∧ Bx y b1 (cCs s) 26 ∧ Bx y b2 (rCs s) 28 := by
        rcases hh : s'.getD 25 false with _ | _
        · exact ⟨(m0 hh).x0, (m0 hh).x1, (m0 hh).x2⟩
        · exact ⟨(m1 hh).x0, (m1 hh).x1, (m1 hh).x2⟩
      have x := hbx.2.1.c 25 (byV s.ph) (rfl)
      refine wpOp_val (byV s.ph) ho' og ?_ ?_
      · unfold execOp; simp only [oo, c22 y22]; go_simp
      · rw [od]
        exact ⟨hsz', hfr.put 52 _ (by decide), v', trivial, fun h0 => by rw [ev_ne (by decide)]; exact c0 (up 0 _ (by decide) h0), fun h0 => by rw [ev_ne (by decide)]; exact c1 (up 1 _ (by decide) h0), fun h0 => by rw [ev_ne (by decide)]; exact c2 (up 2 _ (by decide) h0), fun h0 => by rw [ev_ne (by decide)]; exact c3 (up 3 _ (by decide) h0), fun h0 => by rw [ev_ne (by decide)]; exact c4 (up 4 _ (by decide) h0), fun h0 => by rw [ev_ne (by decide)]; exact c5 (up 5 _ (by decide) h0), fun h0 => by rw [ev_ne (by decide)]; exact c6 (up 6 _ (by decide) h0), fun h0 => by rw [ev_ne (by decide)]; exact c7 (up 7 _ (by decide) h0), fun h0 => by rw [ev_ne (by decide)]; exact c8 (up 8 _ (by decide) h0), fun h0 => by rw [ev_ne (by decide)]; exact c9 (up 9 _ (by decide) h0), fun h0 => by rw [ev_ne (by decide)]; exact c10 (up 10 _ (by decide) h0), fun h0 => by rw [ev_ne (by decide)]; exact c11 (up 11 _ (by decide) h0), fun h0 => by rw [ev_ne (by decide)]; exact c12 (up 12 _ (by decide) h0), fun h0 => by rw [ev_ne (by decide)]; exact c13 (up 13 _ (by decide) h0), fun h0 => by rw [ev_ne (by decide)]; exact c14 (up 14 _ (by decide) h0), fun h0 => by rw [ev_ne (by decide)]; exact c15 (up 15 _ (by decide) h0), fun h0 => by rw [ev_ne (by decide)]; exact c16 (up 16 _ (by decide) h0), fun h0 => by rw [ev_ne (by decide)]; exact c17 (up 17 _ (by decide) h0), fun h0 => by rw [ev_ne (by decide)]; exact c18 (up 18 _ (by decide) h0), fun h0 => by rw [ev_ne (by decide)]; exact c19 (up 19 _ (by decide) h0), fun h0 => by rw [ev_ne (by decide)]; exact c20 (up 20 _ (by decide) h0), fun h0 => by rw [ev_ne (by decide)]; exact c21 (up 21 _ (by decide) h0), fun h0 => by rw [ev_ne (by decide)]; exact c22 (up 22 _ (by decide) h0), fun _ => ev_eq (by rw [hta]; decide), fun h0 h1 => by rw [ev_ne (by decide)]; exact c24 (up 24 _ (by decide) h0) (up 25 _ (by decide) h1), fun h0 => m0 (up 25 _ (by decide) h0), fun h0 => m1 (up 25 _ (by decide) h0), fun h0 => by rw [ev_ne (by decide)]; exact c25 (up 25 _ (by decide) h0), fun h0 => by rw [ev_ne (by decide)]; exact c26 (up 26 _ (by decide) h0), fun h0 => by rw [ev_ne (by decide)]; exact e7n (up 26 _ (by decide) h0), fun h0 => ⟨by rw [hset]; split; rfl; exact (d26 (up 26 _ (by decide) h0)).1, by rw [hset]; split; rfl; exact (d26 (up 26 _ (by decide) h0)).2⟩, fun h0 => by rw [hset]; split; rfl; exact d25 (up 25 _ (by decide) h0)⟩
    · obtain ⟨o1', ho', og, od, oo, ow⟩ := o24
      rw [ho'] at hoi
      injection hoi with hoi
      subst hoi
      have y2 : s'.getD 2 false = true := by
        obtain ⟨e, m', b, n'⟩ := ow 2 (by simp)
        have := haf e m' b
        rwa [n'] at this
      have y5 : s'.getD 5 false = true := by
        obtain ⟨e, m', b, n'⟩ := ow 5 (by simp)
        have := haf e m' b
        rwa [n'] at this
      have y7 : s'.getD 7 false = true := by
        obtain ⟨e, m', b, n'⟩ := ow 7 (by simp)
        have := haf e m' b
        rwa [n'] at this
      have y9 : s'.getD 9 false = true := by
        obtain ⟨e, m', b, n'⟩ := ow 9 (by simp)
        have := haf e m' b
        rwa [n'] at this
      have y11 : s'.getD 11 false = true := by
        obtain ⟨e, m', b, n'⟩ := ow 11 (by simp)
        have := haf e m' b
        rwa [n'] at this
      have y14 : s'.getD 14 false = true := by
        obtain ⟨e, m', b, n'⟩ := ow 14 (by simp)
        have := haf e m' b
        rwa [n'] at this
      have y17 : s'.getD 17 false = true := by
        obtain ⟨e, m', b, n'⟩ := ow 17 (by simp)
        have := haf e m' b
        rwa [n'] at this
      have y19 : s'.getD 19 false = true := by
        obtain ⟨e, m', b, n'⟩ := ow 19 (by simp)
        have := haf e m' b
        rwa [n'] at this
      have y21 : s'.getD 21 false = true := by
        obtain ⟨e, m', b, n'⟩ := ow 21 (by simp)
        have := haf e m' b
        rwa [n'] at this
      have y23 : s'.getD 23 false = true := by
        obtain ⟨e, m', b, n'⟩ := ow 23 (by simp)
        have := haf e m' b
        rwa [n'] at this
      have na0 : s'.getD 25 false = false := by
        rcases hh : s'.getD 25 false with _ | _
        · rfl
        · rw [d25 hh] at hnd; cases hnd
      have ns0 : s'.getD 26 false = false := by
        rcases hh : s'.getD 26 false with _ | _
        · rfl
        · rw [(d26 hh).1] at na0; cases na0
      refine wpOp_list ho' ?_
      refine at_bsB10 s.d (flB s.df) s.p s.x s.t (flB s.ie) (flB s.q) s.op s.b s.ph (.tmp 31) (.tmp 34) (.tmp 36) (.tmp 38) (.tmp 40) (.tmp 43) (.tmp 46) (.tmp 48) (.tmp 50) (.tmp 52) og oo (c2 y2) (c5 y5) (c7 y7) (c9 y9) (c11 y11) (c14 y14) (c17 y17) (c19 y19) (c21 y21) (c23 y23) ?_
      rw [od]
      have hb := below1 y (.cells (rowB [s.d, flB s.df, s.p, s.x, s.t, flB s.ie, flB s.q, s.op, s.b, s.ph]) 5)
      exact ⟨hsz', hfr.put 53 _ (by decide), v', trivial, fun h0 => by rw [ev_ne (by decide)]; exact c0 (up 0 _ (by decide) h0), fun h0 => by rw [ev_ne (by decide)]; exact c1 (up 1 _ (by decide) h0), fun h0 => by rw [ev_ne (by decide)]; exact c2 (up 2 _ (by decide) h0), fun h0 => by rw [ev_ne (by decide)]; exact c3 (up 3 _ (by decide) h0), fun h0 => by rw [ev_ne (by decide)]; exact c4 (up 4 _ (by decide) h0), fun h0 => by rw [ev_ne (by decide)]; exact c5 (up 5 _ (by decide) h0), fun h0 => by rw [ev_ne (by decide)]; exact c6 (up 6 _ (by decide) h0), fun h0 => by rw [ev_ne (by decide)]; exact c7 (up 7 _ (by decide) h0), fun h0 => by rw [ev_ne (by decide)]; exact c8 (up 8 _ (by decide) h0), fun h0 => by rw [ev_ne (by decide)]; exact c9 (up 9 _ (by decide) h0), fun h0 => by rw [ev_ne (by decide)]; exact c10 (up 10 _ (by decide) h0), fun h0 => by rw [ev_ne (by decide)]; exact c11 (up 11 _ (by decide) h0), fun h0 => by rw [ev_ne (by decide)]; exact c12 (up 12 _ (by decide) h0), fun h0 => by rw [ev_ne (by decide)]; exact c13 (up 13 _ (by decide) h0), fun h0 => by rw [ev_ne (by decide)]; exact c14 (up 14 _ (by decide) h0), fun h0 => by rw [ev_ne (by decide)]; exact c15 (up 15 _ (by decide) h0), fun h0 => by rw [ev_ne (by decide)]; exact c16 (up 16 _ (by decide) h0), fun h0 => by rw [ev_ne (by decide)]; exact c17 (up 17 _ (by decide) h0), fun h0 => by rw [ev_ne (by decide)]; exact c18 (up 18 _ (by decide) h0), fun h0 => by rw [ev_ne (by decide)]; exact c19 (up 19 _ (by decide) h0), fun h0 => by rw [ev_ne (by decide)]; exact c20 (up 20 _ (by decide) h0), fun h0 => by rw [ev_ne (by decide)]; exact c21 (up 21 _ (by decide) h0), fun h0 => by rw [ev_ne (by decide)]; exact c22 (up 22 _ (by decide) h0), fun h0 => by rw [ev_ne (by decide)]; exact c23 (up 23 _ (by decide) h0), fun _ _ => ⟨y.heap.size, ev_eq (by rw [hta]; decide), lb_row (one_bxL y _ _)⟩, fun h0' => (m0 (up 25 _ (by decide) h0')).below hb, fun h0' => absurd (up 25 _ (by decide) h0') (by rw [na0]; simp), fun h0 => by rw [ev_ne (by decide)]; exact c25 (up 25 _ (by decide) h0), fun h0 => by rw [ev_ne (by decide)]; exact c26 (up 26 _ (by decide) h0), fun h0 => by rw [ev_ne (by decide)]; exact e7n (up 26 _ (by decide) h0), fun h0 => ⟨by rw [hset]; split; rfl; exact (d26 (up 26 _ (by decide) h0)).1, by rw [hset]; split; rfl; exact (d26 (up 26 _ (by decide) h0)).2⟩, fun h0 => by rw [hset]; split; rfl; exact d25 (up 25 _ (by decide) h0)⟩
    · obtain ⟨o1', ho', og, od, oo, ow⟩ := o25
      rw [ho'] at hoi
      injection hoi with hoi
      subst hoi
      have y0 : s'.getD 0 false = true := by
        obtain ⟨e, m', b, n'⟩ := ow 0 (by simp)
        have := haf e m' b
        rwa [n'] at this
      have y24 : s'.getD 24 false = true := by
        obtain ⟨e, m', b, n'⟩ := ow 24 (by simp)
        have := haf e m' b
        rwa [n'] at this
      have ns0 : s'.getD 26 false = false := by
        rcases hh : s'.getD 26 false with _ | _
        · rfl
        · rw [(d26 hh).1] at hnd; cases hnd
      obtain ⟨g, k1, k2⟩ := c24 y24 hnd
      have hp := m0 hnd
      refine wpOp_list ho' ?_
      refine at_appNL kByte og (.tmp 29) (.tmp 53) oo B v l1 (c0 y0) hp.own g 0 10 10 [s.d, flB s.df, s.p, s.x, s.t, flB s.ie, flB s.q, s.op, s.b, s.ph] rfl k1 k2 (by decide) (by omega) hp.bs.2.2.2 ?_
      intro v2 z A2
      rw [od]
      exact ⟨hsz', hfr.put 54 _ (by decide), v2, trivial, fun h0 => by rw [ev_ne (by decide)]; exact c0 (up 0 _ (by decide) h0), fun h0 => by rw [ev_ne (by decide)]; exact c1 (up 1 _ (by decide) h0), fun h0 => by rw [ev_ne (by decide)]; exact c2 (up 2 _ (by decide) h0), fun h0 => by rw [ev_ne (by decide)]; exact c3 (up 3 _ (by decide) h0), fun h0 => by rw [ev_ne (by decide)]; exact c4 (up 4 _ (by decide) h0), fun h0 => by rw [ev_ne (by decide)]; exact c5 (up 5 _ (by decide) h0), fun h0 => by rw [ev_ne (by decide)]; exact c6 (up 6 _ (by decide) h0), fun h0 => by rw [ev_ne (by decide)]; exact c7 (up 7 _ (by decide) h0), fun h0 => by rw [ev_ne (by decide)]; exact c8 (up 8 _ (by decide) h0), fun h0 => by rw [ev_ne (by decide)]; exact c9 (up 9 _ (by decide) h0), fun h0 => by rw [ev_ne (by decide)]; exact c10 (up 10 _ (by decide) h0), fun h0 => by rw [ev_ne (by decide)]; exact c11 (up 11 _ (by decide) h0), fun h0 => by rw [ev_ne (by decide)]; exact c12 (up 12 _ (by decide) h0), fun h0 => by rw [ev_ne (by decide)]; exact c13 (up 13 _ (by decide) h0), fun h0 => by rw [ev_ne (by decide)]; exact c14 (up 14 _ (by decide) h0), fun h0 => by rw [ev_ne (by decide)]; exact c15 (up 15 _ (by decide) h0), fun h0 => by rw [ev_ne (by decide)]; exact c16 (up 16 _ (by decide) h0), fun h0 => by rw [ev_ne (by decide)]; exact c17 (up 17 _ (by decide) h0), fun h0 => by rw [ev_ne (by decide)]; exact c18 (up 18 _ (by decide) h0), fun h0 => by rw [ev_ne (by decide)]; exact c19 (up 19 _ (by decide) h0), fun h0 => by rw [ev_ne (by decide)]; exact c20 (up 20 _ (by decide) h0), fun h0 => by rw [ev_ne (by decide)]; exact c21 (up 21 _ (by decide) h0), fun h0 => by rw [ev_ne (by decide)]; exact c22 (up 22 _ (by decide) h0), fun h0 => by rw [ev_ne (by decide)]; exact c23 (up 23 _ (by decide) h0), fun _ h1 => absurd h1 (by rw [hset]; simp), fun h0' => absurd h0' (by rw [hset]; simp), fun _ => hp.go A2.out.own A2.out.cu.low, fun _ => ev_eq (by rw [hta]; decide), fun h0' => absurd (up 26 _ (by decide) h0') (by rw [ns0]; simp), fun h0 => by rw [ev_ne (by decide)]; exact e7n (up 26 _ (by decide) h0), fun h0 => ⟨by rw [hset]; split; rfl; exact (d26 (up 26 _ (by decide) h0)).1, by rw [hset]; split; rfl; exact (d26 (up 26 _ (by decide) h0)).2⟩, fun _ => by rw [hset]; simpa using y24⟩
    · obtain ⟨o1', ho', og, od, oo, ow⟩ := o26
      rw [ho'] at hoi
      injection hoi with hoi
      subst hoi
      have y25 : s'.getD 25 false = true := by
        obtain ⟨e, m', b, n'⟩ := ow 25 (by simp)
        have := haf e m' b
        rwa [n'] at this
      have y0 : s'.getD 0 false = true := by
        obtain ⟨e, m', b, n'⟩ := ow 0 (by simp)
        have := haf e m' b
        rwa [n'] at this
      refine wpOp_val v' ho' og ?_ ?_
      · unfold execOp; simp only [oo, c25 y25, Sem.run_pure]
      · rw [od]
        exact ⟨hsz', hfr.put 7 _ (by decide), v', trivial, fun h0 => by rw [ev_ne (by decide)]; exact c0 (up 0 _ (by decide) h0), fun h0 => by rw [ev_ne (by decide)]; exact c1 (up 1 _ (by decide) h0), fun h0 => by rw [ev_ne (by decide)]; exact c2 (up 2 _ (by decide) h0), fun h0 => by rw [ev_ne (by decide)]; exact c3 (up 3 _ (by decide) h0), fun h0 => by rw [ev_ne (by decide)]; exact c4 (up 4 _ (by decide) h0), fun h0 => by rw [ev_ne (by decide)]; exact c5 (up 5 _ (by decide) h0), fun h0 => by rw [ev_ne (by decide)]; exact c6 (up 6 _ (by decide) h0), fun h0 => by rw [ev_ne (by decide)]; exact c7 (up 7 _ (by decide) h0), fun h0 => by rw [ev_ne (by decide)]; exact c8 (up 8 _ (by decide) h0), fun h0 => by rw [ev_ne (by decide)]; exact c9 (up 9 _ (by decide) h0), fun h0 => by rw [ev_ne (by decide)]; exact c10 (up 10 _ (by decide) h0), fun h0 => by rw [ev_ne (by decide)]; exact c11 (up 11 _ (by decide) h0), fun h0 => by rw [ev_ne (by decide)]; exact c12 (up 12 _ (by decide) h0), fun h0 => by rw [ev_ne (by decide)]; exact c13 (up 13 _ (by decide) h0), fun h0 => by rw [ev_ne (by decide)]; exact c14 (up 14 _ (by decide) h0), fun h0 => by rw [ev_ne (by decide)]; exact c15 (up 15 _ (by decide) h0), fun h0 => by rw [ev_ne (by decide)]; exact c16 (up 16 _ (by decide) h0), fun h0 => by rw [ev_ne (by decide)]; exact c17 (up 17 _ (by decide) h0), fun h0 => by rw [ev_ne (by decide)]; exact c18 (up 18 _ (by decide) h0), fun h0 => by rw [ev_ne (by decide)]; exact c19 (up 19 _ (by decide) h0), fun h0 => by rw [ev_ne (by decide)]; exact c20 (up 20 _ (by decide) h0), fun h0 => by rw [ev_ne (by decide)]; exact c21 (up 21 _ (by decide) h0), fun h0 => by rw [ev_ne (by decide)]; exact c22 (up 22 _ (by decide) h0), fun h0 => by rw [ev_ne (by decide)]; exact c23 (up 23 _ (by decide) h0), fun h0 h1 => by rw [ev_ne (by decide)]; exact c24 (up 24 _ (by decide) h0) (up 25 _ (by decide) h1), fun h0 => m0 (up 25 _ (by decide) h0), fun h0 => m1 (up 25 _ (by decide) h0), fun h0 => by rw [ev_ne (by decide)]; exact c25 (up 25 _ (by decide) h0), fun _ => ev_eq (by rw [hta]; decide), fun h0' => absurd h0' (by rw [hset]; simp), fun _ => ⟨by rw [hset]; simpa using y25, by rw [hset]; simpa using y0⟩, fun h0 => by rw [hset]; split; rfl; exact d25 (up 25 _ (by decide) h0)⟩
  · intro s' a y hI' hall
    obtain ⟨hs', hfr, v', _, c0, c1, c2, c3, c4, c5, c6, c7, c8, c9, c10, c11, c12, c13, c14, c15, c16, c17, c18, c19, c20, c21, c22, c23, c24, m0, m1, c25, c26, e7n, d26, d25⟩ := hI'
    have e' := hfr.eq ht
    rw [c26 (hall 26 (by omega))] at e'
    rw [e']
    exact fin y v' _ _ _ _ _ _ _ _ _ _ _ _ _ _ _ _ _ _ _ _ _ _ _ _ _ _ (m1 (hall 25 (by omega)))
def isV (j : Nat) : Bool := Nat.beq j 7 || (Nat.ble 60 j && Nat.ble j 77)
structure FV (A a : Act) : Prop where
  df : a.defers = A.defers
  sz : a.tmps.size = A.tmps.size
  ev : ∀ j, isV j = false → a.eval (.tmp j) = A.eval (.tmp j)
theorem FV.put {A a : Act} (h : FV A a) (d : Nat) (v : Value) (hd : isV d = true) : FV A (a.put (some d) v) := by
  refine ⟨h.df, ?_, fun j hj => ?_⟩
  · rw [szP]
    exact h.sz
  · rw [ev_ne (fun e => by rw [e, hd] at hj; cases hj)]
    exact h.ev j hj
def actV (A : Act) (v7 v60 v61 v62 v63 v64 v65 v66 v67 v68 v69 v70 v71 v72 v73 v74 v75 v76 v77 : Value) : Act := ((((((((((((((((((A.put (some 7) v7).put (some 60) v60).put (some 61) v61).put (some 62) v62).put (some 63) v63).put (some 64) v64).put (some 65) v65).put (some 66) v66).put (some 67) v67).put (some 68) v68).put (some 69) v69).put (some 70) v70).put (some 71) v71).put (some 72) v72).put (some 73) v73).put (some 74) v74).put (some 75) v75).put (some 76) v76).put (some 77) v77
theorem VAt7 (A : Act) (hA : A.tmps.size = 100) (v7 v60 v61 v62 v63 v64 v65 v66 v67 v68 v69 v70 v71 v72 v73 v74 v75 v76 v77 : Value) : (actV A v7 v60 v61 v62 v63 v64 v65 v66 v67 v68 v69 v70 v71 v72 v73 v74 v75 v76 v77).eval (.tmp 7) = v7 := by
  unfold actV
  rw [ev_ne (by decide), ev_ne (by decide), ev_ne (by decide), ev_ne (by decide), ev_ne (by decide), ev_ne (by decide), ev_ne (by decide), ev_ne (by decide), ev_ne (by decide), ev_ne (by decide), ev_ne (by decide), ev_ne (by decide), ev_ne (by decide), ev_ne (by decide), ev_ne (by decide), ev_ne (by decide), ev_ne (by decide), ev_ne (by decide), ev_eq (by simp only [hA]; decide)]
theorem VAt60 (A : Act) (hA : A.tmps.size = 100) (v7 v60 v61 v62 v63 v64 v65 v66 v67 v68 v69 v70 v71 v72 v73 v74 v75 v76 v77 : Value) : (actV A v7 v60 v61 v62 v63 v64 v65 v66 v67 v68 v69 v70 v71 v72 v73 v74 v75 v76 v77).eval (.tmp 60) = v60 := by
  unfold actV
  rw [ev_ne (by decide), ev_ne (by decide), ev_ne (by decide), ev_ne (by decide), ev_ne (by decide), ev_ne (by decide), ev_ne (by decide), ev_ne (by decide), ev_ne (by decide), ev_ne (by decide), ev_ne (by decide), ev_ne (by decide), ev_ne (by decide), ev_ne (by decide), ev_ne (by decide), ev_ne (by decide), ev_ne (by decide), ev_eq (by simp only [szP, hA]; decide)]
theorem VAt61 (A : Act) (hA : A.tmps.size = 100) (v7 v60 v61 v62 v63 v64 v65 v66 v67 v68 v69 v70 v71 v72 v73 v74 v75 v76 v77 : Value) : (actV A v7 v60 v61 v62 v63 v64 v65 v66 v67 v68 v69 v70 v71 v72 v73 v74 v75 v76 v77).eval (.tmp 61) = v61 := by
  unfold actV
  rw [ev_ne (by decide), ev_ne (by decide), ev_ne (by decide), ev_ne (by decide), ev_ne (by decide), ev_ne (by decide), ev_ne (by decide), ev_ne (by decide), ev_ne (by decide), ev_ne (by decide), ev_ne (by decide), ev_ne (by decide), ev_ne (by decide), ev_ne (by decide), ev_ne (by decide), ev_ne (by decide), ev_eq (by simp only [szP, hA]; decide)]
theorem VAt62 (A : Act) (hA : A.tmps.size = 100) (v7 v60 v61 v62 v63 v64 v65 v66 v67 v68 v69 v70 v71 v72 v73 v74 v75 v76 v77 : Value) : (actV A v7 v60 v61 v62 v63 v64 v65 v66 v67 v68 v69 v70 v71 v72 v73 v74 v75 v76 v77).eval (.tmp 62) = v62 := by
  unfold actV
  rw [ev_ne (by decide), ev_ne (by decide), ev_ne (by decide), ev_ne (by decide), ev_ne (by decide), ev_ne (by decide), ev_ne (by decide), ev_ne (by decide), ev_ne (by decide), ev_ne (by decide), ev_ne (by decide), ev_ne (by decide), ev_ne (by decide), ev_ne (by decide), ev_ne (by decide), ev_eq (by simp only [szP, hA]; decide)]
theorem VAt63 (A : Act) (hA : A.tmps.size = 100) (v7 v60 v61 v62 v63 v64 v65 v66 v67 v68 v69 v70 v71 v72 v73 v74 v75 v76 v77 : Value) : (actV A v7 v60 v61 v62 v63 v64 v65 v66 v67 v68 v69 v70 v71 v72 v73 v74 v75 v76 v77).eval (.tmp 63) = v63 := by
  unfold actV
  rw [ev_ne (by decide), ev_ne (by decide), ev_ne (by decide), ev_ne (by decide), ev_ne (by decide), ev_ne (by decide), ev_ne (by decide), ev_ne (by decide), ev_ne (by decide), ev_ne (by decide), ev_ne (by decide), ev_ne (by decide), ev_ne (by decide), ev_ne (by decide), ev_eq (by simp only [szP, hA]; decide)]
theorem VAt64 (A : Act) (hA : A.tmps.size = 100) (v7 v60 v61 v62 v63 v64 v65 v66 v67 v68 v69 v70 v71 v72 v73 v74 v75 v76 v77 : Value) : (actV A v7 v60 v61 v62 v63 v64 v65 v66 v67 v68 v69 v70 v71 v72 v73 v74 v75 v76 v77).eval (.tmp 64) = v64 := by
  unfold actV
  rw [ev_ne (by decide), ev_ne (by decide), ev_ne (by decide), ev_ne (by decide), ev_ne (by decide), ev_ne (by decide), ev_ne (by decide), ev_ne (by decide), ev_ne (by decide), ev_ne (by decide), ev_ne (by decide), ev_ne (by decide), ev_ne (by decide), ev_eq (by simp only [szP, hA]; decide)]
theorem VAt65 (A : Act) (hA : A.tmps.size = 100) (v7 v60 v61 v62 v63 v64 v65 v66 v67 v68 v69 v70 v71 v72 v73 v74 v75 v76 v77 : Value) : (actV A v7 v60 v61 v62 v63 v64 v65 v66 v67 v68 v69 v70 v71 v72 v73 v74 v75 v76 v77).eval (.tmp 65) = v65 := by
  unfold actV
  rw [ev_ne (by decide), ev_ne (by decide), ev_ne (by decide), ev_ne (by decide), ev_ne (by decide), ev_ne (by decide), ev_ne (by decide), ev_ne (by decide), ev_ne (by decide), ev_ne (by decide), ev_ne (by decide), ev_ne (by decide), ev_eq (by simp only [szP, hA]; decide)]
theorem VAt66 (A : Act) (hA : A.tmps.size = 100) (v7 v60 v61 v62 v63 v64 v65 v66 v67 v68 v69 v70 v71 v72 v73 v74 v75 v76 v77 : Value) : (actV A v7 v60 v61 v62 v63 v64 v65 v66 v67 v68 v69 v70 v71 v72 v73 v74 v75 v76 v77).eval (.tmp 66) = v66 := by
  unfold actV
  rw [ev_ne (by decide), ev_ne (by decide), ev_ne (by decide), ev_ne (by decide), ev_ne (by decide), ev_ne (by decide), ev_ne (by decide), ev_ne (by decide), ev_ne (by decide), ev_ne (by decide), ev_ne (by decide), ev_eq (by simp only [szP, hA]; decide)]
theorem VAt67 (A : Act) (hA : A.tmps.size = 100) (v7 v60 v61 v62 v63 v64 v65 v66 v67 v68 v69 v70 v71 v72 v73 v74 v75 v76 v77 : Value) : (actV A v7 v60 v61 v62 v63 v64 v65 v66 v67 v68 v69 v70 v71 v72 v73 v74 v75 v76 v77).eval (.tmp 67) = v67 := by
  unfold actV
  rw [ev_ne (by decide), ev_ne (by decide), ev_ne (by decide), ev_ne (by decide), ev_ne (by decide), ev_ne (by decide), ev_ne (by decide), ev_ne (by decide), ev_ne (by decide), ev_ne (by decide), ev_eq (by simp only [szP, hA]; decide)]
theorem VAt68 (A : Act) (hA : A.tmps.size = 100) (v7 v60 v61 v62 v63 v64 v65 v66 v67 v68 v69 v70 v71 v72 v73 v74 v75 v76 v77 : Value) : (actV A v7 v60 v61 v62 v63 v64 v65 v66 v67 v68 v69 v70 v71 v72 v73 v74 v75 v76 v77).eval (.tmp 68) = v68 := by
  unfold actV
  rw [ev_ne (by decide), ev_ne (by decide), ev_ne (by decide), ev_ne (by decide), ev_ne (by decide), ev_ne (by decide), ev_ne (by decide), ev_ne (by decide), ev_ne (by decide), ev_eq (by simp only [szP, hA]; decide)]
theorem VAt69 (A : Act) (hA : A.tmps.size = 100) (v7 v60 v61 v62 v63 v64 v65 v66 v67 v68 v69 v70 v71 v72 v73 v74 v75 v76 v77 : Value) : (actV A v7 v60 v61 v62 v63 v64 v65 v66 v67 v68 v69 v70 v71 v72 v73 v74 v75 v76 v77).eval (.tmp 69) = v69 := by
  unfold actV
  rw [ev_ne (by decide), ev_ne (by decide), ev_ne (by decide), ev_ne (by decide), ev_ne (by decide), ev_ne (by decide), ev_ne (by decide), ev_ne (by decide), ev_eq (by simp only [szP, hA]; decide)]
theorem VAt70 (A : Act) (hA : A.tmps.size = 100) (v7 v60 v61 v62 v63 v64 v65 v66 v67 v68 v69 v70 v71 v72 v73 v74 v75 v76 v77 : Value) : (actV A v7 v60 v61 v62 v63 v64 v65 v66 v67 v68 v69 v70 v71 v72 v73 v74 v75 v76 v77).eval (.tmp 70) = v70 := by
  unfold actV
  rw [ev_ne (by decide), ev_ne (by decide), ev_ne (by decide), ev_ne (by decide), ev_ne (by decide), ev_ne (by decide), ev_ne (by decide), ev_eq (by simp only [szP, hA]; decide)]
theorem VAt71 (A : Act) (hA : A.tmps.size = 100) (v7 v60 v61 v62 v63 v64 v65 v66 v67 v68 v69 v70 v71 v72 v73 v74 v75 v76 v77 : Value) : (actV A v7 v60 v61 v62 v63 v64 v65 v66 v67 v68 v69 v70 v71 v72 v73 v74 v75 v76 v77).eval (.tmp 71) = v71 := by
  unfold actV
  rw [ev_ne (by decide), ev_ne (by decide), ev_ne (by decide), ev_ne (by decide), ev_ne (by decide), ev_ne (by decide), ev_eq (by simp only [szP, hA]; decide)]
theorem VAt72 (A : Act) (hA : A.tmps.size = 100) (v7 v60 v61 v62 v63 v64 v65 v66 v67 v68 v69 v70 v71 v72 v73 v74 v75 v76 v77 : Value) : (actV A v7 v60 v61 v62 v63 v64 v65 v66 v67 v68 v69 v70 v71 v72 v73 v74 v75 v76 v77).eval (.tmp 72) = v72 := by
  unfold actV
  rw [ev_ne (by decide), ev_ne (by decide), ev_ne (by decide), ev_ne (by decide), ev_ne (by decide), ev_eq (by simp only [szP, hA]; decide)]
theorem VAt73 (A : Act) (hA : A.tmps.size = 100) (v7 v60 v61 v62 v63 v64 v65 v66 v67 v68 v69 v70 v71 v72 v73 v74 v75 v76 v77 : Value) : (actV A v7 v60 v61 v62 v63 v64 v65 v66 v67 v68 v69 v70 v71 v72 v73 v74 v75 v76 v77).eval (.tmp 73) = v73 := by
  unfold actV
  rw [ev_ne (by decide), ev_ne (by decide), ev_ne (by decide), ev_ne (by decide), ev_eq (by simp only [szP, hA]; decide)]
theorem VAt74 (A : Act) (hA : A.tmps.size = 100) (v7 v60 v61 v62 v63 v64 v65 v66 v67 v68 v69 v70 v71 v72 v73 v74 v75 v76 v77 : Value) : (actV A v7 v60 v61 v62 v63 v64 v65 v66 v67 v68 v69 v70 v71 v72 v73 v74 v75 v76 v77).eval (.tmp 74) = v74 := by
  unfold actV
  rw [ev_ne (by decide), ev_ne (by decide), ev_ne (by decide), ev_eq (by simp only [szP, hA]; decide)]
theorem VAt75 (A : Act) (hA : A.tmps.size = 100) (v7 v60 v61 v62 v63 v64 v65 v66 v67 v68 v69 v70 v71 v72 v73 v74 v75 v76 v77 : Value) : (actV A v7 v60 v61 v62 v63 v64 v65 v66 v67 v68 v69 v70 v71 v72 v73 v74 v75 v76 v77).eval (.tmp 75) = v75 := by
  unfold actV
  rw [ev_ne (by decide), ev_ne (by decide), ev_eq (by simp only [szP, hA]; decide)]
theorem VAt76 (A : Act) (hA : A.tmps.size = 100) (v7 v60 v61 v62 v63 v64 v65 v66 v67 v68 v69 v70 v71 v72 v73 v74 v75 v76 v77 : Value) : (actV A v7 v60 v61 v62 v63 v64 v65 v66 v67 v68 v69 v70 v71 v72 v73 v74 v75 v76 v77).eval (.tmp 76) = v76 := by
  unfold actV
  rw [ev_ne (by decide), ev_eq (by simp only [szP, hA]; decide)]
theorem VAt77 (A : Act) (hA : A.tmps.size = 100) (v7 v60 v61 v62 v63 v64 v65 v66 v67 v68 v69 v70 v71 v72 v73 v74 v75 v76 v77 : Value) : (actV A v7 v60 v61 v62 v63 v64 v65 v66 v67 v68 v69 v70 v71 v72 v73 v74 v75 v76 v77).eval (.tmp 77) = v77 := by
  unfold actV
  rw [ev_eq (by simp only [szP, hA]; decide)]
theorem VOut (A : Act) (j : Nat) (e7 : j ≠ 7) (e60 : j ≠ 60) (e61 : j ≠ 61) (e62 : j ≠ 62) (e63 : j ≠ 63) (e64 : j ≠ 64) (e65 : j ≠ 65) (e66 : j ≠ 66) (e67 : j ≠ 67) (e68 : j ≠ 68) (e69 : j ≠ 69) (e70 : j ≠ 70) (e71 : j ≠ 71) (e72 : j ≠ 72) (e73 : j ≠ 73) (e74 : j ≠ 74) (e75 : j ≠ 75) (e76 : j ≠ 76) (e77 : j ≠ 77) (v7 v60 v61 v62 v63 v64 v65 v66 v67 v68 v69 v70 v71 v72 v73 v74 v75 v76 v77 : Value) : (actV A v7 v60 v61 v62 v63 v64 v65 v66 v67 v68 v69 v70 v71 v72 v73 v74 v75 v76 v77).eval (.tmp j) = A.eval (.tmp j) := by
  unfold actV
  rw [ev_ne e77, ev_ne e76, ev_ne e75, ev_ne e74, ev_ne e73, ev_ne e72, ev_ne e71, ev_ne e70, ev_ne e69, ev_ne e68, ev_ne e67, ev_ne e66, ev_ne e65, ev_ne e64, ev_ne e63, ev_ne e62, ev_ne e61, ev_ne e60, ev_ne e7]
theorem FV.eq {A a : Act} (h : FV A a) (hA : A.tmps.size = 100) : a = actV A (a.eval (.tmp 7)) (a.eval (.tmp 60)) (a.eval (.tmp 61)) (a.eval (.tmp 62)) (a.eval (.tmp 63)) (a.eval (.tmp 64)) (a.eval (.tmp 65)) (a.eval (.tmp 66)) (a.eval (.tmp 67)) (a.eval (.tmp 68)) (a.eval (.tmp 69)) (a.eval (.tmp 70)) (a.eval (.tmp 71)) (a.eval (.tmp 72)) (a.eval (.tmp 73)) (a.eval (.tmp 74)) (a.eval (.tmp 75)) (a.eval (.tmp 76)) (a.eval (.tmp 77)) := by
  have df : (actV A (a.eval (.tmp 7)) (a.eval (.tmp 60)) (a.eval (.tmp 61)) (a.eval (.tmp 62)) (a.eval (.tmp 63)) (a.eval (.tmp 64)) (a.eval (.tmp 65)) (a.eval (.tmp 66)) (a.eval (.tmp 67)) (a.eval (.tmp 68)) (a.eval (.tmp 69)) (a.eval (.tmp 70)) (a.eval (.tmp 71)) (a.eval (.tmp 72)) (a.eval (.tmp 73)) (a.eval (.tmp 74)) (a.eval (.tmp 75)) (a.eval (.tmp 76)) (a.eval (.tmp 77))).defers = A.defers := by unfold actV; simp only [dfP]
  have sz2 : (actV A (a.eval (.tmp 7)) (a.eval (.tmp 60)) (a.eval (.tmp 61)) (a.eval (.tmp 62)) (a.eval (.tmp 63)) (a.eval (.tmp 64)) (a.eval (.tmp 65)) (a.eval (.tmp 66)) (a.eval (.tmp 67)) (a.eval (.tmp 68)) (a.eval (.tmp 69)) (a.eval (.tmp 70)) (a.eval (.tmp 71)) (a.eval (.tmp 72)) (a.eval (.tmp 73)) (a.eval (.tmp 74)) (a.eval (.tmp 75)) (a.eval (.tmp 76)) (a.eval (.tmp 77))).tmps.size = A.tmps.size := by unfold actV; simp only [szP]
  refine act_ext (h.df.trans df.symm) (h.sz.trans sz2.symm) fun (j : Nat) => ?_
  by_cases e7 : j = 7; (subst e7; exact (VAt7 A hA _ _ _ _ _ _ _ _ _ _ _ _ _ _ _ _ _ _ _).symm); by_cases e60 : j = 60; (subst e60; exact (VAt60 A hA _ _ _ _ _ _ _ _ _ _ _ _ _ _ _ _ _ _ _).symm); by_cases e61 : j = 61; (subst e61; exact (VAt61 A hA _ _ _ _ _ _ _ _ _ _ _ _ _ _ _ _ _ _ _).symm); by_cases e62 : j = 62; (subst e62; exact (VAt62 A hA _ _ _ _ _ _ _ _ _ _ _ _ _ _ _ _ _ _ _).symm); by_cases e63 : j = 63; (subst e63; exact (VAt63 A hA _ _ _ _ _ _ _ _ _ _ _ _ _ _ _ _ _ _ _).symm); by_cases e64 : j = 64; (subst e64; exact (VAt64 A hA _ _ _ _ _ _ _ _ _ _ _ _ _ _ _ _ _ _ _).symm); by_cases e65 : j = 65; (subst e65; exact (VAt65 A hA _ _ _ _ _ _ _ _ _ _ _ _ _ _ _ _ _ _ _).symm); by_cases e66 : j = 66; (subst e66; exact (VAt66 A hA _ _ _ _ _ _ _ _ _ _ _ _ _ _ _ _ _ _ _).symm); by_cases e67 : j = 67; (subst e67; exact (VAt67 A hA _ _ _ _ _ _ _ _ _ _ _ _ _ _ _ _ _ _ _).symm); by_cases e68 : j = 68; (subst e68; exact (VAt68 A hA _ _ _ _ _ _ _ _ _ _ _ _ _ _ _ _ _ _ _).symm); by_cases e69 : j = 69; (subst e69; exact (VAt69 A hA _ _ _ _ _ _ _ _ _ _ _ _ _ _ _ _ _ _ _).symm); by_cases e70 : j = 70; (subst e70; exact (VAt70 A hA _ _ _ _ _ _ _ _ _ _ _ _ _ _ _ _ _ _ _).symm); by_cases e71 : j = 71; (subst e71; exact (VAt71 A hA _ _ _ _ _ _ _ _ _ _ _ _ _ _ _ _ _ _ _).symm); by_cases e72 : j = 72; (subst e72; exact (VAt72 A hA _ _ _ _ _ _ _ _ _ _ _ _ _ _ _ _ _ _ _).symm); by_cases e73 : j = 73; (subst e73; exact (VAt73 A hA _ _ _ _ _ _ _ _ _ _ _ _ _ _ _ _ _ _ _).symm); by_cases e74 : j = 74; (subst e74; exact (VAt74 A hA _ _ _ _ _ _ _ _ _ _ _ _ _ _ _ _ _ _ _).symm); by_cases e75 : j = 75; (subst e75; exact (VAt75 A hA _ _ _ _ _ _ _ _ _ _ _ _ _ _ _ _ _ _ _).symm); by_cases e76 : j = 76; (subst e76; exact (VAt76 A hA _ _ _ _ _ _ _ _ _ _ _ _ _ _ _ _ _ _ _).symm); by_cases e77 : j = 77; (subst e77; exact (VAt77 A hA _ _ _ _ _ _ _ _ _ _ _ _ _ _ _ _ _ _ _).symm)
  refine (h.ev j ?_).trans (VOut A j e7 e60 e61 e62 e63 e64 e65 e66 e67 e68 e69 e70 e71 e72 e73 e74 e75 e76 e77 _ _ _ _ _ _ _ _ _ _ _ _ _ _ _ _ _ _ _).symm
  rcases hb : isV j with _ | _
  · rfl
  · exfalso
    unfold isV at hb
    simp only [Bool.or_eq_true, Bool.and_eq_true, Nat.ble_eq] at hb
    have k1 : Nat.beq j 7 = true → j = 7 := Nat.eq_of_beq_eq_true
    rcases hb with hb | hb
    · exact e7 (k1 hb)
    · omega
theorem ltV {i : Nat} (h : i < 19) : i = 0 ∨ i = 1 ∨ i = 2 ∨ i = 3 ∨ i = 4 ∨ i = 5 ∨ i = 6 ∨ i = 7 ∨ i = 8 ∨ i = 9 ∨ i = 10 ∨ i = 11 ∨ i = 12 ∨ i = 13 ∨ i = 14 ∨ i = 15 ∨ i = 16 ∨ i = 17 ∨ i = 18 := by omega
def IV (w : World) (B b1 b2 : Nat) (C : Array Value) (s : Bd) (v : Value) (l3 : List UInt8) (CY GT : Nat) (A : Act) (s' : Array Bool) (a : Act) (y : World) : Prop := s'.size = 19 ∧ FV A a ∧ ∃ v' : Value, True
  ∧ (s'.getD 0 false = true → a.eval (.tmp 60) = v)
  ∧ (s'.getD 1 false = true → a.eval (.tmp 61) = .pointer (some ⟨b2, 1, none⟩))
  ∧ (s'.getD 2 false = true → a.eval (.tmp 62) = .int .i64 (CY : Int))
  ∧ (s'.getD 3 false = true → a.eval (.tmp 63) = .int .u8 (CY : Int))
  ∧ (s'.getD 4 false = true → a.eval (.tmp 64) = .pointer (some ⟨b2, 2, none⟩))
  ∧ (s'.getD 5 false = true → a.eval (.tmp 65) = .bool s.on)
  ∧ (s'.getD 6 false = true → a.eval (.tmp 66) = .int .u8 ((flB s.on).toNat : Int))
  ∧ (s'.getD 7 false = true → a.eval (.tmp 67) = .pointer (some ⟨b2, 3, none⟩))
  ∧ (s'.getD 8 false = true → a.eval (.tmp 68) = .int .i64 (GT : Int))
  ∧ (s'.getD 9 false = true → a.eval (.tmp 69) = .int .u8 (GT : Int))
  ∧ (s'.getD 10 false = true → a.eval (.tmp 70) = .pointer (some ⟨w.heap.size, 30, none⟩))
  ∧ (s'.getD 11 false = true → a.eval (.tmp 71) = .pointer (some ⟨w.heap.size, 30, none⟩))
  ∧ (s'.getD 12 false = true → a.eval (.tmp 72) = byV s.pd)
  ∧ (s'.getD 13 false = true → a.eval (.tmp 73) = .pointer (some ⟨w.heap.size, 31, none⟩))
  ∧ (s'.getD 14 false = true → a.eval (.tmp 74) = .bool s.lt)
  ∧ (s'.getD 15 false = true → a.eval (.tmp 75) = .int .u8 ((flB s.lt).toNat : Int))
  ∧ (s'.getD 16 false = true → s'.getD 17 false = false → ∃ g, a.eval (.tmp 76) = .slice (some ⟨g, 0, none⟩) 5 5 ∧ LB y (some ⟨g, 0, none⟩) [UInt8.ofNat CY, flB s.on, UInt8.ofNat GT, s.pd, flB s.lt])
  ∧ (s'.getD 17 false = false → SvK w B b1 b2 C s v l3 y)
  ∧ (s'.getD 17 false = true → SvK w B b1 b2 C s v' (l3 ++ [UInt8.ofNat CY, flB s.on, UInt8.ofNat GT, s.pd, flB s.lt]) y)
  ∧ (s'.getD 17 false = true → a.eval (.tmp 77) = v')
  ∧ (s'.getD 18 false = true → a.eval (.tmp 7) = v')
  ∧ (s'.getD 18 false = false → a.eval (.tmp 7) = v)
  ∧ (s'.getD 18 false = true → s'.getD 17 false = true ∧ s'.getD 0 false = true)
  ∧ (s'.getD 17 false = true → s'.getD 16 false = true)
theorem regV {ops : Array Oper} {Q : Exit → Act → World → Prop} {id : Nat} {A : Act} {y0 : World} (w : World) (B b1 b2 : Nat) (C : Array Value) (s : Bd) (v : Value) (l3 : List UInt8) (CY GT : Nat) (eCY : s.cy = (CY : Int)) (eGT : s.gt = (GT : Int)) (iCY : (CY : Int) < 256) (iGT : (GT : Int) < 256) (wCY : IntKind.u8.wrap (CY : Int) = (CY : Int)) (wGT : IntKind.u8.wrap (GT : Int) = (GT : Int)) (bCY : byV (UInt8.ofNat CY) = .int .u8 (CY : Int)) (bGT : byV (UInt8.ofNat GT) = .int .u8 (GT : Int)) (hc30 : C[30]? = some (byV s.pd)) (hc31 : C[31]? = some (.bool s.lt)) (hl : l3.length ≤ 10000000000) (hsz : ops.size = 19) (hu : upB .any ops = true)
    (o0 : OpA ops 0 (some 60) (.move (.tmp 7)) [])
    (o1 : OpA ops 1 (some 61) (.fieldAddr 28 (.tmp 6) 1) [])
    (o2 : OpA ops 2 (some 62) (.load 3 (.tmp 61)) [1])
    (o3 : OpA ops 3 (some 63) (.convert 3 5 (.tmp 62)) [2])
    (o4 : OpA ops 4 (some 64) (.fieldAddr 28 (.tmp 6) 2) [])
    (o5 : OpA ops 5 (some 65) (.load 4 (.tmp 64)) [4])
    (o6 : OpA ops 6 (some 66) (.call { callee := .value (.func 21), args := #[.tmp 65], argTypes := #[4] }) [5])
    (o7 : OpA ops 7 (some 67) (.fieldAddr 28 (.tmp 6) 3) [])
    (o8 : OpA ops 8 (some 68) (.load 3 (.tmp 67)) [7])
    (o9 : OpA ops 9 (some 69) (.convert 3 5 (.tmp 68)) [8])
    (o10 : OpA ops 10 (some 70) (.fieldAddr 34 (.tmp 1) 2) [])
    (o11 : OpA ops 11 (some 71) (.fieldAddr 30 (.tmp 70) 0) [10])
    (o12 : OpA ops 12 (some 72) (.load 5 (.tmp 71)) [11])
    (o13 : OpA ops 13 (some 73) (.fieldAddr 34 (.tmp 1) 3) [])
    (o14 : OpA ops 14 (some 74) (.load 4 (.tmp 73)) [13])
    (o15 : OpA ops 15 (some 75) (.call { callee := .value (.func 21), args := #[.tmp 74], argTypes := #[4] }) [14])
    (o16 : OpA ops 16 (some 76) (.buildSlice 31 5 #[(0, .tmp 63), (1, .tmp 66), (2, .tmp 69), (3, .tmp 72), (4, .tmp 75)]) [3, 6, 9, 12, 15])
    (o17 : OpA ops 17 (some 77) (.call { callee := .builtin .append, args := #[.tmp 60, .tmp 76], argTypes := #[31, 31] }) [0, 16])
    (o18 : OpA ops 18 (some 7) (.assign (.tmp 77)) [17, 0])
    (ht : A.tmps.size = 100) (e7 : A.eval (.tmp 7) = v) (e5 : A.eval (.tmp 5) = .pointer (some ⟨b1, 0, none⟩)) (e6 : A.eval (.tmp 6) = .pointer (some ⟨b2, 0, none⟩)) (e1 : A.eval (.tmp 1) = .pointer (some ⟨w.heap.size, 0, none⟩)) (h0 : SvK w B b1 b2 C s v l3 y0)
    (fin : ∀ (y : World) (v' : Value) (v60 v61 v62 v63 v64 v65 v66 v67 v68 v69 v70 v71 v72 v73 v74 v75 v76 v77 : Value), Hid (SvK w B b1 b2 C s v' (l3 ++ [UInt8.ofNat CY, flB s.on, UInt8.ofNat GT, s.pd, flB s.lt]) y) → Q .normal (actV A v' v60 v61 v62 v63 v64 v65 v66 v67 v68 v69 v70 v71 v72 v73 v74 v75 v76 v77) y) : (Code.region id ops true).wp Tryz.prog Q A y0 := by
  refine region_inv2 (IV w B b1 b2 C s v l3 CY GT A) (by kernel_rfl) hu (fun s' a y h => by rw [h.1, hsz]) ?_ ?_ ?_
  · rw [hsz]
    refine ⟨rfl, ⟨rfl, rfl, fun _ _ => rfl⟩, undef, trivial, fun h => absurd h (by decide), fun h => absurd h (by decide), fun h => absurd h (by decide), fun h => absurd h (by decide), fun h => absurd h (by decide), fun h => absurd h (by decide), fun h => absurd h (by decide), fun h => absurd h (by decide), fun h => absurd h (by decide), fun h => absurd h (by decide), fun h => absurd h (by decide), fun h => absurd h (by decide), fun h => absurd h (by decide), fun h => absurd h (by decide), fun h => absurd h (by decide), fun h => absurd h (by decide), fun h _ => absurd h (by decide), fun _ => h0.drew, fun h => absurd h (by decide), fun h => absurd h (by decide), fun h => absurd h (by decide), fun _ => e7, fun h => absurd h (by decide), fun h => absurd h (by decide)⟩
  · intro s' a y k o' hI' hoi hnd haf
    have hi : k < 19 := by rw [← hsz]; exact (Array.getElem?_eq_some_iff.1 hoi).1
    obtain ⟨hs', hfr, v', _, c0, c1, c2, c3, c4, c5, c6, c7, c8, c9, c10, c11, c12, c13, c14, c15, c16, m0, m1, c17, c18, e7n, d18, d17⟩ := hI'
    have hta : a.tmps.size = 100 := by rw [hfr.sz]; exact ht
    have a5 := (hfr.ev 5 (by decide)).trans e5
    have a6 := (hfr.ev 6 (by decide)).trans e6
    have a1 := (hfr.ev 1 (by decide)).trans e1
    have hset : ∀ j, (s'.setIfInBounds k true).getD j false = if j = k then true else s'.getD j false := fun j => getD_set s' k j (by omega)
    have hsz' : (s'.setIfInBounds k true).size = 19 := by simpa using hs'
    have up : ∀ j b, j ≠ k → (s'.setIfInBounds k true).getD j false = b → s'.getD j false = b := fun j b hj h => by rw [hset, if_neg hj] at h; exact h
    rcases ltV hi with rfl | rfl | rfl | rfl | rfl | rfl | rfl | rfl | rfl | rfl | rfl | rfl | rfl | rfl | rfl | rfl | rfl | rfl | rfl
    · obtain ⟨o1', ho', og, od, oo, ow⟩ := o0
      rw [ho'] at hoi
      injection hoi with hoi
      subst hoi
      have ns0 : s'.getD 18 false = false := by
        rcases hh : s'.getD 18 false with _ | _
        · rfl
        · rw [(d18 hh).2] at hnd; cases hnd
      have q7 := e7n ns0
      refine wpOp_val (v) ho' og ?_ ?_
      · unfold execOp; simp only [oo, q7, Sem.run_pure]
      · rw [od]
        exact ⟨hsz', hfr.put 60 _ (by decide), v', trivial, fun _ => ev_eq (by rw [hta]; decide), fun h0 => by rw [ev_ne (by decide)]; exact c1 (up 1 _ (by decide) h0), fun h0 => by rw [ev_ne (by decide)]; exact c2 (up 2 _ (by decide) h0), fun h0 => by rw [ev_ne (by decide)]; exact c3 (up 3 _ (by decide) h0), fun h0 => by rw [ev_ne (by decide)]; exact c4 (up 4 _ (by decide) h0), fun h0 => by rw [ev_ne (by decide)]; exact c5 (up 5 _ (by decide) h0), fun h0 => by rw [ev_ne (by decide)]; exact c6 (up 6 _ (by decide) h0), fun h0 => by rw [ev_ne (by decide)]; exact c7 (up 7 _ (by decide) h0), fun h0 => by rw [ev_ne (by decide)]; exact c8 (up 8 _ (by decide) h0), fun h0 => by rw [ev_ne (by decide)]; exact c9 (up 9 _ (by decide) h0), fun h0 => by rw [ev_ne (by decide)]; exact c10 (up 10 _ (by decide) h0), fun h0 => by rw [ev_ne (by decide)]; exact c11 (up 11 _ (by decide) h0), fun h0 => by rw [ev_ne (by decide)]; exact c12 (up 12 _ (by decide) h0), fun h0 => by rw [ev_ne (by decide)]; exact c13 (up 13 _ (by decide) h0), fun h0 => by rw [ev_ne (by decide)]; exact c14 (up 14 _ (by decide) h0), fun h0 => by rw [ev_ne (by decide)]; exact c15 (up 15 _ (by decide) h0), fun h0 h1 => by rw [ev_ne (by decide)]; exact c16 (up 16 _ (by decide) h0) (up 17 _ (by decide) h1), fun h0 => m0 (up 17 _ (by decide) h0), fun h0 => m1 (up 17 _ (by decide) h0), fun h0 => by rw [ev_ne (by decide)]; exact c17 (up 17 _ (by decide) h0), fun h0 => by rw [ev_ne (by decide)]; exact c18 (up 18 _ (by decide) h0), fun h0 => by rw [ev_ne (by decide)]; exact e7n (up 18 _ (by decide) h0), fun h0 => ⟨by rw [hset]; split; rfl; exact (d18 (up 18 _ (by decide) h0)).1, by rw [hset]; split; rfl; exact (d18 (up 18 _ (by decide) h0)).2⟩, fun h0 => by rw [hset]; split; rfl; exact d17 (up 17 _ (by decide) h0)⟩
    · obtain ⟨o1', ho', og, od, oo, ow⟩ := o1
      rw [ho'] at hoi
      injection hoi with hoi
      subst hoi
      refine wpOp_val (.pointer (some ⟨b2, 1, none⟩)) ho' og ?_ ?_
      · unfold execOp; simp only [oo, a6]; show _ = _; kernel_rfl
      · rw [od]
        exact ⟨hsz', hfr.put 61 _ (by decide), v', trivial, fun h0 => by rw [ev_ne (by decide)]; exact c0 (up 0 _ (by decide) h0), fun _ => ev_eq (by rw [hta]; decide), fun h0 => by rw [ev_ne (by decide)]; exact c2 (up 2 _ (by decide) h0), fun h0 => by rw [ev_ne (by decide)]; exact c3 (up 3 _ (by decide) h0), fun h0 => by rw [ev_ne (by decide)]; exact c4 (up 4 _ (by decide) h0), fun h0 => by rw [ev_ne (by decide)]; exact c5 (up 5 _ (by decide) h0), fun h0 => by rw [ev_ne (by decide)]; exact c6 (up 6 _ (by decide) h0), fun h0 => by rw [ev_ne (by decide)]; exact c7 (up 7 _ (by decide) h0), fun h0 => by rw [ev_ne (by decide)]; exact c8 (up 8 _ (by decide) h0), fun h0 => by rw [ev_ne (by decide)]; exact c9 (up 9 _ (by decide) h0), fun h0 => by rw [ev_ne (by decide)]; exact c10 (up 10 _ (by decide) h0), fun h0 => by rw [ev_ne (by decide)]; exact c11 (up 11 _ (by decide) h0), fun h0 => by rw [ev_ne (by decide)]; exact c12 (up 12 _ (by decide) h0), fun h0 => by rw [ev_ne (by decide)]; exact c13 (up 13 _ (by decide) h0), fun h0 => by rw [ev_ne (by decide)]; exact c14 (up 14 _ (by decide) h0), fun h0 => by rw [ev_ne (by decide)]; exact c15 (up 15 _ (by decide) h0), fun h0 h1 => by rw [ev_ne (by decide)]; exact c16 (up 16 _ (by decide) h0) (up 17 _ (by decide) h1), fun h0 => m0 (up 17 _ (by decide) h0), fun h0 => m1 (up 17 _ (by decide) h0), fun h0 => by rw [ev_ne (by decide)]; exact c17 (up 17 _ (by decide) h0), fun h0 => by rw [ev_ne (by decide)]; exact c18 (up 18 _ (by decide) h0), fun h0 => by rw [ev_ne (by decide)]; exact e7n (up 18 _ (by decide) h0), fun h0 => ⟨by rw [hset]; split; rfl; exact (d18 (up 18 _ (by decide) h0)).1, by rw [hset]; split; rfl; exact (d18 (up 18 _ (by decide) h0)).2⟩, fun h0 => by rw [hset]; split; rfl; exact d17 (up 17 _ (by decide) h0)⟩
    · obtain ⟨o1', ho', og, od, oo, ow⟩ := o2
      rw [ho'] at hoi
      injection hoi with hoi
      subst hoi
      have y1 : s'.getD 1 false = true := by
        obtain ⟨e, m', b, n'⟩ := ow 1 (by simp)
        have := haf e m' b
        rwa [n'] at this
      have hbx : Bx y w.heap.size C 34 ∧ Bx y b1 (cCs s) 26 ∧ Bx y b2 (rCs s) 28 := by
        rcases hh : s'.getD 17 false with _ | _
        · exact ⟨(m0 hh).x0, (m0 hh).x1, (m0 hh).x2⟩
        · exact ⟨(m1 hh).x0, (m1 hh).x1, (m1 hh).x2⟩
      have x := hbx.2.2.c 1 (.int .i64 (CY : Int)) (by rw [← eCY]; rfl)
      refine wpOp_val (.int .i64 (CY : Int)) ho' og ?_ ?_
      · unfold execOp; simp only [oo, c1 y1]; go_simp
      · rw [od]
        exact ⟨hsz', hfr.put 62 _ (by decide), v', trivial, fun h0 => by rw [ev_ne (by decide)]; exact c0 (up 0 _ (by decide) h0), fun h0 => by rw [ev_ne (by decide)]; exact c1 (up 1 _ (by decide) h0), fun _ => ev_eq (by rw [hta]; decide), fun h0 => by rw [ev_ne (by decide)]; exact c3 (up 3 _ (by decide) h0), fun h0 => by rw [ev_ne (by decide)]; exact c4 (up 4 _ (by decide) h0), fun h0 => by rw [ev_ne (by decide)]; exact c5 (up 5 _ (by decide) h0), fun h0 => by rw [ev_ne (by decide)]; exact c6 (up 6 _ (by decide) h0), fun h0 => by rw [ev_ne (by decide)]; exact c7 (up 7 _ (by decide) h0), fun h0 => by rw [ev_ne (by decide)]; exact c8 (up 8 _ (by decide) h0), fun h0 => by rw [ev_ne (by decide)]; exact c9 (up 9 _ (by decide) h0), fun h0 => by rw [ev_ne (by decide)]; exact c10 (up 10 _ (by decide) h0), fun h0 => by rw [ev_ne (by decide)]; exact c11 (up 11 _ (by decide) h0), fun h0 => by rw [ev_ne (by decide)]; exact c12 (up 12 _ (by decide) h0), fun h0 => by rw [ev_ne (by decide)]; exact c13 (up 13 _ (by decide) h0), fun h0 => by rw [ev_ne (by decide)]; exact c14 (up 14 _ (by decide) h0), fun h0 => by rw [ev_ne (by decide)]; exact c15 (up 15 _ (by decide) h0), fun h0 h1 => by rw [ev_ne (by decide)]; exact c16 (up 16 _ (by decide) h0) (up 17 _ (by decide) h1), fun h0 => m0 (up 17 _ (by decide) h0), fun h0 => m1 (up 17 _ (by decide) h0), fun h0 => by rw [ev_ne (by decide)]; exact c17 (up 17 _ (by decide) h0), fun h0 => by rw [ev_ne (by decide)]; exact c18 (up 18 _ (by decide) h0), fun h0 => by rw [ev_ne (by decide)]; exact e7n (up 18 _ (by decide) h0), fun h0 => ⟨by rw [hset]; split; rfl; exact (d18 (up 18 _ (by decide) h0)).1, by rw [hset]; split; rfl; exact (d18 (up 18 _ (by decide) h0)).2⟩, fun h0 => by rw [hset]; split; rfl; exact d17 (up 17 _ (by decide) h0)⟩
    · obtain ⟨o1', ho', og, od, oo, ow⟩ := o3
      rw [ho'] at hoi
      injection hoi with hoi
      subst hoi
      have y2 : s'.getD 2 false = true := by
        obtain ⟨e, m', b, n'⟩ := ow 2 (by simp)
        have := haf e m' b
        rwa [n'] at this
      refine wpOp_val (.int .u8 (CY : Int)) ho' og ?_ ?_
      · unfold execOp; simp only [oo, c2 y2]; go_simp
      · rw [od]
        exact ⟨hsz', hfr.put 63 _ (by decide), v', trivial, fun h0 => by rw [ev_ne (by decide)]; exact c0 (up 0 _ (by decide) h0), fun h0 => by rw [ev_ne (by decide)]; exact c1 (up 1 _ (by decide) h0), fun h0 => by rw [ev_ne (by decide)]; exact c2 (up 2 _ (by decide) h0), fun _ => ev_eq (by rw [hta]; decide), fun h0 => by rw [ev_ne (by decide)]; exact c4 (up 4 _ (by decide) h0), fun h0 => by rw [ev_ne (by decide)]; exact c5 (up 5 _ (by decide) h0), fun h0 => by rw [ev_ne (by decide)]; exact c6 (up 6 _ (by decide) h0), fun h0 => by rw [ev_ne (by decide)]; exact c7 (up 7 _ (by decide) h0), fun h0 => by rw [ev_ne (by decide)]; exact c8 (up 8 _ (by decide) h0), fun h0 => by rw [ev_ne (by decide)]; exact c9 (up 9 _ (by decide) h0), fun h0 => by rw [ev_ne (by decide)]; exact c10 (up 10 _ (by decide) h0), fun h0 => by rw [ev_ne (by decide)]; exact c11 (up 11 _ (by decide) h0), fun h0 => by rw [ev_ne (by decide)]; exact c12 (up 12 _ (by decide) h0), fun h0 => by rw [ev_ne (by decide)]; exact c13 (up 13 _ (by decide) h0), fun h0 => by rw [ev_ne (by decide)]; exact c14 (up 14 _ (by decide) h0), fun h0 => by rw [ev_ne (by decide)]; exact c15 (up 15 _ (by decide) h0), fun h0 h1 => by rw [ev_ne (by decide)]; exact c16 (up 16 _ (by decide) h0) (up 17 _ (by decide) h1), fun h0 => m0 (up 17 _ (by decide) h0), fun h0 => m1 (up 17 _ (by decide) h0), fun h0 => by rw [ev_ne (by decide)]; exact c17 (up 17 _ (by decide) h0), fun h0 => by rw [ev_ne (by decide)]; exact c18 (up 18 _ (by decide) h0), fun h0 => by rw [ev_ne (by decide)]; exact e7n (up 18 _ (by decide) h0), fun h0 => ⟨by rw [hset]; split; rfl; exact (d18 (up 18 _ (by decide) h0)).1, by rw [hset]; split; rfl; exact (d18 (up 18 _ (by decide) h0)).2⟩, fun h0 => by rw [hset]; split; rfl; exact d17 (up 17 _ (by decide) h0)⟩
    · obtain ⟨o1', ho', og, od, oo, ow⟩ := o4
      rw [ho'] at hoi
      injection hoi with hoi
      subst hoi
      refine wpOp_val (.pointer (some ⟨b2, 2, none⟩)) ho' og ?_ ?_
      · unfold execOp; simp only [oo, a6]; show _ = _; kernel_rfl
      · rw [od]
        exact ⟨hsz', hfr.put 64 _ (by decide), v', trivial, fun h0 => by rw [ev_ne (by decide)]; exact c0 (up 0 _ (by decide) h0), fun h0 => by rw [ev_ne (by decide)]; exact c1 (up 1 _ (by decide) h0), fun h0 => by rw [ev_ne (by decide)]; exact c2 (up 2 _ (by decide) h0), fun h0 => by rw [ev_ne (by decide)]; exact c3 (up 3 _ (by decide) h0), fun _ => ev_eq (by rw [hta]; decide), fun h0 => by rw [ev_ne (by decide)]; exact c5 (up 5 _ (by decide) h0), fun h0 => by rw [ev_ne (by decide)]; exact c6 (up 6 _ (by decide) h0), fun h0 => by rw [ev_ne (by decide)]; exact c7 (up 7 _ (by decide) h0), fun h0 => by rw [ev_ne (by decide)]; exact c8 (up 8 _ (by decide) h0), fun h0 => by rw [ev_ne (by decide)]; exact c9 (up 9 _ (by decide) h0), fun h0 => by rw [ev_ne (by decide)]; exact c10 (up 10 _ (by decide) h0), fun h0 => by rw [ev_ne (by decide)]; exact c11 (up 11 _ (by decide) h0), fun h0 => by rw [ev_ne (by decide)]; exact c12 (up 12 _ (by decide) h0), fun h0 => by rw [ev_ne (by decide)]; exact c13 (up 13 _ (by decide) h0), fun h0 => by rw [ev_ne (by decide)]; exact c14 (up 14 _ (by decide) h0), fun h0 => by rw [ev_ne (by decide)]; exact c15 (up 15 _ (by decide) h0), fun h0 h1 => by rw [ev_ne (by decide)]; exact c16 (up 16 _ (by decide) h0) (up 17 _ (by decide) h1), fun h0 => m0 (up 17 _ (by decide) h0), fun h0 => m1 (up 17 _ (by decide) h0), fun h0 => by rw [ev_ne (by decide)]; exact c17 (up 17 _ (by decide) h0), fun h0 => by rw [ev_ne (by decide)]; exact c18 (up 18 _ (by decide) h0), fun h0 => by rw [ev_ne (by decide)]; exact e7n (up 18 _ (by decide) h0), fun h0 => ⟨by rw [hset]; split; rfl; exact (d18 (up 18 _ (by decide) h0)).1, by rw [hset]; split; rfl; exact (d18 (up 18 _ (by decide) h0)).2⟩, fun h0 => by rw [hset]; split; rfl; exact d17 (up 17 _ (by decide) h0)⟩
    · obtain ⟨o1', ho', og, od, oo, ow⟩ := o5
      rw [ho'] at hoi
      injection hoi with hoi
      subst hoi
      have y4 : s'.getD 4 false = true := by
        obtain ⟨e, m', b, n'⟩ := ow 4 (by simp)
        have := haf e m' b
        rwa [n'] at this
      have hbx : Bx y w.heap.size C 34 ∧ Bx y b1 (cCs s) 26 ∧ Bx y b2 (rCs s) 28 := by
        rcases hh : s'.getD 17 false with _ | _
        · exact ⟨(m0 hh).x0, (m0 hh).x1, (m0 hh).x2⟩
        · exact ⟨(m1 hh).x0, (m1 hh).x1, (m1 hh).x2⟩
      have x := hbx.2.2.c 2 (.bool s.on) (rfl)
      refine wpOp_val (.bool s.on) ho' og ?_ ?_
      · unfold execOp; simp only [oo, c4 y4]; go_simp
      · rw [od]
        exact ⟨hsz', hfr.put 65 _ (by decide), v', trivial, fun h0 => by rw [ev_ne (by decide)]; exact c0 (up 0 _ (by decide) h0), fun h0 => by rw [ev_ne (by decide)]; exact c1 (up 1 _ (by decide) h0), fun h0 => by rw [ev_ne (by decide)]; exact c2 (up 2 _ (by decide) h0), fun h0 => by rw [ev_ne (by decide)]; exact c3 (up 3 _ (by decide) h0), fun h0 => by rw [ev_ne (by decide)]; exact c4 (up 4 _ (by decide) h0), fun _ => ev_eq (by rw [hta]; decide), fun h0 => by rw [ev_ne (by decide)]; exact c6 (up 6 _ (by decide) h0), fun h0 => by rw [ev_ne (by decide)]; exact c7 (up 7 _ (by decide) h0), fun h0 => by rw [ev_ne (by decide)]; exact c8 (up 8 _ (by decide) h0), fun h0 => by rw [ev_ne (by decide)]; exact c9 (up 9 _ (by decide) h0), fun h0 => by rw [ev_ne (by decide)]; exact c10 (up 10 _ (by decide) h0), fun h0 => by rw [ev_ne (by decide)]; exact c11 (up 11 _ (by decide) h0), fun h0 => by rw [ev_ne (by decide)]; exact c12 (up 12 _ (by decide) h0), fun h0 => by rw [ev_ne (by decide)]; exact c13 (up 13 _ (by decide) h0), fun h0 => by rw [ev_ne (by decide)]; exact c14 (up 14 _ (by decide) h0), fun h0 => by rw [ev_ne (by decide)]; exact c15 (up 15 _ (by decide) h0), fun h0 h1 => by rw [ev_ne (by decide)]; exact c16 (up 16 _ (by decide) h0) (up 17 _ (by decide) h1), fun h0 => m0 (up 17 _ (by decide) h0), fun h0 => m1 (up 17 _ (by decide) h0), fun h0 => by rw [ev_ne (by decide)]; exact c17 (up 17 _ (by decide) h0), fun h0 => by rw [ev_ne (by decide)]; exact c18 (up 18 _ (by decide) h0), fun h0 => by rw [ev_ne (by decide)]; exact e7n (up 18 _ (by decide) h0), fun h0 => ⟨by rw [hset]; split; rfl; exact (d18 (up 18 _ (by decide) h0)).1, by rw [hset]; split; rfl; exact (d18 (up 18 _ (by decide) h0)).2⟩, fun h0 => by rw [hset]; split; rfl; exact d17 (up 17 _ (by decide) h0)⟩
    · obtain ⟨o1', ho', og, od, oo, ow⟩ := o6
      rw [ho'] at hoi
      injection hoi with hoi
      subst hoi
      have y5 : s'.getD 5 false = true := by
        obtain ⟨e, m', b, n'⟩ := ow 5 (by simp)
        have := haf e m' b
        rwa [n'] at this
      have q1 := c5 y5
      refine wpOp_call 21 #[.bool s.on] _ ho' og ?_ (flag_any y s.on) ?_
      · have b1' : 65 < a.tmps.size := by rw [hta]; decide
        simp only [Act.eval, Array.getD_eq_getD_getElem?] at q1
        unfold execOp
        simp only [oo]
        go_simp
        simp only [Array.getElem?_eq_getElem b1', Option.getD_some] at q1
        exact q1
      · rintro x z ⟨rfl, rfl⟩
        refine ⟨_, rfl, ?_⟩
        rw [od]
        exact ⟨hsz', hfr.put 66 _ (by decide), v', trivial, fun h0 => by rw [ev_ne (by decide)]; exact c0 (up 0 _ (by decide) h0), fun h0 => by rw [ev_ne (by decide)]; exact c1 (up 1 _ (by decide) h0), fun h0 => by rw [ev_ne (by decide)]; exact c2 (up 2 _ (by decide) h0), fun h0 => by rw [ev_ne (by decide)]; exact c3 (up 3 _ (by decide) h0), fun h0 => by rw [ev_ne (by decide)]; exact c4 (up 4 _ (by decide) h0), fun h0 => by rw [ev_ne (by decide)]; exact c5 (up 5 _ (by decide) h0), fun _ => ev_eq (by rw [hta]; decide), fun h0 => by rw [ev_ne (by decide)]; exact c7 (up 7 _ (by decide) h0), fun h0 => by rw [ev_ne (by decide)]; exact c8 (up 8 _ (by decide) h0), fun h0 => by rw [ev_ne (by decide)]; exact c9 (up 9 _ (by decide) h0), fun h0 => by rw [ev_ne (by decide)]; exact c10 (up 10 _ (by decide) h0), fun h0 => by rw [ev_ne (by decide)]; exact c11 (up 11 _ (by decide) h0), fun h0 => by rw [ev_ne (by decide)]; exact c12 (up 12 _ (by decide) h0), fun h0 => by rw [ev_ne (by decide)]; exact c13 (up 13 _ (by decide) h0), fun h0 => by rw [ev_ne (by decide)]; exact c14 (up 14 _ (by decide) h0), fun h0 => by rw [ev_ne (by decide)]; exact c15 (up 15 _ (by decide) h0), fun h0 h1 => by rw [ev_ne (by decide)]; exact c16 (up 16 _ (by decide) h0) (up 17 _ (by decide) h1), fun h0 => m0 (up 17 _ (by decide) h0), fun h0 => m1 (up 17 _ (by decide) h0), fun h0 => by rw [ev_ne (by decide)]; exact c17 (up 17 _ (by decide) h0), fun h0 => by rw [ev_ne (by decide)]; exact c18 (up 18 _ (by decide) h0), fun h0 => by rw [ev_ne (by decide)]; exact e7n (up 18 _ (by decide) h0), fun h0 => ⟨by rw [hset]; split; rfl; exact (d18 (up 18 _ (by decide) h0)).1, by rw [hset]; split; rfl; exact (d18 (up 18 _ (by decide) h0)).2⟩, fun h0 => by rw [hset]; split; rfl; exact d17 (up 17 _ (by decide) h0)⟩
    · obtain ⟨o1', ho', og, od, oo, ow⟩ := o7
      rw [ho'] at hoi
      injection hoi with hoi
      subst hoi
      refine wpOp_val (.pointer (some ⟨b2, 3, none⟩)) ho' og ?_ ?_
      · unfold execOp; simp only [oo, a6]; show _ = _; kernel_rfl
      · rw [od]
        exact ⟨hsz', hfr.put 67 _ (by decide), v', trivial, fun h0 => by rw [ev_ne (by decide)]; exact c0 (up 0 _ (by decide) h0), fun h0 => by rw [ev_ne (by decide)]; exact c1 (up 1 _ (by decide) h0), fun h0 => by rw [ev_ne (by decide)]; exact c2 (up 2 _ (by decide) h0), fun h0 => by rw [ev_ne (by decide)]; exact c3 (up 3 _ (by decide) h0), fun h0 => by rw [ev_ne (by decide)]; exact c4 (up 4 _ (by decide) h0), fun h0 => by rw [ev_ne (by decide)]; exact c5 (up 5 _ (by decide) h0), fun h0 => by rw [ev_ne (by decide)]; exact c6 (up 6 _ (by decide) h0), fun _ => ev_eq (by rw [hta]; decide), fun h0 => by rw [ev_ne (by decide)]; exact c8 (up 8 _ (by decide) h0), fun h0 => by rw [ev_ne (by decide)]; exact c9 (up 9 _ (by decide) h0), fun h0 => by rw [ev_ne (by decide)]; exact c10 (up 10 _ (by decide) h0), fun h0 => by rw [ev_ne (by decide)]; exact c11 (up 11 _ (by decide) h0), fun h0 => by rw [ev_ne (by decide)]; exact c12 (up 12 _ (by decide) h0), fun h0 => by rw [ev_ne (by decide)]; exact c13 (up 13 _ (by decide) h0), fun h0 => by rw [ev_ne (by decide)]; exact c14 (up 14 _ (by decide) h0), fun h0 => by rw [ev_ne (by decide)]; exact c15 (up 15 _ (by decide) h0), fun h0 h1 => by rw [ev_ne (by decide)]; exact c16 (up 16 _ (by decide) h0) (up 17 _ (by decide) h1), fun h0 => m0 (up 17 _ (by decide) h0), fun h0 => m1 (up 17 _ (by decide) h0), fun h0 => by rw [ev_ne (by decide)]; exact c17 (up 17 _ (by decide) h0), fun h0 => by rw [ev_ne (by decide)]; exact c18 (up 18 _ (by decide) h0), fun h0 => by rw [ev_ne (by decide)]; exact e7n (up 18 _ (by decide) h0), fun h0 => ⟨by rw [hset]; split; rfl; exact (d18 (up 18 _ (by decide) h0)).1, by rw [hset]; split; rfl; exact (d18 (up 18 _ (by decide) h0)).2⟩, fun h0 => by rw [hset]; split; rfl; exact d17 (up 17 _ (by decide) h0)⟩
    · obtain ⟨o1', ho', og, od, oo, ow⟩ := o8
      rw [ho'] at hoi
      injection hoi with hoi
      subst hoi
      have y7 : s'.getD 7 false = true := by
        obtain ⟨e, m', b, n'⟩ := ow 7 (by simp)
        have := haf e m' b
        rwa [n'] at this
      have hbx : Bx y w.heap.size C 34 ∧ Bx y b1 (cCs s) 26 ∧ Bx y b2 (rCs s) 28 := by
        rcases hh : s'.getD 17 false with _ | _
        · exact ⟨(m0 hh).x0, (m0 hh).x1, (m0 hh).x2⟩
        · exact ⟨(m1 hh).x0, (m1 hh).x1, (m1 hh).x2⟩
      have x := hbx.2.2.c 3 (.int .i64 (GT : Int)) (by rw [← eGT]; rfl)
      refine wpOp_val (.int .i64 (GT : Int)) ho' og ?_ ?_
      · unfold execOp; simp only [oo, c7 y7]; go_simp
      · rw [od]
        exact ⟨hsz', hfr.put 68 _ (by decide), v', trivial, fun h0 => by rw [ev_ne (by decide)]; exact c0 (up 0 _ (by decide) h0), fun h0 => by rw [ev_ne (by decide)]; exact c1 (up 1 _ (by decide) h0), fun h0 => by rw [ev_ne (by decide)]; exact c2 (up 2 _ (by decide) h0), fun h0 => by rw [ev_ne (by decide)]; exact c3 (up 3 _ (by decide) h0), fun h0 => by rw [ev_ne (by decide)]; exact c4 (up 4 _ (by decide) h0), fun h0 => by rw [ev_ne (by decide)]; exact c5 (up 5 _ (by decide) h0), fun h0 => by rw [ev_ne (by decide)]; exact c6 (up 6 _ (by decide) h0), fun h0 => by rw [ev_ne (by decide)]; exact c7 (up 7 _ (by decide) h0), fun _ => ev_eq (by rw [hta]; decide), fun h0 => by rw [ev_ne (by decide)]; exact c9 (up 9 _ (by decide) h0), fun h0 => by rw [ev_ne (by decide)]; exact c10 (up 10 _ (by decide) h0), fun h0 => by rw [ev_ne (by decide)]; exact c11 (up 11 _ (by decide) h0), fun h0 => by rw [ev_ne (by decide)]; exact c12 (up 12 _ (by decide) h0), fun h0 => by rw [ev_ne (by decide)]; exact c13 (up 13 _ (by decide) h0), fun h0 => by rw [ev_ne (by decide)]; exact c14 (up 14 _ (by decide) h0), fun h0 => by rw [ev_ne (by decide)]; exact c15 (up 15 _ (by decide) h0), fun h0 h1 => by rw [ev_ne (by decide)]; exact c16 (up 16 _ (by decide) h0) (up 17 _ (by decide) h1), fun h0 => m0 (up 17 _ (by decide) h0), fun h0 => m1 (up 17 _ (by decide) h0), fun h0 => by rw [ev_ne (by decide)]; exact c17 (up 17 _ (by decide) h0), fun h0 => by rw [ev_ne (by decide)]; exact c18 (up 18 _ (by decide) h0), fun h0 => by rw [ev_ne (by decide)]; exact e7n (up 18 _ (by decide) h0), fun h0 => ⟨by rw [hset]; split; rfl; exact (d18 (up 18 _ (by decide) h0)).1, by rw [hset]; split; rfl; exact (d18 (up 18 _ (by decide) h0)).2⟩, fun h0 => by rw [hset]; split; rfl; exact d17 (up 17 _ (by decide) h0)⟩
    · obtain ⟨o1', ho', og, od, oo, ow⟩ := o9
      rw [ho'] at hoi
      injection hoi with hoi
      subst hoi
      have y8 : s'.getD 8 false = true := by
        obtain ⟨e, m', b, n'⟩ := ow 8 (by simp)
        have := haf e m' b
        rwa [n'] at this
      refine wpOp_val (.int .u8 (GT : Int)) ho' og ?_ ?_
      · unfold execOp; simp only [oo, c8 y8]; go_simp
      · rw [od]
        exact ⟨hsz', hfr.put 69 _ (by decide), v', trivial, fun h0 => by rw [ev_ne (by decide)]; exact c0 (up 0 _ (by decide) h0), fun h0 => by rw [ev_ne (by decide)]; exact c1 (up 1 _ (by decide) h0), fun h0 => by rw [ev_ne (by decide)]; exact c2 (up 2 _ (by decide) h0), fun h0 => by rw [ev_ne (by decide)]; exact c3 (up 3 _ (by decide) h0), fun h0 => by rw [ev_ne (by decide)]; exact c4 (up 4 _ (by decide) h0), fun h0 => by rw [ev_ne (by decide)]; exact c5 (up 5 _ (by decide) h0), fun h0 => by rw [ev_ne (by decide)]; exact c6 (up 6 _ (by decide) h0), fun h0 => by rw [ev_ne (by decide)]; exact c7 (up 7 _ (by decide) h0), fun h0 => by rw [ev_ne (by decide)]; exact c8 (up 8 _ (by decide) h0), fun _ => ev_eq (by rw [hta]; decide), fun h0 => by rw [ev_ne (by decide)]; exact c10 (up 10 _ (by decide) h0), fun h0 => by rw [ev_ne (by decide)]; exact c11 (up 11 _ (by decide) h0), fun h0 => by rw [ev_ne (by decide)]; exact c12 (up 12 _ (by decide) h0), fun h0 => by rw [ev_ne (by decide)]; exact c13 (up 13 _ (by decide) h0), fun h0 => by rw [ev_ne (by decide)]; exact c14 (up 14 _ (by decide) h0), fun h0 => by rw [ev_ne (by decide)]; exact c15 (up 15 _ (by decide) h0), fun h0 h1 => by rw [ev_ne (by decide)]; exact c16 (up 16 _ (by decide) h0) (up 17 _ (by decide) h1), fun h0 => m0 (up 17 _ (by decide) h0), fun h0 => m1 (up 17 _ (by decide) h0), fun h0 => by rw [ev_ne (by decide)]; exact c17 (up 17 _ (by decide) h0), fun h0 => by rw [ev_ne (by decide)]; exact c18 (up 18 _ (by decide) h0), fun h0 => by rw [ev_ne (by decide)]; exact e7n (up 18 _ (by decide) h0), fun h0 => ⟨by rw [hset]; split; rfl; exact (d18 (up 18 _ (by decide) h0)).1, by rw [hset]; split; rfl; exact (d18 (up 18 _ (by decide) h0)).2⟩, fun h0 => by rw [hset]; split; rfl; exact d17 (up 17 _ (by decide) h0)⟩
    · obtain ⟨o1', ho', og, od, oo, ow⟩ := o10
      rw [ho'] at hoi
      injection hoi with hoi
      subst hoi
      refine wpOp_val (.pointer (some ⟨w.heap.size, 30, none⟩)) ho' og ?_ ?_
      · unfold execOp; simp only [oo, a1]; show _ = _; kernel_rfl
      · rw [od]
        exact ⟨hsz', hfr.put 70 _ (by decide), v', trivial, fun h0 => by rw [ev_ne (by decide)]; exact c0 (up 0 _ (by decide) h0), fun h0 => by rw [ev_ne (by decide)]; exact c1 (up 1 _ (by decide) h0), fun h0 => by rw [ev_ne (by decide)]; exact c2 (up 2 _ (by decide) h0), fun h0 => by rw [ev_ne (by decide)]; exact c3 (up 3 _ (by decide) h0), fun h0 => by rw [ev_ne (by decide)]; exact c4 (up 4 _ (by decide) h0), fun h0 => by rw [ev_ne (by decide)]; exact c5 (up 5 _ (by decide) h0), fun h0 => by rw [ev_ne (by decide)]; exact c6 (up 6 _ (by decide) h0), fun h0 => by rw [ev_ne (by decide)]; exact c7 (up 7 _ (by decide) h0), fun h0 => by rw [ev_ne (by decide)]; exact c8 (up 8 _ (by decide) h0), fun h0 => by rw [ev_ne (by decide)]; exact c9 (up 9 _ (by decide) h0), fun _ => ev_eq (by rw [hta]; decide), fun h0 => by rw [ev_ne (by decide)]; exact c11 (up 11 _ (by decide) h0), fun h0 => by rw [ev_ne (by decide)]; exact c12 (up 12 _ (by decide) h0), fun h0 => by rw [ev_ne (by decide)]; exact c13 (up 13 _ (by decide) h0), fun h0 => by rw [ev_ne (by decide)]; exact c14 (up 14 _ (by decide) h0), fun h0 => by rw [ev_ne (by decide)]; exact c15 (up 15 _ (by decide) h0), fun h0 h1 => by rw [ev_ne (by decide)]; exact c16 (up 16 _ (by decide) h0) (up 17 _ (by decide) h1), fun h0 => m0 (up 17 _ (by decide) h0), fun h0 => m1 (up 17 _ (by decide) h0), fun h0 => by rw [ev_ne (by decide)]; exact c17 (up 17 _ (by decide) h0), fun h0 => by rw [ev_ne (by decide)]; exact c18 (up 18 _ (by decide) h0), fun h0 => by rw [ev_ne (by decide)]; exact e7n (up 18 _ (by decide) h0), fun h0 => ⟨by rw [hset]; split; rfl; exact (d18 (up 18 _ (by decide) h0)).1, by rw [hset]; split; rfl; exact (d18 (up 18 _ (by decide) h0)).2⟩, fun h0 => by rw [hset]; split; rfl; exact d17 (up 17 _ (by decide) h0)⟩
    · obtain ⟨o1', ho', og, od, oo, ow⟩ := o11
      rw [ho'] at hoi
      injection hoi with hoi
      subst hoi
      have y10 : s'.getD 10 false = true := by
        obtain ⟨e, m', b, n'⟩ := ow 10 (by simp)
        have := haf e m' b
        rwa [n'] at this
      refine wpOp_val (.pointer (some ⟨w.heap.size, 30, none⟩)) ho' og ?_ ?_
      · unfold execOp; simp only [oo, c10 y10]; show _ = _; kernel_rfl
      · rw [od]
        exact ⟨hsz', hfr.put 71 _ (by decide), v', trivial, fun h0 => by rw [ev_ne (by decide)]; exact c0 (up 0 _ (by decide) h0), fun h0 => by rw [ev_ne (by decide)]; exact c1 (up 1 _ (by decide) h0), fun h0 => by rw [ev_ne (by decide)]; exact c2 (up 2 _ (by decide) h0), fun h0 => by rw [ev_ne (by decide)]; exact c3 (up 3 _ (by decide) h0), fun h0 => by rw [ev_ne (by decide)]; exact c4 (up 4 _ (by decide) h0), fun h0 => by rw [ev_ne (by decide)]; exact c5 (up 5 _ (by decide) h0), fun h0 => by rw [ev_ne (by decide)]; exact c6 (up 6 _ (by decide) h0), fun h0 => by rw [ev_ne (by decide)]; exact c7 (up 7 _ (by decide) h0), fun h0 => by rw [ev_ne (by decide)]; exact c8 (up 8 _ (by decide) h0), fun h0 => by rw [ev_ne (by decide)]; exact c9 (up 9 _ (by decide) h0), fun h0 => by rw [ev_ne (by decide)]; exact c10 (up 10 _ (by decide) h0), fun _ => ev_eq (by rw [hta]; decide), fun h0 => by rw [ev_ne (by decide)]; exact c12 (up 12 _ (by decide) h0), fun h0 => by rw [ev_ne (by decide)]; exact c13 (up 13 _ (by decide) h0), fun h0 => by rw [ev_ne (by decide)]; exact c14 (up 14 _ (by decide) h0), fun h0 => by rw [ev_ne (by decide)]; exact c15 (up 15 _ (by decide) h0), fun h0 h1 => by rw [ev_ne (by decide)]; exact c16 (up 16 _ (by decide) h0) (up 17 _ (by decide) h1), fun h0 => m0 (up 17 _ (by decide) h0), fun h0 => m1 (up 17 _ (by decide) h0), fun h0 => by rw [ev_ne (by decide)]; exact c17 (up 17 _ (by decide) h0), fun h0 => by rw [ev_ne (by decide)]; exact c18 (up 18 _ (by decide) h0), fun h0 => by rw [ev_ne (by decide)]; exact e7n (up 18 _ (by decide) h0), fun h0 => ⟨by rw [hset]; split; rfl; exact (d18 (up 18 _ (by decide) h0)).1, by rw [hset]; split; rfl; exact (d18 (up 18 _ (by decide) h0)).2⟩, fun h0 => by rw [hset]; split; rfl; exact d17 (up 17 _ (by decide) h0)⟩
    · obtain ⟨o1', ho', og, od, oo, ow⟩ := o12
      rw [ho'] at hoi
      injection hoi with hoi
      subst hoi
      have y11 : s'.getD 11 false = true := by
        obtain ⟨e, m', b, n'⟩ := ow 11 (by simp)
        have := haf e m' b
        rwa [n'] at this
      have hbx : Bx y w.heap.size C 34 ∧ Bx y b1 (cCs s) 26 ∧ Bx y b2 (rCs s) 28 := by
        rcases hh : s'.getD 17 false with _ | _
        · exact ⟨(m0 hh).x0, (m0 hh).x1, (m0 hh).x2⟩
        · exact ⟨(m1 hh).x0, (m1 hh).x1, (m1 hh).x2⟩
      have x := hbx.1.c 30 (byV s.pd) (hc30)
      refine wpOp_val (byV s.pd) ho' og ?_ ?_
      · unfold execOp; simp only [oo, c11 y11]; go_simp
      · rw [od]
        exact ⟨hsz', hfr.put 72 _ (by decide), v', trivial, fun h0 => by rw [ev_ne (by decide)]; exact c0 (up 0 _ (by decide) h0), fun h0 => by rw [ev_ne (by decide)]; exact c1 (up 1 _ (by decide) h0), fun h0 => by rw [ev_ne (by decide)]; exact c2 (up 2 _ (by decide) h0), fun h0 => by rw [ev_ne (by decide)]; exact c3 (up 3 _ (by decide) h0), fun h0 => by rw [ev_ne (by decide)]; exact c4 (up 4 _ (by decide) h0), fun h0 => by rw [ev_ne (by decide)]; exact c5 (up 5 _ (by decide) h0), fun h0 => by rw [ev_ne (by decide)]; exact c6 (up 6 _ (by decide) h0), fun h0 => by rw [ev_ne (by decide)]; exact c7 (up 7 _ (by decide) h0), fun h0 => by rw [ev_ne (by decide)]; exact c8 (up 8 _ (by decide) h0), fun h0 => by rw [ev_ne (by decide)]; exact c9 (up 9 _ (by decide) h0), fun h0 => by rw [ev_ne (by decide)]; exact c10 (up 10 _ (by decide) h0), fun h0 => by rw [ev_ne (by decide)]; exact c11 (up 11 _ (by decide) h0), fun _ => ev_eq (by rw [hta]; decide), fun h0 => by rw [ev_ne (by decide)]; exact c13 (up 13 _ (by decide) h0), fun h0 => by rw [ev_ne (by decide)]; exact c14 (up 14 _ (by decide) h0), fun h0 => by rw [ev_ne (by decide)]; exact c15 (up 15 _ (by decide) h0), fun h0 h1 => by rw [ev_ne (by decide)]; exact c16 (up 16 _ (by decide) h0) (up 17 _ (by decide) h1), fun h0 => m0 (up 17 _ (by decide) h0), fun h0 => m1 (up 17 _ (by decide) h0), fun h0 => by rw [ev_ne (by decide)]; exact c17 (up 17 _ (by decide) h0), fun h0 => by rw [ev_ne (by decide)]; exact c18 (up 18 _ (by decide) h0), fun h0 => by rw [ev_ne (by decide)]; exact e7n (up 18 _ (by decide) h0), fun h0 => ⟨by rw [hset]; split; rfl; exact (d18 (up 18 _ (by decide) h0)).1, by rw [hset]; split; rfl; exact (d18 (up 18 _ (by decide) h0)).2⟩, fun h0 => by rw [hset]; split; rfl; exact d17 (up 17 _ (by decide) h0)⟩
    · obtain ⟨o1', ho', og, od, oo, ow⟩ := o13
      rw [ho'] at hoi
      injection hoi with hoi
      subst hoi
      refine wpOp_val (.pointer (some ⟨w.heap.size, 31, none⟩)) ho' og ?_ ?_
      · unfold execOp; simp only [oo, a1]; show _ = _; kernel_rfl
      · rw [od]
        exact ⟨hsz', hfr.put 73 _ (by decide), v', trivial, fun h0 => by rw [ev_ne (by decide)]; exact c0 (up 0 _ (by decide) h0), fun h0 => by rw [ev_ne (by decide)]; exact c1 (up 1 _ (by decide) h0), fun h0 => by rw [ev_ne (by decide)]; exact c2 (up 2 _ (by decide) h0), fun h0 => by rw [ev_ne (by decide)]; exact c3 (up 3 _ (by decide) h0), fun h0 => by rw [ev_ne (by decide)]; exact c4 (up 4 _ (by decide) h0), fun h0 => by rw [ev_ne (by decide)]; exact c5 (up 5 _ (by decide) h0), fun h0 => by rw [ev_ne (by decide)]; exact c6 (up 6 _ (by decide) h0), fun h0 => by rw [ev_ne (by decide)]; exact c7 (up 7 _ (by decide) h0), fun h0 => by rw [ev_ne (by decide)]; exact c8 (up 8 _ (by decide) h0), fun h0 => by rw [ev_ne (by decide)]; exact c9 (up 9 _ (by decide) h0), fun h0 => by rw [ev_ne (by decide)]; exact c10 (up 10 _ (by decide) h0), fun h0 => by rw [ev_ne (by decide)]; exact c11 (up 11 _ (by decide) h0), fun h0 => by rw [ev_ne (by decide)]; exact c12 (up 12 _ (by decide) h0), fun _ => ev_eq (by rw [hta]; decide), fun h0 => by rw [ev_ne (by decide)]; exact c14 (up 14 _ (by decide) h0), fun h0 => by rw [ev_ne (by decide)]; exact c15 (up 15 _ (by decide) h0), fun h0 h1 => by rw [ev_ne (by decide)]; exact c16 (up 16 _ (by decide) h0) (up 17 _ (by decide) h1), fun h0 => m0 (up 17 _ (by decide) h0), fun h0 => m1 (up 17 _ (by decide) h0), fun h0 => by rw [ev_ne (by decide)]; exact c17 (up 17 _ (by decide) h0), fun h0 => by rw [ev_ne (by decide)]; exact c18 (up 18 _ (by decide) h0), fun h0 => by rw [ev_ne (by decide)]; exact e7n (up 18 _ (by decide) h0), fun h0 => ⟨by rw [hset]; split; rfl; exact (d18 (up 18 _ (by decide) h0)).1, by rw [hset]; split; rfl; exact (d18 (up 18 _ (by decide) h0)).2⟩, fun h0 => by rw [hset]; split; rfl; exact d17 (up 17 _ (by decide) h0)⟩
    · obtain ⟨o1', ho', og, od, oo, ow⟩ := o14
      rw [ho'] at hoi
      injection hoi with hoi
      subst hoi
      have y13 : s'.getD 13 false = true := by
        obtain ⟨e, m', b, n'⟩ := ow 13 (by simp)
        have := haf e m' b
        rwa [n'] at this
      have hbx : Bx y w.heap.size C 34 ∧ Bx y b1 (cCs s) 26 ∧ Bx y b2 (rCs s) 28 := by
        rcases hh : s'.getD 17 false with _ | _
        · exact ⟨(m0 hh).x0, (m0 hh).x1, (m0 hh).x2⟩
        · exact ⟨(m1 hh).x0, (m1 hh).x1, (m1 hh).x2⟩
      have x := hbx.1.c 31 (.bool s.lt) (hc31)
      refine wpOp_val (.bool s.lt) ho' og ?_ ?_
      · unfold execOp; simp only [oo, c13 y13]; go_simp
      · rw [od]
        exact ⟨hsz', hfr.put 74 _ (by decide), v', trivial, fun h0 => by rw [ev_ne (by decide)]; exact c0 (up 0 _ (by decide) h0), fun h0 => by rw [ev_ne (by decide)]; exact c1 (up 1 _ (by decide) h0), fun h0 => by rw [ev_ne (by decide)]; exact c2 (up 2 _ (by decide) h0), fun h0 => by rw [ev_ne (by decide)]; exact c3 (up 3 _ (by decide) h0), fun h0 => by rw [ev_ne (by decide)]; exact c4 (up 4 _ (by decide) h0), fun h0 => by rw [ev_ne (by decide)]; exact c5 (up 5 _ (by decide) h0), fun h0 => by rw [ev_ne (by decide)]; exact c6 (up 6 _ (by decide) h0), fun h0 => by rw [ev_ne (by decide)]; exact c7 (up 7 _ (by decide) h0), fun h0 => by rw [ev_ne (by decide)]; exact c8 (up 8 _ (by decide) h0), fun h0 => by rw [ev_ne (by decide)]; exact c9 (up 9 _ (by decide) h0), fun h0 => by rw [ev_ne (by decide)]; exact c10 (up 10 _ (by decide) h0), fun h0 => by rw [ev_ne (by decide)]; exact c11 (up 11 _ (by decide) h0), fun h0 => by rw [ev_ne (by decide)]; exact c12 (up 12 _ (by decide) h0), fun h0 => by rw [ev_ne (by decide)]; exact c13 (up 13 _ (by decide) h0), fun _ => ev_eq (by rw [hta]; decide), fun h0 => by rw [ev_ne (by decide)]; exact c15 (up 15 _ (by decide) h0), fun h0 h1 => by rw [ev_ne (by decide)]; exact c16 (up 16 _ (by decide) h0) (up 17 _ (by decide) h1), fun h0 => m0 (up 17 _ (by decide) h0), fun h0 => m1 (up 17 _ (by decide) h0), fun h0 => by rw [ev_ne (by decide)]; exact c17 (up 17 _ (by decide) h0), fun h0 => by rw [ev_ne (by decide)]; exact c18 (up 18 _ (by decide) h0), fun h0 => by rw [ev_ne (by decide)]; exact e7n (up 18 _ (by decide) h0), fun h0 => ⟨by rw [hset]; split; rfl; exact (d18 (up 18 _ (by decide) h0)).1, by rw [hset]; split; rfl; exact (d18 (up 18 _ (by decide) h0)).2⟩, fun h0 => by rw [hset]; split; rfl; exact d17 (up 17 _ (by decide) h0)⟩
    · obtain ⟨o1', ho', og, od, oo, ow⟩ := o15
      rw [ho'] at hoi
      injection hoi with hoi
      subst hoi
      have y14 : s'.getD 14 false = true := by
        obtain ⟨e, m', b, n'⟩ := ow 14 (by simp)
        have := haf e m' b
        rwa [n'] at this
      have q1 := c14 y14
      refine wpOp_call 21 #[.bool s.lt] _ ho' og ?_ (flag_any y s.lt) ?_
      · have b1' : 74 < a.tmps.size := by rw [hta]; decide
        simp only [Act.eval, Array.getD_eq_getD_getElem?] at q1
        unfold execOp
        simp only [oo]
        go_simp
        simp only [Array.getElem?_eq_getElem b1', Option.getD_some] at q1
        exact q1
      · rintro x z ⟨rfl, rfl⟩
        refine ⟨_, rfl, ?_⟩
        rw [od]
        exact ⟨hsz', hfr.put 75 _ (by decide), v', trivial, fun h0 => by rw [ev_ne (by decide)]; exact c0 (up 0 _ (by decide) h0), fun h0 => by rw [ev_ne (by decide)]; exact c1 (up 1 _ (by decide) h0), fun h0 => by rw [ev_ne (by decide)]; exact c2 (up 2 _ (by decide) h0), fun h0 => by rw [ev_ne (by decide)]; exact c3 (up 3 _ (by decide) h0), fun h0 => by rw [ev_ne (by decide)]; exact c4 (up 4 _ (by decide) h0), fun h0 => by rw [ev_ne (by decide)]; exact c5 (up 5 _ (by decide) h0), fun h0 => by rw [ev_ne (by decide)]; exact c6 (up 6 _ (by decide) h0), fun h0 => by rw [ev_ne (by decide)]; exact c7 (up 7 _ (by decide) h0), fun h0 => by rw [ev_ne (by decide)]; exact c8 (up 8 _ (by decide) h0), fun h0 => by rw [ev_ne (by decide)]; exact c9 (up 9 _ (by decide) h0), fun h0 => by rw [ev_ne (by decide)]; exact c10 (up 10 _ (by decide) h0), fun h0 => by rw [ev_ne (by decide)]; exact c11 (up 11 _ (by decide) h0), fun h0 => by rw [ev_ne (by decide)]; exact c12 (up 12 _ (by decide) h0), fun h0 => by rw [ev_ne (by decide)]; exact c13 (up 13 _ (by decide) h0), fun h0 => by rw [ev_ne (by decide)]; exact c14 (up 14 _ (by decide) h0), fun _ => ev_eq (by rw [hta]; decide), fun h0 h1 => by rw [ev_ne (by decide)]; exact c16 (up 16 _ (by decide) h0) (up 17 _ (by decide) h1), fun h0 => m0 (up 17 _ (by decide) h0), fun h0 => m1 (up 17 _ (by decide) h0), fun h0 => by rw [ev_ne (by decide)]; exact c17 (up 17 _ (by decide) h0), fun h0 => by rw [ev_ne (by decide)]; exact c18 (up 18 _ (by decide) h0), fun h0 => by rw [ev_ne (by decide)]; exact e7n (up 18 _ (by decide) h0), fun h0 => ⟨by rw [hset]; split; rfl; exact (d18 (up 18 _ (by decide) h0)).1, by rw [hset]; split; rfl; exact (d18 (up 18 _ (by decide) h0)).2⟩, fun h0 => by rw [hset]; split; rfl; exact d17 (up 17 _ (by decide) h0)⟩
    · obtain ⟨o1', ho', og, od, oo, ow⟩ := o16
      rw [ho'] at hoi
      injection hoi with hoi
      subst hoi
      have y3 : s'.getD 3 false = true := by
        obtain ⟨e, m', b, n'⟩ := ow 3 (by simp)
        have := haf e m' b
        rwa [n'] at this
      have y6 : s'.getD 6 false = true := by
        obtain ⟨e, m', b, n'⟩ := ow 6 (by simp)
        have := haf e m' b
        rwa [n'] at this
      have y9 : s'.getD 9 false = true := by
        obtain ⟨e, m', b, n'⟩ := ow 9 (by simp)
        have := haf e m' b
        rwa [n'] at this
      have y12 : s'.getD 12 false = true := by
        obtain ⟨e, m', b, n'⟩ := ow 12 (by simp)
        have := haf e m' b
        rwa [n'] at this
      have y15 : s'.getD 15 false = true := by
        obtain ⟨e, m', b, n'⟩ := ow 15 (by simp)
        have := haf e m' b
        rwa [n'] at this
      have na0 : s'.getD 17 false = false := by
        rcases hh : s'.getD 17 false with _ | _
        · rfl
        · rw [d17 hh] at hnd; cases hnd
      have ns0 : s'.getD 18 false = false := by
        rcases hh : s'.getD 18 false with _ | _
        · rfl
        · rw [(d18 hh).1] at na0; cases na0
      refine wpOp_list ho' ?_
      refine at_bsB5 (UInt8.ofNat CY) (flB s.on) (UInt8.ofNat GT) s.pd (flB s.lt) (.tmp 63) (.tmp 66) (.tmp 69) (.tmp 72) (.tmp 75) og oo ((c3 y3).trans bCY.symm) (c6 y6) ((c9 y9).trans bGT.symm) (c12 y12) (c15 y15) ?_
      rw [od]
      have hb := below1 y (.cells (rowB [UInt8.ofNat CY, flB s.on, UInt8.ofNat GT, s.pd, flB s.lt]) 5)
      exact ⟨hsz', hfr.put 76 _ (by decide), v', trivial, fun h0 => by rw [ev_ne (by decide)]; exact c0 (up 0 _ (by decide) h0), fun h0 => by rw [ev_ne (by decide)]; exact c1 (up 1 _ (by decide) h0), fun h0 => by rw [ev_ne (by decide)]; exact c2 (up 2 _ (by decide) h0), fun h0 => by rw [ev_ne (by decide)]; exact c3 (up 3 _ (by decide) h0), fun h0 => by rw [ev_ne (by decide)]; exact c4 (up 4 _ (by decide) h0), fun h0 => by rw [ev_ne (by decide)]; exact c5 (up 5 _ (by decide) h0), fun h0 => by rw [ev_ne (by decide)]; exact c6 (up 6 _ (by decide) h0), fun h0 => by rw [ev_ne (by decide)]; exact c7 (up 7 _ (by decide) h0), fun h0 => by rw [ev_ne (by decide)]; exact c8 (up 8 _ (by decide) h0), fun h0 => by rw [ev_ne (by decide)]; exact c9 (up 9 _ (by decide) h0), fun h0 => by rw [ev_ne (by decide)]; exact c10 (up 10 _ (by decide) h0), fun h0 => by rw [ev_ne (by decide)]; exact c11 (up 11 _ (by decide) h0), fun h0 => by rw [ev_ne (by decide)]; exact c12 (up 12 _ (by decide) h0), fun h0 => by rw [ev_ne (by decide)]; exact c13 (up 13 _ (by decide) h0), fun h0 => by rw [ev_ne (by decide)]; exact c14 (up 14 _ (by decide) h0), fun h0 => by rw [ev_ne (by decide)]; exact c15 (up 15 _ (by decide) h0), fun _ _ => ⟨y.heap.size, ev_eq (by rw [hta]; decide), lb_row (one_bxL y _ _)⟩, fun h0' => (m0 (up 17 _ (by decide) h0')).below hb, fun h0' => absurd (up 17 _ (by decide) h0') (by rw [na0]; simp), fun h0 => by rw [ev_ne (by decide)]; exact c17 (up 17 _ (by decide) h0), fun h0 => by rw [ev_ne (by decide)]; exact c18 (up 18 _ (by decide) h0), fun h0 => by rw [ev_ne (by decide)]; exact e7n (up 18 _ (by decide) h0), fun h0 => ⟨by rw [hset]; split; rfl; exact (d18 (up 18 _ (by decide) h0)).1, by rw [hset]; split; rfl; exact (d18 (up 18 _ (by decide) h0)).2⟩, fun h0 => by rw [hset]; split; rfl; exact d17 (up 17 _ (by decide) h0)⟩
    · obtain ⟨o1', ho', og, od, oo, ow⟩ := o17
      rw [ho'] at hoi
      injection hoi with hoi
      subst hoi
      have y0 : s'.getD 0 false = true := by
        obtain ⟨e, m', b, n'⟩ := ow 0 (by simp)
        have := haf e m' b
        rwa [n'] at this
      have y16 : s'.getD 16 false = true := by
        obtain ⟨e, m', b, n'⟩ := ow 16 (by simp)
        have := haf e m' b
        rwa [n'] at this
      have ns0 : s'.getD 18 false = false := by
        rcases hh : s'.getD 18 false with _ | _
        · rfl
        · rw [(d18 hh).1] at hnd; cases hnd
      obtain ⟨g, k1, k2⟩ := c16 y16 hnd
      have hp := m0 hnd
      refine wpOp_list ho' ?_
      refine at_appNL kByte og (.tmp 60) (.tmp 76) oo B v l3 (c0 y0) hp.own g 0 5 5 [UInt8.ofNat CY, flB s.on, UInt8.ofNat GT, s.pd, flB s.lt] rfl k1 k2 (by decide) (by omega) hp.bs.2.2.2 ?_
      intro v2 z A2
      rw [od]
      exact ⟨hsz', hfr.put 77 _ (by decide), v2, trivial, fun h0 => by rw [ev_ne (by decide)]; exact c0 (up 0 _ (by decide) h0), fun h0 => by rw [ev_ne (by decide)]; exact c1 (up 1 _ (by decide) h0), fun h0 => by rw [ev_ne (by decide)]; exact c2 (up 2 _ (by decide) h0), fun h0 => by rw [ev_ne (by decide)]; exact c3 (up 3 _ (by decide) h0), fun h0 => by rw [ev_ne (by decide)]; exact c4 (up 4 _ (by decide) h0), fun h0 => by rw [ev_ne (by decide)]; exact c5 (up 5 _ (by decide) h0), fun h0 => by rw [ev_ne (by decide)]; exact c6 (up 6 _ (by decide) h0), fun h0 => by rw [ev_ne (by decide)]; exact c7 (up 7 _ (by decide) h0), fun h0 => by rw [ev_ne (by decide)]; exact c8 (up 8 _ (by decide) h0), fun h0 => by rw [ev_ne (by decide)]; exact c9 (up 9 _ (by decide) h0), fun h0 => by rw [ev_ne (by decide)]; exact c10 (up 10 _ (by decide) h0), fun h0 => by rw [ev_ne (by decide)]; exact c11 (up 11 _ (by decide) h0), fun h0 => by rw [ev_ne (by decide)]; exact c12 (up 12 _ (by decide) h0), fun h0 => by rw [ev_ne (by decide)]; exact c13 (up 13 _ (by decide) h0), fun h0 => by rw [ev_ne (by decide)]; exact c14 (up 14 _ (by decide) h0), fun h0 => by rw [ev_ne (by decide)]; exact c15 (up 15 _ (by decide) h0), fun _ h1 => absurd h1 (by rw [hset]; simp), fun h0' => absurd h0' (by rw [hset]; simp), fun _ => hp.go A2.out.own A2.out.cu.low, fun _ => ev_eq (by rw [hta]; decide), fun h0' => absurd (up 18 _ (by decide) h0') (by rw [ns0]; simp), fun h0 => by rw [ev_ne (by decide)]; exact e7n (up 18 _ (by decide) h0), fun h0 => ⟨by rw [hset]; split; rfl; exact (d18 (up 18 _ (by decide) h0)).1, by rw [hset]; split; rfl; exact (d18 (up 18 _ (by decide) h0)).2⟩, fun _ => by rw [hset]; simpa using y16⟩
    · obtain ⟨o1', ho', og, od, oo, ow⟩ := o18
      rw [ho'] at hoi
      injection hoi with hoi
      subst hoi
      have y17 : s'.getD 17 false = true := by
        obtain ⟨e, m', b, n'⟩ := ow 17 (by simp)
        have := haf e m' b
        rwa [n'] at this
      have y0 : s'.getD 0 false = true := by
        obtain ⟨e, m', b, n'⟩ := ow 0 (by simp)
        have := haf e m' b
        rwa [n'] at this
      refine wpOp_val v' ho' og ?_ ?_
      · unfold execOp; simp only [oo, c17 y17, Sem.run_pure]
      · rw [od]
        exact ⟨hsz', hfr.put 7 _ (by decide), v', trivial, fun h0 => by rw [ev_ne (by decide)]; exact c0 (up 0 _ (by decide) h0), fun h0 => by rw [ev_ne (by decide)]; exact c1 (up 1 _ (by decide) h0), fun h0 => by rw [ev_ne (by decide)]; exact c2 (up 2 _ (by decide) h0), fun h0 => by rw [ev_ne (by decide)]; exact c3 (up 3 _ (by decide) h0), fun h0 => by rw [ev_ne (by decide)]; exact c4 (up 4 _ (by decide) h0), fun h0 => by rw [ev_ne (by decide)]; exact c5 (up 5 _ (by decide) h0), fun h0 => by rw [ev_ne (by decide)]; exact c6 (up 6 _ (by decide) h0), fun h0 => by rw [ev_ne (by decide)]; exact c7 (up 7 _ (by decide) h0), fun h0 => by rw [ev_ne (by decide)]; exact c8 (up 8 _ (by decide) h0), fun h0 => by rw [ev_ne (by decide)]; exact c9 (up 9 _ (by decide) h0), fun h0 => by rw [ev_ne (by decide)]; exact c10 (up 10 _ (by decide) h0), fun h0 => by rw [ev_ne (by decide)]; exact c11 (up 11 _ (by decide) h0), fun h0 => by rw [ev_ne (by decide)]; exact c12 (up 12 _ (by decide) h0), fun h0 => by rw [ev_ne (by decide)]; exact c13 (up 13 _ (by decide) h0), fun h0 => by rw [ev_ne (by decide)]; exact c14 (up 14 _ (by decide) h0), fun h0 => by rw [ev_ne (by decide)]; exact c15 (up 15 _ (by decide) h0), fun h0 h1 => by rw [ev_ne (by decide)]; exact c16 (up 16 _ (by decide) h0) (up 17 _ (by decide) h1), fun h0 => m0 (up 17 _ (by decide) h0), fun h0 => m1 (up 17 _ (by decide) h0), fun h0 => by rw [ev_ne (by decide)]; exact c17 (up 17 _ (by decide) h0), fun _ => ev_eq (by rw [hta]; decide), fun h0' => absurd h0' (by rw [hset]; simp), fun _ => ⟨by rw [hset]; simpa using y17, by rw [hset]; simpa using y0⟩, fun h0 => by rw [hset]; split; rfl; exact d17 (up 17 _ (by decide) h0)⟩
  · intro s' a y hI' hall
    obtain ⟨hs', hfr, v', _, c0, c1, c2, c3, c4, c5, c6, c7, c8, c9, c10, c11, c12, c13, c14, c15, c16, m0, m1, c17, c18, e7n, d18, d17⟩ := hI'
    have e' := hfr.eq ht
    rw [c18 (hall 18 (by omega))] at e'
    rw [e']
    exact fin y v' _ _ _ _ _ _ _ _ _ _ _ _ _ _ _ _ _ _ (m1 (hall 17 (by omega)))
end Go.Proofs.YtehnhjdjjalifaaGreatDoor
