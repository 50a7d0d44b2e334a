/- A region that draws its order, by an invariant, each operation told that it is not done yet. -/
import Derived.Test.YthaijjehplomfaaDoorJ3
namespace Go.Proofs.YthaijjehplomfaaDoor
open Go Go.RowKit
set_option linter.unusedVariables false
set_option maxHeartbeats 400000

section
variable {P : Program} {ops : Array Oper} {Q : Exit → Act → World → Prop} {md : Region.Mode}
theorem wpAny_inv2 (I : Array Bool → Act → World → Prop) (hu : upB md ops = true) (hs : ∀ s a w, I s a w → s.size = ops.size)
    (step : ∀ s a w i o, I s a w → ops[i]? = some o → s.getD i false = false → (∀ e ∈ o.after, Region.binds md e = true → s.getD e.on false = true) → wpOp P ops Q i (I (s.setIfInBounds i true)) a w)
    (fin : ∀ s a w, I s a w → (∀ i, i < ops.size → s.getD i false = true) → Q .normal a w) :
    ∀ (fuel : Nat) (s : Array Bool) (a : Act) (w : World), I s a w → s.toList.countP (! ·) ≤ fuel → wpAny P md ops Q fuel s a w := by
  intro fuel
  induction fuel with
  | zero =>
    intro s a w hI hc
    have hall : ∀ i, i < ops.size → s.getD i false = true := fun i hi => by
      have hsi : i < s.size := by rw [hs s a w hI]; exact hi
      rcases hb : s[i] with _ | _
      · have : 0 < s.toList.countP (! ·) := List.countP_pos_iff.2 ⟨s[i], by simp, by rw [hb]; rfl⟩
        omega
      · simp [Array.getD, hsi, hb]
    refine ⟨?_, fin s a w hI hall⟩
    rcases hr : Region.ready md ops s with _ | ⟨i, r⟩
    · rfl
    · have hm : i ∈ Region.ready md ops s := by rw [hr]; simp
      obtain ⟨h1, o, h2, _⟩ := mem_ready.1 hm
      have hi : i < ops.size := (Array.getElem?_eq_some_iff.1 h2).1
      have hsi : i < s.size := by rw [hs s a w hI]; exact hi
      have := hall i hi
      simp only [Array.getD, hsi, dif_pos] at this h1
      rw [this] at h1
      cases h1
  | succ fuel ih =>
    intro s a w hI hc
    refine ⟨fun hr => fin s a w hI (all_done hu (hs s a w hI) hr), fun i hm => ?_⟩
    obtain ⟨h1, o, h2, h3⟩ := mem_ready.1 hm
    have hi : i < ops.size := (Array.getElem?_eq_some_iff.1 h2).1
    have hsi : i < s.size := by rw [hs s a w hI]; exact hi
    have hb : s[i] = false := by simpa [Array.getD, hsi] using h1
    refine wpOp_mono (fun a' w' h' => ih _ a' w' h' ?_) (step s a w i o hI h2 (by simp [Array.getD, hsi, hb]) fun e he hbd => h3 e he hbd)
    rw [Array.toList_setIfInBounds, List.countP_set (by simpa using hsi)]
    have hpos : 0 < s.toList.countP (! ·) := List.countP_pos_iff.2 ⟨s[i], by simp, by rw [hb]; rfl⟩
    have e1 : (!(s.toList[i]'(by simpa using hsi))) = true := by rw [Array.getElem_toList, hb]; rfl
    simp only [e1, if_true]
    rw [if_neg (by decide)]
    omega
theorem region_inv2 {id : Nat} {a : Act} {w : World} (I : Array Bool → Act → World → Prop) (hm : P.follows .mixedOrders = true) (hu : upB .any ops = true) (hs : ∀ s a w, I s a w → s.size = ops.size)
    (start : I (Array.replicate ops.size false) a w.drew)
    (step : ∀ s a w i o, I s a w → ops[i]? = some o → s.getD i false = false → (∀ e ∈ o.after, Region.binds .any e = true → s.getD e.on false = true) → wpOp P ops Q i (I (s.setIfInBounds i true)) a w)
    (fin : ∀ s a w, I s a w → (∀ i, i < ops.size → s.getD i false = true) → Q .normal a w) : (Code.region id ops true).wp P Q a w :=
  wp_region_any hm (wpAny_inv2 I hu hs step fin ops.size _ a _ start (by rw [Array.toList_replicate]; exact Nat.le_trans List.countP_le_length (by simp)))
/-- An operation by itself, as a list of one. -/
def only (Q : Exit → Act → World → Prop) (K : Act → World → Prop) : Exit → Act → World → Prop
  | .normal => K
  | e => Q e
theorem wp_swap {o : Oper} {K : Act → World → Prop} {a : Act} {w : World} (h : o.wp P a w K (only Q K)) : o.wp P a w K Q := by
  unfold Oper.wp at *
  generalize (execOp a.eval o).run P w = r at *
  cases r with
  | ok n w' =>
    cases n <;> simp only [Oper.upon] at h ⊢ <;>
      first
        | exact h
        | exact Calls.mono h (fun e w'' he => by cases e <;> exact he)
  | halt x w' => cases x <;> simp only [Oper.upon] at h ⊢ <;> exact h
theorem wpOp_list {i : Nat} {o : Oper} {K : Act → World → Prop} {a : Act} {w : World} (ho : ops[i]? = some o) (h : wpList P ops (only Q K) [o] a w) : wpOp P ops Q i K a w := by
  unfold wpOp
  rw [ho]
  show if Region.wanted o (yielded ops a.tmps) = true then o.wp P a w K Q ∨ (o.asks P a w ∧ LetsOut Q) else K (a.put o.dst undef) w
  have h' : if Region.wanted o (yielded ops a.tmps) = true then o.wp P a w K (only Q K) ∨ (o.asks P a w ∧ LetsOut Q) else K (a.put o.dst undef) w := h
  split
  · rename_i hw
    rw [if_pos hw] at h'
    exact h'.imp wp_swap id
  · rename_i hw
    rw [if_neg hw] at h'
    exact h'
/-- An operation whose value is known. -/
theorem wpOp_val {i : Nat} {o : Oper} {K : Act → World → Prop} {a : Act} {w : World} (v : Value) (ho : ops[i]? = some o) (hg : o.guard = none) (h : (execOp a.eval o).run P w = .ok (.value v) w) (k : K (a.put o.dst v) w) : wpOp P ops Q i K a w := by
  unfold wpOp
  rw [ho]
  simp only [Region.wanted, hg, if_true]
  left
  unfold Oper.wp
  rw [h]
  exact k
/-- An operation that writes. -/
theorem wpOp_skip {i : Nat} {o : Oper} {K : Act → World → Prop} {a : Act} {w w' : World} (ho : ops[i]? = some o) (hg : o.guard = none) (h : (execOp a.eval o).run P w = .ok .skip w') (k : K (a.put o.dst undef) w') : wpOp P ops Q i K a w := by
  unfold wpOp
  rw [ho]
  simp only [Region.wanted, hg, if_true]
  left
  unfold Oper.wp
  rw [h]
  exact k
/-- A call of a function that is known. -/
theorem wpOp_call {i : Nat} {o : Oper} {K : Act → World → Prop} {a : Act} {w : World} (f : Nat) (args : Array Value) (R : Ending → World → Prop) (ho : ops[i]? = some o) (hg : o.guard = none) (h : (execOp a.eval o).run P w = .ok (.enter f args) w) (hc : Calls P f args w R) (k : ∀ e w', R e w' → ∃ v, e = .returned v ∧ K (a.put o.dst v) w') : wpOp P ops Q i K a w := by
  unfold wpOp
  rw [ho]
  simp only [Region.wanted, hg, if_true]
  left
  unfold Oper.wp
  rw [h]
  refine hc.mono fun e w' he => ?_
  obtain ⟨v, rfl, hk⟩ := k e w' he
  exact hk
end
end Go.Proofs.YthaijjehplomfaaDoor
