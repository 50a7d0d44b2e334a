/- A region that draws its order, by an invariant over what is done: each operation keeps it, whenever it comes. -/
import Derived.Test.YtfdikiafbfljaaaDoorGn
namespace Go.Proofs.YtfdikiafbfljaaaDoor
open Go Go.RowKit
set_option linter.unusedVariables false
set_option maxHeartbeats 400000
set_option maxRecDepth 20000

section
variable {P : Program} {ops : Array Oper} {md : Region.Mode} {Q : Exit → Act → World → Prop}

/-- Each operation waits for earlier ones alone. -/
def upB (md : Region.Mode) (ops : Array Oper) : Bool := (List.range ops.size).all fun i => (ops[i]?.map fun o => o.after.all fun e => !Region.binds md e || decide (e.on < i)).getD false
theorem all_done (hu : upB md ops = true) {s : Array Bool} (hs : s.size = ops.size) (hr : Region.ready md ops s = []) : ∀ i, i < ops.size → s.getD i false = true := by
  intro i
  induction i using Nat.strongRecOn with
  | _ i ih =>
    intro hi
    have h1 := List.all_eq_true.1 hu i (List.mem_range.2 hi)
    rw [Array.getElem?_eq_getElem hi] at h1
    simp only [Option.map_some, Option.getD_some] at h1
    have hsi : i < s.size := by omega
    rcases hb : s[i] with _ | _
    · exfalso
      have hm : i ∈ Region.ready md ops s := by
        unfold Region.ready
        rw [List.mem_filter]
        refine ⟨List.mem_range.2 hi, ?_⟩
        rw [Array.getElem?_eq_getElem hi]
        simp only [Option.map_some, Option.getD_some, Bool.and_eq_true]
        refine ⟨by simp [Array.getD, hsi, hb], ?_⟩
        rw [Array.all_eq_true] at h1 ⊢
        intro j hj
        have h2 := h1 j hj
        rw [Bool.or_eq_true] at h2 ⊢
        rcases h2 with h2 | h2
        · exact .inl h2
        · have h3 : ops[i].after[j].on < i := of_decide_eq_true h2
          exact .inr (ih _ h3 (by omega))
      rw [hr] at hm
      cases hm
    · simp [Array.getD, hsi, hb]
theorem wpAny_inv (I : Array Bool → Act → World → Prop) (hu : upB md ops = true) (hs : ∀ s a w, I s a w → s.size = ops.size)
    (step : ∀ s a w i o, I s a w → ops[i]? = some o → (∀ e ∈ o.after, Region.binds md e = true → s.getD e.on false = true) → wpOp P ops Q i (I (s.setIfInBounds i true)) a w)
    (fin : ∀ s a w, I s a w → (∀ i, i < ops.size → s.getD i false = true) → Q .normal a w) :
    ∀ (fuel : Nat) (s : Array Bool) (a : Act) (w : World), I s a w → s.toList.countP (! ·) ≤ fuel → wpAny P md ops Q fuel s a w := by
  intro fuel
  induction fuel with
  | zero =>
    intro s a w hI hc
    have hall : ∀ i, i < ops.size → s.getD i false = true := fun i hi => by
      have hsi : i < s.size := by rw [hs s a w hI]; exact hi
      rcases hb : s[i] with _ | _
      · have : 0 < s.toList.countP (! ·) := List.countP_pos_iff.2 ⟨s[i], by simp, by rw [hb]; rfl⟩
        omega
      · simp [Array.getD, hsi, hb]
    refine ⟨?_, fin s a w hI hall⟩
    rcases hr : Region.ready md ops s with _ | ⟨i, r⟩
    · rfl
    · have hm : i ∈ Region.ready md ops s := by rw [hr]; simp
      obtain ⟨h1, o, h2, _⟩ := mem_ready.1 hm
      have hi : i < ops.size := (Array.getElem?_eq_some_iff.1 h2).1
      have hsi : i < s.size := by rw [hs s a w hI]; exact hi
      have := hall i hi
      simp only [Array.getD, hsi, dif_pos] at this h1
      rw [this] at h1
      cases h1
  | succ fuel ih =>
    intro s a w hI hc
    refine ⟨fun hr => fin s a w hI (all_done hu (hs s a w hI) hr), fun i hm => ?_⟩
    obtain ⟨h1, o, h2, h3⟩ := mem_ready.1 hm
    have hi : i < ops.size := (Array.getElem?_eq_some_iff.1 h2).1
    have hsi : i < s.size := by rw [hs s a w hI]; exact hi
    have hb : s[i] = false := by simpa [Array.getD, hsi] using h1
    refine wpOp_mono (fun a' w' h' => ih _ a' w' h' ?_) (step s a w i o hI h2 fun e he hbd => h3 e he hbd)
    rw [Array.toList_setIfInBounds, List.countP_set (by simpa using hsi)]
    have hpos : 0 < s.toList.countP (! ·) := List.countP_pos_iff.2 ⟨s[i], by simp, by rw [hb]; rfl⟩
    have e1 : (!(s.toList[i]'(by simpa using hsi))) = true := by rw [Array.getElem_toList, hb]; rfl
    simp only [e1, if_true]
    rw [if_neg (by decide)]
    omega
theorem region_inv {id : Nat} {a : Act} {w : World} (I : Array Bool → Act → World → Prop) (hm : P.follows .mixedOrders = true) (hu : upB .any ops = true) (hs : ∀ s a w, I s a w → s.size = ops.size)
    (start : I (Array.replicate ops.size false) a w.drew)
    (step : ∀ s a w i o, I s a w → ops[i]? = some o → (∀ e ∈ o.after, Region.binds .any e = true → s.getD e.on false = true) → wpOp P ops Q i (I (s.setIfInBounds i true)) a w)
    (fin : ∀ s a w, I s a w → (∀ i, i < ops.size → s.getD i false = true) → Q .normal a w) : (Code.region id ops true).wp P Q a w :=
  wp_region_any hm (wpAny_inv I hu hs step fin ops.size _ a _ start (by rw [Array.toList_replicate]; exact Nat.le_trans List.countP_le_length (by simp)))
theorem wpOp_of {i : Nat} {o : Oper} {K : Act → World → Prop} {a : Act} {w : World} (ho : ops[i]? = some o) (hw : Region.wanted o (yielded ops a.tmps) = true) (h : o.wp P a w K Q) : wpOp P ops Q i K a w := by
  unfold wpOp
  rw [ho]
  simp only [hw, if_true]
  exact .inl h
theorem wp_ld {t : TypeId} {n : Nat} {o : Oper} {K : Act → World → Prop} {a : Act} {w : World} (R : Rt P t n) (b : Nat) (cs : Array Value) (h : Bx w b cs t) (hs : cs.size = n) (x : Operand) (ho : o.op = .load t x) (hx : a.eval x = .pointer (some ⟨b, 0, none⟩))
    (k : K (a.put o.dst (.agg cs)) w) : o.wp P a w K Q := by
  obtain ⟨d, hu, hd⟩ := R.u
  exact wp_load_row t x ho b hx t cs (0, 0) d h hu (by cases d <;> first | rfl | exact hd) (by rw [hs]; exact R.i) k
theorem wp_as {o : Oper} {K : Act → World → Prop} {a : Act} {w : World} (x : Operand) (v : Value) (ho : o.op = .assign x) (hx : a.eval x = v) (k : K (a.put o.dst v) w) : o.wp P a w K Q := by
  unfold Oper.wp execOp
  simp only [ho, hx, Sem.run_pure]
  exact k
theorem getD_set (s : Array Bool) (i j : Nat) (hi : i < s.size) : (s.setIfInBounds i true).getD j false = if j = i then true else s.getD j false := by
  rw [Array.getD_eq_getD_getElem?, Array.getD_eq_getD_getElem?, Array.getElem?_setIfInBounds]
  by_cases h : i = j
  · subst h
    simp [hi]
  · rw [if_neg h, if_neg (fun e => h e.symm)]
end
end Go.Proofs.YtfdikiafbfljaaaDoor
