/- The statements' own test whether a processor may be so. -/
import Derived.Test.YtbeeefekndcgnaaDoorLb
import Derived.Test.YtbeeefekndcgnaaDoorCy
import Derived.WalkKit
import Derived.BigGuardPart
namespace Go.Proofs.YtbeeefekndcgnaaDoor
open Go Go.RowKit
set_option linter.unusedVariables false
set_option maxHeartbeats 1000000
set_option maxRecDepth 20000

/-- An operation, its value named; one known by its field. -/
theorem at_op {ops : Array Oper} {rest : List Oper} {o : Oper} {a : Act} {w : World} {Q : Exit → Act → World → Prop} (v : Value) (hg : Region.wanted o (yielded ops a.tmps) = true) (h : (execOp a.eval o).run Tryd.prog w = .ok (.value v) w)
    (k : wpList Tryd.prog ops Q rest (a.put o.dst v) w) : wpList Tryd.prog ops Q (o :: rest) a w :=
  BigFrame.wpList_want hg fun K hK => by
    unfold Oper.wp
    rw [h]
    exact hK _ _ k
theorem at_fld {ops : Array Oper} {rest : List Oper} {o : Oper} {a : Act} {w : World} {Q : Exit → Act → World → Prop} (t : TypeId) (x : Operand) (f : Nat) (ho : o.op = .fieldAddr t x f) (v : Value) (hg : Region.wanted o (yielded ops a.tmps) = true) (h : (execOp a.eval o).run Tryd.prog w = .ok (.value v) w)
    (k : wpList Tryd.prog ops Q rest (a.put o.dst v) w) : wpList Tryd.prog ops Q (o :: rest) a w := at_op v hg h k
/-- The walk stands here. -/
def Stop (p : Prop) : Prop := p
theorem stopAt {p : Prop} (h : Stop p) : p := h
theorem Stop.go {p : Prop} (h : p) : Stop p := h
/-- A comparison, its answer named. -/
theorem at_cmp {ops : Array Oper} {rest : List Oper} {o : Oper} {a : Act} {w : World} {Q : Exit → Act → World → Prop} (v : Bool) (b : BinOp) (t : TypeId) (x y : Operand) (t' : TypeId) (hg : Region.wanted o (yielded ops a.tmps) = true) (ho : o.op = .binOp b t x y t') (h : (execOp a.eval o).run Tryd.prog w = .ok (.value (.bool v)) w)
    (k : wpList Tryd.prog ops Q rest (a.put o.dst (.bool v)) w) : wpList Tryd.prog ops Q (o :: rest) a w :=
  BigFrame.wpList_want hg fun K hK => by
    unfold Oper.wp
    rw [h]
    exact hK _ _ k
theorem lmay0 (w : World) (c : Cp) (h : 15 < c.P) : Calls Tryd.prog 8 #[.agg (cpC c)] w fun e w' => e = .returned (.bool false) ∧ Below w.heap.size w w' := by
  have q0 : decide ((15 : Int) < (c.P : Int)) = true := by simp; omega
  have hB : Hid (Below w.heap.size w (w.alloc (.cells (cpC c) 26))) := below1 _ _
  have hY : Hid (BoxC (w.alloc (.cells (cpC c) 26)) w.heap.size c) := BoxC.new w c
  obtain ⟨o, ho⟩ : ∃ o : Int, (c.Op : Int) = o := ⟨_, rfl⟩
  obtain ⟨f, hf⟩ : ∃ f : Int, (c.Ph : Int) = f := ⟨_, rfl⟩
  obtain ⟨bb, hbb⟩ : ∃ b : Int, c.B = b := ⟨_, rfl⟩
  clear h
  go_enter Tryd.func8, Tryd.ntmps8
  go_wp2_with (first | (refine gen_world (w.alloc (.cells (cpC c) 26)) (fun y => BoxC y w.heap.size c ∧ Below w.heap.size w y) ⟨hY.out, hB.out⟩ ?_; intro y K; have d18 := K.out.1.fP; have d19 := K.out.1.fX; have d23 := K.out.1.fOp; rw [ho] at d23; have d24 := K.out.1.fB; rw [hbb] at d24; have d25 := K.out.1.fPh; rw [hf] at d25))
  go_ret
  exact ⟨by first | rfl | simp, K.out.2⟩
theorem lmay1 (w : World) (c : Cp) (h : c.P ≤ 15 ∧ 15 < c.X) : Calls Tryd.prog 8 #[.agg (cpC c)] w fun e w' => e = .returned (.bool false) ∧ Below w.heap.size w w' := by
  have q0 : decide ((15 : Int) < (c.P : Int)) = false := by simp; omega
  have q1 : decide ((15 : Int) < (c.X : Int)) = true := by simp; omega
  have hB : Hid (Below w.heap.size w (w.alloc (.cells (cpC c) 26))) := below1 _ _
  have hY : Hid (BoxC (w.alloc (.cells (cpC c) 26)) w.heap.size c) := BoxC.new w c
  obtain ⟨o, ho⟩ : ∃ o : Int, (c.Op : Int) = o := ⟨_, rfl⟩
  obtain ⟨f, hf⟩ : ∃ f : Int, (c.Ph : Int) = f := ⟨_, rfl⟩
  obtain ⟨bb, hbb⟩ : ∃ b : Int, c.B = b := ⟨_, rfl⟩
  clear h
  go_enter Tryd.func8, Tryd.ntmps8
  go_wp2_with (first | (refine gen_world (w.alloc (.cells (cpC c) 26)) (fun y => BoxC y w.heap.size c ∧ Below w.heap.size w y) ⟨hY.out, hB.out⟩ ?_; intro y K; have d18 := K.out.1.fP; have d19 := K.out.1.fX; have d23 := K.out.1.fOp; rw [ho] at d23; have d24 := K.out.1.fB; rw [hbb] at d24; have d25 := K.out.1.fPh; rw [hf] at d25))
  go_ret
  exact ⟨by first | rfl | simp, K.out.2⟩
theorem lmay2 (w : World) (c : Cp) (h : c.P ≤ 15 ∧ c.X ≤ 15 ∧ c.Ph < 1) : Calls Tryd.prog 8 #[.agg (cpC c)] w fun e w' => e = .returned (.bool false) ∧ Below w.heap.size w w' := by
  have q0 : decide ((15 : Int) < (c.P : Int)) = false := by simp; omega
  have q1 : decide ((15 : Int) < (c.X : Int)) = false := by simp; omega
  have q2 : decide ((c.Ph : Int) < 1) = true := by simp; omega
  have hB : Hid (Below w.heap.size w (w.alloc (.cells (cpC c) 26))) := below1 _ _
  have hY : Hid (BoxC (w.alloc (.cells (cpC c) 26)) w.heap.size c) := BoxC.new w c
  obtain ⟨o, ho⟩ : ∃ o : Int, (c.Op : Int) = o := ⟨_, rfl⟩
  obtain ⟨f, hf⟩ : ∃ f : Int, (c.Ph : Int) = f := ⟨_, rfl⟩
  obtain ⟨bb, hbb⟩ : ∃ b : Int, c.B = b := ⟨_, rfl⟩
  rw [hf] at q2
  clear h
  go_enter Tryd.func8, Tryd.ntmps8
  go_wp2_with (first | (refine gen_world (w.alloc (.cells (cpC c) 26)) (fun y => BoxC y w.heap.size c ∧ Below w.heap.size w y) ⟨hY.out, hB.out⟩ ?_; intro y K; have d18 := K.out.1.fP; have d19 := K.out.1.fX; have d23 := K.out.1.fOp; rw [ho] at d23; have d24 := K.out.1.fB; rw [hbb] at d24; have d25 := K.out.1.fPh; rw [hf] at d25))
  go_ret
  exact ⟨by first | rfl | simp, K.out.2⟩
theorem lmay3 (w : World) (c : Cp) (h : c.P ≤ 15 ∧ c.X ≤ 15 ∧ 1 ≤ c.Ph ∧ 8 < c.Ph) : Calls Tryd.prog 8 #[.agg (cpC c)] w fun e w' => e = .returned (.bool false) ∧ Below w.heap.size w w' := by
  have q0 : decide ((15 : Int) < (c.P : Int)) = false := by simp; omega
  have q1 : decide ((15 : Int) < (c.X : Int)) = false := by simp; omega
  have q2 : decide ((c.Ph : Int) < 1) = false := by simp; omega
  have q3 : decide ((8 : Int) < (c.Ph : Int)) = true := by simp; omega
  have hB : Hid (Below w.heap.size w (w.alloc (.cells (cpC c) 26))) := below1 _ _
  have hY : Hid (BoxC (w.alloc (.cells (cpC c) 26)) w.heap.size c) := BoxC.new w c
  obtain ⟨o, ho⟩ : ∃ o : Int, (c.Op : Int) = o := ⟨_, rfl⟩
  obtain ⟨f, hf⟩ : ∃ f : Int, (c.Ph : Int) = f := ⟨_, rfl⟩
  obtain ⟨bb, hbb⟩ : ∃ b : Int, c.B = b := ⟨_, rfl⟩
  rw [hf] at q2
  rw [hf] at q3
  clear h
  go_enter Tryd.func8, Tryd.ntmps8
  go_wp2_with (first | (refine gen_world (w.alloc (.cells (cpC c) 26)) (fun y => BoxC y w.heap.size c ∧ Below w.heap.size w y) ⟨hY.out, hB.out⟩ ?_; intro y K; have d18 := K.out.1.fP; have d19 := K.out.1.fX; have d23 := K.out.1.fOp; rw [ho] at d23; have d24 := K.out.1.fB; rw [hbb] at d24; have d25 := K.out.1.fPh; rw [hf] at d25))
  go_ret
  exact ⟨by first | rfl | simp, K.out.2⟩
theorem lmay4 (w : World) (c : Cp) (h : c.P ≤ 15 ∧ c.X ≤ 15 ∧ 1 ≤ c.Ph ∧ c.Ph ≤ 8 ∧ c.Ph = 3 ∧ c.Op < 192) : Calls Tryd.prog 8 #[.agg (cpC c)] w fun e w' => e = .returned (.bool false) ∧ Below w.heap.size w w' := by
  have q0 : decide ((15 : Int) < (c.P : Int)) = false := by simp; omega
  have q1 : decide ((15 : Int) < (c.X : Int)) = false := by simp; omega
  have q2 : decide ((c.Ph : Int) < 1) = false := by simp; omega
  have q3 : decide ((8 : Int) < (c.Ph : Int)) = false := by simp; omega
  have q4 : ((c.Ph : Int) == 3) = true := by simp; omega
  have q5 : decide ((192 : Int) ≤ (c.Op : Int)) = false := by simp; omega
  have hB : Hid (Below w.heap.size w (w.alloc (.cells (cpC c) 26))) := below1 _ _
  have hY : Hid (BoxC (w.alloc (.cells (cpC c) 26)) w.heap.size c) := BoxC.new w c
  obtain ⟨o, ho⟩ : ∃ o : Int, (c.Op : Int) = o := ⟨_, rfl⟩
  obtain ⟨f, hf⟩ : ∃ f : Int, (c.Ph : Int) = f := ⟨_, rfl⟩
  obtain ⟨bb, hbb⟩ : ∃ b : Int, c.B = b := ⟨_, rfl⟩
  rw [hf] at q2
  rw [hf] at q3
  rw [hf] at q4
  rw [ho] at q5
  clear h
  go_enter Tryd.func8, Tryd.ntmps8
  go_wp2_with (first | (refine gen_world (w.alloc (.cells (cpC c) 26)) (fun y => BoxC y w.heap.size c ∧ Below w.heap.size w y) ⟨hY.out, hB.out⟩ ?_; intro y K; have d18 := K.out.1.fP; have d19 := K.out.1.fX; have d23 := K.out.1.fOp; rw [ho] at d23; have d24 := K.out.1.fB; rw [hbb] at d24; have d25 := K.out.1.fPh; rw [hf] at d25))
  go_ret
  exact ⟨by first | rfl | simp, K.out.2⟩
theorem lmay5 (w : World) (c : Cp) (h : c.P ≤ 15 ∧ c.X ≤ 15 ∧ 1 ≤ c.Ph ∧ c.Ph ≤ 8 ∧ c.Ph = 3 ∧ 192 ≤ c.Op ∧ 207 < c.Op) : Calls Tryd.prog 8 #[.agg (cpC c)] w fun e w' => e = .returned (.bool false) ∧ Below w.heap.size w w' := by
  have q0 : decide ((15 : Int) < (c.P : Int)) = false := by simp; omega
  have q1 : decide ((15 : Int) < (c.X : Int)) = false := by simp; omega
  have q2 : decide ((c.Ph : Int) < 1) = false := by simp; omega
  have q3 : decide ((8 : Int) < (c.Ph : Int)) = false := by simp; omega
  have q4 : ((c.Ph : Int) == 3) = true := by simp; omega
  have q5 : decide ((192 : Int) ≤ (c.Op : Int)) = true := by simp; omega
  have q6 : decide ((c.Op : Int) ≤ 207) = false := by simp; omega
  have hB : Hid (Below w.heap.size w (w.alloc (.cells (cpC c) 26))) := below1 _ _
  have hY : Hid (BoxC (w.alloc (.cells (cpC c) 26)) w.heap.size c) := BoxC.new w c
  obtain ⟨o, ho⟩ : ∃ o : Int, (c.Op : Int) = o := ⟨_, rfl⟩
  obtain ⟨f, hf⟩ : ∃ f : Int, (c.Ph : Int) = f := ⟨_, rfl⟩
  obtain ⟨bb, hbb⟩ : ∃ b : Int, c.B = b := ⟨_, rfl⟩
  rw [hf] at q2
  rw [hf] at q3
  rw [hf] at q4
  rw [ho] at q5
  rw [ho] at q6
  clear h
  go_enter Tryd.func8, Tryd.ntmps8
  go_wp2_with (first | (refine gen_world (w.alloc (.cells (cpC c) 26)) (fun y => BoxC y w.heap.size c ∧ Below w.heap.size w y) ⟨hY.out, hB.out⟩ ?_; intro y K; have d18 := K.out.1.fP; have d19 := K.out.1.fX; have d23 := K.out.1.fOp; rw [ho] at d23; have d24 := K.out.1.fB; rw [hbb] at d24; have d25 := K.out.1.fPh; rw [hf] at d25))
  go_ret
  exact ⟨by first | rfl | simp, K.out.2⟩
theorem lmay6 (w : World) (c : Cp) (h : c.P ≤ 15 ∧ c.X ≤ 15 ∧ 1 ≤ c.Ph ∧ c.Ph ≤ 8 ∧ c.Ph = 3 ∧ 192 ≤ c.Op ∧ c.Op ≤ 207) : Calls Tryd.prog 8 #[.agg (cpC c)] w fun e w' => e = .returned (.bool true) ∧ Below w.heap.size w w' := by
  have q0 : decide ((15 : Int) < (c.P : Int)) = false := by simp; omega
  have q1 : decide ((15 : Int) < (c.X : Int)) = false := by simp; omega
  have q2 : decide ((c.Ph : Int) < 1) = false := by simp; omega
  have q3 : decide ((8 : Int) < (c.Ph : Int)) = false := by simp; omega
  have q4 : ((c.Ph : Int) == 3) = true := by simp; omega
  have q5 : decide ((192 : Int) ≤ (c.Op : Int)) = true := by simp; omega
  have q6 : decide ((c.Op : Int) ≤ 207) = true := by simp; omega
  have hB : Hid (Below w.heap.size w (w.alloc (.cells (cpC c) 26))) := below1 _ _
  have hY : Hid (BoxC (w.alloc (.cells (cpC c) 26)) w.heap.size c) := BoxC.new w c
  obtain ⟨o, ho⟩ : ∃ o : Int, (c.Op : Int) = o := ⟨_, rfl⟩
  obtain ⟨f, hf⟩ : ∃ f : Int, (c.Ph : Int) = f := ⟨_, rfl⟩
  obtain ⟨bb, hbb⟩ : ∃ b : Int, c.B = b := ⟨_, rfl⟩
  rw [hf] at q2
  rw [hf] at q3
  rw [hf] at q4
  rw [ho] at q5
  rw [ho] at q6
  clear h
  go_enter Tryd.func8, Tryd.ntmps8
  go_wp2_with (first | (refine gen_world (w.alloc (.cells (cpC c) 26)) (fun y => BoxC y w.heap.size c ∧ Below w.heap.size w y) ⟨hY.out, hB.out⟩ ?_; intro y K; have d18 := K.out.1.fP; have d19 := K.out.1.fX; have d23 := K.out.1.fOp; rw [ho] at d23; have d24 := K.out.1.fB; rw [hbb] at d24; have d25 := K.out.1.fPh; rw [hf] at d25))
  go_ret
  exact ⟨by first | rfl | simp, K.out.2⟩
theorem lmay7 (w : World) (c : Cp) (h : c.P ≤ 15 ∧ c.X ≤ 15 ∧ 1 ≤ c.Ph ∧ c.Ph ≤ 8 ∧ c.Ph ≠ 3 ∧ c.B ≠ 0) : Calls Tryd.prog 8 #[.agg (cpC c)] w fun e w' => e = .returned (.bool false) ∧ Below w.heap.size w w' := by
  have q0 : decide ((15 : Int) < (c.P : Int)) = false := by simp; omega
  have q1 : decide ((15 : Int) < (c.X : Int)) = false := by simp; omega
  have q2 : decide ((c.Ph : Int) < 1) = false := by simp; omega
  have q3 : decide ((8 : Int) < (c.Ph : Int)) = false := by simp; omega
  have q4 : ((c.Ph : Int) == 3) = false := by simp; omega
  have q5 : (c.B == 0) = false := by simp; omega
  have hB : Hid (Below w.heap.size w (w.alloc (.cells (cpC c) 26))) := below1 _ _
  have hY : Hid (BoxC (w.alloc (.cells (cpC c) 26)) w.heap.size c) := BoxC.new w c
  obtain ⟨o, ho⟩ : ∃ o : Int, (c.Op : Int) = o := ⟨_, rfl⟩
  obtain ⟨f, hf⟩ : ∃ f : Int, (c.Ph : Int) = f := ⟨_, rfl⟩
  obtain ⟨bb, hbb⟩ : ∃ b : Int, c.B = b := ⟨_, rfl⟩
  rw [hf] at q2
  rw [hf] at q3
  rw [hf] at q4
  rw [hbb] at q5
  clear h
  go_enter Tryd.func8, Tryd.ntmps8
  go_wp2_with (first | (refine at_fld 26 (.tmp 1) 9 rfl (.pointer (some ⟨w.heap.size, 24, none⟩)) rfl (by go_simp) ?_; (try simp only [Act.put, List.setIfInBounds_toArray, List.set_cons_zero, List.set_cons_succ]); refine stopAt ?_) | (refine gen_world (w.alloc (.cells (cpC c) 26)) (fun y => BoxC y w.heap.size c ∧ Below w.heap.size w y) ⟨hY.out, hB.out⟩ ?_; intro y K; have d18 := K.out.1.fP; have d19 := K.out.1.fX; have d23 := K.out.1.fOp; rw [ho] at d23; have d24 := K.out.1.fB; rw [hbb] at d24; have d25 := K.out.1.fPh; rw [hf] at d25))
  refine Stop.go ?_
  with_reducible refine at_op (.int .u8 bb) ?_ ?_ ?_
  · kernel_rfl
  · go_simp
  try simp only [Act.put, List.setIfInBounds_toArray, List.set_cons_zero, List.set_cons_succ]
  with_reducible refine at_op (.bool false) ?_ ?_ ?_
  · kernel_rfl
  · go_simp
  try simp only [Act.put, List.setIfInBounds_toArray, List.set_cons_zero, List.set_cons_succ]
  with_reducible refine at_op (.bool false) ?_ ?_ ?_
  · kernel_rfl
  · go_simp
  try simp only [Act.put, List.setIfInBounds_toArray, List.set_cons_zero, List.set_cons_succ]
  with_reducible refine wpList_skip ?_ ?_
  · kernel_rfl
  try simp only [Act.put, List.setIfInBounds_toArray, List.set_cons_zero, List.set_cons_succ]
  with_reducible refine wpList_skip ?_ ?_
  · kernel_rfl
  try simp only [Act.put, List.setIfInBounds_toArray, List.set_cons_zero, List.set_cons_succ]
  with_reducible refine wpList_skip ?_ ?_
  · kernel_rfl
  try simp only [Act.put, List.setIfInBounds_toArray, List.set_cons_zero, List.set_cons_succ]
  with_reducible refine wpList_skip ?_ ?_
  · kernel_rfl
  try simp only [Act.put, List.setIfInBounds_toArray, List.set_cons_zero, List.set_cons_succ]
  with_reducible refine wpList_skip ?_ ?_
  · kernel_rfl
  try simp only [Act.put, List.setIfInBounds_toArray, List.set_cons_zero, List.set_cons_succ]
  with_reducible refine wpList_skip ?_ ?_
  · kernel_rfl
  try simp only [Act.put, List.setIfInBounds_toArray, List.set_cons_zero, List.set_cons_succ]
  with_reducible refine wpList_skip ?_ ?_
  · kernel_rfl
  try simp only [Act.put, List.setIfInBounds_toArray, List.set_cons_zero, List.set_cons_succ]
  with_reducible refine wpList_skip ?_ ?_
  · kernel_rfl
  try simp only [Act.put, List.setIfInBounds_toArray, List.set_cons_zero, List.set_cons_succ]
  with_reducible refine wpList_skip ?_ ?_
  · kernel_rfl
  try simp only [Act.put, List.setIfInBounds_toArray, List.set_cons_zero, List.set_cons_succ]
  with_reducible refine wpList_skip ?_ ?_
  · kernel_rfl
  try simp only [Act.put, List.setIfInBounds_toArray, List.set_cons_zero, List.set_cons_succ]
  with_reducible refine wpList_skip ?_ ?_
  · kernel_rfl
  try simp only [Act.put, List.setIfInBounds_toArray, List.set_cons_zero, List.set_cons_succ]
  with_reducible refine wpList_skip ?_ ?_
  · kernel_rfl
  try simp only [Act.put, List.setIfInBounds_toArray, List.set_cons_zero, List.set_cons_succ]
  with_reducible refine wpList_skip ?_ ?_
  · kernel_rfl
  try simp only [Act.put, List.setIfInBounds_toArray, List.set_cons_zero, List.set_cons_succ]
  with_reducible refine at_op (.bool false) ?_ ?_ ?_
  · kernel_rfl
  · go_simp
  try simp only [Act.put, List.setIfInBounds_toArray, List.set_cons_zero, List.set_cons_succ]
  go_wp2
  go_ret
  exact ⟨by first | rfl | simp, K.out.2⟩
theorem lmay8 (w : World) (c : Cp) (h : c.P ≤ 15 ∧ c.X ≤ 15 ∧ 1 ≤ c.Ph ∧ c.Ph ≤ 8 ∧ c.Ph ≠ 3 ∧ c.B = 0 ∧ c.Op = 0) : Calls Tryd.prog 8 #[.agg (cpC c)] w fun e w' => e = .returned (.bool true) ∧ Below w.heap.size w w' := by
  have q0 : decide ((15 : Int) < (c.P : Int)) = false := by simp; omega
  have q1 : decide ((15 : Int) < (c.X : Int)) = false := by simp; omega
  have q2 : decide ((c.Ph : Int) < 1) = false := by simp; omega
  have q3 : decide ((8 : Int) < (c.Ph : Int)) = false := by simp; omega
  have q4 : ((c.Ph : Int) == 3) = false := by simp; omega
  have q5 : (c.B == 0) = true := by simp; omega
  have q6 : ((c.Op : Int) == 0) = true := by simp; omega
  have hB : Hid (Below w.heap.size w (w.alloc (.cells (cpC c) 26))) := below1 _ _
  have hY : Hid (BoxC (w.alloc (.cells (cpC c) 26)) w.heap.size c) := BoxC.new w c
  obtain ⟨o, ho⟩ : ∃ o : Int, (c.Op : Int) = o := ⟨_, rfl⟩
  obtain ⟨f, hf⟩ : ∃ f : Int, (c.Ph : Int) = f := ⟨_, rfl⟩
  obtain ⟨bb, hbb⟩ : ∃ b : Int, c.B = b := ⟨_, rfl⟩
  rw [hf] at q2
  rw [hf] at q3
  rw [hf] at q4
  rw [hbb] at q5
  rw [ho] at q6
  have hb0 : bb = 0 := by rw [← hbb]; exact h.2.2.2.2.2.1
  have hz0 : o = 0 := by rw [← ho]; omega
  clear q5 q6
  clear h
  go_enter Tryd.func8, Tryd.ntmps8
  go_wp2_with (first | (refine at_fld 26 (.tmp 1) 9 rfl (.pointer (some ⟨w.heap.size, 24, none⟩)) rfl (by go_simp) ?_; (try simp only [Act.put, List.setIfInBounds_toArray, List.set_cons_zero, List.set_cons_succ]); refine stopAt ?_) | (refine gen_world (w.alloc (.cells (cpC c) 26)) (fun y => BoxC y w.heap.size c ∧ Below w.heap.size w y) ⟨hY.out, hB.out⟩ ?_; intro y K; have d18 := K.out.1.fP; have d19 := K.out.1.fX; have d23 := K.out.1.fOp; rw [ho] at d23; have d24 := K.out.1.fB; rw [hbb] at d24; rw [hb0] at d24; rw [hz0] at d23; have d25 := K.out.1.fPh; rw [hf] at d25))
  refine Stop.go ?_
  with_reducible refine at_op (.int .u8 0) ?_ ?_ ?_
  · kernel_rfl
  · go_simp
  try simp only [Act.put, List.setIfInBounds_toArray, List.set_cons_zero, List.set_cons_succ]
  with_reducible refine at_op (.bool true) ?_ ?_ ?_
  · kernel_rfl
  · go_simp
  try simp only [Act.put, List.setIfInBounds_toArray, List.set_cons_zero, List.set_cons_succ]
  with_reducible refine at_op (.bool true) ?_ ?_ ?_
  · kernel_rfl
  · go_simp
  try simp only [Act.put, List.setIfInBounds_toArray, List.set_cons_zero, List.set_cons_succ]
  with_reducible refine at_op (.pointer (some ⟨w.heap.size, 23, none⟩)) ?_ ?_ ?_
  · kernel_rfl
  · go_simp
  try simp only [Act.put, List.setIfInBounds_toArray, List.set_cons_zero, List.set_cons_succ]
  with_reducible refine at_op (.int .u8 0) ?_ ?_ ?_
  · kernel_rfl
  · go_simp
  try simp only [Act.put, List.setIfInBounds_toArray, List.set_cons_zero, List.set_cons_succ]
  with_reducible refine at_op (.bool true) ?_ ?_ ?_
  · kernel_rfl
  · go_simp
  try simp only [Act.put, List.setIfInBounds_toArray, List.set_cons_zero, List.set_cons_succ]
  with_reducible refine at_op (.bool true) ?_ ?_ ?_
  · kernel_rfl
  · go_simp
  try simp only [Act.put, List.setIfInBounds_toArray, List.set_cons_zero, List.set_cons_succ]
  with_reducible refine wpList_skip ?_ ?_
  · kernel_rfl
  try simp only [Act.put, List.setIfInBounds_toArray, List.set_cons_zero, List.set_cons_succ]
  with_reducible refine wpList_skip ?_ ?_
  · kernel_rfl
  try simp only [Act.put, List.setIfInBounds_toArray, List.set_cons_zero, List.set_cons_succ]
  with_reducible refine wpList_skip ?_ ?_
  · kernel_rfl
  try simp only [Act.put, List.setIfInBounds_toArray, List.set_cons_zero, List.set_cons_succ]
  with_reducible refine wpList_skip ?_ ?_
  · kernel_rfl
  try simp only [Act.put, List.setIfInBounds_toArray, List.set_cons_zero, List.set_cons_succ]
  with_reducible refine wpList_skip ?_ ?_
  · kernel_rfl
  try simp only [Act.put, List.setIfInBounds_toArray, List.set_cons_zero, List.set_cons_succ]
  with_reducible refine wpList_skip ?_ ?_
  · kernel_rfl
  try simp only [Act.put, List.setIfInBounds_toArray, List.set_cons_zero, List.set_cons_succ]
  with_reducible refine wpList_skip ?_ ?_
  · kernel_rfl
  try simp only [Act.put, List.setIfInBounds_toArray, List.set_cons_zero, List.set_cons_succ]
  with_reducible refine wpList_skip ?_ ?_
  · kernel_rfl
  try simp only [Act.put, List.setIfInBounds_toArray, List.set_cons_zero, List.set_cons_succ]
  with_reducible refine at_op (.bool true) ?_ ?_ ?_
  · kernel_rfl
  · go_simp
  try simp only [Act.put, List.setIfInBounds_toArray, List.set_cons_zero, List.set_cons_succ]
  with_reducible refine at_op (.bool true) ?_ ?_ ?_
  · kernel_rfl
  · go_simp
  try simp only [Act.put, List.setIfInBounds_toArray, List.set_cons_zero, List.set_cons_succ]
  go_wp2
  go_ret
  exact ⟨by first | rfl | simp, K.out.2⟩
theorem lmay9 (w : World) (c : Cp) (h : c.P ≤ 15 ∧ c.X ≤ 15 ∧ 1 ≤ c.Ph ∧ c.Ph ≤ 8 ∧ c.Ph ≠ 3 ∧ c.B = 0 ∧ c.Op ≠ 0 ∧ c.Ph = 5) : Calls Tryd.prog 8 #[.agg (cpC c)] w fun e w' => e = .returned (.bool false) ∧ Below w.heap.size w w' := by
  have q0 : decide ((15 : Int) < (c.P : Int)) = false := by simp; omega
  have q1 : decide ((15 : Int) < (c.X : Int)) = false := by simp; omega
  have q2 : decide ((c.Ph : Int) < 1) = false := by simp; omega
  have q3 : decide ((8 : Int) < (c.Ph : Int)) = false := by simp; omega
  have q4 : ((c.Ph : Int) == 3) = false := by simp; omega
  have q5 : (c.B == 0) = true := by simp; omega
  have q6 : ((c.Op : Int) == 0) = false := by simp; omega
  have q7 : ((c.Ph : Int) != 5) = false := by simp; omega
  have hB : Hid (Below w.heap.size w (w.alloc (.cells (cpC c) 26))) := below1 _ _
  have hY : Hid (BoxC (w.alloc (.cells (cpC c) 26)) w.heap.size c) := BoxC.new w c
  obtain ⟨o, ho⟩ : ∃ o : Int, (c.Op : Int) = o := ⟨_, rfl⟩
  obtain ⟨f, hf⟩ : ∃ f : Int, (c.Ph : Int) = f := ⟨_, rfl⟩
  obtain ⟨bb, hbb⟩ : ∃ b : Int, c.B = b := ⟨_, rfl⟩
  rw [hf] at q2
  rw [hf] at q3
  rw [hf] at q4
  rw [hbb] at q5
  rw [ho] at q6
  rw [hf] at q7
  clear h
  go_enter Tryd.func8, Tryd.ntmps8
  go_wp2_with (first | (refine gen_world (w.alloc (.cells (cpC c) 26)) (fun y => BoxC y w.heap.size c ∧ Below w.heap.size w y) ⟨hY.out, hB.out⟩ ?_; intro y K; have d18 := K.out.1.fP; have d19 := K.out.1.fX; have d23 := K.out.1.fOp; rw [ho] at d23; have d24 := K.out.1.fB; rw [hbb] at d24; have d25 := K.out.1.fPh; rw [hf] at d25))
  go_ret
  exact ⟨by first | rfl | simp, K.out.2⟩
theorem lmay10 (w : World) (c : Cp) (h : c.P ≤ 15 ∧ c.X ≤ 15 ∧ 1 ≤ c.Ph ∧ c.Ph ≤ 8 ∧ c.Ph ≠ 3 ∧ c.B = 0 ∧ c.Op ≠ 0 ∧ c.Ph ≠ 5 ∧ c.Ph = 4) : Calls Tryd.prog 8 #[.agg (cpC c)] w fun e w' => e = .returned (.bool false) ∧ Below w.heap.size w w' := by
  have q0 : decide ((15 : Int) < (c.P : Int)) = false := by simp; omega
  have q1 : decide ((15 : Int) < (c.X : Int)) = false := by simp; omega
  have q2 : decide ((c.Ph : Int) < 1) = false := by simp; omega
  have q3 : decide ((8 : Int) < (c.Ph : Int)) = false := by simp; omega
  have q4 : ((c.Ph : Int) == 3) = false := by simp; omega
  have q5 : (c.B == 0) = true := by simp; omega
  have q6 : ((c.Op : Int) == 0) = false := by simp; omega
  have q7 : ((c.Ph : Int) != 5) = true := by simp; omega
  have q8 : ((c.Ph : Int) != 4) = false := by simp; omega
  have hB : Hid (Below w.heap.size w (w.alloc (.cells (cpC c) 26))) := below1 _ _
  have hY : Hid (BoxC (w.alloc (.cells (cpC c) 26)) w.heap.size c) := BoxC.new w c
  obtain ⟨o, ho⟩ : ∃ o : Int, (c.Op : Int) = o := ⟨_, rfl⟩
  obtain ⟨f, hf⟩ : ∃ f : Int, (c.Ph : Int) = f := ⟨_, rfl⟩
  obtain ⟨bb, hbb⟩ : ∃ b : Int, c.B = b := ⟨_, rfl⟩
  rw [hf] at q2
  rw [hf] at q3
  rw [hf] at q4
  rw [hbb] at q5
  rw [ho] at q6
  rw [hf] at q7
  rw [hf] at q8
  clear h
  go_enter Tryd.func8, Tryd.ntmps8
  go_wp2_with (first | (refine gen_world (w.alloc (.cells (cpC c) 26)) (fun y => BoxC y w.heap.size c ∧ Below w.heap.size w y) ⟨hY.out, hB.out⟩ ?_; intro y K; have d18 := K.out.1.fP; have d19 := K.out.1.fX; have d23 := K.out.1.fOp; rw [ho] at d23; have d24 := K.out.1.fB; rw [hbb] at d24; have d25 := K.out.1.fPh; rw [hf] at d25))
  go_ret
  exact ⟨by first | rfl | simp, K.out.2⟩
theorem lmay11 (w : World) (c : Cp) (h : c.P ≤ 15 ∧ c.X ≤ 15 ∧ 1 ≤ c.Ph ∧ c.Ph ≤ 8 ∧ c.Ph ≠ 3 ∧ c.B = 0 ∧ c.Op ≠ 0 ∧ c.Ph ≠ 5 ∧ c.Ph ≠ 4) : Calls Tryd.prog 8 #[.agg (cpC c)] w fun e w' => e = .returned (.bool true) ∧ Below w.heap.size w w' := by
  have q0 : decide ((15 : Int) < (c.P : Int)) = false := by simp; omega
  have q1 : decide ((15 : Int) < (c.X : Int)) = false := by simp; omega
  have q2 : decide ((c.Ph : Int) < 1) = false := by simp; omega
  have q3 : decide ((8 : Int) < (c.Ph : Int)) = false := by simp; omega
  have q4 : ((c.Ph : Int) == 3) = false := by simp; omega
  have q5 : (c.B == 0) = true := by simp; omega
  have q6 : ((c.Op : Int) == 0) = false := by simp; omega
  have q7 : ((c.Ph : Int) != 5) = true := by simp; omega
  have q8 : ((c.Ph : Int) != 4) = true := by simp; omega
  have hB : Hid (Below w.heap.size w (w.alloc (.cells (cpC c) 26))) := below1 _ _
  have hY : Hid (BoxC (w.alloc (.cells (cpC c) 26)) w.heap.size c) := BoxC.new w c
  obtain ⟨o, ho⟩ : ∃ o : Int, (c.Op : Int) = o := ⟨_, rfl⟩
  obtain ⟨f, hf⟩ : ∃ f : Int, (c.Ph : Int) = f := ⟨_, rfl⟩
  obtain ⟨bb, hbb⟩ : ∃ b : Int, c.B = b := ⟨_, rfl⟩
  rw [hf] at q2
  rw [hf] at q3
  rw [hf] at q4
  rw [hbb] at q5
  rw [ho] at q6
  rw [hf] at q7
  rw [hf] at q8
  clear h
  go_enter Tryd.func8, Tryd.ntmps8
  go_wp2_with (first | (refine gen_world (w.alloc (.cells (cpC c) 26)) (fun y => BoxC y w.heap.size c ∧ Below w.heap.size w y) ⟨hY.out, hB.out⟩ ?_; intro y K; have d18 := K.out.1.fP; have d19 := K.out.1.fX; have d23 := K.out.1.fOp; rw [ho] at d23; have d24 := K.out.1.fB; rw [hbb] at d24; have d25 := K.out.1.fPh; rw [hf] at d25))
  go_ret
  exact ⟨by first | rfl | simp, K.out.2⟩
theorem lmay (w : World) (c : Cp) (hc : c.wf) : Calls Tryd.prog 8 #[.agg (cpC c)] w fun e w' => e = .returned (.bool (checkB c)) ∧ Below w.heap.size w w' := by
  have yes : ∀ (hm : mayM c), checkB c = true := fun hm => (checkB_iff c).2 hm
  have no : ∀ (hm : ¬ mayM c), checkB c = false := fun hm => by
    rcases h : checkB c with _ | _
    · rfl
    · exact absurd ((checkB_iff c).1 h) hm
  have hB := hc.B
  unfold mayM at yes no
  rcases Decidable.em (15 < c.P) with h2 | h2
  · rw [no (by omega)]
    exact lmay0 w c (by omega)
  · rcases Decidable.em (15 < c.X) with h4 | h4
    · rw [no (by omega)]
      exact lmay1 w c (by omega)
    · rcases Decidable.em (c.Ph < 1) with h6 | h6
      · rw [no (by omega)]
        exact lmay2 w c (by omega)
      · rcases Decidable.em (8 < c.Ph) with h8 | h8
        · rw [no (by omega)]
          exact lmay3 w c (by omega)
        · rcases Decidable.em (c.Ph = 3) with h10 | h10
          · rcases Decidable.em (c.Op < 192) with h12 | h12
            · rw [no (by omega)]
              exact lmay4 w c (by omega)
            · rcases Decidable.em (207 < c.Op) with h14 | h14
              · rw [no (by omega)]
                exact lmay5 w c (by omega)
              · rw [yes (by omega)]
                exact lmay6 w c (by omega)
          · rcases Decidable.em (c.B = 0) with h12 | h12
            · rcases Decidable.em (c.Op = 0) with h14 | h14
              · rw [yes (by omega)]
                exact lmay8 w c (by omega)
              · rcases Decidable.em (c.Ph = 5) with h16 | h16
                · rw [no (by omega)]
                  exact lmay9 w c (by omega)
                · rcases Decidable.em (c.Ph = 4) with h18 | h18
                  · rw [no (by omega)]
                    exact lmay10 w c (by omega)
                  · rw [yes (by omega)]
                    exact lmay11 w c (by omega)
            · rw [no (by omega)]
              exact lmay7 w c (by omega)
end Go.Proofs.YtbeeefekndcgnaaDoor
