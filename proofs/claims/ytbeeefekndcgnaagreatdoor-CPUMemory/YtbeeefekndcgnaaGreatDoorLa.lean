/- Two processors, two drives held against each other. -/
import Derived.Test.YtbeeefekndcgnaaGreatDoorDe
import Derived.Laws.StructEq
namespace Go.Proofs.YtbeeefekndcgnaaGreatDoor
open Go Go.RowKit
set_option linter.unusedVariables false
set_option maxRecDepth 20000

theorem eqR (A : Cp) (w : World) : (Op.equalIn 9999 23 (.agg #[.int .u16 (A.R 0), .int .u16 (A.R 1), .int .u16 (A.R 2), .int .u16 (A.R 3), .int .u16 (A.R 4), .int .u16 (A.R 5), .int .u16 (A.R 6), .int .u16 (A.R 7), .int .u16 (A.R 8), .int .u16 (A.R 9), .int .u16 (A.R 10), .int .u16 (A.R 11), .int .u16 (A.R 12), .int .u16 (A.R 13), .int .u16 (A.R 14), .int .u16 (A.R 15)]) (.agg #[.int .u16 (A.R 0), .int .u16 (A.R 1), .int .u16 (A.R 2), .int .u16 (A.R 3), .int .u16 (A.R 4), .int .u16 (A.R 5), .int .u16 (A.R 6), .int .u16 (A.R 7), .int .u16 (A.R 8), .int .u16 (A.R 9), .int .u16 (A.R 10), .int .u16 (A.R 11), .int .u16 (A.R 12), .int .u16 (A.R 13), .int .u16 (A.R 14), .int .u16 (A.R 15)])).run Tryz.prog w = .ok true w := by
  obtain ⟨inf, hi, _⟩ := Option.map_eq_some_iff.1 infoR
  rw [run_equalIn_array w 9998 _ _ Tryz.underlying23 hi]
  have e1 : Tryz.prog.cellsOf 22 = 1 := by kernel_rfl
  have e2 : List.range 16 = [0, 1, 2, 3, 4, 5, 6, 7, 8, 9, 10, 11, 12, 13, 14, 15] := by decide
  rw [e1, e2]
  unfold Op.eqItems
  simp only [Op.eqItems]
  go_simp
theorem eqC (A : Cp) (w : World) : (Op.equalIn 10000 26 (.agg (cpC A)) (.agg (cpC A))).run Tryz.prog w = .ok true w := by
  have h := eqR A w
  unfold cpC
  go_simp
theorem eqD (A : Dv) (w : World) : (Op.equalIn 10000 33 (.agg (dvC A)) (.agg (dvC A))).run Tryz.prog w = .ok true w := by
  unfold dvC
  go_simp
theorem guardC : Tryz.prog.eqGuardType Tryz.prog.depth 26 = false := by kernel_rfl
theorem guardD : Tryz.prog.eqGuardType Tryz.prog.depth 33 = false := by kernel_rfl
theorem at_neC {ops : Array Oper} {rest : List Oper} {o : Oper} {a : Act} {w : World} {Q : Exit → Act → World → Prop} (A B : Cp) (h : cpC A = cpC B) (x y : Operand) (t : TypeId) (hgd : Region.wanted o (yielded ops a.tmps) = true) (ho : o.op = .binOp .neq 26 x y t) (hx : a.eval x = .agg (cpC A)) (hy : a.eval y = .agg (cpC B))
    (k : wpList Tryz.prog ops Q rest (a.put o.dst (.bool false)) w) : wpList Tryz.prog ops Q (o :: rest) a w :=
  BigFrame.wpList_want hgd fun K hK => by
    unfold Oper.wp execOp
    simp only [ho, hx, hy, h, Sem.run_bind, run_eqGuard_agg w .neq 26 x y (cpC B) (cpC B) guardC, run_neq_struct w 26 (cpC B) (cpC B), eqC, Result.andThen_ok, Sem.run_pure]
    exact hK _ _ k
theorem at_eqC {ops : Array Oper} {rest : List Oper} {o : Oper} {a : Act} {w : World} {Q : Exit → Act → World → Prop} (A B : Cp) (h : cpC A = cpC B) (x y : Operand) (t : TypeId) (hgd : Region.wanted o (yielded ops a.tmps) = true) (ho : o.op = .binOp .eql 26 x y t) (hx : a.eval x = .agg (cpC A)) (hy : a.eval y = .agg (cpC B))
    (k : wpList Tryz.prog ops Q rest (a.put o.dst (.bool true)) w) : wpList Tryz.prog ops Q (o :: rest) a w :=
  BigFrame.wpList_want hgd fun K hK => by
    unfold Oper.wp execOp
    simp only [ho, hx, hy, h, Sem.run_bind, run_eqGuard_agg w .eql 26 x y (cpC B) (cpC B) guardC, run_eql_struct w 26 (cpC B) (cpC B), eqC, Result.andThen_ok, Sem.run_pure]
    exact hK _ _ k
theorem at_neD {ops : Array Oper} {rest : List Oper} {o : Oper} {a : Act} {w : World} {Q : Exit → Act → World → Prop} (A B : Dv) (h : dvC A = dvC B) (x y : Operand) (t : TypeId) (hgd : Region.wanted o (yielded ops a.tmps) = true) (ho : o.op = .binOp .neq 33 x y t) (hx : a.eval x = .agg (dvC A)) (hy : a.eval y = .agg (dvC B))
    (k : wpList Tryz.prog ops Q rest (a.put o.dst (.bool false)) w) : wpList Tryz.prog ops Q (o :: rest) a w :=
  BigFrame.wpList_want hgd fun K hK => by
    unfold Oper.wp execOp
    simp only [ho, hx, hy, h, Sem.run_bind, run_eqGuard_agg w .neq 33 x y (dvC B) (dvC B) guardD, run_neq_struct w 33 (dvC B) (dvC B), eqD, Result.andThen_ok, Sem.run_pure]
    exact hK _ _ k
theorem at_eqD {ops : Array Oper} {rest : List Oper} {o : Oper} {a : Act} {w : World} {Q : Exit → Act → World → Prop} (A B : Dv) (h : dvC A = dvC B) (x y : Operand) (t : TypeId) (hgd : Region.wanted o (yielded ops a.tmps) = true) (ho : o.op = .binOp .eql 33 x y t) (hx : a.eval x = .agg (dvC A)) (hy : a.eval y = .agg (dvC B))
    (k : wpList Tryz.prog ops Q rest (a.put o.dst (.bool true)) w) : wpList Tryz.prog ops Q (o :: rest) a w :=
  BigFrame.wpList_want hgd fun K hK => by
    unfold Oper.wp execOp
    simp only [ho, hx, hy, h, Sem.run_bind, run_eqGuard_agg w .eql 33 x y (dvC B) (dvC B) guardD, run_eql_struct w 33 (dvC B) (dvC B), eqD, Result.andThen_ok, Sem.run_pure]
    exact hK _ _ k

/-- Boxes in a row, each with its cells and type. -/
structure Fm (w : World) (l : List (Nat × Array Value × TypeId)) (y : World) : Prop where
  get : ∀ (i b : Nat) (cs : Array Value) (t : TypeId), l[i]? = some (b, cs, t) → y.heap[b]? = some (.cells cs t (0, 0))
  ge : ∀ (i b : Nat) (cs : Array Value) (t : TypeId), l[i]? = some (b, cs, t) → w.heap.size ≤ b
  ne : ∀ (i j b : Nat) (cs cs' : Array Value) (t t' : TypeId), l[i]? = some (b, cs, t) → l[j]? = some (b, cs', t') → i = j
  low : Below w.heap.size w y
theorem Fm.nil (w : World) : Fm w [] w := ⟨fun _ _ _ _ h => by simp at h, fun _ _ _ _ h => by simp at h, fun _ _ _ _ _ _ _ h => by simp at h, Below.refl _ _⟩
theorem Fm.below {w : World} {l : List (Nat × Array Value × TypeId)} {y y' : World} (h : Fm w l y) (hb : Below y.heap.size y y') : Fm w l y' :=
  ⟨fun i b cs t e => (hb.block b (heap_lt (h.get i b cs t e))).trans (h.get i b cs t e), h.ge, h.ne, h.low.trans (hb.mono h.low.size)⟩
theorem Fm.new {w : World} {l : List (Nat × Array Value × TypeId)} {y : World} (h : Fm w l y) (cs : Array Value) (t : TypeId) : Fm w (l ++ [(y.heap.size, cs, t)]) (y.alloc (.cells cs t)) := by
  have hb := h.below ((Below.refl y.heap.size y).alloc (Nat.le_refl _) (.cells cs t))
  have key : ∀ (i b : Nat) (cs' : Array Value) (t' : TypeId), (l ++ [(y.heap.size, cs, t)])[i]? = some (b, cs', t') → l[i]? = some (b, cs', t') ∧ i < l.length ∨ i = l.length ∧ b = y.heap.size ∧ cs' = cs ∧ t' = t := by
    intro i b cs' t' e
    rcases Nat.lt_or_ge i l.length with hi | hi
    · rw [List.getElem?_append_left hi] at e; exact .inl ⟨e, hi⟩
    · rw [List.getElem?_append_right hi] at e
      rcases Nat.eq_or_lt_of_le hi with h0 | h0
      · rw [← h0, Nat.sub_self] at e
        simp at e
        exact .inr ⟨h0.symm, e.1.symm, e.2.1.symm, e.2.2.symm⟩
      · rw [List.getElem?_eq_none (by simp; omega)] at e; cases e
  refine ⟨fun i b cs' t' e => ?_, fun i b cs' t' e => ?_, fun i j b c1 c2 t1 t2 e1 e2 => ?_, hb.low⟩
  · rcases key i b cs' t' e with ⟨k, _⟩ | ⟨_, rfl, rfl, rfl⟩
    · exact hb.get i b cs' t' k
    · exact alloc_last' y _
  · rcases key i b cs' t' e with ⟨k, _⟩ | ⟨_, rfl, rfl, rfl⟩
    · exact h.ge i b cs' t' k
    · exact h.low.size
  · rcases key i b c1 t1 e1 with ⟨k1, l1⟩ | ⟨k1, kb, _⟩ <;> rcases key j b c2 t2 e2 with ⟨k2, l2⟩ | ⟨k2, kb2, _⟩
    · exact h.ne i j b c1 c2 t1 t2 k1 k2
    · exact absurd (heap_lt (h.get i b c1 t1 k1)) (by omega)
    · exact absurd (heap_lt (h.get j b c2 t2 k2)) (by omega)
    · omega
theorem Fm.put {w : World} {l : List (Nat × Array Value × TypeId)} {y y' : World} (h : Fm w l y) (i b : Nat) (cs cs' : Array Value) (t : TypeId) (hi : l[i]? = some (b, cs, t)) (k : y'.heap[b]? = some (.cells cs' t (0, 0)) ∧ (∀ B, B ≤ b → Below B y y') ∧ ∀ q, q ≠ b → y'.heap[q]? = y.heap[q]?) : Fm w (l.set i (b, cs', t)) y' := by
  have key : ∀ (j b' : Nat) (c1 : Array Value) (t1 : TypeId), (l.set i (b, cs', t))[j]? = some (b', c1, t1) → (j = i ∧ b' = b ∧ c1 = cs' ∧ t1 = t) ∨ (j ≠ i ∧ l[j]? = some (b', c1, t1)) := by
    intro j b' c1 t1 e
    by_cases hj : i = j
    · subst hj
      rw [List.getElem?_set] at e
      have hl : i < l.length := (List.getElem?_eq_some_iff.1 hi).1
      simp [hl] at e
      exact .inl ⟨rfl, e.1.symm, e.2.1.symm, e.2.2.symm⟩
    · rw [List.getElem?_set_ne hj] at e; exact .inr ⟨fun x => hj x.symm, e⟩
  refine ⟨fun j b' c1 t1 e => ?_, fun j b' c1 t1 e => ?_, fun j j' b' c1 c2 t1 t2 e1 e2 => ?_, h.low.trans (k.2.1 _ (h.ge i b cs t hi))⟩
  · rcases key j b' c1 t1 e with ⟨_, rfl, rfl, rfl⟩ | ⟨hj, e'⟩
    · exact k.1
    · exact (k.2.2 b' (fun x => hj (h.ne j i b c1 cs t1 t (x ▸ e') hi))).trans (h.get j b' c1 t1 e')
  · rcases key j b' c1 t1 e with ⟨_, rfl, rfl, rfl⟩ | ⟨_, e'⟩
    · exact h.ge i b' cs t1 hi
    · exact h.ge j b' c1 t1 e'
  · rcases key j b' c1 t1 e1 with ⟨rfl, rfl, _⟩ | ⟨hj, e1'⟩ <;> rcases key j' b' c2 t2 e2 with ⟨rfl, hb2, _⟩ | ⟨hj', e2'⟩
    · rfl
    · exact h.ne j j' b' cs c2 t t2 hi e2'
    · subst hb2; exact h.ne j j' b' c1 cs t1 t e1' hi
    · exact h.ne j j' b' c1 c2 t1 t2 e1' e2'
theorem Fm.setCell {w : World} {l : List (Nat × Array Value × TypeId)} {y : World} (h : Fm w l y) (i b : Nat) (cs cs' : Array Value) (t : TypeId) (hi : l[i]? = some (b, cs, t)) (j : Nat) (v : Value) (hv : cs.setIfInBounds j v = cs') : Fm w (l.set i (b, cs', t)) (y.setCell ⟨b, j, none⟩ v) := by
  refine h.put i b cs cs' t hi ⟨?_, fun B hB => (Below.refl B y).setCell (p := ⟨b, j, none⟩) hB v, fun q hq => heap_setCell_other y ⟨b, j, none⟩ q v hq⟩
  have := heap_setCell_same y b j cs t v (h.get i b cs t hi)
  rw [hv] at this
  exact this
/-- Pins made of their fields. -/
theorem at_buildP {ops : Array Oper} {rest : List Oper} {o : Oper} {a : Act} {w : World} {Q : Exit → Act → World → Prop} (parts : Array (Nat × Operand)) (l : List (Nat × Value)) (p : Pn) (hg : o.guard = none) (ho : o.op = .build 38 parts) (hl : (parts.map fun (i, x) => (i, a.eval x)).toList = l) (hb : Tryz.prog.built 38 l = some (pnC p)) (t : Option Tmp) (hd : o.dst = t)
    (h : wpList Tryz.prog ops Q rest (a.put t (.agg (pnC p))) w) : wpList Tryz.prog ops Q (o :: rest) a w :=
  wpList_buildTo hg 38 _ ho t hd (pnC p) (by rw [hl]; exact hb) h
theorem wantD {ops : Array Oper} {rest : List Oper} {o : Oper} {a : Act} {w : World} {Q : Exit → Act → World → Prop} (parts : Array (Nat × Operand)) (l : List (Nat × Value)) (d : Dv) (hg : Region.wanted o (yielded ops a.tmps) = true) (ho : o.op = .build 33 parts) (hl : (parts.map fun (i, x) => (i, a.eval x)).toList = l) (hb : Tryz.prog.built 33 l = some (dvC d)) (t : Option Tmp) (hd : o.dst = t)
    (h : wpList Tryz.prog ops Q rest (a.put t (.agg (dvC d))) w) : wpList Tryz.prog ops Q (o :: rest) a w :=
  BigFrame.wpList_want hg fun K hK => by
    have hb := run_build (P := Tryz.prog) w 33 (parts.map fun (i, x) => (i, a.eval x)) (dvC d) (by rw [hl]; exact hb)
    unfold Oper.wp execOp
    simp only [ho, Sem.run_bind, hb, Result.andThen_ok, Sem.run_pure]
    subst hd
    exact hK _ _ h
theorem at_loadDg {ops : Array Oper} {rest : List Oper} {o : Oper} {a : Act} {w : World} {Q : Exit → Act → World → Prop} (b : Nat) (d : Dv) (h : BoxD w b d) (x : Operand) (hgd : Region.wanted o (yielded ops a.tmps) = true) (ho : o.op = .load 33 x) (hx : a.eval x = .pointer (some ⟨b, 0, none⟩))
    (k : wpList Tryz.prog ops Q rest (a.put o.dst (.agg (dvC d))) w) : wpList Tryz.prog ops Q (o :: rest) a w :=
  BigFrame.wpList_want hgd fun _ hK => wp_load_row 33 x ho b hx 33 (dvC d) (0, 0) _ h Tryz.underlying33 rfl infoD (hK _ _ k)
end Go.Proofs.YtbeeefekndcgnaaGreatDoor
