/- Pins made, stored and loaded; processors held against each other where the order is drawn. -/
import Derived.Test.YtbeeefekndcgnaaGreatDoorLa
import Derived.Test.YtbeeefekndcgnaaGreatDoorDr
import Derived.Deep.MidRow
namespace Go.Proofs.YtbeeefekndcgnaaGreatDoor
open Go Go.RowKit
set_option linter.unusedVariables false
set_option maxRecDepth 20000

theorem zeroVP (w : World) : (zeroValue 38).run Tryz.prog w = .ok (.agg (pnC zeroP)) w := by kernel_rfl
theorem pnC_one (p : Pn) : (pnC p).all (·.oneCell') = true := by simp [pnC, Value.oneCell']
theorem at_storeP {ops : Array Oper} {rest : List Oper} {o : Oper} {a : Act} {w : World} {Q : Exit → Act → World → Prop} (b : Nat) (d0 d : Pn) (h : Hid (BoxP w b d0)) (x y : Operand) (hgd : o.guard = none) (ho : o.op = .store 38 x y) (hx : a.eval x = .pointer (some ⟨b, 0, none⟩)) (hy : a.eval y = .agg (pnC d))
    (k : ∀ w', Hid (BoxP w' b d ∧ (∀ B, B ≤ b → Below B w w') ∧ ∀ q, q ≠ b → w'.heap[q]? = w.heap[q]?) → wpList Tryz.prog ops Q rest (a.put o.dst undef) w') : wpList Tryz.prog ops Q (o :: rest) a w :=
  wpList_store_row hgd 38 x y ho b (pnC d) hx hy 38 (pnC d0) h.out infoP rfl (pnC_one d) (k _ ⟨setRow_heap w b _ _ 38 _ h.out, fun B hB => ⟨rfl, rfl, rfl, by simp, fun q hq => setRow_other w b q _ (by omega)⟩, fun q hq => setRow_other w b q _ hq⟩)
def efL (p : Pn) : List Value := [.bool (p.EF 0), .bool (p.EF 1), .bool (p.EF 2), .bool (p.EF 3)]
theorem infoF4 : (Tryz.prog.info? 36).map (·.size) = some 4 := by kernel_rfl
theorem BoxP.ef {x : World} {b : Nat} {p : Pn} (h : BoxP x b p) : x.rangeAt b 2 (efL p) := fun j v hv => by
  have hj : j < 4 := (List.getElem?_eq_some_iff.1 hv).1
  refine h.f (2 + j) v ?_
  rcases (show j = 0 ∨ j = 1 ∨ j = 2 ∨ j = 3 by omega) with rfl | rfl | rfl | rfl <;> exact hv
theorem at_loadE {ops : Array Oper} {rest : List Oper} {o : Oper} {a : Act} {w : World} {Q : Exit → Act → World → Prop} (b : Nat) (p : Pn) (h : BoxP w b p) (x : Operand) (hgd : o.guard = none) (ho : o.op = .load 36 x) (hx : a.eval x = .pointer (some ⟨b, 2, none⟩))
    (k : wpList Tryz.prog ops Q rest (a.put o.dst (.agg (efL p).toArray)) w) : wpList Tryz.prog ops Q (o :: rest) a w :=
  wpList_load_mid hgd 36 x ho b 2 hx (efL p) _ h.ef Tryz.underlying36 rfl infoF4 k
theorem at_storeE {ops : Array Oper} {rest : List Oper} {o : Oper} {a : Act} {w : World} {Q : Exit → Act → World → Prop} {V : World} {l : List (Nat × Array Value × TypeId)} (i b : Nat) (p q : Pn) (h : Fm V l w) (hi : l[i]? = some (b, pnC p, 38)) (x y : Operand) (hgd : o.guard = none) (ho : o.op = .store 36 x y) (hx : a.eval x = .pointer (some ⟨b, 2, none⟩)) (hy : a.eval y = .agg (efL q).toArray)
    (k : ∀ w', Hid (Fm V (l.set i (b, pnC { p with EF := q.EF }, 38)) w') → wpList Tryz.prog ops Q rest (a.put o.dst undef) w') : wpList Tryz.prog ops Q (o :: rest) a w := by
  have hb : BoxP w b p := h.get i _ _ _ hi
  refine wpList_store_mid hgd 36 x y ho b 2 (efL q).toArray hx hy (fun j hj => ⟨?_, frozen_heap hb _⟩) infoF4 (by simp [efL, Value.oneCell']) (k _ ?_)
  · have hj' : j < 4 := hj
    rcases (show j = 0 ∨ j = 1 ∨ j = 2 ∨ j = 3 by omega) with rfl | rfl | rfl | rfl
    · rw [hb.f 2 (.bool (p.EF 0)) rfl]; rfl
    · rw [hb.f 3 (.bool (p.EF 1)) rfl]; rfl
    · rw [hb.f 4 (.bool (p.EF 2)) rfl]; rfl
    · rw [hb.f 5 (.bool (p.EF 3)) rfl]; rfl
  · have hl : i < l.length := (List.getElem?_eq_some_iff.1 hi).1
    have e : ∀ (u : Array Value), (l.set i (b, u, 38))[i]? = some (b, u, 38) := fun u => by simp [hl]
    have h1 := h.setCell i b _ _ _ hi 2 (.bool (q.EF 0)) rfl
    have h2 := h1.setCell i b _ _ _ (e _) 3 (.bool (q.EF 1)) rfl
    have h3 := h2.setCell i b _ _ _ (e _ |> fun z => by rw [List.set_set] ; exact z) 4 (.bool (q.EF 2)) rfl
    have h4 := h3.setCell i b _ _ _ (e _ |> fun z => by rw [List.set_set, List.set_set]; exact z) 5 (.bool (q.EF 3)) rfl
    rw [List.set_set, List.set_set, List.set_set] at h4
    exact h4
theorem yieldsP {ops : Array Oper} {S : World → Prop} {o : Oper} {a : Act} (b : Nat) (p : Pn) (h : ∀ w, S w → BoxP w b p) (x : Operand) (hw : Region.wanted o (yielded ops a.tmps) = true) (ho : o.op = .load 38 x) (hx : a.eval x = .pointer (some ⟨b, 0, none⟩)) : YieldsIf Tryz.prog ops S o (.agg (pnC p)) a := by
  have := yieldsIf_load_mid (P := Tryz.prog) (S := S) hw 38 x ho b 0 hx (pnC p).toList _ (fun w hS j v hv => by rw [Nat.zero_add]; exact (h w hS).f j v (by simpa using hv)) Tryz.underlying38 rfl infoP
  rwa [Array.toArray_toList] at this
theorem yields_neC {ops : Array Oper} {S : World → Prop} {o : Oper} {a : Act} (A B : Cp) (h : cpC A = cpC B) (x y : Operand) (t : TypeId) (hw : Region.wanted o (yielded ops a.tmps) = true) (ho : o.op = .binOp .neq 26 x y t) (hx : a.eval x = .agg (cpC A)) (hy : a.eval y = .agg (cpC B)) : YieldsIf Tryz.prog ops S o (.bool false) a :=
  .inl ⟨hw, fun w _ => by
    unfold execOp
    simp only [ho, hx, hy, h, Sem.run_bind, run_eqGuard_agg w .neq 26 x y (cpC B) (cpC B) guardC, run_neq_struct w 26 (cpC B) (cpC B), eqC, Result.andThen_ok, Sem.run_pure]
    rfl⟩
theorem yields_eqC {ops : Array Oper} {S : World → Prop} {o : Oper} {a : Act} (A B : Cp) (h : cpC A = cpC B) (x y : Operand) (t : TypeId) (hw : Region.wanted o (yielded ops a.tmps) = true) (ho : o.op = .binOp .eql 26 x y t) (hx : a.eval x = .agg (cpC A)) (hy : a.eval y = .agg (cpC B)) : YieldsIf Tryz.prog ops S o (.bool true) a :=
  .inl ⟨hw, fun w _ => by
    unfold execOp
    simp only [ho, hx, hy, h, Sem.run_bind, run_eqGuard_agg w .eql 26 x y (cpC B) (cpC B) guardC, run_eql_struct w 26 (cpC B) (cpC B), eqC, Result.andThen_ok, Sem.run_pure]⟩
theorem Fm.three (w : World) (c : Cp) (p q : Pn) : Fm w [(w.heap.size, cpC c, 26), (w.heap.size + 1, pnC p, 38), (w.heap.size + 2, pnC q, 38)] (((w.alloc (.cells (cpC c) 26)).alloc (.cells (pnC p) 38)).alloc (.cells (pnC q) 38)) := by
  have h := (((Fm.nil w).new (cpC c) 26).new (pnC p) 38).new (pnC q) 38
  simpa using h
end Go.Proofs.YtbeeefekndcgnaaGreatDoor
