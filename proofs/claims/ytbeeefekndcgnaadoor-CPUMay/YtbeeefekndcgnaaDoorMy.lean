/- What may be stays so: laws and plain facts -/
import Derived.Test.YtbeeefekndcgnaaDoorLg
import Derived.Test.YtbeeefekndcgnaaDoorLc
namespace Go.Proofs.YtbeeefekndcgnaaDoor
open Go Go.RowKit
set_option linter.unusedVariables false
set_option maxHeartbeats 4000000
set_option maxRecDepth 20000

def rL (c : Cp) : List Value := [.int .u16 (c.R 0), .int .u16 (c.R 1), .int .u16 (c.R 2), .int .u16 (c.R 3), .int .u16 (c.R 4), .int .u16 (c.R 5), .int .u16 (c.R 6), .int .u16 (c.R 7), .int .u16 (c.R 8), .int .u16 (c.R 9), .int .u16 (c.R 10), .int .u16 (c.R 11), .int .u16 (c.R 12), .int .u16 (c.R 13), .int .u16 (c.R 14), .int .u16 (c.R 15)]
theorem infoR16 : (Tryd.prog.info? 23).map (·.size) = some 16 := by kernel_rfl
theorem BoxC.rs {x : World} {b : Nat} {c : Cp} (h : BoxC x b c) : x.rangeAt b 0 (rL c) := fun j v hv => by
  have hj : j < 16 := (List.getElem?_eq_some_iff.1 hv).1
  rw [Nat.zero_add]
  have := h.r j hj
  rw [this, ← hv]
  rcases (show j = 0 ∨ j = 1 ∨ j = 2 ∨ j = 3 ∨ j = 4 ∨ j = 5 ∨ j = 6 ∨ j = 7 ∨ j = 8 ∨ j = 9 ∨ j = 10 ∨ j = 11 ∨ j = 12 ∨ j = 13 ∨ j = 14 ∨ j = 15 by omega) with rfl | rfl | rfl | rfl | rfl | rfl | rfl | rfl | rfl | rfl | rfl | rfl | rfl | rfl | rfl | rfl <;> rfl
theorem at_loadRg {ops : Array Oper} {rest : List Oper} {o : Oper} {a : Act} {w : World} {Q : Exit → Act → World → Prop} (b : Nat) (c : Cp) (h : BoxC w b c) (x : Operand) (hgd : Region.wanted o (yielded ops a.tmps) = true) (ho : o.op = .load 23 x) (hx : a.eval x = .pointer (some ⟨b, 0, none⟩))
    (k : wpList Tryd.prog ops Q rest (a.put o.dst (.agg (rL c).toArray)) w) : wpList Tryd.prog ops Q (o :: rest) a w :=
  BigFrame.wpList_want hgd fun _ hK => wp_load_mid 23 x ho b 0 hx (rL c) _ h.rs Tryd.underlying23 rfl infoR16 (hK _ _ k)
theorem guardR : Tryd.prog.eqGuardType Tryd.prog.depth 23 = false := by kernel_rfl
theorem eqR' (A : Cp) (w : World) : (Op.equalIn 10000 23 (.agg (rL A).toArray) (.agg (rL A).toArray)).run Tryd.prog w = .ok true w := by
  obtain ⟨inf, hi, _⟩ := Option.map_eq_some_iff.1 infoR
  unfold rL
  rw [run_equalIn_array w 9999 _ _ Tryd.underlying23 hi]
  have e1 : Tryd.prog.cellsOf 22 = 1 := by kernel_rfl
  have e2 : List.range 16 = [0, 1, 2, 3, 4, 5, 6, 7, 8, 9, 10, 11, 12, 13, 14, 15] := by decide
  rw [e1, e2]
  unfold Op.eqItems
  simp only [Op.eqItems]
  go_simp
theorem at_neR {ops : Array Oper} {rest : List Oper} {o : Oper} {a : Act} {w : World} {Q : Exit → Act → World → Prop} (A B : Cp) (h : rL A = rL B) (x y : Operand) (t : TypeId) (hgd : Region.wanted o (yielded ops a.tmps) = true) (ho : o.op = .binOp .neq 23 x y t) (hx : a.eval x = .agg (rL A).toArray) (hy : a.eval y = .agg (rL B).toArray)
    (k : wpList Tryd.prog ops Q rest (a.put o.dst (.bool false)) w) : wpList Tryd.prog ops Q (o :: rest) a w :=
  BigFrame.wpList_want hgd fun K hK => by
    unfold Oper.wp execOp
    simp only [ho, hx, hy, h, Sem.run_bind, run_eqGuard_agg w .neq 23 x y (rL B).toArray (rL B).toArray guardR, run_neq_struct w 23 (rL B).toArray (rL B).toArray, eqR', Result.andThen_ok, Sem.run_pure]
    exact hK _ _ k
theorem want0 {ops : Array Oper} {rest : List Oper} {o : Oper} {a : Act} {w : World} {Q : Exit → Act → World → Prop} (hg : Region.wanted o (yielded ops a.tmps) = true) (ho : o.op = .build 26 #[])
    (h : wpList Tryd.prog ops Q rest (a.put o.dst (.agg (cpC zeroC))) w) : wpList Tryd.prog ops Q (o :: rest) a w :=
  BigFrame.wpList_want hg fun K hK => by
    have hb := run_build (P := Tryd.prog) w 26 ((#[] : Array (Nat × Operand)).map fun (i, x) => (i, a.eval x)) (cpC zeroC) (by simpa using built0)
    unfold Oper.wp execOp
    simp only [ho, Sem.run_bind, hb, Result.andThen_ok, Sem.run_pure]
    exact hK _ _ h
theorem wantP {ops : Array Oper} {rest : List Oper} {o : Oper} {a : Act} {w : World} {Q : Exit → Act → World → Prop} (parts : Array (Nat × Operand)) (l : List (Nat × Value)) (p : Pn) (hg : Region.wanted o (yielded ops a.tmps) = true) (ho : o.op = .build 30 parts) (hl : (parts.map fun (i, x) => (i, a.eval x)).toList = l) (hb : Tryd.prog.built 30 l = some (pnC p))
    (h : wpList Tryd.prog ops Q rest (a.put o.dst (.agg (pnC p))) w) : wpList Tryd.prog ops Q (o :: rest) a w :=
  BigFrame.wpList_want hg fun K hK => by
    have hb := run_build (P := Tryd.prog) w 30 (parts.map fun (i, x) => (i, a.eval x)) (pnC p) (by rw [hl]; exact hb)
    unfold Oper.wp execOp
    simp only [ho, Sem.run_bind, hb, Result.andThen_ok, Sem.run_pure]
    exact hK _ _ h
theorem yieldsDl {ops : Array Oper} {S : World → Prop} {o : Oper} {a : Act} (b : Nat) (d : Dv) (h : ∀ w, S w → BoxD w b d) (x : Operand) (hw : Region.wanted o (yielded ops a.tmps) = true) (ho : o.op = .load 37 x) (hx : a.eval x = .pointer (some ⟨b, 0, none⟩)) : YieldsIf Tryd.prog ops S o (.agg (dvC d)) a := by
  have := yieldsIf_load_mid (P := Tryd.prog) (S := S) hw 37 x ho b 0 hx (dvC d).toList _ (fun w hS j v hv => by rw [Nat.zero_add]; exact (h w hS).f j v (by simpa using hv)) Tryd.underlying37 rfl infoD
  rwa [Array.toArray_toList] at this
theorem yields_neD {ops : Array Oper} {S : World → Prop} {o : Oper} {a : Act} (A B : Dv) (h : dvC A = dvC B) (x y : Operand) (t : TypeId) (hw : Region.wanted o (yielded ops a.tmps) = true) (ho : o.op = .binOp .neq 37 x y t) (hx : a.eval x = .agg (dvC A)) (hy : a.eval y = .agg (dvC B)) : YieldsIf Tryd.prog ops S o (.bool false) a :=
  .inl ⟨hw, fun w _ => by
    unfold execOp
    simp only [ho, hx, hy, h, Sem.run_bind, run_eqGuard_agg w .neq 37 x y (dvC B) (dvC B) guardD, run_neq_struct w 37 (dvC B) (dvC B), eqD, Result.andThen_ok, Sem.run_pure]
    rfl⟩
theorem check_start : checkM startM = 0 := by kernel_rfl
theorem step_none {c : Cp} (h : checkB c = false) (p : Pn) : stepM c p = zeroC := by unfold stepM; rw [h]; rfl
theorem drive_none {c : Cp} (h : checkB c = false) (m : Nat) : driveM c m = zeroD := by unfold driveM; rw [h]; rfl
theorem step_mode {c : Cp} (p : Pn) (h : 3 < p.Mode) : stepM c p = zeroC := by
  unfold stepM
  split
  · rw [if_neg (by omega), if_neg (by omega), if_neg (by omega), if_neg (by omega)]
  · rfl
theorem drive_mode {c : Cp} (m : Nat) (h : 3 < m) : driveM c m = zeroD := by
  unfold driveM
  split
  · rw [if_neg (by omega), if_neg (by omega), if_neg (by omega), if_neg (by omega)]
  · rfl
theorem step_pause {c : Cp} (h : checkB c = true) (p : Pn) : stepM c { p with Mode := 1 } = c := by
  unfold stepM
  rw [if_pos h]
  rfl
theorem drive_pause {c : Cp} (h : checkB c = true) : driveM c 1 = ⟨(driveM c 0).Code, (driveM c 0).Addr, false, false, false, 0, 0, false⟩ := by
  unfold driveM
  rw [if_pos h, if_pos h]
  rfl
theorem step_reset {c : Cp} (h : checkB c = true) (p : Pn) : stepM c { p with Mode := 2 } = resetM c := by
  unfold stepM
  rw [if_pos h]
  rfl
def firstP (d : Int) : Pn := ⟨0, d, fun _ => false, false, false, true⟩
def firstC (c : Cp) : Cp := { begunM (resetM c) with Ph := 1 }
theorem step_first {c : Cp} (h : checkB (resetM c) = true) (d : Int) : stepM (resetM c) (firstP d) = firstC c := by
  unfold stepM
  rw [if_pos h]
  rfl
theorem check_first {c : Cp} : checkB (firstC c) = true := rfl
theorem drive_first (c : Cp) : driveM (firstC c) 0 = ⟨0, 0, true, false, false, 0, 0, true⟩ := rfl
theorem first_R (c : Cp) (k : Nat) (h : k ≠ 0) : (firstC c).R k = c.R k := if_neg h
theorem reset_rs (c : Cp) : rL (resetM c) = rL c := rfl
end Go.Proofs.YtbeeefekndcgnaaDoor
