/- What the reading of a line stands on: words cut off in front, the table of parts as a row, a row of worths as it fills. -/
import Derived.Test.YthpahpfnpapoiaaDoorVr
import Derived.Test.YthpahpfnpapoiaaDoorVl
namespace Go.Proofs.YthpahpfnpapoiaaDoor
open Go Go.RowKit
set_option linter.unusedVariables false
set_option maxHeartbeats 1000000
set_option maxRecDepth 20000

/-- A slice cut off in front, its value named. -/
theorem at_sl {ops : Array Oper} {rest : List Oper} {o : Oper} {a : Act} {w : World} {Q : Exit → Act → World → Prop} (t : TypeId) (x lo : Operand) (X L v : Value) (hg : Region.wanted o (yielded ops a.tmps) = true) (ho : o.op = .slice t x (some lo) none none) (hx : a.eval x = X) (hl : a.eval lo = L)
    (h : ∀ w, (Instr.sliceAt t X (some L) none none).run Tryd.prog w = .ok v w) (k : wpList Tryd.prog ops Q rest (a.put o.dst v) w) : wpList Tryd.prog ops Q (o :: rest) a w := by
  refine at_op v hg ?_ k
  unfold execOp
  simp only [ho, hx, hl, Option.map_some, Option.map_none, Sem.run_bind, h, Result.andThen_ok, Sem.run_pure]
theorem q_sl {C : World → Prop} {o : Oper} {a : Act} (t : TypeId) (x lo : Operand) (X L v : Value) (ho : o.op = .slice t x (some lo) none none) (hx : a.eval x = X) (hl : a.eval lo = L)
    (h : ∀ w, (Instr.sliceAt t X (some L) none none).run Tryd.prog w = .ok v w) : ∀ w, C w → o.quietAt Tryd.prog a C w v := fun w hw => by
  unfold Oper.quietAt execOp
  simp only [ho, hx, hl, Option.map_some, Option.map_none, Sem.run_bind, h, Result.andThen_ok, Sem.run_pure]
  exact ⟨rfl, rfl⟩
theorem slc (l : Nat) (g k n : Nat) (sp : Option Addr) (hn : l ≤ n) (hl : 0 < l) (hs : 0 < n → sp = some ⟨g, k, none⟩) : ∃ sp1, (∀ v, (Instr.sliceAt 85 (.slice sp n n) (some (.int .i64 (l : Int))) none none).run Tryd.prog v = .ok (.slice sp1 (n - l) (n - l)) v) ∧ (0 < n - l → sp1 = some ⟨g, k + l, none⟩) := by
  refine ⟨if n = l then sp else sp.map (·.add (l * 1)), fun v => ?_, fun h => ?_⟩
  · have hu : Tryd.prog.underlying 85 = some (.slice (Tryd.prog.elem 85)) := by kernel_rfl
    rw [run_sliceAt_slice v _ _ _ _ _ hu, run_slice_l v _ _ _ _ hu .i64 (l : Int) (by omega) (by omega)]
    have hz : ∀ v, (sizeOf (Tryd.prog.elem 85)).run Tryd.prog v = .ok 1 v := fun v => by kernel_rfl
    rw [hz]
    simp only [Result.andThen_ok, sliced, Int.toNat_natCast]
  · rw [if_neg (by omega), hs (by omega)]
    simp [Addr.add_lit]
theorem slc1 (g k n : Nat) (sp : Option Addr) (hn : 1 ≤ n) (hs : 0 < n → sp = some ⟨g, k, none⟩) : ∃ sp1, (∀ v, (Instr.sliceAt 85 (.slice sp n n) (some (.int .i64 1)) none none).run Tryd.prog v = .ok (.slice sp1 (n - 1) (n - 1)) v) ∧ (0 < n - 1 → sp1 = some ⟨g, k + 1, none⟩) := slc 1 g k n sp hn (by decide) hs
theorem slc2 (g k n : Nat) (sp : Option Addr) (hn : 2 ≤ n) (hs : 0 < n → sp = some ⟨g, k, none⟩) : ∃ sp1, (∀ v, (Instr.sliceAt 85 (.slice sp n n) (some (.int .i64 2)) none none).run Tryd.prog v = .ok (.slice sp1 (n - 2) (n - 2)) v) ∧ (0 < n - 2 → sp1 = some ⟨g, k + 2, none⟩) := slc 2 g k n sp hn (by decide) hs
theorem rtPs : Rt Tryd.prog 78 18 := ⟨⟨_, Tryd.underlying78, rfl⟩, by kernel_rfl⟩
theorem rtPt : Rt Tryd.prog 77 2 := ⟨⟨_, Tryd.underlying77, rfl⟩, by kernel_rfl⟩
theorem zeroVP (w : World) : (zeroValue 77).run Tryd.prog w = .ok (.agg #[.string ⟨#[]⟩, .int .i64 0]) w := by kernel_rfl
theorem part_row {y : World} (h : Tp y) : y.rangeAt 0 0 partC.toList := fun j v hv => by
  rw [Nat.zero_add]
  exact h.part j v (by rw [← Array.getElem?_toList]; exact hv)
theorem part_ix (j : Nat) (h : j < 9) : ∃ (pw : ByteArray) (dg : Nat), (∀ w, (Instr.index 78 (.agg partC) (.int .i64 (j : Int))).run Tryd.prog w = .ok (.agg #[.string pw, .int .i64 (dg : Int)]) w) ∧ partsL[j]? = some (strL pw, dg) ∧ pw.size ≤ 5 ∧ dg ≤ 4 := by
  match j, h with
  | 0, _ => exact ⟨⟨#[107, 101, 121, 115]⟩, 4, fun w => by kernel_rfl, rfl, by decide, by decide⟩
  | 1, _ => exact ⟨⟨#[116, 97, 112, 101]⟩, 0, fun w => by kernel_rfl, rfl, by decide, by decide⟩
  | 2, _ => exact ⟨⟨#[102, 108, 97, 103]⟩, 0, fun w => by kernel_rfl, rfl, by decide, by decide⟩
  | 3, _ => exact ⟨⟨#[105, 110]⟩, 0, fun w => by kernel_rfl, rfl, by decide, by decide⟩
  | 4, _ => exact ⟨⟨#[111, 117, 116]⟩, 0, fun w => by kernel_rfl, rfl, by decide, by decide⟩
  | 5, _ => exact ⟨⟨#[105, 110, 116]⟩, 0, fun w => by kernel_rfl, rfl, by decide, by decide⟩
  | 6, _ => exact ⟨⟨#[99, 108, 101, 97, 114]⟩, 0, fun w => by kernel_rfl, rfl, by decide, by decide⟩
  | 7, _ => exact ⟨⟨#[119, 97, 105, 116]⟩, 0, fun w => by kernel_rfl, rfl, by decide, by decide⟩
  | 8, _ => exact ⟨⟨#[98, 117, 115]⟩, 2, fun w => by kernel_rfl, rfl, by decide, by decide⟩
/-- Worths found so far, noughts behind them. -/
def cellsV (vs : List Int) : Array Value := ((vs ++ List.replicate (9 - vs.length) 0).map (Value.int .i64)).toArray
theorem cellsV_nil : cellsV [] = w0 := rfl
theorem cellsV_zero (vs : List Int) (h : vs.length < 9) : cellsV (vs ++ [0]) = cellsV vs := by
  unfold cellsV
  congr 2
  rw [List.append_assoc]
  congr 1
  rw [List.length_append, List.length_singleton, show 9 - vs.length = (9 - (vs.length + 1)) + 1 by omega, List.replicate_succ]
  rfl
theorem cellsV_set (vs : List Int) (v : Int) (h : vs.length < 9) : (cellsV vs).setIfInBounds vs.length (.int .i64 v) = cellsV (vs ++ [v]) := by
  unfold cellsV
  rw [List.setIfInBounds_toArray]
  congr 1
  rw [show 9 - vs.length = (9 - (vs.length + 1)) + 1 by omega, List.replicate_succ, List.length_append, List.length_singleton, List.map_append, List.map_append, List.map_append, List.set_append_right _ _ (by simp)]
  simp
theorem cellsV_get (vs : List Int) (v : Int) (r : List Int) : (cellsV (vs ++ v :: r))[vs.length]? = some (.int .i64 v) := by
  unfold cellsV
  rw [List.getElem?_toArray, List.getElem?_map, List.append_assoc, List.getElem?_append_right (Nat.le_refl _), Nat.sub_self]
  rfl
theorem cellsV_size (vs : List Int) (h : vs.length ≤ 9) : (cellsV vs).size = 9 := by
  unfold cellsV
  simp
  omega
theorem cellsV_nine (vs : List Int) (h : vs.length = 9) : cellsV vs = #[.int .i64 (vs.getD 0 0), .int .i64 (vs.getD 1 0), .int .i64 (vs.getD 2 0), .int .i64 (vs.getD 3 0), .int .i64 (vs.getD 4 0), .int .i64 (vs.getD 5 0), .int .i64 (vs.getD 6 0), .int .i64 (vs.getD 7 0), .int .i64 (vs.getD 8 0)] := by
  match vs, h with
  | [a, b, c, d, e, f, g, h, i], _ => rfl
theorem idxV (b j : Nat) (h : j < 9) (w : World) : (Instr.indexAt 74 (.pointer (some ⟨b, 0, none⟩)) (.int .i64 (j : Int))).run Tryd.prog w = .ok (.pointer (some ⟨b, j, none⟩)) w := by
  have := idx (P := Tryd.prog) (g := b) (off := 0) (N := 9) (s := 1) Tryd.underlying74 (by kernel_rfl) .i64 j w h
  rw [Nat.zero_add, Nat.mul_one] at this
  exact this
/-- The span of a line that ends with a line feed. -/
def lineO (L : List UInt8) : Option Sn := if Lib.hasSuffix L [10] = true then spanOf (Lib.trimSuffix L [10]) else none
theorem map_app (vs : List Int) (v : Int) (o : Option (List Int)) : Option.map (vs ++ ·) (Option.map (v :: ·) o) = Option.map ((vs ++ [v]) ++ ·) o := by cases o <;> simp
theorem drop_part (j : Nat) (p : List UInt8 × Nat) (h : partsL[j]? = some p) : partsL.drop j = p :: partsL.drop (j + 1) := by
  obtain ⟨h1, h2⟩ := List.getElem?_eq_some_iff.1 h
  rw [List.drop_eq_getElem_cons h1, h2]
theorem scan_nil (p : List UInt8 × Nat) (ps : List (List UInt8 × Nat)) : scanW (p :: ps) [] = (scanW ps []).map (0 :: ·) := rfl
theorem scan_cons (p : List UInt8 × Nat) (ps : List (List UInt8 × Nat)) (x : List UInt8) (r : List (List UInt8)) : scanW (p :: ps) (x :: r) = if x ≠ p.1 then (scanW ps (x :: r)).map (0 :: ·) else if p.2 = 0 then (scanW ps r).map (1 :: ·) else if numD p.2 r = 0 then none else (scanW ps (r.drop 1)).map (numD p.2 r :: ·) := rfl
theorem numD_zero (D : Nat) : numD D [] = 0 := rfl
end Go.Proofs.YthpahpfnpapoiaaDoor
