/- The rows of a line's words: the program's. The rows, made. -/
import Derived.Test.YtoajmicdphffnaaDoorGk
import Derived.Laws.Pointers
namespace Go.Proofs.YtoajmicdphffnaaDoor
open Go Go.RowKit
set_option linter.unusedVariables false
set_option maxHeartbeats 4000000
set_option maxRecDepth 20000

theorem rt84 : Rt Tryd.prog 84 3 := ⟨⟨_, Tryd.underlying84, rfl⟩, by kernel_rfl⟩
theorem info84 : (Tryd.prog.info? 84).map (fun i => (i.zero, i.size)) = some (some (.agg #[.bool false, Value.nilFunc, Value.nilFunc]), 3) := by kernel_rfl
theorem zeroV84 (w : World) : (zeroValue 84).run Tryd.prog w = .ok (.agg #[.bool false, Value.nilFunc, Value.nilFunc]) w := by kernel_rfl
theorem built84 (f h : Fn) (c d : Array Value) : Tryd.prog.built 84 [(1, .func f #[] c), (2, .func h #[] d)] = some #[.bool false, .func f #[] c, .func h #[] d] := by kernel_rfl
theorem built84t (f h : Fn) (c d : Array Value) : Tryd.prog.built 84 [(0, .bool true), (1, .func f #[] c), (2, .func h #[] d)] = some #[.bool true, .func f #[] c, .func h #[] d] := by kernel_rfl
theorem sign_any (w : World) (st : ByteArray) (k : Nat) : Calls Tryd.prog 59 #[.string st, .func (.func k) #[] #[]] w fun e w' => ∃ ps pf, e = .returned (.agg #[.bool false, (.func (.func 81) #[] #[.pointer (some ⟨pf, 0, none⟩), .pointer (some ⟨ps, 0, none⟩)]), (.func (.func 82) #[] #[.pointer (some ⟨ps, 0, none⟩), .pointer (some ⟨pf, 0, none⟩)])]) ∧ Hid (Bx w' ps #[.string st] 9 ∧ Bx w' pf #[.func (.func k) #[] #[]] 89 ∧ Below w.heap.size w w') := by
  have hmf : ∀ (fn : Fn) (first cap : Array Value) (w : World), (Instr.makeFunc fn first cap).run Tryd.prog w = .ok (.func fn first cap) w := fun _ _ _ _ => rfl
  have zz := zeroV84
  have hF : Hid (Fm w [(w.heap.size, #[.string st], 9), (w.heap.size + 1, #[.func (.func k) #[] #[]], 89), (w.heap.size + 2, #[.bool false, Value.nilFunc, Value.nilFunc], 84)] (((w.alloc (.cells #[.string st] 9)).alloc (.cells #[.func (.func k) #[] #[]] 89)).alloc (.cells #[.bool false, Value.nilFunc, Value.nilFunc] 84))) := Fm.three w _ _ _ _ _ _
  have hb : Hid _ := built84 (.func 81) (.func 82) #[.pointer (some ⟨w.heap.size + 1, 0, none⟩), .pointer (some ⟨w.heap.size, 0, none⟩)] #[.pointer (some ⟨w.heap.size, 0, none⟩), .pointer (some ⟨w.heap.size + 1, 0, none⟩)]
  go_enter Tryd.func59, Tryd.ntmps59
  go_wp2_with (first
    | ((with_reducible refine gen_world (((w.alloc (.cells #[.string st] 9)).alloc (.cells #[.func (.func k) #[] #[]] 89)).alloc (.cells #[.bool false, Value.nilFunc, Value.nilFunc] 84)) (Fm w [(w.heap.size, #[.string st], 9), (w.heap.size + 1, #[.func (.func k) #[] #[]], 89), (w.heap.size + 2, #[.bool false, Value.nilFunc, Value.nilFunc], 84)]) hF.out ?_); intro y K)
    | ((with_reducible refine at_bu #[(1, .tmp 5), (2, .tmp 6)] [(1, (.func (.func 81) #[] #[.pointer (some ⟨w.heap.size + 1, 0, none⟩), .pointer (some ⟨w.heap.size, 0, none⟩)])), (2, (.func (.func 82) #[] #[.pointer (some ⟨w.heap.size, 0, none⟩), .pointer (some ⟨w.heap.size + 1, 0, none⟩)]))] #[.bool false, (.func (.func 81) #[] #[.pointer (some ⟨w.heap.size + 1, 0, none⟩), .pointer (some ⟨w.heap.size, 0, none⟩)]), (.func (.func 82) #[] #[.pointer (some ⟨w.heap.size, 0, none⟩), .pointer (some ⟨w.heap.size + 1, 0, none⟩)])] ?_ ?_ ?_ hb.out ?_); kernel_rfl; rfl; rfl)
    | ((with_reducible refine at_st rt84 (w.heap.size + 1 + 1) #[.bool false, Value.nilFunc, Value.nilFunc] #[.bool false, (.func (.func 81) #[] #[.pointer (some ⟨w.heap.size + 1, 0, none⟩), .pointer (some ⟨w.heap.size, 0, none⟩)]), (.func (.func 82) #[] #[.pointer (some ⟨w.heap.size, 0, none⟩), .pointer (some ⟨w.heap.size + 1, 0, none⟩)])] ?_ ?_ ?_ ?_ (.tmp 4) (.tmp 7) ?_ ?_ ?_ ?_ ?_); exact K.out.bx 2 _ _ _ rfl; rfl; rfl; simp [Value.oneCell']; rfl; rfl; rfl; rfl; intro y2 hw2; have K2 : Hid (Fm w [(w.heap.size, #[.string st], 9), (w.heap.size + 1, #[.func (.func k) #[] #[]], 89), (w.heap.size + 2, #[.bool false, (.func (.func 81) #[] #[.pointer (some ⟨w.heap.size + 1, 0, none⟩), .pointer (some ⟨w.heap.size, 0, none⟩)]), (.func (.func 82) #[] #[.pointer (some ⟨w.heap.size, 0, none⟩), .pointer (some ⟨w.heap.size + 1, 0, none⟩)])], 84)] y2) := K.out.put 2 _ _ _ _ rfl hw2.out))
  exact ret_row rt84 rfl rfl (K2.out.bx 2 _ _ _ rfl) rfl rfl ⟨_, _, rfl, K2.out.bx 0 _ _ _ rfl, K2.out.bx 1 _ _ _ rfl, K2.out.low⟩
end Go.Proofs.YtoajmicdphffnaaDoor

namespace Go.Proofs.YtoajmicdphffnaaDoor
open Go Go.RowKit
set_option linter.unusedVariables false
set_option maxHeartbeats 4000000
set_option maxRecDepth 20000

def rowsC (p1 f1 p2 f2 p3 f3 : Nat) : Array Value := #[.bool true, (Value.func (.func 50) #[] #[]), (Value.func (.func 52) #[] #[]), .bool true, (Value.func (.func 54) #[] #[]), (Value.func (.func 55) #[] #[]), .bool true, (Value.func (.func 57) #[] #[]), (Value.func (.func 58) #[] #[]), .bool false, (.func (.func 81) #[] #[.pointer (some ⟨f1, 0, none⟩), .pointer (some ⟨p1, 0, none⟩)]), (.func (.func 82) #[] #[.pointer (some ⟨p1, 0, none⟩), .pointer (some ⟨f1, 0, none⟩)]), .bool false, (.func (.func 81) #[] #[.pointer (some ⟨f2, 0, none⟩), .pointer (some ⟨p2, 0, none⟩)]), (.func (.func 82) #[] #[.pointer (some ⟨p2, 0, none⟩), .pointer (some ⟨f2, 0, none⟩)]), .bool false, (Value.func (.func 62) #[] #[]), (Value.func (.func 63) #[] #[]), .bool false, (.func (.func 81) #[] #[.pointer (some ⟨f3, 0, none⟩), .pointer (some ⟨p3, 0, none⟩)]), (.func (.func 82) #[] #[.pointer (some ⟨p3, 0, none⟩), .pointer (some ⟨f3, 0, none⟩)]), .bool false, (Value.func (.func 65) #[] #[]), (Value.func (.func 66) #[] #[])]
def rowC (p1 f1 p2 f2 p3 f3 : Nat) (j : Nat) : Array Value := match j with
  | 0 => #[.bool true, (Value.func (.func 50) #[] #[]), (Value.func (.func 52) #[] #[])]
  | 1 => #[.bool true, (Value.func (.func 54) #[] #[]), (Value.func (.func 55) #[] #[])]
  | 2 => #[.bool true, (Value.func (.func 57) #[] #[]), (Value.func (.func 58) #[] #[])]
  | 3 => #[.bool false, (.func (.func 81) #[] #[.pointer (some ⟨f1, 0, none⟩), .pointer (some ⟨p1, 0, none⟩)]), (.func (.func 82) #[] #[.pointer (some ⟨p1, 0, none⟩), .pointer (some ⟨f1, 0, none⟩)])]
  | 4 => #[.bool false, (.func (.func 81) #[] #[.pointer (some ⟨f2, 0, none⟩), .pointer (some ⟨p2, 0, none⟩)]), (.func (.func 82) #[] #[.pointer (some ⟨p2, 0, none⟩), .pointer (some ⟨f2, 0, none⟩)])]
  | 5 => #[.bool false, (Value.func (.func 62) #[] #[]), (Value.func (.func 63) #[] #[])]
  | 6 => #[.bool false, (.func (.func 81) #[] #[.pointer (some ⟨f3, 0, none⟩), .pointer (some ⟨p3, 0, none⟩)]), (.func (.func 82) #[] #[.pointer (some ⟨p3, 0, none⟩), .pointer (some ⟨f3, 0, none⟩)])]
  | _ => #[.bool false, (Value.func (.func 65) #[] #[]), (Value.func (.func 66) #[] #[])]
theorem row_range (p1 f1 p2 f2 p3 f3 : Nat) {y : World} {g : Nat} (h : Bx y g (rowsC p1 f1 p2 f2 p3 f3) 84) (j : Nat) (hj : j < 8) : y.rangeAt g (0 + j * 3) (rowC p1 f1 p2 f2 p3 f3 j).toList := fun i v hv => by
  have hi : i < 3 := by
    have := (List.getElem?_eq_some_iff.1 hv).1
    rcases (show j = 0 ∨ j = 1 ∨ j = 2 ∨ j = 3 ∨ j = 4 ∨ j = 5 ∨ j = 6 ∨ j = 7 by omega) with e | e | e | e | e | e | e | e <;> subst e <;> exact this
  rw [cell_heap h]
  rcases (show j = 0 ∨ j = 1 ∨ j = 2 ∨ j = 3 ∨ j = 4 ∨ j = 5 ∨ j = 6 ∨ j = 7 by omega) with e | e | e | e | e | e | e | e <;> subst e <;> (rcases (show i = 0 ∨ i = 1 ∨ i = 2 by omega) with e | e | e <;> subst e <;> exact hv)
theorem fill8 (p1 f1 p2 f2 p3 f3 : Nat) : Instr.fill (fun i => some (i * 3, 3)) ((Array.range (8 * 3)).map ((Value.agg #[.bool false, Value.nilFunc, Value.nilFunc]).cells[· % (Value.agg #[.bool false, Value.nilFunc, Value.nilFunc]).cells.size]!)) [(0, .agg #[.bool true, (Value.func (.func 50) #[] #[]), (Value.func (.func 52) #[] #[])]), (1, .agg #[.bool true, (Value.func (.func 54) #[] #[]), (Value.func (.func 55) #[] #[])]), (2, .agg #[.bool true, (Value.func (.func 57) #[] #[]), (Value.func (.func 58) #[] #[])]), (3, .agg #[.bool false, (.func (.func 81) #[] #[.pointer (some ⟨f1, 0, none⟩), .pointer (some ⟨p1, 0, none⟩)]), (.func (.func 82) #[] #[.pointer (some ⟨p1, 0, none⟩), .pointer (some ⟨f1, 0, none⟩)])]), (4, .agg #[.bool false, (.func (.func 81) #[] #[.pointer (some ⟨f2, 0, none⟩), .pointer (some ⟨p2, 0, none⟩)]), (.func (.func 82) #[] #[.pointer (some ⟨p2, 0, none⟩), .pointer (some ⟨f2, 0, none⟩)])]), (5, .agg #[.bool false, (Value.func (.func 62) #[] #[]), (Value.func (.func 63) #[] #[])]), (6, .agg #[.bool false, (.func (.func 81) #[] #[.pointer (some ⟨f3, 0, none⟩), .pointer (some ⟨p3, 0, none⟩)]), (.func (.func 82) #[] #[.pointer (some ⟨p3, 0, none⟩), .pointer (some ⟨f3, 0, none⟩)])]), (7, .agg #[.bool false, (Value.func (.func 65) #[] #[]), (Value.func (.func 66) #[] #[])])] = some (rowsC p1 f1 p2 f2 p3 f3) := by kernel_rfl
theorem at_bs8 {ops : Array Oper} {rest : List Oper} {o : Oper} {a : Act} {w : World} {Q : Exit → Act → World → Prop} (p1 f1 p2 f2 p3 f3 : Nat) (hgd : o.guard = none) (ho : o.op = .buildSlice 50 8 #[(0, .tmp 1), (1, .tmp 2), (2, .tmp 3), (3, .tmp 4), (4, .tmp 5), (5, .tmp 6), (6, .tmp 7), (7, .tmp 8)])
    (h0 : a.eval (.tmp 1) = .agg #[.bool true, (Value.func (.func 50) #[] #[]), (Value.func (.func 52) #[] #[])]) (h1 : a.eval (.tmp 2) = .agg #[.bool true, (Value.func (.func 54) #[] #[]), (Value.func (.func 55) #[] #[])]) (h2 : a.eval (.tmp 3) = .agg #[.bool true, (Value.func (.func 57) #[] #[]), (Value.func (.func 58) #[] #[])]) (h3 : a.eval (.tmp 4) = .agg #[.bool false, (.func (.func 81) #[] #[.pointer (some ⟨f1, 0, none⟩), .pointer (some ⟨p1, 0, none⟩)]), (.func (.func 82) #[] #[.pointer (some ⟨p1, 0, none⟩), .pointer (some ⟨f1, 0, none⟩)])]) (h4 : a.eval (.tmp 5) = .agg #[.bool false, (.func (.func 81) #[] #[.pointer (some ⟨f2, 0, none⟩), .pointer (some ⟨p2, 0, none⟩)]), (.func (.func 82) #[] #[.pointer (some ⟨p2, 0, none⟩), .pointer (some ⟨f2, 0, none⟩)])]) (h5 : a.eval (.tmp 6) = .agg #[.bool false, (Value.func (.func 62) #[] #[]), (Value.func (.func 63) #[] #[])]) (h6 : a.eval (.tmp 7) = .agg #[.bool false, (.func (.func 81) #[] #[.pointer (some ⟨f3, 0, none⟩), .pointer (some ⟨p3, 0, none⟩)]), (.func (.func 82) #[] #[.pointer (some ⟨p3, 0, none⟩), .pointer (some ⟨f3, 0, none⟩)])]) (h7 : a.eval (.tmp 8) = .agg #[.bool false, (Value.func (.func 65) #[] #[]), (Value.func (.func 66) #[] #[])])
    (h : wpList Tryd.prog ops Q rest (a.put o.dst (.slice (some ⟨w.heap.size, 0, none⟩) 8 8)) (w.alloc (.cells (rowsC p1 f1 p2 f2 p3 f3) 84))) : wpList Tryd.prog ops Q (o :: rest) a w := by
  obtain ⟨i, hi, hz⟩ := Option.map_eq_some_iff.1 info84
  have hz0 : i.zero = some (.agg #[.bool false, Value.nilFunc, Value.nilFunc]) := congrArg Prod.fst hz
  have hz1 : i.size = 3 := congrArg Prod.snd hz
  refine wpList_buildSlice hgd 50 84 8 #[(0, .tmp 1), (1, .tmp 2), (2, .tmp 3), (3, .tmp 4), (4, .tmp 5), (5, .tmp 6), (6, .tmp 7), (7, .tmp 8)] ho (rowsC p1 f1 p2 f2 p3 f3) i _ Tryd.underlying50 hi hz0 (by rw [hz1]; decide) (by rw [hz1]; decide) ?_ h
  rw [hz1]
  have e : (#[(((0 : Nat)), Operand.tmp 1), (((1 : Nat)), Operand.tmp 2), (((2 : Nat)), Operand.tmp 3), (((3 : Nat)), Operand.tmp 4), (((4 : Nat)), Operand.tmp 5), (((5 : Nat)), Operand.tmp 6), (((6 : Nat)), Operand.tmp 7), (((7 : Nat)), Operand.tmp 8)].map fun (i, x) => (i, a.eval x)).toList = [(0, .agg #[.bool true, (Value.func (.func 50) #[] #[]), (Value.func (.func 52) #[] #[])]), (1, .agg #[.bool true, (Value.func (.func 54) #[] #[]), (Value.func (.func 55) #[] #[])]), (2, .agg #[.bool true, (Value.func (.func 57) #[] #[]), (Value.func (.func 58) #[] #[])]), (3, .agg #[.bool false, (.func (.func 81) #[] #[.pointer (some ⟨f1, 0, none⟩), .pointer (some ⟨p1, 0, none⟩)]), (.func (.func 82) #[] #[.pointer (some ⟨p1, 0, none⟩), .pointer (some ⟨f1, 0, none⟩)])]), (4, .agg #[.bool false, (.func (.func 81) #[] #[.pointer (some ⟨f2, 0, none⟩), .pointer (some ⟨p2, 0, none⟩)]), (.func (.func 82) #[] #[.pointer (some ⟨p2, 0, none⟩), .pointer (some ⟨f2, 0, none⟩)])]), (5, .agg #[.bool false, (Value.func (.func 62) #[] #[]), (Value.func (.func 63) #[] #[])]), (6, .agg #[.bool false, (.func (.func 81) #[] #[.pointer (some ⟨f3, 0, none⟩), .pointer (some ⟨p3, 0, none⟩)]), (.func (.func 82) #[] #[.pointer (some ⟨p3, 0, none⟩), .pointer (some ⟨f3, 0, none⟩)])]), (7, .agg #[.bool false, (Value.func (.func 65) #[] #[]), (Value.func (.func 66) #[] #[])])] := by simp only [List.map_toArray, List.map_cons, List.map_nil, h0, h1, h2, h3, h4, h5, h6, h7]
  rw [e]
  exact fill8 p1 f1 p2 f2 p3 f3
/-- The rows in memory, and what their functions hold. -/
structure RwA (y : World) (g : Nat) (p1 f1 p2 f2 p3 f3 : Nat) : Prop where
  tab : Bx y g (rowsC p1 f1 p2 f2 p3 f3) 84
  s1 : Bx y p1 #[.string ⟨#[114]⟩] 9
  g1 : Bx y f1 #[(Value.func (.func 60) #[] #[])] 89
  s2 : Bx y p2 #[.string ⟨#[119]⟩] 9
  g2 : Bx y f2 #[(Value.func (.func 61) #[] #[])] 89
  s3 : Bx y p3 #[.string ⟨#[113]⟩] 9
  g3 : Bx y f3 #[(Value.func (.func 64) #[] #[])] 89
theorem RwA.below {x y : World} {g p1 f1 p2 f2 p3 f3 : Nat} (h : RwA x g p1 f1 p2 f2 p3 f3) (hb : Below x.heap.size x y) : RwA y g p1 f1 p2 f2 p3 f3 := ⟨h.tab.keep hb, h.s1.keep hb, h.g1.keep hb, h.s2.keep hb, h.g2.keep hb, h.s3.keep hb, h.g3.keep hb⟩
theorem rows_any (w : World) : Calls Tryd.prog 27 #[] w fun e w' => ∃ g p1 f1 p2 f2 p3 f3, e = .returned (.slice (some ⟨g, 0, none⟩) 8 8) ∧ Hid (RwA w' g p1 f1 p2 f2 p3 f3 ∧ Below w.heap.size w w') := by
  have hS := sign_any
  have b1 : Hid _ := built84t (.func 50) (.func 52) #[] #[]
  have b2 : Hid _ := built84t (.func 54) (.func 55) #[] #[]
  have b3 : Hid _ := built84t (.func 57) (.func 58) #[] #[]
  have b6 : Hid _ := built84 (.func 62) (.func 63) #[] #[]
  have b8 : Hid _ := built84 (.func 65) (.func 66) #[] #[]
  go_enter Tryd.func27, Tryd.ntmps27
  go_wp2_with (first
    | ((with_reducible refine at_bu #[(0, .const (.bool true)), (1, .func 50), (2, .func 52)] [(0, .bool true), (1, (Value.func (.func 50) #[] #[])), (2, (Value.func (.func 52) #[] #[]))] #[.bool true, (Value.func (.func 50) #[] #[]), (Value.func (.func 52) #[] #[])] ?_ ?_ ?_ b1.out ?_); kernel_rfl; rfl; rfl)
    | ((with_reducible refine at_bu #[(0, .const (.bool true)), (1, .func 54), (2, .func 55)] [(0, .bool true), (1, (Value.func (.func 54) #[] #[])), (2, (Value.func (.func 55) #[] #[]))] #[.bool true, (Value.func (.func 54) #[] #[]), (Value.func (.func 55) #[] #[])] ?_ ?_ ?_ b2.out ?_); kernel_rfl; rfl; rfl)
    | ((with_reducible refine at_bu #[(0, .const (.bool true)), (1, .func 57), (2, .func 58)] [(0, .bool true), (1, (Value.func (.func 57) #[] #[])), (2, (Value.func (.func 58) #[] #[]))] #[.bool true, (Value.func (.func 57) #[] #[]), (Value.func (.func 58) #[] #[])] ?_ ?_ ?_ b3.out ?_); kernel_rfl; rfl; rfl)
    | ((with_reducible refine at_bu #[(1, .func 62), (2, .func 63)] [(1, (Value.func (.func 62) #[] #[])), (2, (Value.func (.func 63) #[] #[]))] #[.bool false, (Value.func (.func 62) #[] #[]), (Value.func (.func 63) #[] #[])] ?_ ?_ ?_ b6.out ?_); kernel_rfl; rfl; rfl)
    | ((with_reducible refine at_bu #[(1, .func 65), (2, .func 66)] [(1, (Value.func (.func 65) #[] #[])), (2, (Value.func (.func 66) #[] #[]))] #[.bool false, (Value.func (.func 65) #[] #[]), (Value.func (.func 66) #[] #[])] ?_ ?_ ?_ b8.out ?_); kernel_rfl; rfl; rfl)
    | ((with_reducible refine at_bs8 p1 f1 p2 f2 p3 f3 ?_ ?_ ?_ ?_ ?_ ?_ ?_ ?_ ?_ ?_ ?_); rfl; rfl; rfl; rfl; rfl; rfl; rfl; rfl; rfl; rfl)
    | (go_at_call 59; refine (hS y2 ⟨#[113]⟩ 64).mono ?_; rintro e y3 ⟨p3, f3, rfl, H3⟩)
    | (go_at_call 59; refine (hS y1 ⟨#[119]⟩ 61).mono ?_; rintro e y2 ⟨p2, f2, rfl, H2⟩)
    | (go_at_call 59; refine (hS w ⟨#[114]⟩ 60).mono ?_; rintro e y1 ⟨p1, f1, rfl, H1⟩))
  go_ret
  have l2 := H2.out.2.2
  have l3 := H3.out.2.2
  have h1 := H1.out
  have h2 := H2.out
  have h3 := H3.out
  have l4 := below1 y3 (.cells (rowsC p1 f1 p2 f2 p3 f3) 84)
  refine ⟨_, p1, f1, p2, f2, p3, f3, rfl, ⟨one_bx _ _ _, ((h1.1.keep l2).keep l3).keep l4, ((h1.2.1.keep l2).keep l3).keep l4, (h2.1.keep l3).keep l4, (h2.2.1.keep l3).keep l4, h3.1.keep l4, h3.2.1.keep l4⟩, ?_⟩
  have s1 := h1.2.2.size
  have s2 := l2.size
  have s3 := l3.size
  exact ((h1.2.2.trans (l2.mono s1)).trans (l3.mono (by omega))).trans (l4.mono (by omega))
end Go.Proofs.YtoajmicdphffnaaDoor
