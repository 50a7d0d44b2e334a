/- The rows of a line's words: the program's. The rows, made. -/
import Derived.Test.YtoajmicdphffnabDoorGk
import Derived.Laws.Pointers
namespace Go.Proofs.YtoajmicdphffnabDoor
open Go Go.RowKit
set_option linter.unusedVariables false
set_option maxHeartbeats 4000000
set_option maxRecDepth 20000

theorem rt84 : Rt Tryd.prog 72 3 := ⟨⟨_, Tryd.underlying72, rfl⟩, by kernel_rfl⟩
theorem info84 : (Tryd.prog.info? 72).map (fun i => (i.zero, i.size)) = some (some (.agg #[.bool false, Value.nilFunc, Value.nilFunc]), 3) := by kernel_rfl
theorem zeroV84 (w : World) : (zeroValue 72).run Tryd.prog w = .ok (.agg #[.bool false, Value.nilFunc, Value.nilFunc]) w := by kernel_rfl
theorem built84 (f h : Fn) (c d : Array Value) : Tryd.prog.built 72 [(1, .func f #[] c), (2, .func h #[] d)] = some #[.bool false, .func f #[] c, .func h #[] d] := by kernel_rfl
theorem built84t (f h : Fn) (c d : Array Value) : Tryd.prog.built 72 [(0, .bool true), (1, .func f #[] c), (2, .func h #[] d)] = some #[.bool true, .func f #[] c, .func h #[] d] := by kernel_rfl
theorem sign_any (w : World) (st : ByteArray) (k : Nat) : Calls Tryd.prog 40 #[.string st, .func (.func k) #[] #[]] w fun e w' => ∃ ps pf, e = .returned (.agg #[.bool false, (.func (.func 58) #[] #[.pointer (some ⟨pf, 0, none⟩), .pointer (some ⟨ps, 0, none⟩)]), (.func (.func 59) #[] #[.pointer (some ⟨ps, 0, none⟩), .pointer (some ⟨pf, 0, none⟩)])]) ∧ Hid (Bx w' ps #[.string st] 9 ∧ Bx w' pf #[.func (.func k) #[] #[]] 77 ∧ Below w.heap.size w w') := by
  have hmf : ∀ (fn : Fn) (first cap : Array Value) (w : World), (Instr.makeFunc fn first cap).run Tryd.prog w = .ok (.func fn first cap) w := fun _ _ _ _ => rfl
  have zz := zeroV84
  have hF : Hid (Fm w [(w.heap.size, #[.string st], 9), (w.heap.size + 1, #[.func (.func k) #[] #[]], 77), (w.heap.size + 2, #[.bool false, Value.nilFunc, Value.nilFunc], 72)] (((w.alloc (.cells #[.string st] 9)).alloc (.cells #[.func (.func k) #[] #[]] 77)).alloc (.cells #[.bool false, Value.nilFunc, Value.nilFunc] 72))) := Fm.three w _ _ _ _ _ _
  have hb : Hid _ := built84 (.func 58) (.func 59) #[.pointer (some ⟨w.heap.size + 1, 0, none⟩), .pointer (some ⟨w.heap.size, 0, none⟩)] #[.pointer (some ⟨w.heap.size, 0, none⟩), .pointer (some ⟨w.heap.size + 1, 0, none⟩)]
  go_enter Tryd.func40, Tryd.ntmps40
  go_wp2_with (first
    | ((with_reducible refine gen_world (((w.alloc (.cells #[.string st] 9)).alloc (.cells #[.func (.func k) #[] #[]] 77)).alloc (.cells #[.bool false, Value.nilFunc, Value.nilFunc] 72)) (Fm w [(w.heap.size, #[.string st], 9), (w.heap.size + 1, #[.func (.func k) #[] #[]], 77), (w.heap.size + 2, #[.bool false, Value.nilFunc, Value.nilFunc], 72)]) hF.out ?_); intro y K)
    | ((with_reducible refine at_bu #[(1, .tmp 5), (2, .tmp 6)] [(1, (.func (.func 58) #[] #[.pointer (some ⟨w.heap.size + 1, 0, none⟩), .pointer (some ⟨w.heap.size, 0, none⟩)])), (2, (.func (.func 59) #[] #[.pointer (some ⟨w.heap.size, 0, none⟩), .pointer (some ⟨w.heap.size + 1, 0, none⟩)]))] #[.bool false, (.func (.func 58) #[] #[.pointer (some ⟨w.heap.size + 1, 0, none⟩), .pointer (some ⟨w.heap.size, 0, none⟩)]), (.func (.func 59) #[] #[.pointer (some ⟨w.heap.size, 0, none⟩), .pointer (some ⟨w.heap.size + 1, 0, none⟩)])] ?_ ?_ ?_ hb.out ?_); kernel_rfl; rfl; rfl)
    | ((with_reducible refine at_st rt84 (w.heap.size + 1 + 1) #[.bool false, Value.nilFunc, Value.nilFunc] #[.bool false, (.func (.func 58) #[] #[.pointer (some ⟨w.heap.size + 1, 0, none⟩), .pointer (some ⟨w.heap.size, 0, none⟩)]), (.func (.func 59) #[] #[.pointer (some ⟨w.heap.size, 0, none⟩), .pointer (some ⟨w.heap.size + 1, 0, none⟩)])] ?_ ?_ ?_ ?_ (.tmp 4) (.tmp 7) ?_ ?_ ?_ ?_ ?_); exact K.out.bx 2 _ _ _ rfl; rfl; rfl; simp [Value.oneCell']; rfl; rfl; rfl; rfl; intro y2 hw2; have K2 : Hid (Fm w [(w.heap.size, #[.string st], 9), (w.heap.size + 1, #[.func (.func k) #[] #[]], 77), (w.heap.size + 2, #[.bool false, (.func (.func 58) #[] #[.pointer (some ⟨w.heap.size + 1, 0, none⟩), .pointer (some ⟨w.heap.size, 0, none⟩)]), (.func (.func 59) #[] #[.pointer (some ⟨w.heap.size, 0, none⟩), .pointer (some ⟨w.heap.size + 1, 0, none⟩)])], 72)] y2) := K.out.put 2 _ _ _ _ rfl hw2.out))
  exact ret_row rt84 rfl rfl (K2.out.bx 2 _ _ _ rfl) rfl rfl ⟨_, _, rfl, K2.out.bx 0 _ _ _ rfl, K2.out.bx 1 _ _ _ rfl, K2.out.low⟩
end Go.Proofs.YtoajmicdphffnabDoor

namespace Go.Proofs.YtoajmicdphffnabDoor
open Go Go.RowKit
set_option linter.unusedVariables false
set_option maxHeartbeats 4000000
set_option maxRecDepth 20000

def rowsC (p1 f1 p2 f2 p3 f3 : Nat) : Array Value := #[.bool true, (Value.func (.func 31) #[] #[]), (Value.func (.func 33) #[] #[]), .bool true, (Value.func (.func 35) #[] #[]), (Value.func (.func 36) #[] #[]), .bool true, (Value.func (.func 38) #[] #[]), (Value.func (.func 39) #[] #[]), .bool false, (.func (.func 58) #[] #[.pointer (some ⟨f1, 0, none⟩), .pointer (some ⟨p1, 0, none⟩)]), (.func (.func 59) #[] #[.pointer (some ⟨p1, 0, none⟩), .pointer (some ⟨f1, 0, none⟩)]), .bool false, (.func (.func 58) #[] #[.pointer (some ⟨f2, 0, none⟩), .pointer (some ⟨p2, 0, none⟩)]), (.func (.func 59) #[] #[.pointer (some ⟨p2, 0, none⟩), .pointer (some ⟨f2, 0, none⟩)]), .bool false, (Value.func (.func 43) #[] #[]), (Value.func (.func 44) #[] #[]), .bool false, (.func (.func 58) #[] #[.pointer (some ⟨f3, 0, none⟩), .pointer (some ⟨p3, 0, none⟩)]), (.func (.func 59) #[] #[.pointer (some ⟨p3, 0, none⟩), .pointer (some ⟨f3, 0, none⟩)]), .bool false, (Value.func (.func 46) #[] #[]), (Value.func (.func 47) #[] #[])]
def rowC (p1 f1 p2 f2 p3 f3 : Nat) (j : Nat) : Array Value := match j with
  | 0 => #[.bool true, (Value.func (.func 31) #[] #[]), (Value.func (.func 33) #[] #[])]
  | 1 => #[.bool true, (Value.func (.func 35) #[] #[]), (Value.func (.func 36) #[] #[])]
  | 2 => #[.bool true, (Value.func (.func 38) #[] #[]), (Value.func (.func 39) #[] #[])]
  | 3 => #[.bool false, (.func (.func 58) #[] #[.pointer (some ⟨f1, 0, none⟩), .pointer (some ⟨p1, 0, none⟩)]), (.func (.func 59) #[] #[.pointer (some ⟨p1, 0, none⟩), .pointer (some ⟨f1, 0, none⟩)])]
  | 4 => #[.bool false, (.func (.func 58) #[] #[.pointer (some ⟨f2, 0, none⟩), .pointer (some ⟨p2, 0, none⟩)]), (.func (.func 59) #[] #[.pointer (some ⟨p2, 0, none⟩), .pointer (some ⟨f2, 0, none⟩)])]
  | 5 => #[.bool false, (Value.func (.func 43) #[] #[]), (Value.func (.func 44) #[] #[])]
  | 6 => #[.bool false, (.func (.func 58) #[] #[.pointer (some ⟨f3, 0, none⟩), .pointer (some ⟨p3, 0, none⟩)]), (.func (.func 59) #[] #[.pointer (some ⟨p3, 0, none⟩), .pointer (some ⟨f3, 0, none⟩)])]
  | _ => #[.bool false, (Value.func (.func 46) #[] #[]), (Value.func (.func 47) #[] #[])]
theorem row_range (p1 f1 p2 f2 p3 f3 : Nat) {y : World} {g : Nat} (h : Bx y g (rowsC p1 f1 p2 f2 p3 f3) 72) (j : Nat) (hj : j < 8) : y.rangeAt g (0 + j * 3) (rowC p1 f1 p2 f2 p3 f3 j).toList := fun i v hv => by
  have hi : i < 3 := by
    have := (List.getElem?_eq_some_iff.1 hv).1
    rcases (show j = 0 ∨ j = 1 ∨ j = 2 ∨ j = 3 ∨ j = 4 ∨ j = 5 ∨ j = 6 ∨ j = 7 by omega) with e | e | e | e | e | e | e | e <;> subst e <;> exact this
  rw [cell_heap h]
  rcases (show j = 0 ∨ j = 1 ∨ j = 2 ∨ j = 3 ∨ j = 4 ∨ j = 5 ∨ j = 6 ∨ j = 7 by omega) with e | e | e | e | e | e | e | e <;> subst e <;> (rcases (show i = 0 ∨ i = 1 ∨ i = 2 by omega) with e | e | e <;> subst e <;> exact hv)
theorem fill8 (p1 f1 p2 f2 p3 f3 : Nat) : Instr.fill (fun i => some (i * 3, 3)) ((Array.range (8 * 3)).map ((Value.agg #[.bool false, Value.nilFunc, Value.nilFunc]).cells[· % (Value.agg #[.bool false, Value.nilFunc, Value.nilFunc]).cells.size]!)) [(0, .agg #[.bool true, (Value.func (.func 31) #[] #[]), (Value.func (.func 33) #[] #[])]), (1, .agg #[.bool true, (Value.func (.func 35) #[] #[]), (Value.func (.func 36) #[] #[])]), (2, .agg #[.bool true, (Value.func (.func 38) #[] #[]), (Value.func (.func 39) #[] #[])]), (3, .agg #[.bool false, (.func (.func 58) #[] #[.pointer (some ⟨f1, 0, none⟩), .pointer (some ⟨p1, 0, none⟩)]), (.func (.func 59) #[] #[.pointer (some ⟨p1, 0, none⟩), .pointer (some ⟨f1, 0, none⟩)])]), (4, .agg #[.bool false, (.func (.func 58) #[] #[.pointer (some ⟨f2, 0, none⟩), .pointer (some ⟨p2, 0, none⟩)]), (.func (.func 59) #[] #[.pointer (some ⟨p2, 0, none⟩), .pointer (some ⟨f2, 0, none⟩)])]), (5, .agg #[.bool false, (Value.func (.func 43) #[] #[]), (Value.func (.func 44) #[] #[])]), (6, .agg #[.bool false, (.func (.func 58) #[] #[.pointer (some ⟨f3, 0, none⟩), .pointer (some ⟨p3, 0, none⟩)]), (.func (.func 59) #[] #[.pointer (some ⟨p3, 0, none⟩), .pointer (some ⟨f3, 0, none⟩)])]), (7, .agg #[.bool false, (Value.func (.func 46) #[] #[]), (Value.func (.func 47) #[] #[])])] = some (rowsC p1 f1 p2 f2 p3 f3) := by kernel_rfl
theorem at_bs8 {ops : Array Oper} {rest : List Oper} {o : Oper} {a : Act} {w : World} {Q : Exit → Act → World → Prop} (p1 f1 p2 f2 p3 f3 : Nat) (hgd : o.guard = none) (ho : o.op = .buildSlice 40 8 #[(0, .tmp 1), (1, .tmp 2), (2, .tmp 3), (3, .tmp 4), (4, .tmp 5), (5, .tmp 6), (6, .tmp 7), (7, .tmp 8)])
    (h0 : a.eval (.tmp 1) = .agg #[.bool true, (Value.func (.func 31) #[] #[]), (Value.func (.func 33) #[] #[])]) (h1 : a.eval (.tmp 2) = .agg #[.bool true, (Value.func (.func 35) #[] #[]), (Value.func (.func 36) #[] #[])]) (h2 : a.eval (.tmp 3) = .agg #[.bool true, (Value.func (.func 38) #[] #[]), (Value.func (.func 39) #[] #[])]) (h3 : a.eval (.tmp 4) = .agg #[.bool false, (.func (.func 58) #[] #[.pointer (some ⟨f1, 0, none⟩), .pointer (some ⟨p1, 0, none⟩)]), (.func (.func 59) #[] #[.pointer (some ⟨p1, 0, none⟩), .pointer (some ⟨f1, 0, none⟩)])]) (h4 : a.eval (.tmp 5) = .agg #[.bool false, (.func (.func 58) #[] #[.pointer (some ⟨f2, 0, none⟩), .pointer (some ⟨p2, 0, none⟩)]), (.func (.func 59) #[] #[.pointer (some ⟨p2, 0, none⟩), .pointer (some ⟨f2, 0, none⟩)])]) (h5 : a.eval (.tmp 6) = .agg #[.bool false, (Value.func (.func 43) #[] #[]), (Value.func (.func 44) #[] #[])]) (h6 : a.eval (.tmp 7) = .agg #[.bool false, (.func (.func 58) #[] #[.pointer (some ⟨f3, 0, none⟩), .pointer (some ⟨p3, 0, none⟩)]), (.func (.func 59) #[] #[.pointer (some ⟨p3, 0, none⟩), .pointer (some ⟨f3, 0, none⟩)])]) (h7 : a.eval (.tmp 8) = .agg #[.bool false, (Value.func (.func 46) #[] #[]), (Value.func (.func 47) #[] #[])])
    (h : wpList Tryd.prog ops Q rest (a.put o.dst (.slice (some ⟨w.heap.size, 0, none⟩) 8 8)) (w.alloc (.cells (rowsC p1 f1 p2 f2 p3 f3) 72))) : wpList Tryd.prog ops Q (o :: rest) a w := by
  obtain ⟨i, hi, hz⟩ := Option.map_eq_some_iff.1 info84
  have hz0 : i.zero = some (.agg #[.bool false, Value.nilFunc, Value.nilFunc]) := congrArg Prod.fst hz
  have hz1 : i.size = 3 := congrArg Prod.snd hz
  refine wpList_buildSlice hgd 40 72 8 #[(0, .tmp 1), (1, .tmp 2), (2, .tmp 3), (3, .tmp 4), (4, .tmp 5), (5, .tmp 6), (6, .tmp 7), (7, .tmp 8)] ho (rowsC p1 f1 p2 f2 p3 f3) i _ Tryd.underlying40 hi hz0 (by rw [hz1]; decide) (by rw [hz1]; decide) ?_ h
  rw [hz1]
  have e : (#[(((0 : Nat)), Operand.tmp 1), (((1 : Nat)), Operand.tmp 2), (((2 : Nat)), Operand.tmp 3), (((3 : Nat)), Operand.tmp 4), (((4 : Nat)), Operand.tmp 5), (((5 : Nat)), Operand.tmp 6), (((6 : Nat)), Operand.tmp 7), (((7 : Nat)), Operand.tmp 8)].map fun (i, x) => (i, a.eval x)).toList = [(0, .agg #[.bool true, (Value.func (.func 31) #[] #[]), (Value.func (.func 33) #[] #[])]), (1, .agg #[.bool true, (Value.func (.func 35) #[] #[]), (Value.func (.func 36) #[] #[])]), (2, .agg #[.bool true, (Value.func (.func 38) #[] #[]), (Value.func (.func 39) #[] #[])]), (3, .agg #[.bool false, (.func (.func 58) #[] #[.pointer (some ⟨f1, 0, none⟩), .pointer (some ⟨p1, 0, none⟩)]), (.func (.func 59) #[] #[.pointer (some ⟨p1, 0, none⟩), .pointer (some ⟨f1, 0, none⟩)])]), (4, .agg #[.bool false, (.func (.func 58) #[] #[.pointer (some ⟨f2, 0, none⟩), .pointer (some ⟨p2, 0, none⟩)]), (.func (.func 59) #[] #[.pointer (some ⟨p2, 0, none⟩), .pointer (some ⟨f2, 0, none⟩)])]), (5, .agg #[.bool false, (Value.func (.func 43) #[] #[]), (Value.func (.func 44) #[] #[])]), (6, .agg #[.bool false, (.func (.func 58) #[] #[.pointer (some ⟨f3, 0, none⟩), .pointer (some ⟨p3, 0, none⟩)]), (.func (.func 59) #[] #[.pointer (some ⟨p3, 0, none⟩), .pointer (some ⟨f3, 0, none⟩)])]), (7, .agg #[.bool false, (Value.func (.func 46) #[] #[]), (Value.func (.func 47) #[] #[])])] := by simp only [List.map_toArray, List.map_cons, List.map_nil, h0, h1, h2, h3, h4, h5, h6, h7]
  rw [e]
  exact fill8 p1 f1 p2 f2 p3 f3
/-- The rows in memory, and what their functions hold. -/
structure RwA (y : World) (g : Nat) (p1 f1 p2 f2 p3 f3 : Nat) : Prop where
  tab : Bx y g (rowsC p1 f1 p2 f2 p3 f3) 72
  s1 : Bx y p1 #[.string ⟨#[114]⟩] 9
  g1 : Bx y f1 #[(Value.func (.func 41) #[] #[])] 77
  s2 : Bx y p2 #[.string ⟨#[119]⟩] 9
  g2 : Bx y f2 #[(Value.func (.func 42) #[] #[])] 77
  s3 : Bx y p3 #[.string ⟨#[113]⟩] 9
  g3 : Bx y f3 #[(Value.func (.func 45) #[] #[])] 77
theorem RwA.below {x y : World} {g p1 f1 p2 f2 p3 f3 : Nat} (h : RwA x g p1 f1 p2 f2 p3 f3) (hb : Below x.heap.size x y) : RwA y g p1 f1 p2 f2 p3 f3 := ⟨h.tab.keep hb, h.s1.keep hb, h.g1.keep hb, h.s2.keep hb, h.g2.keep hb, h.s3.keep hb, h.g3.keep hb⟩
theorem rows_any (w : World) : Calls Tryd.prog 13 #[] w fun e w' => ∃ g p1 f1 p2 f2 p3 f3, e = .returned (.slice (some ⟨g, 0, none⟩) 8 8) ∧ Hid (RwA w' g p1 f1 p2 f2 p3 f3 ∧ Below w.heap.size w w') := by
  have hS := sign_any
  have b1 : Hid _ := built84t (.func 31) (.func 33) #[] #[]
  have b2 : Hid _ := built84t (.func 35) (.func 36) #[] #[]
  have b3 : Hid _ := built84t (.func 38) (.func 39) #[] #[]
  have b6 : Hid _ := built84 (.func 43) (.func 44) #[] #[]
  have b8 : Hid _ := built84 (.func 46) (.func 47) #[] #[]
  go_enter Tryd.func13, Tryd.ntmps13
  go_wp2_with (first
    | ((with_reducible refine at_bu #[(0, .const (.bool true)), (1, .func 31), (2, .func 33)] [(0, .bool true), (1, (Value.func (.func 31) #[] #[])), (2, (Value.func (.func 33) #[] #[]))] #[.bool true, (Value.func (.func 31) #[] #[]), (Value.func (.func 33) #[] #[])] ?_ ?_ ?_ b1.out ?_); kernel_rfl; rfl; rfl)
    | ((with_reducible refine at_bu #[(0, .const (.bool true)), (1, .func 35), (2, .func 36)] [(0, .bool true), (1, (Value.func (.func 35) #[] #[])), (2, (Value.func (.func 36) #[] #[]))] #[.bool true, (Value.func (.func 35) #[] #[]), (Value.func (.func 36) #[] #[])] ?_ ?_ ?_ b2.out ?_); kernel_rfl; rfl; rfl)
    | ((with_reducible refine at_bu #[(0, .const (.bool true)), (1, .func 38), (2, .func 39)] [(0, .bool true), (1, (Value.func (.func 38) #[] #[])), (2, (Value.func (.func 39) #[] #[]))] #[.bool true, (Value.func (.func 38) #[] #[]), (Value.func (.func 39) #[] #[])] ?_ ?_ ?_ b3.out ?_); kernel_rfl; rfl; rfl)
    | ((with_reducible refine at_bu #[(1, .func 43), (2, .func 44)] [(1, (Value.func (.func 43) #[] #[])), (2, (Value.func (.func 44) #[] #[]))] #[.bool false, (Value.func (.func 43) #[] #[]), (Value.func (.func 44) #[] #[])] ?_ ?_ ?_ b6.out ?_); kernel_rfl; rfl; rfl)
    | ((with_reducible refine at_bu #[(1, .func 46), (2, .func 47)] [(1, (Value.func (.func 46) #[] #[])), (2, (Value.func (.func 47) #[] #[]))] #[.bool false, (Value.func (.func 46) #[] #[]), (Value.func (.func 47) #[] #[])] ?_ ?_ ?_ b8.out ?_); kernel_rfl; rfl; rfl)
    | ((with_reducible refine at_bs8 p1 f1 p2 f2 p3 f3 ?_ ?_ ?_ ?_ ?_ ?_ ?_ ?_ ?_ ?_ ?_); rfl; rfl; rfl; rfl; rfl; rfl; rfl; rfl; rfl; rfl)
    | (go_at_call 40; refine (hS y2 ⟨#[113]⟩ 45).mono ?_; rintro e y3 ⟨p3, f3, rfl, H3⟩)
    | (go_at_call 40; refine (hS y1 ⟨#[119]⟩ 42).mono ?_; rintro e y2 ⟨p2, f2, rfl, H2⟩)
    | (go_at_call 40; refine (hS w ⟨#[114]⟩ 41).mono ?_; rintro e y1 ⟨p1, f1, rfl, H1⟩))
  go_ret
  have l2 := H2.out.2.2
  have l3 := H3.out.2.2
  have h1 := H1.out
  have h2 := H2.out
  have h3 := H3.out
  have l4 := below1 y3 (.cells (rowsC p1 f1 p2 f2 p3 f3) 72)
  refine ⟨_, p1, f1, p2, f2, p3, f3, rfl, ⟨one_bx _ _ _, ((h1.1.keep l2).keep l3).keep l4, ((h1.2.1.keep l2).keep l3).keep l4, (h2.1.keep l3).keep l4, (h2.2.1.keep l3).keep l4, h3.1.keep l4, h3.2.1.keep l4⟩, ?_⟩
  have s1 := h1.2.2.size
  have s2 := l2.size
  have s3 := l3.size
  exact ((h1.2.2.trans (l2.mono s1)).trans (l3.mono (by omega))).trans (l4.mono (by omega))
end Go.Proofs.YtoajmicdphffnabDoor
