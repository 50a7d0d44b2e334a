/- The rows of a line's words: the program's. -/
import Derived.Test.YtoajmicdphffnaaDoorGk
import Derived.Laws.Pointers
namespace Go.Proofs.YtoajmicdphffnaaDoor
open Go Go.RowKit
set_option linter.unusedVariables false
set_option maxHeartbeats 4000000
set_option maxRecDepth 20000

theorem rt84 : Rt Tryd.prog 84 3 := ⟨⟨_, Tryd.underlying84, rfl⟩, by kernel_rfl⟩
theorem info84 : (Tryd.prog.info? 84).map (fun i => (i.zero, i.size)) = some (some (.agg #[.bool false, Value.nilFunc, Value.nilFunc]), 3) := by kernel_rfl
theorem zeroV84 (w : World) : (zeroValue 84).run Tryd.prog w = .ok (.agg #[.bool false, Value.nilFunc, Value.nilFunc]) w := by kernel_rfl
theorem built84 (f h : Fn) (c d : Array Value) : Tryd.prog.built 84 [(1, .func f #[] c), (2, .func h #[] d)] = some #[.bool false, .func f #[] c, .func h #[] d] := by kernel_rfl
theorem built84t (f h : Fn) (c d : Array Value) : Tryd.prog.built 84 [(0, .bool true), (1, .func f #[] c), (2, .func h #[] d)] = some #[.bool true, .func f #[] c, .func h #[] d] := by kernel_rfl
theorem sign_any (w : World) (st : ByteArray) (k : Nat) : Calls Tryd.prog 59 #[.string st, .func (.func k) #[] #[]] w fun e w' => ∃ ps pf, e = .returned (.agg #[.bool false, (.func (.func 81) #[] #[.pointer (some ⟨pf, 0, none⟩), .pointer (some ⟨ps, 0, none⟩)]), (.func (.func 82) #[] #[.pointer (some ⟨ps, 0, none⟩), .pointer (some ⟨pf, 0, none⟩)])]) ∧ Hid (Bx w' ps #[.string st] 9 ∧ Bx w' pf #[.func (.func k) #[] #[]] 89 ∧ Below w.heap.size w w') := by
  have hmf : ∀ (fn : Fn) (first cap : Array Value) (w : World), (Instr.makeFunc fn first cap).run Tryd.prog w = .ok (.func fn first cap) w := fun _ _ _ _ => rfl
  have zz := zeroV84
  have hF : Hid (Fm w [(w.heap.size, #[.string st], 9), (w.heap.size + 1, #[.func (.func k) #[] #[]], 89), (w.heap.size + 2, #[.bool false, Value.nilFunc, Value.nilFunc], 84)] (((w.alloc (.cells #[.string st] 9)).alloc (.cells #[.func (.func k) #[] #[]] 89)).alloc (.cells #[.bool false, Value.nilFunc, Value.nilFunc] 84))) := Fm.three w _ _ _ _ _ _
  have hb : Hid _ := built84 (.func 81) (.func 82) #[.pointer (some ⟨w.heap.size + 1, 0, none⟩), .pointer (some ⟨w.heap.size, 0, none⟩)] #[.pointer (some ⟨w.heap.size, 0, none⟩), .pointer (some ⟨w.heap.size + 1, 0, none⟩)]
  go_enter Tryd.func59, Tryd.ntmps59
  go_wp2_with (first
    | ((with_reducible refine gen_world (((w.alloc (.cells #[.string st] 9)).alloc (.cells #[.func (.func k) #[] #[]] 89)).alloc (.cells #[.bool false, Value.nilFunc, Value.nilFunc] 84)) (Fm w [(w.heap.size, #[.string st], 9), (w.heap.size + 1, #[.func (.func k) #[] #[]], 89), (w.heap.size + 2, #[.bool false, Value.nilFunc, Value.nilFunc], 84)]) hF.out ?_); intro y K)
    | ((with_reducible refine at_bu #[(1, .tmp 5), (2, .tmp 6)] [(1, (.func (.func 81) #[] #[.pointer (some ⟨w.heap.size + 1, 0, none⟩), .pointer (some ⟨w.heap.size, 0, none⟩)])), (2, (.func (.func 82) #[] #[.pointer (some ⟨w.heap.size, 0, none⟩), .pointer (some ⟨w.heap.size + 1, 0, none⟩)]))] #[.bool false, (.func (.func 81) #[] #[.pointer (some ⟨w.heap.size + 1, 0, none⟩), .pointer (some ⟨w.heap.size, 0, none⟩)]), (.func (.func 82) #[] #[.pointer (some ⟨w.heap.size, 0, none⟩), .pointer (some ⟨w.heap.size + 1, 0, none⟩)])] ?_ ?_ ?_ hb.out ?_); kernel_rfl; rfl; rfl)
    | ((with_reducible refine at_st rt84 (w.heap.size + 1 + 1) #[.bool false, Value.nilFunc, Value.nilFunc] #[.bool false, (.func (.func 81) #[] #[.pointer (some ⟨w.heap.size + 1, 0, none⟩), .pointer (some ⟨w.heap.size, 0, none⟩)]), (.func (.func 82) #[] #[.pointer (some ⟨w.heap.size, 0, none⟩), .pointer (some ⟨w.heap.size + 1, 0, none⟩)])] ?_ ?_ ?_ ?_ (.tmp 4) (.tmp 7) ?_ ?_ ?_ ?_ ?_); exact K.out.bx 2 _ _ _ rfl; rfl; rfl; simp [Value.oneCell']; rfl; rfl; rfl; rfl; intro y2 hw2; have K2 : Hid (Fm w [(w.heap.size, #[.string st], 9), (w.heap.size + 1, #[.func (.func k) #[] #[]], 89), (w.heap.size + 2, #[.bool false, (.func (.func 81) #[] #[.pointer (some ⟨w.heap.size + 1, 0, none⟩), .pointer (some ⟨w.heap.size, 0, none⟩)]), (.func (.func 82) #[] #[.pointer (some ⟨w.heap.size, 0, none⟩), .pointer (some ⟨w.heap.size + 1, 0, none⟩)])], 84)] y2) := K.out.put 2 _ _ _ _ rfl hw2.out))
  exact ret_row rt84 rfl rfl (K2.out.bx 2 _ _ _ rfl) rfl rfl ⟨_, _, rfl, K2.out.bx 0 _ _ _ rfl, K2.out.bx 1 _ _ _ rfl, K2.out.low⟩
end Go.Proofs.YtoajmicdphffnaaDoor
