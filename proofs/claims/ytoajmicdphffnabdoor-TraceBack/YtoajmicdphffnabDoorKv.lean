/- The statements' own look at the document's examples. -/
import Derived.Test.YtoajmicdphffnabDoorGt
import Derived.Test.YtoajmicdphffnabDoorGj
import Derived.Test.YtoajmicdphffnabDoorGg
namespace Go.Proofs.YtoajmicdphffnabDoor
open Go Go.RowKit
set_option linter.unusedVariables false
set_option maxHeartbeats 1000000
set_option maxRecDepth 20000

def ex1 : Rc := ⟨0, 0, 196, true, false, 0, false, 0⟩
def ex2 : Rc := ⟨1, 4779, 15, false, true, 2, true, 0⟩
theorem builtE1 : Tryd.prog.built 45 [(2, .int .u8 196), (3, .bool true)] = some (rcC ex1) := by kernel_rfl
theorem builtE2 : Tryd.prog.built 45 [(0, .int .u8 1), (1, .int .u16 4779), (2, .int .u8 15), (4, .bool true), (5, .int .u8 2), (6, .bool true)] = some (rcC ex2) := by kernel_rfl
theorem fillE (a b : Rc) : Instr.fill (fun i => some (i * 8, 8)) ((Array.range (2 * 8)).map ((Value.agg (rcC zR)).cells[· % (Value.agg (rcC zR)).cells.size]!)) [(0, .agg (rcC a)), (1, .agg (rcC b))] = some (rowR [a, b]).toArray := by kernel_rfl
theorem at_bsE {ops : Array Oper} {rest : List Oper} {o : Oper} {a : Act} {w : World} {Q : Exit → Act → World → Prop} (s t : Rc) (x y : Operand) (hgd : o.guard = none) (ho : o.op = .buildSlice 22 2 #[(0, x), (1, y)]) (hx : a.eval x = .agg (rcC s)) (hy : a.eval y = .agg (rcC t))
    (h : wpList Tryd.prog ops Q rest (a.put o.dst (.slice (some ⟨w.heap.size, 0, none⟩) 2 2)) (w.alloc (.cells (rowR [s, t]).toArray 45))) : wpList Tryd.prog ops Q (o :: rest) a w := by
  obtain ⟨i, hi, hz0, hz1, hz2⟩ := info_parts infoR
  refine wpList_buildSlice hgd 22 45 2 #[(0, x), (1, y)] ho (rowR [s, t]).toArray i _ Tryd.underlying22 hi hz0 (by rw [hz1]; decide) (by rw [hz1]; decide) ?_ h
  rw [hz1]
  have e : (#[(0, x), (1, y)].map fun (i, x) => (i, a.eval x)).toList = [(0, .agg (rcC s)), (1, .agg (rcC t))] := by simp [hx, hy]
  rw [e]
  exact fillE s t
theorem first_any (w : World) : Calls Tryd.prog 29 #[] w fun e w' => e = .returned (.slice (some ⟨w.heap.size, 0, none⟩) 2 2) ∧ Hid (LiesR w' (some ⟨w.heap.size, 0, none⟩) [ex1, ex2] ∧ Below w.heap.size w w') := by
  have b1 : Hid _ := builtE1
  have b2 : Hid _ := builtE2
  have fin : Hid (LiesR (w.alloc (.cells (rowR [ex1, ex2]).toArray 45)) (some ⟨w.heap.size, 0, none⟩) [ex1, ex2] ∧ Below w.heap.size w (w.alloc (.cells (rowR [ex1, ex2]).toArray 45))) := ⟨fun j s hj => ⟨w.heap.size, 0, rfl, bx_range (alloc_last' w _) j s hj⟩, below1 _ _⟩
  go_enter Tryd.func29, Tryd.ntmps29
  go_wp2_with (first
    | ((with_reducible refine at_bu #[(2, .const (.int .u8 196)), (3, .const (.bool true))] [(2, .int .u8 196), (3, .bool true)] (rcC ex1) ?_ ?_ ?_ b1.out ?_); kernel_rfl; rfl; kernel_rfl)
    | ((with_reducible refine at_bu #[(0, .const (.int .u8 1)), (1, .const (.int .u16 4779)), (2, .const (.int .u8 15)), (4, .const (.bool true)), (5, .const (.int .u8 2)), (6, .const (.bool true))] [(0, .int .u8 1), (1, .int .u16 4779), (2, .int .u8 15), (4, .bool true), (5, .int .u8 2), (6, .bool true)] (rcC ex2) ?_ ?_ ?_ b2.out ?_); kernel_rfl; rfl; kernel_rfl)
    | ((with_reducible refine at_bsE ex1 ex2 (.tmp 1) (.tmp 2) ?_ ?_ ?_ ?_ ?_); rfl; rfl; rfl; rfl))
  go_ret
  exact ⟨rfl, fin⟩
theorem exG : AllG [ex1, ex2] := fun r hr => by
  rcases List.mem_cons.1 hr with rfl | h
  · exact ⟨by decide, by decide, by decide, by decide, by decide, by decide, by decide, by decide, by decide, by decide⟩
  · rcases List.mem_cons.1 h with rfl | h
    · exact ⟨by decide, by decide, by decide, by decide, by decide, by decide, by decide, by decide, by decide, by decide⟩
    · cases h
def exB : List UInt8 := [86, 84, 82, 49, 1, 0, 0, 0, 128, 0, 0, 0, 0]
theorem exPrint : printB [ex1, ex2] = ⟨#[115, 48, 32, 48, 48, 48, 48, 32, 99, 52, 32, 114, 10, 115, 49, 32, 49, 50, 97, 98, 32, 48, 102, 32, 119, 32, 110, 50, 32, 113, 10]⟩ ∧ printE [ex1, ex2] = 0 := ⟨by kernel_rfl, by kernel_rfl⟩
theorem exPack : packB [ex1, ex2] = [86, 84, 82, 49, 2, 0, 0, 0, 4, 196, 153, 2, 171, 18, 15] ∧ checkR [ex1, ex2] = 0 := ⟨by kernel_rfl, by kernel_rfl⟩
theorem exUnpack : unpackR exB = ([], 91, 8) := by kernel_rfl
theorem awake_any (w : World) (tb : Hid (Tp w)) : Calls Tryd.prog 10 #[] w fun e w' => e = .returned (.bool true) ∧ Below w.heap.size w w' := by
  have hF := first_any
  have hP : Hid (∀ (y : World) (g : Nat), Tp y → LiesR y (some ⟨g, 0, none⟩) [ex1, ex2] → Calls Tryd.prog 4 #[.slice (some ⟨g, 0, none⟩) 2 2] y fun e w' => e = .returned (.tuple #[.string ⟨#[115, 48, 32, 48, 48, 48, 48, 32, 99, 52, 32, 114, 10, 115, 49, 32, 49, 50, 97, 98, 32, 48, 102, 32, 119, 32, 110, 50, 32, 113, 10]⟩, .int .i64 0]) ∧ Hid (Below y.heap.size y w')) := fun y g ht h => by
    have := pprint_any y ht (some ⟨g, 0, none⟩) 2 [ex1, ex2] h (by decide) exG
    rw [exPrint.1, exPrint.2] at this
    exact this
  have hK : Hid (∀ (y : World) (g : Nat), LiesR y (some ⟨g, 0, none⟩) [ex1, ex2] → Calls Tryd.prog 5 #[.slice (some ⟨g, 0, none⟩) 2 2] y fun e w' => ∃ v, e = .returned (.tuple #[v, .int .i64 0]) ∧ Hid (KB y v [86, 84, 82, 49, 2, 0, 0, 0, 4, 196, 153, 2, 171, 18, 15] w')) := fun y g h => by
    have := ppack_any y (some ⟨g, 0, none⟩) 2 [ex1, ex2] h (by decide) exG
    rw [exPack.1, exPack.2] at this
    exact this
  have hU : Hid (∀ (y : World) (g : Nat), LiesB y (some ⟨g, 0, none⟩) exB → Calls Tryd.prog 8 #[.slice (some ⟨g, 0, none⟩) 13 13] y fun e w' => ∃ v, e = .returned (.tuple #[v, .int .i64 91, .int .i64 8]) ∧ Hid (Ct y v (.slice none 0 0) [] [] [] w')) := fun y g h => by
    have := punpack_any y (some ⟨g, 0, none⟩) 13 exB h (by decide) (by decide)
    rw [exUnpack] at this
    exact this
  have hB : Hid (∀ y : World, LiesB (y.alloc (.cells #[.int .u8 86, .int .u8 84, .int .u8 82, .int .u8 49, .int .u8 1, .int .u8 0, .int .u8 0, .int .u8 0, .int .u8 128, .int .u8 0, .int .u8 0, .int .u8 0, .int .u8 0] 5)) (some ⟨y.heap.size, 0, none⟩) exB) := fun y j b hj => by
    refine ⟨y.heap.size, 0, rfl, ?_⟩
    rw [cell_heap (alloc_last' y _), Nat.zero_add]
    have e : (#[Value.int .u8 86, .int .u8 84, .int .u8 82, .int .u8 49, .int .u8 1, .int .u8 0, .int .u8 0, .int .u8 0, .int .u8 128, .int .u8 0, .int .u8 0, .int .u8 0, .int .u8 0] : Array Value) = (exB.map byV).toArray := rfl
    rw [e, List.getElem?_toArray, List.getElem?_map, hj]
    rfl
  go_enter Tryd.func10, Tryd.ntmps10
  go_wp2_with (first
    | (go_at_call 4; refine (hP.out y1 _ (tb.out.below L1.out.2) L1.out.1).mono ?_; rintro e y2 ⟨rfl, H2⟩; have K2 : Hid (Below w.heap.size w y2) := L1.out.2.trans (H2.out.mono L1.out.2.size))
    | (go_at_call 5; refine (hK.out y3 _ L3.out.1).mono ?_; rintro e y4 ⟨v4, rfl, H4⟩; have K4 : Hid (Below w.heap.size w y4) := (K2.out.trans (L3.out.2.mono K2.out.size)).trans (H4.out.2.mono (by have := K2.out.size; have := L3.out.2.size; omega)))
    | (go_at_call 8; refine (hU.out _ _ (hB.out y4)).mono ?_; rintro e y6 ⟨v6, rfl, H6⟩; have K6 : Hid (Below w.heap.size w y6) := (K4.out.alloc K4.out.size _).trans (H6.out.fm.low.mono (by have := K4.out.size; simp; omega)); have B6 : Hid (KB y3 v4 [86, 84, 82, 49, 2, 0, 0, 0, 4, 196, 153, 2, 171, 18, 15] y6) := (H4.out.below (below1 _ _)).below H6.out.fm.low; obtain ⟨⟨sp4, cp4, rfl⟩, cv4⟩ := B6.out.open; obtain ⟨sp6, cp6, rfl, _⟩ := H6.out.oa.open; simp only [List.length_cons, List.length_nil] at cv4 ⊢)
    | (go_at_call 29; refine (hF w).mono ?_; rintro e y1 ⟨rfl, L1⟩)
    | (go_at_call 29; refine (hF y2).mono ?_; rintro e y3 ⟨rfl, L3⟩))
  go_ret
  exact ⟨by first | rfl | simp, K6.out⟩
end Go.Proofs.YtoajmicdphffnabDoor
