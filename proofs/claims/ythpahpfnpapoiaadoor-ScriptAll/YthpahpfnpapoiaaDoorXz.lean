/- The examples, as the statements ask them. -/
import Derived.Test.YthpahpfnpapoiaaDoorXk
import Derived.Test.YthpahpfnpapoiaaDoorVp
import Derived.Test.YthpahpfnpapoiaaDoorVq4
namespace Go.Proofs.YthpahpfnpapoiaaDoor
open Go Go.RowKit
set_option linter.unusedVariables false
set_option maxHeartbeats 1000000
set_option maxRecDepth 20000

def wkS : Sn := ⟨3, ⟨2, false, false, false, false, false, true, false, 255⟩⟩
theorem wk_print : printB [wkS] = ⟨#[51, 32, 107, 101, 121, 115, 32, 48, 48, 48, 50, 32, 99, 108, 101, 97, 114, 32, 98, 117, 115, 32, 102, 102, 10]⟩ ∧ printE [wkS] = 0 := by decide +kernel
theorem wk_parse : parseS (strL ⟨#[49, 10, 48, 49, 10]⟩) = ([], 71, 2) := by kernel_rfl
theorem wk_cycles : cyclesS [wkS] = 3 ∧ checkS [wkS] = 0 ∧ modeS wkS.a = 2 := by decide +kernel
theorem lies_one {y : World} {b : Nat} {s : Sn} (h : Bx y b (spC s) 34) : LiesS y (some ⟨b, 0, none⟩) [s] := fun j t hj => by
  have h' : Bx y b (rowS [s]).toArray 34 := by simpa [rowS] using h
  exact ⟨b, 0, rfl, bx_range h' j t hj⟩
theorem awake_any (w : World) (tb : Hid (Tp w)) : Calls Tryd.prog 9 #[] w fun e w' => e = .returned (.bool true) ∧ Below w.heap.size w w' := by
  have hP : Hid (∀ (y : World) (b : Nat), Tp y → Bx y b (spC wkS) 34 → Calls Tryd.prog 26 #[.slice (some ⟨b, 0, none⟩) 1 1] y fun e w' => e = .returned (.tuple #[.string ⟨#[51, 32, 107, 101, 121, 115, 32, 48, 48, 48, 50, 32, 99, 108, 101, 97, 114, 32, 98, 117, 115, 32, 102, 102, 10]⟩, .int .i64 0]) ∧ Hid (Below y.heap.size y w')) := fun y b ht hb => by
    have := print_any y ht (some ⟨b, 0, none⟩) 1 [wkS] (lies_one hb) (by decide) (fun s hs => by simp at hs; subst hs; unfold Rg wkS; decide)
    rw [wk_print.1, wk_print.2] at this
    exact this
  have hQ : Hid (∀ (y : World), Tp y → Calls Tryd.prog 28 #[.string ⟨#[49, 10, 48, 49, 10]⟩] y fun e w' => ∃ sp cap, e = .returned (.tuple #[.slice sp 0 cap, .int .i64 71, .int .i64 2]) ∧ Hid (Below y.heap.size y w')) := fun y ht => by
    have := parse_any y ht ⟨#[49, 10, 48, 49, 10]⟩ (by decide)
    rw [wk_parse] at this
    refine this.mono ?_
    rintro e w' ⟨v, rfl, h⟩
    obtain ⟨sp, cap, rfl, _⟩ := OwnS.open h.out.oa
    exact ⟨sp, cap, rfl, h.out.fm.low⟩
  have hC : Hid (∀ (y : World) (b : Nat), Bx y b (spC wkS) 34 → Calls Tryd.prog 12 #[.slice (some ⟨b, 0, none⟩) 1 1] y fun e w' => e = .returned (.tuple #[.int .i64 3, .int .i64 0]) ∧ Below y.heap.size y w') := fun y b hb => by
    have := cycles_any y (some ⟨b, 0, none⟩) 1 [wkS] (lies_one hb) (by decide)
    rw [wk_cycles.1, wk_cycles.2.1] at this
    exact this
  have hM : Hid (∀ (y : World), Calls Tryd.prog 16 #[.agg (spC wkS)] y fun e w' => e = .returned (.int .u8 2) ∧ Below y.heap.size y w') := fun y => by
    have := mode_any y wkS
    rw [wk_cycles.2.2] at this
    exact this
  have b1 : Hid (Tryd.prog.built 34 [(0, .int .i64 3), (1, .int .u16 2), (7, .bool true), (9, .int .u8 255)] = some (spC wkS)) := (by kernel_rfl : Tryd.prog.built 34 [(0, .int .i64 3), (1, .int .u16 2), (7, .bool true), (9, .int .u8 255)] = some (spC wkS))
  have ix : ∀ g v, (Instr.indexAt 23 (.slice (some ⟨g, 0, none⟩) 1 1) (.int .i64 0)).run Tryd.prog v = .ok (.pointer (some ⟨g, 0, none⟩)) v := fun g v => idxP (g := g) (off := 0) (len := 1) (cap := 1) Tryd.underlying23 (s := 10) (by kernel_rfl) .i64 0 v (by decide)
  go_enter Tryd.func9, Tryd.ntmps9
  go_wp2_with (first
    | ((with_reducible refine at_bu #[(0, .const (.int .i64 3)), (1, .const (.int .u16 2)), (7, .const (.bool true)), (9, .const (.int .u8 255))] [(0, .int .i64 3), (1, .int .u16 2), (7, .bool true), (9, .int .u8 255)] (spC wkS) ?_ ?_ ?_ b1.out ?_); kernel_rfl; rfl; kernel_rfl)
    | ((with_reducible refine at_bsS wkS (.tmp 9) ?_ ?_ ?_ ?_); rfl; rfl; rfl)
    | ((with_reducible refine gen_world (w.alloc (.cells (spC wkS) 34)) (Fm w [(w.heap.size, spC wkS, 34)]) ?_ ?_); exact Fm.one w _ _; intro y0 K0)
    | (go_at_call 26; refine (hP.out y0 w.heap.size (tb.out.below K0.out.low) (K0.out.bx 0 _ _ _ rfl)).mono ?_; rintro e y1 ⟨rfl, H1⟩; have K1 : Hid (Fm w [(w.heap.size, spC wkS, 34)] y1) := K0.out.below H1.out; clear H1)
    | (go_at_call 28; refine (hQ.out y1 (tb.out.below K1.out.low)).mono ?_; rintro e y2 ⟨sp, cap, rfl, H2⟩; have K2 : Hid (Fm w [(w.heap.size, spC wkS, 34)] y2) := K1.out.below H2.out; clear H2)
    | (go_at_call 12; refine (hC.out y2 w.heap.size (K2.out.bx 0 _ _ _ rfl)).mono ?_; rintro e y3 ⟨rfl, H3⟩; have K3 : Hid (Fm w [(w.heap.size, spC wkS, 34)] y3) := K2.out.below H3; clear H3)
    | ((with_reducible refine at_load rtS w.heap.size (spC wkS) ?_ ?_ (.tmp 55) ?_ ?_ ?_ ?_); exact K3.out.bx 0 _ _ _ rfl; rfl; kernel_rfl; rfl; rfl)
    | (go_at_call 16; refine (hM.out _).mono ?_; rintro e y4 ⟨rfl, H4⟩; have K4 : Hid (Fm w [(w.heap.size, spC wkS, 34)] y4) := K3.out.below H4; clear H4))
  go_ret
  exact ⟨rfl, K4.out.low⟩
end Go.Proofs.YthpahpfnpapoiaaDoor
