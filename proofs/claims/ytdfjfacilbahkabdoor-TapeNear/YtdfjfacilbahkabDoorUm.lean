/- The document's examples. -/
import Derived.Test.YtdfjfacilbahkabDoorQl
import Derived.Test.YtdfjfacilbahkabDoorQi
import Derived.Test.YtdfjfacilbahkabDoorUg
import Derived.Test.YtdfjfacilbahkabDoorLc
namespace Go.Proofs.YtdfjfacilbahkabDoor
open Go Go.RowKit
set_option linter.unusedVariables false
set_option maxHeartbeats 2000000
set_option maxRecDepth 20000

theorem exWr : writeW [1] 2 = (writeL [1] 2, 0) := by kernel_rfl
theorem exRd1 : readW (writeL [1] 2) 1 = ([1], 0, 0) := by kernel_rfl
theorem exRd2 : readW (writeL [1] 2) 2 = ([], 122, 12) := by kernel_rfl
theorem awake_any (w : World) (T : Hid (Tq w)) : Calls Tryd.prog 4 #[] w fun e w' => e = .returned (.bool true) ∧ Below w.heap.size w w' := by
  have hWr : Hid (∀ y : World, Calls Tryd.prog 5 #[.slice (some ⟨y.heap.size, 0, none⟩) 1 1, .int .i64 2] (y.alloc (.cells #[.int .u8 1] 5)) fun e w' => ∃ q d, e = .returned (.tuple #[.slice q 12 d, .int .i64 0]) ∧ Hid (L2 w' q (writeL [1] 2) ∧ Below y.heap.size y w')) := fun y => by
    have hb : LB (y.alloc (.cells #[.int .u8 1] 5)) (some ⟨y.heap.size, 0, none⟩) [1] := lies_new (c := cB) kByte.len y 5 [1]
    have := pwrite_any (y.alloc (.cells #[.int .u8 1] 5)) (some ⟨y.heap.size, 0, none⟩) 1 [1] 2 hb (by decide)
    rw [exWr] at this
    refine this.mono ?_
    rintro e w' ⟨v, rfl, H⟩
    obtain ⟨q, d, rfl, L, _⟩ := H.out.own.open kWave.len
    exact ⟨q, d, rfl, L, (below1 _ _).trans (H.out.low.mono (by simp))⟩
  have hR1 : Hid (∀ (y : World) (q : Option Addr) (d : Nat), Tq y → L2 y q (writeL [1] 2) → Calls Tryd.prog 6 #[.slice q 12 d, .int .i64 1] y fun e w' => ∃ g d, e = .returned (.tuple #[.slice (some ⟨g, 0, none⟩) 1 d, .int .i64 0, .int .i64 0]) ∧ Hid (LB w' (some ⟨g, 0, none⟩) [1] ∧ Below y.heap.size y w')) := fun y q d ht h => by
    have := pread_any y ht q d (writeL [1] 2) 1 h (by decide)
    rw [exRd1] at this
    refine this.mono ?_
    rintro e w' ⟨v, rfl, H⟩
    obtain ⟨q, d, rfl, L, A, _⟩ := H.out.own.open kByte.len
    obtain ⟨g, o, rfl, _⟩ := lb_at L 0 1 rfl
    have ho : o = 0 := (A _ rfl).1
    subst ho
    exact ⟨g, d, rfl, L, H.out.low⟩
  have hR2 : Hid (∀ (y : World) (q : Option Addr) (d : Nat), Tq y → L2 y q (writeL [1] 2) → Calls Tryd.prog 6 #[.slice q 12 d, .int .i64 2] y fun e w' => ∃ g d, e = .returned (.tuple #[.slice g 0 d, .int .i64 122, .int .i64 12]) ∧ Hid (Below y.heap.size y w')) := fun y q d ht h => by
    have := pread_any y ht q d (writeL [1] 2) 2 h (by decide)
    rw [exRd2] at this
    refine this.mono ?_
    rintro e w' ⟨v, rfl, H⟩
    obtain ⟨q, d, rfl, L, _⟩ := H.out.own.open kByte.len
    exact ⟨q, d, rfl, H.out.low⟩
  have hat : Hid ((writeL [1] 2)[0]? = some (56, 56) ∧ (writeL [1] 2)[2]? = some (140, 140)) := ⟨by kernel_rfl, by kernel_rfl⟩
  have b56 : Hid _ := builtWa 56 56
  have b140 : Hid _ := builtWa 140 140
  have e1 : Hid _ := eqWa (56, 56) (56, 56)
  have e2 : Hid _ := eqWa (140, 140) (140, 140)
  obtain ⟨WL, hWL⟩ : ∃ x, writeL [1] 2 = x := ⟨_, rfl⟩
  rw [hWL] at hWr hR1 hR2 hat
  clear hWL
  go_enter Tryd.func4, Tryd.ntmps4
  go_wp2_with (first
    | (go_at_call_of 6 (Value.int .i64 2); refine (hR2.out y2 q d (T.out.below K2.out) (H1.out.1.below H2.out.2)).mono ?_; rintro e y3 ⟨q3, d3, rfl, H3⟩; have K3 : Hid (Below w.heap.size w y3) := K2.out.trans (H3.out.mono K2.out.size); refine stopAt ?_)
    | (go_at_call_of 6 (Value.int .i64 1); refine (hR1.out y1 q d (T.out.below H1.out.2) H1.out.1).mono ?_; rintro e y2 ⟨g2, d2, rfl, H2⟩; have K2 : Hid (Below w.heap.size w y2) := H1.out.2.trans (H2.out.2.mono H1.out.2.size))
    | (go_at_call 5; refine (hWr.out w).mono ?_; rintro e y1 ⟨q, d, rfl, H1⟩))
  refine Stop.go ?_
  have LW := (H1.out.1.below H2.out.2).below H3.out
  obtain ⟨g1, o1, rfl, r1, _, _⟩ := l2_at LW 0 (56, 56) hat.out.1
  obtain ⟨g4, o4, e4, r2, _, _⟩ := l2_at LW 2 (140, 140) hat.out.2
  cases e4
  obtain ⟨g5, o5, e5, r3⟩ := lb_at (H2.out.1.below H3.out) 0 1 rfl
  cases e5
  have i1 : ∀ u, (Instr.indexAt 25 (.slice (some ⟨g1, o1, none⟩) 12 d) (.int .i64 0)).run Tryd.prog u = .ok (.pointer (some ⟨g1, o1, none⟩)) u := fun u => by
    have := idxP (g := g1) (off := o1) (len := 12) (cap := d) Tryd.underlying25 (s := 2) (by kernel_rfl) .i64 0 u (by decide)
    rwa [Nat.zero_mul, Nat.add_zero] at this
  have i2 : ∀ u, (Instr.indexAt 25 (.slice (some ⟨g1, o1, none⟩) 12 d) (.int .i64 2)).run Tryd.prog u = .ok (.pointer (some ⟨g1, o1 + 4, none⟩)) u := fun u => idxP (g := g1) (off := o1) (len := 12) (cap := d) Tryd.underlying25 (s := 2) (by kernel_rfl) .i64 2 u (by decide)
  have i3 : ∀ u, (Instr.indexAt 22 (.slice (some ⟨g2, 0, none⟩) 1 d2) (.int .i64 0)).run Tryd.prog u = .ok (.pointer (some ⟨g2, 0, none⟩)) u := fun u => idxB g2 0 1 d2 0 (by decide) u
  rw [Nat.zero_mul, Nat.add_zero] at r1
  replace r1 : Hid (y3.rangeAt g1 o1 (c2 (56, 56)).toArray.toList) := r1
  replace r2 : Hid (y3.rangeAt g1 (o1 + 4) (c2 (140, 140)).toArray.toList) := r2
  have r3' : y3.cell? ⟨g2, 0, none⟩ = some (.int .u8 1) := r3
  clear r3 LW
  go_wp2_with (first
    | ((with_reducible refine at_loadm rtWa g1 o1 (c2 (56, 56)).toArray ?_ ?_ (.tmp 34) ?_ ?_ ?_ ?_); exact r1.out; rfl; kernel_rfl; rfl; rfl)
    | ((with_reducible refine at_bu #[(0, .const (.int .i64 56)), (1, .const (.int .i64 56))] [(0, .int .i64 56), (1, .int .i64 56)] (c2 (56, 56)).toArray ?_ ?_ ?_ b56.out ?_); kernel_rfl; rfl; kernel_rfl)
    | ((with_reducible refine at_eq e1.out (.tmp 35) (.tmp 36) 30 ?_ ?_ ?_ ?_ ?_); kernel_rfl; rfl; rfl; rfl)
    | ((with_reducible refine at_loadm rtWa g1 (o1 + 4) (c2 (140, 140)).toArray ?_ ?_ (.tmp 40) ?_ ?_ ?_ ?_); exact r2.out; rfl; kernel_rfl; rfl; rfl)
    | ((with_reducible refine at_bu #[(0, .const (.int .i64 140)), (1, .const (.int .i64 140))] [(0, .int .i64 140), (1, .int .i64 140)] (c2 (140, 140)).toArray ?_ ?_ ?_ b140.out ?_); kernel_rfl; rfl; kernel_rfl)
    | ((with_reducible refine at_eq e2.out (.tmp 41) (.tmp 42) 30 ?_ ?_ ?_ ?_ ?_); kernel_rfl; rfl; rfl; rfl))
  go_ret
  exact ⟨by first | rfl | simp, K3.out⟩
end Go.Proofs.YtdfjfacilbahkabDoor
