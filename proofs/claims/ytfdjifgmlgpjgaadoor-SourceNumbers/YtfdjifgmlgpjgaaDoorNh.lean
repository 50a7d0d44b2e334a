/- What gives up, a word in memory of its own, numbers and parts, plain instructions: the program's. -/
import Derived.Test.YtfdjifgmlgpjgaaDoorNf
import Derived.Test.YtfdjifgmlgpjgaaDoorIq
import Derived.WalkSmall
namespace Go.Proofs.YtfdjifgmlgpjgaaDoor
open Go Go.RowKit
set_option linter.unusedVariables false
set_option maxHeartbeats 3000000
set_option maxRecDepth 20000

def pv : Value := .iface 9 (.string ⟨#[116, 104, 105, 115, 32, 105, 115, 32, 110, 111, 32, 105, 116, 101, 109]⟩)
theorem need_ok (w : World) : Calls Tryd.prog 65 #[.bool true] w fun e w' => e = .returned (.tuple #[]) ∧ w' = w := by
  go_enter Tryd.func65, Tryd.ntmps65
  go_wp2
  go_end0
  exact ⟨rfl, rfl⟩
theorem need_no (w : World) : Calls Tryd.prog 65 #[.bool false] w fun e w' => e = .panicked [{ v := pv, recovered := false }] ∧ w' = w := by
  go_enter Tryd.func65, Tryd.ntmps65
  go_wp2
  exact ⟨rfl, rfl, rfl⟩
theorem clone_any (s : ByteArray) (w : World) (hs : s.size ≤ 1000000) : Calls Tryd.prog 101 #[.string s] w fun e w' => e = .returned (.string s) ∧ Below w.heap.size w w' := by
  have hC := fun v => Tryd.stringslite_Clone s v (by omega)
  clear hs
  go_enter Tryd.func101, Tryd.ntmps101
  go_wp2_with (go_at_call 111; refine (hC _).mono ?_; rintro e y ⟨rfl, H⟩)
  go_ret
  exact ⟨rfl, H⟩
theorem apart_any (s : ByteArray) (w : World) (hs : s.size ≤ 1000000) : Calls Tryd.prog 88 #[.string s] w fun e w' => e = .returned (.string s) ∧ Below w.heap.size w w' := by
  have hC := fun v => clone_any s v hs
  clear hs
  go_enter Tryd.func88, Tryd.ntmps88
  go_wp2_with (go_at_call 101; refine (hC _).mono ?_; rintro e y ⟨rfl, H⟩)
  go_ret
  exact ⟨rfl, H⟩
theorem rnum_ok (x : ByteArray) (D : Nat) (w : World) (hx : x.size ≤ 1000000) (h : numE x = 0 ∧ x.size = D) : Calls Tryd.prog 87 #[.string x, .int .i64 (D : Int)] w fun e w' => e = .returned (.int .i64 (numV x)) ∧ Below w.heap.size w w' := by
  have hN := fun v => number_any x v (by unfold maxLen; omega)
  have h1 : (numE x == 0) = true := by rw [beq_iff_eq]; exact h.1
  have h2 : ((x.size : Int) == (D : Int)) = true := by rw [beq_iff_eq]; omega
  generalize numE x = E at hN h1
  generalize numV x = V at hN
  clear h hx
  go_enter Tryd.func87, Tryd.ntmps87
  go_wp2_with (first
    | (go_at_call 100; refine (hN _).mono ?_; rintro e y ⟨rfl, hB⟩)
    | (go_at_call 65; refine (need_ok _).mono ?_; rintro e y2 ⟨rfl, rfl⟩))
  go_ret
  exact ⟨rfl, hB⟩
theorem rnum_no (x : ByteArray) (D : Nat) (w : World) (hx : x.size ≤ 1000000) (h : ¬ (numE x = 0 ∧ x.size = D)) : Calls Tryd.prog 87 #[.string x, .int .i64 (D : Int)] w fun e w' => e = .panicked [{ v := pv, recovered := false }] ∧ Below w.heap.size w w' := by
  have hN := fun v => number_any x v (by unfold maxLen; omega)
  by_cases h0 : numE x = 0
  · have h1 : (numE x == 0) = true := by rw [beq_iff_eq]; exact h0
    have h2 : ((x.size : Int) == (D : Int)) = false := by rw [beq_eq_false_iff_ne]; exact fun e => h ⟨h0, by omega⟩
    generalize numE x = E at hN h1
    generalize numV x = V at hN
    clear h hx h0
    go_enter Tryd.func87, Tryd.ntmps87
    go_wp2_with (first
      | (go_at_call 100; refine (hN _).mono ?_; rintro e y ⟨rfl, hB⟩)
      | (go_at_call 65; refine (need_no _).mono ?_; rintro e y2 ⟨rfl, rfl⟩))
    exact ⟨rfl, rfl, hB⟩
  · have h1 : (numE x == 0) = false := by rw [beq_eq_false_iff_ne]; exact h0
    generalize numE x = E at hN h1
    generalize numV x = V at hN
    clear h hx h0
    go_enter Tryd.func87, Tryd.ntmps87
    go_wp2_with (first
      | (go_at_call 100; refine (hN _).mono ?_; rintro e y ⟨rfl, hB⟩)
      | (go_at_call 65; refine (need_no _).mono ?_; rintro e y2 ⟨rfl, rfl⟩))
    exact ⟨rfl, rfl, hB⟩
theorem rtW : Rt Tryd.prog 113 4 := ⟨⟨_, Tryd.underlying113, rfl⟩, by kernel_rfl⟩
/-- Which of four words it is, if any; 4: none. -/
def whichW (a0 a1 a2 a3 x : ByteArray) : Nat := if a0 = x then 0 else if a1 = x then 1 else if a2 = x then 2 else if a3 = x then 3 else 4
theorem part_gen (w : World) (a0 a1 a2 a3 x : ByteArray) (hr : Hid (w.rangeAt 6 0 (#[.string a0, .string a1, .string a2, .string a3] : Array Value).toList)) :
    Calls Tryd.prog 90 #[.string x] w fun e w' => e = (if whichW a0 a1 a2 a3 x = 4 then .panicked [{ v := pv, recovered := false }] else .returned (.int .u8 (whichW a0 a1 a2 a3 x : Nat))) ∧ w' = w := by
  obtain ⟨R, hR⟩ : ∃ R : Ending, Hid (R = if whichW a0 a1 a2 a3 x = 4 then .panicked [{ v := pv, recovered := false }] else .returned (.int .u8 (whichW a0 a1 a2 a3 x : Nat))) := ⟨_, (rfl : _ = _)⟩
  rw [← hR.out]
  have i0 : ∀ v, (Instr.index 113 (.agg #[.string a0, .string a1, .string a2, .string a3]) (.int .i64 0)).run Tryd.prog v = .ok (.string a0) v := fun v => by kernel_rfl
  have i1 : ∀ v, (Instr.index 113 (.agg #[.string a0, .string a1, .string a2, .string a3]) (.int .i64 1)).run Tryd.prog v = .ok (.string a1) v := fun v => by kernel_rfl
  have i2 : ∀ v, (Instr.index 113 (.agg #[.string a0, .string a1, .string a2, .string a3]) (.int .i64 2)).run Tryd.prog v = .ok (.string a2) v := fun v => by kernel_rfl
  have i3 : ∀ v, (Instr.index 113 (.agg #[.string a0, .string a1, .string a2, .string a3]) (.int .i64 3)).run Tryd.prog v = .ok (.string a3) v := fun v => by kernel_rfl
  go_enter Tryd.func90, Tryd.ntmps90
  go_wp2_with ((with_reducible refine at_loadm rtW 6 0 #[.string a0, .string a1, .string a2, .string a3] ?_ ?_ (.global 6) ?_ ?_ ?_ ?_); exact hr.out; rfl; rfl; rfl; rfl)
  go_loopw [6] (fun i wz => ∃ j : Nat, j ≤ 4 ∧ i = .int .i64 (j : Int) ∧ Hid ((0 < j → a0 ≠ x) ∧ (1 < j → a1 ≠ x) ∧ (2 < j → a2 ≠ x) ∧ (3 < j → a3 ≠ x)) ∧ wz = w) (fun i _ => (4 - intOf i).toNat)
  case atStart => exact ⟨0, by omega, rfl, ⟨fun h => absurd h (by omega), fun h => absurd h (by omega), fun h => absurd h (by omega), fun h => absurd h (by omega)⟩, rfl⟩
  case round =>
    obtain ⟨j, hj, rfl, J, rfl⟩ := hrel
    rcases (show j = 0 ∨ j = 1 ∨ j = 2 ∨ j = 3 ∨ j = 4 by omega) with rfl | rfl | rfl | rfl | rfl
    · by_cases e0 : a0 = x
      · have q := str_eq e0
        have fin : Hid (R = .returned (.int .u8 0)) := by show _ = _; rw [hR.out]; unfold whichW; rw [if_pos e0]; rfl
        clear e0
        go_wp2
        go_ret
        exact ⟨fin.out.symm, rfl⟩
      · have q := str_ne e0
        have J2 : Hid ((0 < 1 → a0 ≠ x) ∧ (1 < 1 → a1 ≠ x) ∧ (2 < 1 → a2 ≠ x) ∧ (3 < 1 → a3 ≠ x)) := ⟨fun _ => e0, fun h => absurd h (by omega), fun h => absurd h (by omega), fun h => absurd h (by omega)⟩
        clear e0
        go_wp2
        go_roundw
        case rel => exact ⟨1, by omega, rfl, J2, by first | trivial | rfl⟩
        case measure => simp [intOf]
    · by_cases e1 : a1 = x
      · have q := str_eq e1
        have fin : Hid (R = .returned (.int .u8 1)) := by show _ = _; rw [hR.out]; unfold whichW; rw [if_neg (J.out.1 (by omega)), if_pos e1]; rfl
        clear e1
        go_wp2
        go_ret
        exact ⟨fin.out.symm, rfl⟩
      · have q := str_ne e1
        have J2 : Hid ((0 < 2 → a0 ≠ x) ∧ (1 < 2 → a1 ≠ x) ∧ (2 < 2 → a2 ≠ x) ∧ (3 < 2 → a3 ≠ x)) := ⟨fun _ => J.out.1 (by omega), fun _ => e1, fun h => absurd h (by omega), fun h => absurd h (by omega)⟩
        clear e1
        go_wp2
        go_roundw
        case rel => exact ⟨2, by omega, rfl, J2, by first | trivial | rfl⟩
        case measure => simp [intOf]
    · by_cases e2 : a2 = x
      · have q := str_eq e2
        have fin : Hid (R = .returned (.int .u8 2)) := by show _ = _; rw [hR.out]; unfold whichW; rw [if_neg (J.out.1 (by omega)), if_neg (J.out.2.1 (by omega)), if_pos e2]; rfl
        clear e2
        go_wp2
        go_ret
        exact ⟨fin.out.symm, rfl⟩
      · have q := str_ne e2
        have J2 : Hid ((0 < 3 → a0 ≠ x) ∧ (1 < 3 → a1 ≠ x) ∧ (2 < 3 → a2 ≠ x) ∧ (3 < 3 → a3 ≠ x)) := ⟨fun _ => J.out.1 (by omega), fun _ => J.out.2.1 (by omega), fun _ => e2, fun h => absurd h (by omega)⟩
        clear e2
        go_wp2
        go_roundw
        case rel => exact ⟨3, by omega, rfl, J2, by first | trivial | rfl⟩
        case measure => simp [intOf]
    · by_cases e3 : a3 = x
      · have q := str_eq e3
        have fin : Hid (R = .returned (.int .u8 3)) := by show _ = _; rw [hR.out]; unfold whichW; rw [if_neg (J.out.1 (by omega)), if_neg (J.out.2.1 (by omega)), if_neg (J.out.2.2.1 (by omega)), if_pos e3]; rfl
        clear e3
        go_wp2
        go_ret
        exact ⟨fin.out.symm, rfl⟩
      · have q := str_ne e3
        have J2 : Hid ((0 < 4 → a0 ≠ x) ∧ (1 < 4 → a1 ≠ x) ∧ (2 < 4 → a2 ≠ x) ∧ (3 < 4 → a3 ≠ x)) := ⟨fun _ => J.out.1 (by omega), fun _ => J.out.2.1 (by omega), fun _ => J.out.2.2.1 (by omega), fun _ => e3⟩
        clear e3
        go_wp2
        go_roundw
        case rel => exact ⟨4, by omega, rfl, J2, by first | trivial | rfl⟩
        case measure => simp [intOf]
    · have fin : Hid (R = .panicked [{ v := pv, recovered := false }]) := by show _ = _; rw [hR.out]; unfold whichW; rw [if_neg (J.out.1 (by omega)), if_neg (J.out.2.1 (by omega)), if_neg (J.out.2.2.1 (by omega)), if_neg (J.out.2.2.2 (by omega))]; rfl
      go_wp2
      exact ⟨rfl, fin.out.symm, rfl⟩
/-- Which part a word names. -/
theorem part_any (w : World) (x : ByteArray) (hx : 0 < x.size) (T : Hid (Tw w)) : Calls Tryd.prog 90 #[.string x] w fun e w' => e = (if partO x = 0 then .panicked [{ v := pv, recovered := false }] else .returned (.int .u8 (partO x))) ∧ w' = w := by
  have hr : Hid (w.rangeAt 6 0 (#[.string ⟨#[]⟩, .string wTo, .string wHigh, .string wLow] : Array Value).toList) := fun j v hv => by rw [Nat.zero_add]; exact T.out.p j v hv
  refine (part_gen w ⟨#[]⟩ wTo wHigh wLow x hr).mono ?_
  rintro e w' ⟨rfl, rfl⟩
  refine ⟨?_, rfl⟩
  have h0 : (⟨#[]⟩ : ByteArray) ≠ x := fun e => by rw [← e] at hx; exact absurd hx (by decide)
  have hp : partO x = if wTo = x then 1 else if wHigh = x then 2 else if wLow = x then 3 else 0 := by
    unfold partO
    simp only [eq_comm (a := x)]
  rw [hp]
  unfold whichW
  rw [if_neg h0]
  by_cases h1 : wTo = x
  · simp only [if_pos h1]; rfl
  by_cases h2 : wHigh = x
  · simp only [if_neg h1, if_pos h2]; rfl
  by_cases h3 : wLow = x
  · simp only [if_neg h1, if_neg h2, if_pos h3]; rfl
  simp only [if_neg h1, if_neg h2, if_neg h3]
  rfl
end Go.Proofs.YtfdjifgmlgpjgaaDoor
