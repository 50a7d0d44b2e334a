/- The document's answer: forms, bytes, names. -/
import Derived.Test.YtfdjifgmlgpjgaaDoorOOps
import Derived.Test.YtfdjifgmlgpjgaaDoorODec
namespace Go.Proofs.YtfdjifgmlgpjgaaDoor
open Go.RowKit
set_option linter.unusedVariables false
set_option maxHeartbeats 1000000
set_option maxRecDepth 20000

theorem ret_u8 {a b : Int} (h : a = b) : Ending.returned (.int .u8 a) = .returned (.int .u8 b) := by rw [h]
theorem ret_i64 {a b : Int} (h : a = b) : Ending.returned (.int .i64 a) = .returned (.int .i64 b) := by rw [h]
theorem ret_bool {a b : Bool} (h : a = b) : Ending.returned (.bool a) = .returned (.bool b) := by rw [h]

theorem rlong_any (n : Nat) (w : World) (h : n < 256) : Calls Tryd.prog 78 #[.int .u8 n] w fun e w' => e = .returned (.bool (decide (n / 16 = 12))) ∧ w' = w := by
  go_enter Tryd.func78, Tryd.ntmps78
  go_wp2
  go_ret
  refine ⟨ret_bool ?_, rfl⟩
  revert n; decide +kernel

/-- A form as the document tells it. -/
def rfmI (n : Int) : Int :=
  if n / 16 = 0 then (if n % 16 = 0 then 1 else 2)
  else if n / 16 = 3 then (if n % 16 = 8 then 1 else 5)
  else if n / 16 = 6 then (if n % 16 % 8 = 0 then 1 else 3)
  else if n / 16 = 7 then (if n % 16 = 12 ∨ n % 16 = 13 ∨ n % 16 = 15 then 4 else 1)
  else if n / 16 = 12 then (if n % 16 ≤ 3 ∨ 9 ≤ n % 16 ∧ n % 16 ≤ 11 then 6 else 1)
  else if n / 16 = 15 then (if 8 ≤ n % 16 ∧ n % 16 ≠ 14 then 4 else 1)
  else 2
theorem rfm_eq (n : Nat) (h : n < 256) : (fm n : Int) = rfmI n := by revert n; decide +kernel

theorem rform_any (n : Nat) (w : World) (h : n < 256) : Calls Tryd.prog 77 #[.int .u8 n] w fun e w' => e = .returned (.int .u8 (fm n : Nat)) ∧ w' = w := by
  rw [rfm_eq n h]
  generalize hN : (n : Int) = x
  have hx0 : 0 ≤ x := by omega
  have hx1 : x < 256 := by omega
  clear hN h
  clear n
  obtain ⟨r, hr⟩ : ∃ r, Hid (rfmI x = r) := ⟨_, (rfl : rfmI x = rfmI x)⟩
  rw [hr.out]
  go_enter Tryd.func77, Tryd.ntmps77
  go_wp2
  all_goals go_ret
  all_goals refine ⟨ret_u8 ?_, rfl⟩
  all_goals rw [← hr.out]
  all_goals (unfold rfmI; simp only [beq_iff_eq, beq_eq_false_iff_ne, bne_iff_ne, bne_eq_false_iff_eq] at *)
  all_goals ((repeat' split) <;> omega)

theorem rbytes_any (f : Nat) (w : World) (h1 : 1 ≤ f) (h : f ≤ 6) : Calls Tryd.prog 79 #[.int .u8 f] w fun e w' => e = .returned (.int .i64 (lay (f * 3) : Nat)) ∧ w' = w := by
  rcases (show f = 1 ∨ f = 2 ∨ f = 3 ∨ f = 4 ∨ f = 5 ∨ f = 6 by omega) with rfl | rfl | rfl | rfl | rfl | rfl
  all_goals
    go_enter Tryd.func79, Tryd.ntmps79
    go_wp2
    go_ret
    exact ⟨rfl, rfl⟩
theorem rwide_any (f : Nat) (w : World) (h1 : 1 ≤ f) (h : f ≤ 6) : Calls Tryd.prog 85 #[.int .u8 f] w fun e w' => e = .returned (.int .i64 (lay (f * 3 + 1) : Nat)) ∧ w' = w := by
  rcases (show f = 1 ∨ f = 2 ∨ f = 3 ∨ f = 4 ∨ f = 5 ∨ f = 6 by omega) with rfl | rfl | rfl | rfl | rfl | rfl
  all_goals
    go_enter Tryd.func85, Tryd.ntmps85
    go_wp2
    go_ret
    exact ⟨rfl, rfl⟩

/-- The names that the document tells, row by row. -/
def nlL : List (List (List UInt8)) := [[[76, 68, 78]], [[73, 78, 67]], [[68, 69, 67]], [[66, 82], [66, 81], [66, 90], [66, 68, 70], [66, 49], [66, 50], [66, 51], [66, 52], [83, 75, 80], [66, 78, 81], [66, 78, 90], [66, 78, 70], [66, 78, 49], [66, 78, 50], [66, 78, 51], [66, 78, 52]], [[76, 68, 65]], [[83, 84, 82]], [[73, 82, 88], [79, 85, 84], [79, 85, 84], [79, 85, 84], [79, 85, 84], [79, 85, 84], [79, 85, 84], [79, 85, 84], [78, 85, 76], [73, 78, 80], [73, 78, 80], [73, 78, 80], [73, 78, 80], [73, 78, 80], [73, 78, 80], [73, 78, 80]], [[82, 69, 84], [68, 73, 83], [76, 68, 88, 65], [83, 84, 88, 68], [65, 68, 67], [83, 68, 66], [83, 72, 82, 67], [83, 77, 66], [83, 65, 86], [77, 65, 82, 75], [82, 69, 81], [83, 69, 81], [65, 68, 67, 73], [83, 68, 66, 73], [83, 72, 76, 67], [83, 77, 66, 73]], [[71, 76, 79]], [[71, 72, 73]], [[80, 76, 79]], [[80, 72, 73]], [[76, 66, 82], [76, 66, 81], [76, 66, 90], [76, 66, 68, 70], [78, 79, 80], [76, 83, 78, 81], [76, 83, 78, 90], [76, 83, 78, 70], [76, 83, 75, 80], [76, 66, 78, 81], [76, 66, 78, 90], [76, 66, 78, 70], [76, 83, 73, 69], [76, 83, 81], [76, 83, 90], [76, 83, 68, 70]], [[83, 69, 80]], [[83, 69, 88]], [[76, 68, 88], [79, 82], [65, 78, 68], [88, 79, 82], [65, 68, 68], [83, 68], [83, 72, 82], [83, 77], [76, 68, 73], [79, 82, 73], [65, 78, 73], [88, 82, 73], [65, 68, 73], [83, 68, 73], [83, 72, 76], [83, 77, 73]]]
def nl (h : Nat) : List (List UInt8) := nlL.getD h []
theorem str_alloc (w : World) (l : List (List UInt8)) (j : Nat) (hj : j < l.length) : (w.alloc (.cells (l.map asStr).toArray 9)).cell? ⟨w.heap.size, j, none⟩ = some (asStr (l.getD j [])) := by
  rw [World.cell?_alloc_new]
  have := at_map l asStr [] j hj
  simpa using this
theorem rnames_any (h : Nat) (w : World) (hh : h < 16) : Calls Tryd.prog 97 #[.int .i64 h] w fun e w' => ∃ b, w.heap.size ≤ b ∧ e = .returned (.slice (some ⟨b, 0, none⟩) (nl h).length (nl h).length) ∧ (∀ j, j < (nl h).length → w'.cell? ⟨b, j, none⟩ = some (asStr ((nl h).getD j []))) ∧ Below w.heap.size w w' := by
  rcases (show h = 0 ∨ h = 1 ∨ h = 2 ∨ h = 3 ∨ h = 4 ∨ h = 5 ∨ h = 6 ∨ h = 7 ∨ h = 8 ∨ h = 9 ∨ h = 10 ∨ h = 11 ∨ h = 12 ∨ h = 13 ∨ h = 14 ∨ h = 15 by omega) with rfl | rfl | rfl | rfl | rfl | rfl | rfl | rfl | rfl | rfl | rfl | rfl | rfl | rfl | rfl | rfl
  all_goals
    go_enter Tryd.func97, Tryd.ntmps97
    go_wp2
    go_ret
    exact ⟨_, Nat.le_refl _, rfl, fun j hj => str_alloc w (nl _) j hj, (Below.refl _ _).alloc (Nat.le_refl _) _⟩

theorem nl_name (n : Nat) (h : n < 256) : n ≠ 0 → nmB n = (if (nl (n / 16)).length = 1 then (nl (n / 16)).getD 0 [] else (nl (n / 16)).getD (n % 16) []) ∧ ((nl (n / 16)).length = 1 ∨ (nl (n / 16)).length = 16) := by revert n; decide +kernel
theorem nm_idl : nm 0 = ⟨#[73, 68, 76]⟩ := by rw [nm_eq]; exact congrArg ByteArray.mk (by decide +kernel)

theorem rname_any (n : Nat) (w : World) (h : n < 256) : Calls Tryd.prog 76 #[.int .u8 n] w fun e w' => e = .returned (.string (nm n)) ∧ Below w.heap.size w w' := by
  by_cases h0 : n = 0
  · subst h0
    rw [nm_idl]
    go_enter Tryd.func76, Tryd.ntmps76
    go_wp2
    go_ret
    exact ⟨rfl, Below.refl _ _⟩
  · obtain ⟨hn, hlen⟩ := nl_name n h h0
    have hN := rnames_any (n / 16) w (by omega)
    obtain ⟨X, hX⟩ : ∃ X, Hid (nm n = X) := ⟨_, (rfl : nm n = nm n)⟩
    rw [hX.out]
    have h0' : ((n : Int) == 0) = false := by simp; omega
    rcases hlen with hl | hl
    · rw [hl] at hN
      rw [hl, if_pos rfl] at hn
      have hX' : asStr ((nl (n / 16)).getD 0 []) = .string X := by unfold asStr; rw [← hX.out, nm_eq, hn]
      simp only [Int.natCast_ediv, Int.cast_ofNat_Int] at hN
      go_enter Tryd.func76, Tryd.ntmps76
      go_wp2_with (go_at_call 97; refine hN.mono ?_; rintro e v1 ⟨b, hb, rfl, hc, hB⟩; have c0 := hc 0 (by decide); rw [hX'] at c0; clear hc; have i0 : ∀ w, (Instr.indexAt 67 (.slice (some ⟨b, 0, none⟩) 1 1) (.int .i64 0)).run Tryd.prog w = .ok (.pointer (some ⟨b, 0, none⟩)) w := fun w => idxS (g := b) (off := 0) Tryd.underlying67 (s := 1) (by kernel_rfl) .i64 0 w (by decide))
      go_ret
      exact ⟨rfl, hB⟩
    · rw [hl] at hN
      rw [hl, if_neg (by decide)] at hn
      have hX' : asStr ((nl (n / 16)).getD (n % 16) []) = .string X := by unfold asStr; rw [← hX.out, nm_eq, hn]
      simp only [Int.natCast_ediv, Int.cast_ofNat_Int] at hN
      go_enter Tryd.func76, Tryd.ntmps76
      go_wp2_with (go_at_call 97; refine hN.mono ?_; rintro e v1 ⟨b, hb, rfl, hc, hB⟩; have c0 := hc (n % 16) (by omega); rw [hX'] at c0; clear hc; have i0 := fun w => idxS (g := b) (off := 0) (len := 16) (cap := 16) Tryd.underlying67 (s := 1) (by kernel_rfl) .i64 (n % 16) w (by omega); simp only [Int.natCast_emod, Int.cast_ofNat_Int, Nat.zero_add, Nat.mul_one] at i0)
      go_ret
      exact ⟨rfl, hB⟩
end Go.Proofs.YtfdjifgmlgpjgaaDoor
