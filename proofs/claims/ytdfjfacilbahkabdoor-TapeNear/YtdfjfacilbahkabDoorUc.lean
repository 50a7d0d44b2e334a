/- The document's reading of a byte. -/
import Derived.Test.YtdfjfacilbahkabDoorUb
namespace Go.Proofs.YtdfjfacilbahkabDoor
open Go Go.RowKit
set_option linter.unusedVariables false
set_option maxHeartbeats 1000000
set_option maxRecDepth 20000

theorem leadW_rest (L : List (Int × Int)) : ∀ (l : List (Int × Int)) (i : Nat), l = L.drop i → i ≤ L.length → (leadW l i).1 = 0 → (leadW l i).2.2 = L.drop (leadW l i).2.1 ∧ i < (leadW l i).2.1 ∧ (leadW l i).2.1 ≤ L.length := by
  intro l
  induction l with
  | nil => intro i _ _ h; exact absurd h (by simp [leadW])
  | cons p l ih =>
    intro i hl hi h
    have hlt : i < L.length := by
      rcases Nat.lt_or_ge i L.length with h | h
      · exact h
      · rw [List.drop_eq_nil_of_le h] at hl
        cases hl
    have hd : l = L.drop (i + 1) := by
      have := congrArg List.tail hl
      simpa using this
    unfold leadW at h ⊢
    split at h
    · exact absurd h (by simp)
    · split at h
      · rename_i h1 h2
        rw [if_neg h1, if_pos h2]
        have := ih (i + 1) hd hlt h
        exact ⟨this.1, by omega, this.2.2⟩
      · rename_i h1 h2
        rw [if_neg h1, if_neg h2]
        exact ⟨hd, by simp, hlt⟩
theorem nineW_rest (L : List (Int × Int)) : ∀ (k : Nat) (l : List (Int × Int)) (i : Nat) (v o w : Int), l = L.drop i → i ≤ L.length → (nineW k l i v o w).1 = 0 → (nineW k l i v o w).2.2.2.2 = L.drop (nineW k l i v o w).2.1 ∧ (nineW k l i v o w).2.1 = i + k ∧ (nineW k l i v o w).2.1 ≤ L.length := by
  intro k
  induction k with
  | zero => intro l i v o w hl hi _; exact ⟨hl, rfl, hi⟩
  | succ k ih =>
    intro l i v o w hl hi h
    cases l with
    | nil => exact absurd h (by simp [nineW])
    | cons p l =>
      have hlt : i < L.length := by
        rcases Nat.lt_or_ge i L.length with h | h
        · exact h
        · rw [List.drop_eq_nil_of_le h] at hl
          cases hl
      have hd : l = L.drop (i + 1) := by
        have := congrArg List.tail hl
        simpa using this
      unfold nineW at h ⊢
      split at h
      · exact absurd h (by simp)
      · rename_i h1
        rw [if_neg h1]
        have := ih l (i + 1) _ _ _ hd hlt h
        exact ⟨this.1, by omega, this.2.2⟩
theorem byteL_rest (L : List (Int × Int)) (i : Nat) (hi : i ≤ L.length) (h : (byteL (L.drop i) i).2.1 = 0) : (byteL (L.drop i) i).2.2.2 = L.drop (byteL (L.drop i) i).2.2.1 ∧ (byteL (L.drop i) i).2.2.1 ≤ L.length := by
  unfold byteL at h ⊢
  split at h
  · rename_i h1
    exact absurd h h1
  · rename_i h1
    have a := leadW_rest L _ i rfl hi (by omega)
    split at h
    · rename_i h2
      exact absurd h h2
    · rename_i h2
      have b := nineW_rest L 9 _ _ 0 0 1 a.1 a.2.2 (by omega)
      split at h
      · exact absurd h (by simp)
      · rename_i h3
        rw [if_neg h1, if_neg h2, if_neg h3]
        exact ⟨b.1, b.2.2⟩
theorem nineW_lo (k : Nat) : ∀ (l : List (Int × Int)) (i : Nat) (v o w : Int), 0 ≤ v → v < w → (nineW k l i v o w).1 = 0 → 0 ≤ (nineW k l i v o w).2.2.1 ∧ (nineW k l i v o w).2.2.1 < w * 2 ^ (k - 1) := by
  induction k with
  | zero => intro l i v o w h0 h1 _; exact ⟨h0, by simpa [nineW] using h1⟩
  | succ k ih =>
    intro l i v o w h0 h1 h
    cases l with
    | nil => exact absurd h (by simp [nineW])
    | cons p l =>
      unfold nineW at h ⊢
      split at h
      · exact absurd h (by simp)
      · rename_i hp
        rw [if_neg hp]
        have hb := bitW_cases p
        rcases Nat.eq_zero_or_pos k with e | e
        · subst e
          simp only [Nat.lt_irrefl, if_false] at h ⊢
          exact ⟨h0, by simpa [nineW] using h1⟩
        · simp only [e, if_true] at h ⊢
          have hw : 0 ≤ bitW p * w ∧ bitW p * w ≤ w := by
            rcases hb with e1 | e1 | e1
            · omega
            · rw [e1]; omega
            · rw [e1]; omega
          have := ih l (i + 1) (v + bitW p * w) (o + bitW p) (2 * w) (by omega) (by omega) h
          refine ⟨this.1, ?_⟩
          have e2 : 2 * w * 2 ^ (k - 1) = w * 2 ^ (k + 1 - 1) := by
            rw [show k + 1 - 1 = (k - 1) + 1 by omega, Int.pow_succ, Int.mul_comm 2 w, Int.mul_assoc, Int.mul_comm 2]
          rw [← e2]
          exact this.2
theorem byteL_lo (l : List (Int × Int)) (i : Nat) : 0 ≤ (byteL l i).1 ∧ (byteL l i).1 < 256 := by
  unfold byteL
  split
  · simp
  · split
    · simp
    · rename_i h2
      have := nineW_lo 9 (leadW l i).2.2 (leadW l i).2.1 0 0 1 (by omega) (by omega) (by omega)
      split
      · simp
      · exact ⟨this.1, by simpa using this.2⟩
end Go.Proofs.YtdfjfacilbahkabDoor
