/- code.Bus: what it returns of every op, in both cycles. -/
import Derived.Test.YtbeeefekndcgnaaGreatDoorInfo
namespace Go.Proofs.YtbeeefekndcgnaaGreatDoor
open Go.RowKit
set_option linter.unusedVariables false
set_option maxHeartbeats 400000

theorem low3' (m : Nat) (h : m < 16) : bits .and .u8 ((m : Nat) : Int) 7 = ((m % 8 : Nat) : Int) := by
  have : ∀ n : Nat, n < 16 → bits .and .u8 (n : Int) 7 = ((n % 8 : Nat) : Int) := by decide +kernel
  exact this m h
theorem rowUs_lt (i : Nat) (h : i < 16) : rowUs i < 12 := by revert i; decide +kernel
theorem splUs_lt (i : Nat) (h : i < 96) : splUs i < 12 := by revert i; decide +kernel

/-- The kind of use that an op has, by the program's tables. -/
def ku (n : Nat) : Nat := if spr (n / 16) = 0 then rowUs (n / 16) else splUs ((spr (n / 16) - 1) * 16 + n % 16)
def puse0 : Value := .agg #[.int .u8 0, .bool false, .bool false, .bool false, .int .u8 0]

theorem bus_no (n : Nat) (w : World) (h : n < 256) (hc : n / 16 ≠ 12) :
    Calls Tryz.prog 35 #[.int .u8 n, .bool true] w fun e w' => e = .returned puse0 ∧ Below w.heap.size w w' := by
  have hl := low4 n h
  have hc' : ((n : Int) / 16 != 12) = true := by simp; omega
  go_enter Tryz.func35, Tryz.ntmps35
  go_wp2
  go_returns
  refine ⟨rfl, ?_⟩
  repeat (first | exact Below.refl _ _ | refine below_put ?_ (Nat.le_refl _) | refine below_drewN ?_ | refine Below.alloc ?_ (Nat.le_refl _) _)

theorem bus_row (n K : Nat) (b : Bool) (w : World) (T : Tabs w) (h : n < 256) (hs : spr (n / 16) = 0) (hb : b = false) (hc : n / 16 ≠ 6) (hK : Hid (rowUs (n / 16) = K)) :
    Calls Tryz.prog 35 #[.int .u8 n, .bool b] w fun e w' => e = .returned (.agg #[.int .u8 (useN K : Nat), .bool (useR K), .bool (useW K), .bool (useO K), .int .u8 0]) ∧ Below w.heap.size w w' := by
  subst hb
  have hK12 : K < 12 := by have := rowUs_lt (n / 16) (by omega); rw [hK.out] at this; exact this
  have a2 := T.sr (n / 16) (by omega)
  have a6 := T.ru (n / 16) (by omega)
  rw [hK.out] at a6
  obtain ⟨u0, u1, u2, u3, u4⟩ := T.us K hK12
  rw [hs] at a2
  have hz := T.size
  have z2 : 2 < w.heap.size := by omega
  have z6 : 6 < w.heap.size := by omega
  have z8 : 8 < w.heap.size := by omega
  have i2 := fun w => idx (g := 2) (off := 0) Tryz.underlying80 (s := 1) (by kernel_rfl) .u8 (n / 16) w (by omega)
  have i6 := fun w => idx (g := 6) (off := 0) Tryz.underlying80 (s := 1) (by kernel_rfl) .u8 (n / 16) w (by omega)
  have i8 := fun w => idx (g := 8) (off := 0) Tryz.underlying87 (s := 5) (by kernel_rfl) .u8 K w hK12
  simp only [Int.natCast_ediv, Nat.zero_add, Nat.mul_one, Int.cast_ofNat_Int] at i2 i6 i8
  have hl := low4 n h
  have hc' : ((n : Int) / 16 == 6) = false := by simp; omega
  clear T
  go_enter Tryz.func35, Tryz.ntmps35
  go_wp2
  go_returns
  refine ⟨rfl, ?_⟩
  repeat (first | exact Below.refl _ _ | refine below_put ?_ (Nat.le_refl _) | refine below_put ?_ (Nat.le_succ _) | refine below_drewN ?_ | refine Below.alloc ?_ (Nat.le_refl _) _ | refine Below.alloc ?_ (by simp) _)

theorem bus_spl_f6 (n k K : Nat) (w : World) (T : Tabs w) (h : n < 256) (hs : spr (n / 16) = k + 1) (hc : n / 16 = 6) (hK : Hid (splUs (k * 16 + n % 16) = K)) :
    Calls Tryz.prog 35 #[.int .u8 n, .bool false] w fun e w' => e = .returned (.agg #[.int .u8 (useN K : Nat), .bool (useR K), .bool (useW K), .bool (useO K), .int .u8 (n % 8 : Nat)]) ∧ Below w.heap.size w w' := by
  have hk := spr_le (n / 16) (by omega)
  have hK12 : K < 12 := by have := splUs_lt (k * 16 + n % 16) (by omega); rw [hK.out] at this; exact this
  have a2 := T.sr (n / 16) (by omega)
  have a6 := T.ru (n / 16) (by omega)
  have a7 := T.su (k * 16 + n % 16) (by omega)
  rw [hK.out] at a7
  obtain ⟨u0, u1, u2, u3, u4⟩ := T.us K hK12
  rw [hs] at a2
  have hz := T.size
  have z2 : 2 < w.heap.size := by omega
  have z6 : 6 < w.heap.size := by omega
  have z7 : 7 < w.heap.size := by omega
  have z8 : 8 < w.heap.size := by omega
  have i2 := fun w => idx (g := 2) (off := 0) Tryz.underlying80 (s := 1) (by kernel_rfl) .u8 (n / 16) w (by omega)
  have i6 := fun w => idx (g := 6) (off := 0) Tryz.underlying80 (s := 1) (by kernel_rfl) .u8 (n / 16) w (by omega)
  have i7 := fun w => idx (g := 7) (off := 0) Tryz.underlying86 (s := 16) (by kernel_rfl) .u8 k w (by omega)
  have i7' := fun w => idx (g := 7) (off := k * 16) Tryz.underlying80 (s := 1) (by kernel_rfl) .u8 (n % 16) w (by omega)
  have i8 := fun w => idx (g := 8) (off := 0) Tryz.underlying87 (s := 5) (by kernel_rfl) .u8 K w hK12
  simp only [Int.natCast_ediv, Int.natCast_emod, Nat.zero_add, Nat.mul_one, Int.cast_ofNat_Int] at i2 i6 i7 i7' i8
  have hl := low4 n h
  have hk1 : ((k + 1 : Nat) : Int) = (k : Int) + 1 := by omega
  rw [hk1] at a2
  have hc' : ((n : Int) / 16 == 6) = true := by simp; omega
  clear hc
  have h7 := low3' (n % 16) (by omega)
  rw [Int.natCast_emod, show n % 16 % 8 = n % 8 by omega] at h7
  simp only [Int.cast_ofNat_Int] at h7
  clear T
  go_enter Tryz.func35, Tryz.ntmps35
  go_wp2
  go_returns
  refine ⟨by first | rfl | simp, ?_⟩
  repeat (first | exact Below.refl _ _ | refine below_put ?_ (Nat.le_refl _) | refine below_put ?_ (Nat.le_succ _) | refine below_drewN ?_ | refine Below.alloc ?_ (Nat.le_refl _) _ | refine Below.alloc ?_ (by simp) _)

theorem bus_spl_f (n k K : Nat) (w : World) (T : Tabs w) (h : n < 256) (hs : spr (n / 16) = k + 1) (hc : n / 16 ≠ 6) (hK : Hid (splUs (k * 16 + n % 16) = K)) :
    Calls Tryz.prog 35 #[.int .u8 n, .bool false] w fun e w' => e = .returned (.agg #[.int .u8 (useN K : Nat), .bool (useR K), .bool (useW K), .bool (useO K), .int .u8 0]) ∧ Below w.heap.size w w' := by
  have hk := spr_le (n / 16) (by omega)
  have hK12 : K < 12 := by have := splUs_lt (k * 16 + n % 16) (by omega); rw [hK.out] at this; exact this
  have a2 := T.sr (n / 16) (by omega)
  have a6 := T.ru (n / 16) (by omega)
  have a7 := T.su (k * 16 + n % 16) (by omega)
  rw [hK.out] at a7
  obtain ⟨u0, u1, u2, u3, u4⟩ := T.us K hK12
  rw [hs] at a2
  have hz := T.size
  have z2 : 2 < w.heap.size := by omega
  have z6 : 6 < w.heap.size := by omega
  have z7 : 7 < w.heap.size := by omega
  have z8 : 8 < w.heap.size := by omega
  have i2 := fun w => idx (g := 2) (off := 0) Tryz.underlying80 (s := 1) (by kernel_rfl) .u8 (n / 16) w (by omega)
  have i6 := fun w => idx (g := 6) (off := 0) Tryz.underlying80 (s := 1) (by kernel_rfl) .u8 (n / 16) w (by omega)
  have i7 := fun w => idx (g := 7) (off := 0) Tryz.underlying86 (s := 16) (by kernel_rfl) .u8 k w (by omega)
  have i7' := fun w => idx (g := 7) (off := k * 16) Tryz.underlying80 (s := 1) (by kernel_rfl) .u8 (n % 16) w (by omega)
  have i8 := fun w => idx (g := 8) (off := 0) Tryz.underlying87 (s := 5) (by kernel_rfl) .u8 K w hK12
  simp only [Int.natCast_ediv, Int.natCast_emod, Nat.zero_add, Nat.mul_one, Int.cast_ofNat_Int] at i2 i6 i7 i7' i8
  have hl := low4 n h
  have hk1 : ((k + 1 : Nat) : Int) = (k : Int) + 1 := by omega
  rw [hk1] at a2
  have hc' : ((n : Int) / 16 == 6) = false := by simp; omega
  clear hc
  clear T
  go_enter Tryz.func35, Tryz.ntmps35
  go_wp2
  go_returns
  refine ⟨by first | rfl | simp, ?_⟩
  repeat (first | exact Below.refl _ _ | refine below_put ?_ (Nat.le_refl _) | refine below_put ?_ (Nat.le_succ _) | refine below_drewN ?_ | refine Below.alloc ?_ (Nat.le_refl _) _ | refine Below.alloc ?_ (by simp) _)

theorem bus_spl_t (n k K : Nat) (w : World) (T : Tabs w) (h : n < 256) (hs : spr (n / 16) = k + 1) (hc : n / 16 = 12) (hK : Hid (splUs (k * 16 + n % 16) = K)) :
    Calls Tryz.prog 35 #[.int .u8 n, .bool true] w fun e w' => e = .returned (.agg #[.int .u8 (useN K : Nat), .bool (useR K), .bool (useW K), .bool (useO K), .int .u8 0]) ∧ Below w.heap.size w w' := by
  have hk := spr_le (n / 16) (by omega)
  have hK12 : K < 12 := by have := splUs_lt (k * 16 + n % 16) (by omega); rw [hK.out] at this; exact this
  have a2 := T.sr (n / 16) (by omega)
  have a6 := T.ru (n / 16) (by omega)
  have a7 := T.su (k * 16 + n % 16) (by omega)
  rw [hK.out] at a7
  obtain ⟨u0, u1, u2, u3, u4⟩ := T.us K hK12
  rw [hs] at a2
  have hz := T.size
  have z2 : 2 < w.heap.size := by omega
  have z6 : 6 < w.heap.size := by omega
  have z7 : 7 < w.heap.size := by omega
  have z8 : 8 < w.heap.size := by omega
  have i2 := fun w => idx (g := 2) (off := 0) Tryz.underlying80 (s := 1) (by kernel_rfl) .u8 (n / 16) w (by omega)
  have i6 := fun w => idx (g := 6) (off := 0) Tryz.underlying80 (s := 1) (by kernel_rfl) .u8 (n / 16) w (by omega)
  have i7 := fun w => idx (g := 7) (off := 0) Tryz.underlying86 (s := 16) (by kernel_rfl) .u8 k w (by omega)
  have i7' := fun w => idx (g := 7) (off := k * 16) Tryz.underlying80 (s := 1) (by kernel_rfl) .u8 (n % 16) w (by omega)
  have i8 := fun w => idx (g := 8) (off := 0) Tryz.underlying87 (s := 5) (by kernel_rfl) .u8 K w hK12
  simp only [Int.natCast_ediv, Int.natCast_emod, Nat.zero_add, Nat.mul_one, Int.cast_ofNat_Int] at i2 i6 i7 i7' i8
  have hl := low4 n h
  have hk1 : ((k + 1 : Nat) : Int) = (k : Int) + 1 := by omega
  rw [hk1] at a2
  have hc' : ((n : Int) / 16 == 6) = false := by simp; omega
  have hc'' : ((n : Int) / 16 != 12) = false := by simp; omega
  clear hc
  clear T
  go_enter Tryz.func35, Tryz.ntmps35
  go_wp2
  go_returns
  refine ⟨by first | rfl | simp, ?_⟩
  repeat (first | exact Below.refl _ _ | refine below_put ?_ (Nat.le_refl _) | refine below_put ?_ (Nat.le_succ _) | refine below_drewN ?_ | refine Below.alloc ?_ (Nat.le_refl _) _ | refine Below.alloc ?_ (by simp) _)

/-- What Bus says of an op, in its first cycle or its second. -/
def pbusV (n : Nat) (b : Bool) : Value :=
  if b = true ∧ n / 16 ≠ 12 then puse0 else .agg #[.int .u8 (useN (ku n) : Nat), .bool (useR (ku n)), .bool (useW (ku n)), .bool (useO (ku n)), .int .u8 (if n / 16 = 6 then n % 8 else 0 : Nat)]
theorem bus_any (n : Nat) (b : Bool) (w : World) (T : Tabs w) (h : n < 256) :
    Calls Tryz.prog 35 #[.int .u8 n, .bool b] w fun e w' => e = .returned (pbusV n b) ∧ Below w.heap.size w w' := by
  unfold pbusV
  by_cases hno : b = true ∧ n / 16 ≠ 12
  · rw [if_pos hno]
    obtain ⟨rfl, hc⟩ := hno
    exact bus_no n w h hc
  · rw [if_neg hno]
    rcases hs : spr (n / 16) with _ | k
    · have h6 : n / 16 ≠ 6 := by intro e; rw [e] at hs; revert hs; decide
      have h12 : n / 16 ≠ 12 := by intro e; rw [e] at hs; revert hs; decide
      have hb : b = false := by cases b; rfl; exact absurd ⟨rfl, h12⟩ hno
      have := bus_row n _ b w T h hs hb h6 (show rowUs (n / 16) = rowUs (n / 16) from rfl)
      unfold ku
      rw [if_pos hs, if_neg h6]
      exact this
    · have e : ku n = splUs (k * 16 + n % 16) := by unfold ku; rw [if_neg (by omega), show spr (n / 16) - 1 = k from by omega]
      rw [e]
      cases b
      · by_cases h6 : n / 16 = 6
        · rw [if_pos h6]
          exact bus_spl_f6 n k _ w T h hs h6 (show splUs (k * 16 + n % 16) = splUs (k * 16 + n % 16) from rfl)
        · rw [if_neg h6]
          exact bus_spl_f n k _ w T h hs h6 (show splUs (k * 16 + n % 16) = splUs (k * 16 + n % 16) from rfl)
      · have h12 : n / 16 = 12 := by
          rcases Decidable.em (n / 16 = 12) with h | h
          · exact h
          · exact absurd ⟨rfl, h⟩ hno
        rw [if_neg (by omega)]
        exact bus_spl_t n k _ w T h hs h12 (show splUs (k * 16 + n % 16) = splUs (k * 16 + n % 16) from rfl)
end Go.Proofs.YtbeeefekndcgnaaGreatDoor
