/- What a label's name is. -/
import Derived.Test.YtfdikiafbfljaaaDoorGn
import Derived.BigQuiet
namespace Go.Proofs.YtfdikiafbfljaaaDoor
open Go Go.RowKit
set_option linter.unusedVariables false
set_option maxHeartbeats 3000000
set_option maxRecDepth 20000

theorem bool_ret {a b : Bool} (h : a = b) : Ending.returned (.bool a) = .returned (.bool b) := by rw [h]
def nmc (c : UInt8) : Bool := decide ((97 ≤ c.toNat ∧ c.toNat ≤ 122) ∨ (48 ≤ c.toNat ∧ c.toNat ≤ 57) ∨ c.toNat = 45)
/-- Is it a label's name? -/
def isNm (s : ByteArray) : Bool := decide (0 < s.size ∧ s.size ≤ 16 ∧ (∃ h : 0 < s.size, 97 ≤ (s[0]'h).toNat ∧ (s[0]'h).toNat ≤ 122) ∧ ∀ j (h : j < s.size), nmc (s[j]'h) = true)
theorem size_zero {s : ByteArray} (h : s.size = 0) : s = ⟨#[]⟩ := by
  cases s with
  | mk d =>
    congr 1
    exact Array.size_eq_zero_iff.1 h
theorem ne_empty {s : ByteArray} (h : 0 < s.size) : ¬ s = ⟨#[]⟩ := fun e => by rw [e] at h; exact absurd h (by decide)
theorem letter_yes (x : Int) (w : World) (h1 : 97 ≤ x) (h2 : x ≤ 122) : Calls Tryd.prog 81 #[.int .u8 x] w fun e w' => e = .returned (.bool true) ∧ w' = w := by
  go_enter Tryd.func81, Tryd.ntmps81
  go_wp2
  go_ret
  exact ⟨rfl, rfl⟩
theorem letter_no (x : Int) (w : World) (h : x < 97 ∨ 122 < x) : Calls Tryd.prog 81 #[.int .u8 x] w fun e w' => e = .returned (.bool false) ∧ w' = w := by
  by_cases h1 : x < 97
  · have h' : ¬ 97 ≤ x := by omega
    clear h h1
    go_enter Tryd.func81, Tryd.ntmps81
    go_wp2
    go_ret
    exact ⟨rfl, rfl⟩
  · have h1' : 97 ≤ x := by omega
    have h2 : ¬ x ≤ 122 := by omega
    clear h h1
    go_enter Tryd.func81, Tryd.ntmps81
    go_wp2
    go_ret
    exact ⟨rfl, rfl⟩
theorem dig_yes (x : Int) (w : World) (h1 : 48 ≤ x) (h2 : x ≤ 57) : Calls Tryd.prog 82 #[.int .u8 x] w fun e w' => e = .returned (.bool true) ∧ w' = w := by
  go_enter Tryd.func82, Tryd.ntmps82
  go_wp2
  go_ret
  exact ⟨rfl, rfl⟩
theorem dig_no (x : Int) (w : World) (h : x < 48 ∨ 57 < x) : Calls Tryd.prog 82 #[.int .u8 x] w fun e w' => e = .returned (.bool false) ∧ w' = w := by
  by_cases h1 : x < 48
  · have h' : ¬ 48 ≤ x := by omega
    clear h h1
    go_enter Tryd.func82, Tryd.ntmps82
    go_wp2
    go_ret
    exact ⟨rfl, rfl⟩
  · have h1' : 48 ≤ x := by omega
    have h2 : ¬ x ≤ 57 := by omega
    clear h h1
    go_enter Tryd.func82, Tryd.ntmps82
    go_wp2
    go_ret
    exact ⟨rfl, rfl⟩

theorem pisname_any (s : ByteArray) (w : World) : Calls Tryd.prog 71 #[.string s] w fun e w' => e = .returned (.bool (isNm s)) ∧ w' = w := by
  obtain ⟨b, hb⟩ : ∃ b, Hid (isNm s = b) := ⟨_, (rfl : isNm s = isNm s)⟩
  rw [hb.out]
  by_cases h0 : s.size = 0
  · have fin : Hid (isNm s = false) := decide_eq_false fun h => by omega
    have hp : (s.size : Int) < 1 := by omega
    clear h0
    go_enter Tryd.func71, Tryd.ntmps71
    go_wp2
    go_ret
    exact ⟨bool_ret (by rw [← hb.out, fin.out]), rfl⟩
  have hp : (0 : Int) < s.size := by omega
  have hp1 : ¬ (s.size : Int) < 1 := by omega
  by_cases h1 : s.size ≤ 16
  · have h1i : (s.size : Int) ≤ 16 := by omega
    have h1n : ¬ (16 : Int) < s.size := by omega
    by_cases h2 : 97 ≤ (s[0]'(by omega)).toNat ∧ (s[0]'(by omega)).toNat ≤ 122
    · have hL0 := fun v => letter_yes ((s[0]'(by omega)).toNat : Int) v (by omega) (by omega)
      have h2' : Hid (97 ≤ (s[0]'(by omega)).toNat ∧ (s[0]'(by omega)).toNat ≤ 122) := h2
      clear h2
      go_enter Tryd.func71, Tryd.ntmps71
      go_wp2_with (go_at_call 81; refine (hL0 _).mono ?_; rintro e y ⟨rfl, rfl⟩)
      go_loopw [20] (fun i wz => ∃ p : Nat, p ≤ s.size ∧ i = .int .i64 (p : Int) ∧ Hid (∀ j (h : j < s.size), j < p → nmc (s[j]'h) = true) ∧ wz = y) (fun i _ => (s.size - intOf i).toNat)
      case atStart => exact ⟨0, by omega, rfl, (fun j _ h => absurd h (by omega) : ∀ j (h : j < s.size), j < 0 → nmc (s[j]'h) = true), rfl⟩
      case round =>
        obtain ⟨p, hps, rfl, J, rfl⟩ := hrel
        by_cases hlt : p < s.size
        · have hpi : (p : Int) < s.size := by omega
          have hlt' : Hid (p < s.size) := hlt
          by_cases hn : nmc (s[p]'hlt) = true
          · have fin : Hid (∀ j (h : j < s.size), j < p + 1 → nmc (s[j]'h) = true) := fun j h hj => by
              rcases Nat.lt_succ_iff_lt_or_eq.1 hj with h' | rfl
              · exact J.out j h h'
              · exact hn
            have hn' := of_decide_eq_true hn
            replace hn : Hid _ := hn
            rcases (show (97 : Int) ≤ ((s[p]'hlt).toNat : Int) ∧ ((s[p]'hlt).toNat : Int) ≤ 122 ∨ (48 : Int) ≤ ((s[p]'hlt).toNat : Int) ∧ ((s[p]'hlt).toNat : Int) ≤ 57 ∨ ((s[p]'hlt).toNat : Int) = 45 by omega) with k | k | k
            · have hL := fun v => letter_yes ((s[p]'hlt).toNat : Int) v k.1 k.2
              clear hn' k
              go_wp2_with (go_at_call 81; refine (hL _).mono ?_; rintro e y2 ⟨rfl, rfl⟩)
              go_roundw
              case rel => exact ⟨p + 1, by have := hlt'.out; omega, by simp, fin, by first | trivial | rfl⟩
              case measure => have := hlt'.out; simp [intOf]; omega
            · have hL := fun v => letter_no ((s[p]'hlt).toNat : Int) v (by omega)
              have hD := fun v => dig_yes ((s[p]'hlt).toNat : Int) v k.1 k.2
              clear hn' k
              go_wp2_with (first | (go_at_call 81; refine (hL _).mono ?_; rintro e y2 ⟨rfl, rfl⟩) | (go_at_call 82; refine (hD _).mono ?_; rintro e y3 ⟨rfl, rfl⟩))
              go_roundw
              case rel => exact ⟨p + 1, by have := hlt'.out; omega, by simp, fin, by first | trivial | rfl⟩
              case measure => have := hlt'.out; simp [intOf]; omega
            · have hL := fun v => letter_no ((s[p]'hlt).toNat : Int) v (by omega)
              have hD := fun v => dig_no ((s[p]'hlt).toNat : Int) v (by omega)
              have e_e : (((s[p]'hlt).toNat : Int) != 45) = false := by rw [bne_eq_false_iff_eq]; omega
              clear hn' k
              go_wp2_with (first | (go_at_call 81; refine (hL _).mono ?_; rintro e y2 ⟨rfl, rfl⟩) | (go_at_call 82; refine (hD _).mono ?_; rintro e y3 ⟨rfl, rfl⟩))
              go_roundw
              case rel => exact ⟨p + 1, by have := hlt'.out; omega, by simp, fin, by first | trivial | rfl⟩
              case measure => have := hlt'.out; simp [intOf]; omega
          · have fin : Hid (isNm s = false) := decide_eq_false fun h => hn (h.2.2.2 p hlt)
            have hn' : ¬ ((97 ≤ (s[p]'hlt).toNat ∧ (s[p]'hlt).toNat ≤ 122) ∨ (48 ≤ (s[p]'hlt).toNat ∧ (s[p]'hlt).toNat ≤ 57) ∨ (s[p]'hlt).toNat = 45) := fun h => hn (decide_eq_true h)
            replace hn : Hid _ := hn
            have hL := fun v => letter_no ((s[p]'hlt).toNat : Int) v (by omega)
            have hD := fun v => dig_no ((s[p]'hlt).toNat : Int) v (by omega)
            have e_e : (((s[p]'hlt).toNat : Int) != 45) = true := by rw [bne_iff_ne]; omega
            clear hn'
            go_wp2_with (first | (go_at_call 81; refine (hL _).mono ?_; rintro e y2 ⟨rfl, rfl⟩) | (go_at_call 82; refine (hD _).mono ?_; rintro e y3 ⟨rfl, rfl⟩))
            go_ret
            exact ⟨bool_ret (by rw [← hb.out, fin.out]), rfl⟩
        · have hpe : p = s.size := by omega
          subst hpe
          go_wp2
          go_ret
          exact ⟨bool_ret (by rw [← hb.out]; exact (decide_eq_true ⟨by omega, h1, ⟨by omega, h2'.out⟩, fun j h => J.out j h h⟩).symm), rfl⟩
    · have fin : Hid (isNm s = false) := decide_eq_false fun h => h2 h.2.2.1.2
      have hL0 := fun v => letter_no ((s[0]'(by omega)).toNat : Int) v (by omega)
      clear h2
      go_enter Tryd.func71, Tryd.ntmps71
      go_wp2_with (go_at_call 81; refine (hL0 _).mono ?_; rintro e y ⟨rfl, rfl⟩)
      go_ret
      exact ⟨bool_ret (by rw [← hb.out, fin.out]), rfl⟩
  · have h1i : (16 : Int) < s.size := by omega
    have fin : Hid (isNm s = false) := decide_eq_false fun h => h1 h.2.1
    go_enter Tryd.func71, Tryd.ntmps71
    go_wp2
    go_ret
    exact ⟨bool_ret (by rw [← hb.out, fin.out]), rfl⟩

end Go.Proofs.YtfdikiafbfljaaaDoor
