/- Items of a source: what a label's name is, by plain mathematics and by the document. -/
import Derived.Test.YtkpfhnogpcigaaaDoorRJGn
import Derived.Test.YtkpfhnogpcigaaaDoorRJOStr
namespace Go.Proofs.YtkpfhnogpcigaaaDoorR
open Go Go.RowKit
set_option linter.unusedVariables false
set_option maxHeartbeats 3000000
set_option maxRecDepth 20000

def nmc (c : UInt8) : Bool := decide ((97 ≤ c.toNat ∧ c.toNat ≤ 122) ∨ (48 ≤ c.toNat ∧ c.toNat ≤ 57) ∨ c.toNat = 45)
/-- Is it a label's name? -/
def isNm (s : ByteArray) : Bool := decide (0 < s.size ∧ s.size ≤ 16 ∧ (∃ h : 0 < s.size, 97 ≤ (s[0]'h).toNat ∧ (s[0]'h).toNat ≤ 122) ∧ ∀ j (h : j < s.size), nmc (s[j]'h) = true)
theorem size_zero {s : ByteArray} (h : s.size = 0) : s = ⟨#[]⟩ := by
  cases s with
  | mk d =>
    congr 1
    exact Array.size_eq_zero_iff.1 h
theorem ne_empty {s : ByteArray} (h : 0 < s.size) : ¬ s = ⟨#[]⟩ := fun e => by rw [e] at h; exact absurd h (by decide)
theorem emp_is (s : ByteArray) : s.toList.isEmpty = decide (s.size = 0) := by
  rw [toList_eq]
  rcases h : s.data.toList with _ | ⟨a, r⟩
  · have : s.size = 0 := by show s.data.size = 0; rw [← Array.length_toList, h]; rfl
    simp [this]
  · have : s.size ≠ 0 := by show s.data.size ≠ 0; rw [← Array.length_toList, h]; simp
    simp [this]
theorem emp_no {s : ByteArray} (h : s.size ≠ 0) : s.toList.isEmpty = false := by rw [emp_is]; exact decide_eq_false h
/-- A text held against one of the program's own. -/
theorem str_is (x : ByteArray) (l : List UInt8) : (x.toList == l) = decide (x = ⟨l.toArray⟩) := by
  rw [toList_eq]
  rcases h : x.data.toList == l with _ | _
  · rw [beq_eq_false_iff_ne] at h
    exact (decide_eq_false fun e => h (by rw [e])).symm
  · rw [beq_iff_eq] at h
    exact (decide_eq_true (by cases x; simp_all [← h])).symm
theorem bool_ret {a b : Bool} (h : a = b) : Ending.returned (.bool a) = .returned (.bool b) := by rw [h]

theorem risname_any (s : ByteArray) (w : World) : Calls Tryd.prog 45 #[.string s] w fun e w' => e = .returned (.bool (isNm s)) ∧ w' = w := by
  obtain ⟨b, hb⟩ : ∃ b, Hid (isNm s = b) := ⟨_, (rfl : isNm s = isNm s)⟩
  rw [hb.out]
  by_cases h0 : s.size = 0
  · obtain rfl := size_zero h0
    have hq : (⟨#[]⟩ : ByteArray).toList.isEmpty = true := emp_is _
    go_enter Tryd.func45, Tryd.ntmps45
    go_wp2
    go_ret
    exact ⟨bool_ret (by rw [← hb.out]; exact (decide_eq_false fun h => absurd h.1 (by decide)).symm), rfl⟩
  · have hp : (0 : Int) < s.size := by omega
    have hq := emp_no (s := s) h0
    by_cases h1 : s.size ≤ 16
    · have h1i : (s.size : Int) ≤ 16 := by omega
      by_cases h2 : 97 ≤ (s[0]'(by omega)).toNat ∧ (s[0]'(by omega)).toNat ≤ 122
      · have g1 : decide (((s[0]'(by omega)).toNat : Int) < 97) = false := decide_eq_false (by omega)
        have g2 : decide ((122 : Int) < ((s[0]'(by omega)).toNat : Int)) = false := decide_eq_false (by omega)
        have h2' : Hid (97 ≤ (s[0]'(by omega)).toNat ∧ (s[0]'(by omega)).toNat ≤ 122) := h2
        clear h2
        go_enter Tryd.func45, Tryd.ntmps45
        go_wp2
        go_loopw [3] (fun i wz => ∃ p : Nat, p ≤ s.size ∧ i = .int .i64 (p : Int) ∧ Hid (∀ j (h : j < s.size), j < p → nmc (s[j]'h) = true) ∧ wz = w) (fun i _ => (s.size - intOf i).toNat)
        case atStart => exact ⟨0, by omega, rfl, (fun j _ h => absurd h (by omega) : ∀ j (h : j < s.size), j < 0 → nmc (s[j]'h) = true), rfl⟩
        case round =>
          obtain ⟨p, hps, rfl, J, rfl⟩ := hrel
          by_cases hlt : p < s.size
          · have hpi : (p : Int) < s.size := by omega
            have hlt' : Hid (p < s.size) := hlt
            by_cases hn : nmc (s[p]'hlt) = true
            · have fin : Hid (∀ j (h : j < s.size), j < p + 1 → nmc (s[j]'h) = true) := fun j h hj => by
                rcases Nat.lt_succ_iff_lt_or_eq.1 hj with h' | rfl
                · exact J.out j h h'
                · exact hn
              have hn' := of_decide_eq_true hn
              replace hn : Hid _ := hn
              rcases (show (97 : Int) ≤ ((s[p]'hlt).toNat : Int) ∧ ((s[p]'hlt).toNat : Int) ≤ 122 ∨ (48 : Int) ≤ ((s[p]'hlt).toNat : Int) ∧ ((s[p]'hlt).toNat : Int) ≤ 57 ∨ ((s[p]'hlt).toNat : Int) = 45 by omega) with k | k | k
              · have e_a : decide (((s[p]'hlt).toNat : Int) < 97) = false := decide_eq_false (by omega)
                have e_b : decide ((122 : Int) < ((s[p]'hlt).toNat : Int)) = false := decide_eq_false (by omega)
                clear hn' k
                go_wp2
                go_roundw
                case rel => exact ⟨p + 1, by have := hlt'.out; omega, by simp, fin, by first | trivial | rfl⟩
                case measure => have := hlt'.out; simp [intOf]; omega
              · have e_a : decide (((s[p]'hlt).toNat : Int) < 97) = true := decide_eq_true (by omega)
                have e_c : decide (((s[p]'hlt).toNat : Int) < 48) = false := decide_eq_false (by omega)
                have e_d : decide ((57 : Int) < ((s[p]'hlt).toNat : Int)) = false := decide_eq_false (by omega)
                clear hn' k
                go_wp2
                go_roundw
                case rel => exact ⟨p + 1, by have := hlt'.out; omega, by simp, fin, by first | trivial | rfl⟩
                case measure => have := hlt'.out; simp [intOf]; omega
              · have e_a : decide (((s[p]'hlt).toNat : Int) < 97) = true := decide_eq_true (by omega)
                have e_c : decide (((s[p]'hlt).toNat : Int) < 48) = true := decide_eq_true (by omega)
                have e_e : (((s[p]'hlt).toNat : Int) != 45) = false := by rw [bne_eq_false_iff_eq]; omega
                clear hn' k
                go_wp2
                go_roundw
                case rel => exact ⟨p + 1, by have := hlt'.out; omega, by simp, fin, by first | trivial | rfl⟩
                case measure => have := hlt'.out; simp [intOf]; omega
            · have fin : Hid (isNm s = false) := decide_eq_false fun h => hn (h.2.2.2 p hlt)
              have hn' : ¬ ((97 ≤ (s[p]'hlt).toNat ∧ (s[p]'hlt).toNat ≤ 122) ∨ (48 ≤ (s[p]'hlt).toNat ∧ (s[p]'hlt).toNat ≤ 57) ∨ (s[p]'hlt).toNat = 45) := fun h => hn (decide_eq_true h)
              replace hn : Hid _ := hn
              rcases (show ((s[p]'hlt).toNat : Int) < 48 ∧ ((s[p]'hlt).toNat : Int) ≠ 45 ∨ (57 : Int) < ((s[p]'hlt).toNat : Int) ∧ ((s[p]'hlt).toNat : Int) < 97 ∨ (122 : Int) < ((s[p]'hlt).toNat : Int) by omega) with k | k | k
              · have e_a : decide (((s[p]'hlt).toNat : Int) < 97) = true := decide_eq_true (by omega)
                have e_c : decide (((s[p]'hlt).toNat : Int) < 48) = true := decide_eq_true (by omega)
                have e_e : (((s[p]'hlt).toNat : Int) != 45) = true := by rw [bne_iff_ne]; omega
                clear hn' k
                go_wp2
                go_ret
                exact ⟨bool_ret (by rw [← hb.out, fin.out]), rfl⟩
              · have e_a : decide (((s[p]'hlt).toNat : Int) < 97) = true := decide_eq_true (by omega)
                have e_c : decide (((s[p]'hlt).toNat : Int) < 48) = false := decide_eq_false (by omega)
                have e_d : decide ((57 : Int) < ((s[p]'hlt).toNat : Int)) = true := decide_eq_true (by omega)
                have e_e : (((s[p]'hlt).toNat : Int) != 45) = true := by rw [bne_iff_ne]; omega
                clear hn' k
                go_wp2
                go_ret
                exact ⟨bool_ret (by rw [← hb.out, fin.out]), rfl⟩
              · have e_a : decide (((s[p]'hlt).toNat : Int) < 97) = false := decide_eq_false (by omega)
                have e_b : decide ((122 : Int) < ((s[p]'hlt).toNat : Int)) = true := decide_eq_true (by omega)
                have e_c : decide (((s[p]'hlt).toNat : Int) < 48) = false := decide_eq_false (by omega)
                have e_d : decide ((57 : Int) < ((s[p]'hlt).toNat : Int)) = true := decide_eq_true (by omega)
                have e_e : (((s[p]'hlt).toNat : Int) != 45) = true := by rw [bne_iff_ne]; omega
                clear hn' k
                go_wp2
                go_ret
                exact ⟨bool_ret (by rw [← hb.out, fin.out]), rfl⟩
          · have hpe : p = s.size := by omega
            subst hpe
            go_wp2
            go_ret
            exact ⟨bool_ret (by rw [← hb.out]; exact (decide_eq_true ⟨by omega, h1, ⟨by omega, h2'.out⟩, fun j h => J.out j h h⟩).symm), rfl⟩
      · have fin : Hid (isNm s = false) := decide_eq_false fun h => h2 h.2.2.1.2
        rcases (show ((s[0]'(by omega)).toNat : Int) < 97 ∨ (122 : Int) < ((s[0]'(by omega)).toNat : Int) by omega) with k | k
        all_goals
          clear h2
          go_enter Tryd.func45, Tryd.ntmps45
          go_wp2
        all_goals go_ret
        all_goals exact ⟨bool_ret (by rw [← hb.out, fin.out]), rfl⟩
    · have h1i : (16 : Int) < s.size := by omega
      have fin : Hid (isNm s = false) := decide_eq_false fun h => h1 h.2.1
      go_enter Tryd.func45, Tryd.ntmps45
      go_wp2
      go_ret
      exact ⟨bool_ret (by rw [← hb.out, fin.out]), rfl⟩
end Go.Proofs.YtkpfhnogpcigaaaDoorR
