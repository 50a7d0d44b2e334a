/- The document's number of hexadecimal digits. -/
import Derived.Test.YtmaedkbmjbggpaaDoorJXp
namespace Go.Proofs.YtmaedkbmjbggpaaDoor
open Go Go.RowKit
set_option linter.unusedVariables false
set_option maxHeartbeats 3000000
set_option maxRecDepth 20000

theorem rnumber_short (s : ByteArray) (w : World) (h : s.size < 1 ∨ 8 < s.size) (hs : s.size ≤ maxLen) :
    Calls Tryd.prog 59 #[.string s] w fun e w' => e = .returned (.tuple #[.int .i64 (numV s), .int .i64 (numE s)]) ∧ w' = w := by
  have e : numOf s = none := by unfold numOf; rw [if_neg (by omega)]
  rw [(num_none s e).1, (num_none s e).2]
  clear e
  unfold maxLen at hs
  by_cases h1 : s.size < 1
  · go_enter Tryd.func59, Tryd.ntmps59
    go_wp2
    go_ret2
    exact ⟨rfl, rfl⟩
  · have h2 : 8 < s.size := by omega
    go_enter Tryd.func59, Tryd.ntmps59
    go_wp2
    go_ret2
    exact ⟨rfl, rfl⟩

theorem digV_a (c : Int) (h : 48 ≤ c) (h' : c ≤ 57) : digV c = some (c - 48) := by unfold digV; rw [if_pos ⟨h, h'⟩]
theorem digV_b (c : Int) (h : 97 ≤ c) (h' : c ≤ 102) : digV c = some (c - 97 + 10) := by unfold digV; rw [if_neg (by omega), if_pos ⟨h, h'⟩]; congr 1; omega
theorem digV_c (c : Int) (h : ¬ (48 ≤ c ∧ c ≤ 57)) (h' : ¬ (97 ≤ c ∧ c ≤ 102)) : digV c = none := by unfold digV; rw [if_neg h, if_neg h']

theorem rnumber_mid (s : ByteArray) (w : World) (h1 : 1 ≤ s.size) (h2 : s.size ≤ 8) :
    Calls Tryd.prog 59 #[.string s] w fun e w' => e = .returned (.tuple #[.int .i64 (numV s), .int .i64 (numE s)]) ∧ w' = w := by
  have E : Hid (numOf s = numFrom s 0 0) := by show _ = _; unfold numOf numFrom; rw [if_pos ⟨h1, h2⟩]; simp
  go_enter Tryd.func59, Tryd.ntmps59
  go_wp2
  go_loop [4, 5] (fun n i => ∃ (p : Nat) (acc : Int), p ≤ s.size ∧ i = .int .i64 (p : Int) ∧ n = .int .i64 acc ∧ 0 ≤ acc ∧ Hid (acc < 16 ^ p) ∧ Hid (numFrom s p acc = numFrom s 0 0)) (fun _ i => s.size - (intOf i).toNat)
  case atStart => exact ⟨0, 0, Nat.zero_le _, rfl, rfl, by omega, show (0 : Int) < 16 ^ 0 by decide, show numFrom s 0 0 = numFrom s 0 0 from rfl⟩
  case round =>
    obtain ⟨p, acc, hp, rfl, rfl, ha, hA, hE⟩ := hrel
    by_cases hlt : p < s.size
    · have hab : acc < 268435456 := by
        have h3 : (16 : Int) ^ p ≤ 16 ^ 7 := by
          have := Nat.pow_le_pow_right (show 0 < 16 by decide) (show p ≤ 7 by omega)
          have e1 : ((16 ^ p : Nat) : Int) = (16 : Int) ^ p := by simp
          omega
        have := hA.out
        omega
      by_cases c1 : 48 ≤ ((s[p]'hlt).toNat : Int) ∧ ((s[p]'hlt).toNat : Int) ≤ 57
      · have hv := digV_a _ c1.1 c1.2
        have HV : Hid (digV ((s[p]'hlt).toNat : Int) = some (((s[p]'hlt).toNat : Int) - 48)) := hv
        clear hv
        obtain ⟨c11, c12⟩ := c1
        go_wp2
        go_round
        case rel => exact ⟨p + 1, acc * 16 + (((s[p]'hlt).toNat : Int) - 48), by omega, by go_num, by go_num, by omega, num_lt p acc _ (by omega) hA.out, (numFrom_some s p acc _ hlt HV.out).symm.trans hE.out⟩
        case measure => simp [intOf]; omega
      · by_cases c2 : 97 ≤ ((s[p]'hlt).toNat : Int) ∧ ((s[p]'hlt).toNat : Int) ≤ 102
        · have HV : Hid (digV ((s[p]'hlt).toNat : Int) = some (((s[p]'hlt).toNat : Int) - 97 + 10)) := digV_b _ c2.1 c2.2
          obtain ⟨c21, c22⟩ := c2
          have c13 : ¬ ((s[p]'hlt).toNat : Int) ≤ 57 := by omega
          clear c1
          go_wp2
          go_round
          case rel => exact ⟨p + 1, acc * 16 + (((s[p]'hlt).toNat : Int) - 97 + 10), by omega, by go_num, by go_num, by omega, num_lt p acc _ (by omega) hA.out, (numFrom_some s p acc _ hlt HV.out).symm.trans hE.out⟩
          case measure => simp [intOf]; omega
        · have HV : Hid (digV ((s[p]'hlt).toNat : Int) = none) := digV_c _ c1 c2
          have hn := num_none s (E.out.trans (hE.out.symm.trans (numFrom_none s p acc hlt HV.out)))
          have HN : Hid (numV s = 0 ∧ numE s = 1) := hn
          clear hn
          go_wp2
          all_goals
            go_ret2
            exact ⟨ret_num HN.out.1.symm HN.out.2.symm, rfl⟩
    · go_wp2
      go_ret2
      have hn := num_some s acc (E.out.trans (hE.out.symm.trans (numFrom_end s p acc (by omega))))
      exact ⟨ret_num hn.1.symm hn.2.symm, rfl⟩

theorem rnumber_any (s : ByteArray) (w : World) (hs : s.size ≤ maxLen) :
    Calls Tryd.prog 59 #[.string s] w fun e w' => e = .returned (.tuple #[.int .i64 (numV s), .int .i64 (numE s)]) ∧ w' = w := by
  by_cases h : s.size < 1 ∨ 8 < s.size
  · exact rnumber_short s w h hs
  · exact rnumber_mid s w (by omega) (by omega)
end Go.Proofs.YtmaedkbmjbggpaaDoor
