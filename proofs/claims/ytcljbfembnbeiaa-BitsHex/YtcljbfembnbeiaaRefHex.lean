/- The document's answers for Hex and Number: they return what the program's do, for every number, count of digits and text. -/
import Derived.Test.YtcljbfembnbeiaaHex
import Derived.Test.YtcljbfembnbeiaaNum
namespace Go.Proofs.Ytcljbfembnbeiaa
open Go.RowKit
set_option maxHeartbeats 400000

theorem rint {k : IntKind} {a b : Int} (h : a = b) : Ending.returned (.int k a) = .returned (.int k b) := by rw [h]

theorem rdigit_any (x : Int) (w : World) (h0 : 0 ≤ x) (h1 : x < 16) :
    Calls Try.prog 26 #[.int .i64 x] w fun e w' => e = .returned (.int .u8 (hexC x)) ∧ w' = w := by
  by_cases h : x < 10
  · have e : hexC x = 48 + x := by unfold hexC; rw [if_pos h]
    rw [e]
    go_enter Try.func26, Try.ntmps26
    go_wp2
    go_ret
    exact ⟨rint (by omega), rfl⟩
  · have e : hexC x = 87 + x := by unfold hexC; rw [if_neg h]
    rw [e]
    go_enter Try.func26, Try.ntmps26
    go_wp2
    go_ret
    exact ⟨rint (by omega), rfl⟩

theorem rhex_no (n d : Int) (w : World) (h : d < 1 ∨ 8 < d ∨ n < 0) :
    Calls Try.prog 21 #[.int .i64 n, .int .i64 d] w fun e w' => e = .returned (.string (hexOf n d)) ∧ w' = w := by
  have e : hexOf n d = ⟨#[]⟩ := by unfold hexOf; rw [if_neg (by omega)]
  rw [e]
  by_cases h1 : d < 1
  · go_enter Try.func21, Try.ntmps21
    go_wp2
    go_ret
    exact ⟨rfl, rfl⟩
  · by_cases h2 : 8 < d
    · go_enter Try.func21, Try.ntmps21
      go_wp2
      go_ret
      exact ⟨rfl, rfl⟩
    · have h3 : n < 0 := by omega
      go_enter Try.func21, Try.ntmps21
      go_wp2
      go_ret
      exact ⟨rfl, rfl⟩

theorem rhex_yes (N D : Nat) (w : World) (h1 : 1 ≤ D) (h2 : D ≤ 8) (h3 : N ≤ 9223372036854775807) :
    Calls Try.prog 21 #[.int .i64 N, .int .i64 D] w fun e w' => e = .returned (.string (hexOf N D)) ∧ Below w.heap.size w w' := by
  have hmk := run_make_row' (P := Try.prog) 46 5 (.int .u8 0) 1 Try.underlying46 info5 rfl .i64 .i64 D (by omega) (by omega)
  have hst := hexA_start D N
  go_enter Try.func21, Try.ntmps21
  go_wp2
  clear hmk hst
  go_loopw [0, 6] (fun n i wr => ∃ (k M : Nat), k ≤ D ∧ i = .int .i64 ((k : Int) - 1) ∧ n = .int .i64 (M : Int) ∧ Hid (M = N / 16 ^ (D - k)) ∧ wr = w.alloc (.cells (hexA D N k) 5)) (fun _ i _ => (intOf i + 1).toNat)
  case atStart => exact ⟨D, N, Nat.le_refl _, rfl, rfl, show N = N / 16 ^ (D - D) by simp, rfl⟩
  case round =>
    obtain ⟨k, M, hk, rfl, rfl, hM, rfl⟩ := hrel
    have hMN : M ≤ 9223372036854775807 := Nat.le_trans (hM.out ▸ Nat.div_le_self _ _) h3
    cases k with
    | zero =>
      have hcv := hex_conv D N w
      by_cases hz : M = 0
      · subst hz
        go_wp2
        go_ret
        exact ⟨ret_str (hexOf_yes N D h1 h2 hM.out.symm).symm, (Below.refl _ _).alloc (Nat.le_refl _) _⟩
      · have hz' : (0 : Int) < (M : Int) := by omega
        go_wp2
        go_ret
        exact ⟨ret_str (hexOf_no N D (fun e => hz (hM.out.trans e))).symm, (Below.refl _ _).alloc (Nat.le_refl _) _⟩
    | succ j =>
      rw [show ((j + 1 : Nat) : Int) - 1 = (j : Int) from by omega]
      have hg := hexA_get D N (j + 1) j (by omega)
      rw [if_pos (by omega)] at hg
      go_wp2_with (go_at_call 26; refine (rdigit_any _ _ (by omega) (by omega)).mono ?_; rintro e w' ⟨rfl, rfl⟩)
      go_roundw
      case rel => exact ⟨j, M / 16, by omega, rfl, by simp, hex_next N D j M (by omega) hM.out, by rw [hex_here N D j M hM.out, hexA_set]⟩
      case measure => simp [intOf]

theorem rhex_any (n d : Int) (w : World) (hn : n ≤ 9223372036854775807) :
    Calls Try.prog 21 #[.int .i64 n, .int .i64 d] w fun e w' => e = .returned (.string (hexOf n d)) ∧ Below w.heap.size w w' := by
  by_cases h : d < 1 ∨ 8 < d ∨ n < 0
  · refine (rhex_no n d w h).mono ?_
    rintro e w' ⟨he, rfl⟩
    exact ⟨he, Below.refl _ _⟩
  · obtain ⟨N, rfl⟩ := Int.eq_ofNat_of_zero_le (show 0 ≤ n by omega)
    obtain ⟨D, rfl⟩ := Int.eq_ofNat_of_zero_le (show 0 ≤ d by omega)
    exact rhex_yes N D w (by omega) (by omega) (by omega)

theorem rnumber_short (s : ByteArray) (w : World) (h : s.size < 1 ∨ 8 < s.size) (hs : s.size ≤ maxLen) :
    Calls Try.prog 20 #[.string s] w fun e w' => e = .returned (.tuple #[.int .i64 (numV s), .int .i64 (numE s)]) ∧ w' = w := by
  have e : numOf s = none := by unfold numOf; rw [if_neg (by omega)]
  rw [(num_none s e).1, (num_none s e).2]
  clear e
  unfold maxLen at hs
  by_cases h1 : s.size < 1
  · go_enter Try.func20, Try.ntmps20
    go_wp2
    go_ret2
    exact ⟨rfl, rfl⟩
  · have h2 : 8 < s.size := by omega
    go_enter Try.func20, Try.ntmps20
    go_wp2
    go_ret2
    exact ⟨rfl, rfl⟩

theorem digV_a (c : Int) (h : 48 ≤ c) (h' : c ≤ 57) : digV c = some (c - 48) := by unfold digV; rw [if_pos ⟨h, h'⟩]
theorem digV_b (c : Int) (h : 97 ≤ c) (h' : c ≤ 102) : digV c = some (c - 97 + 10) := by unfold digV; rw [if_neg (by omega), if_pos ⟨h, h'⟩]; congr 1; omega
theorem digV_c (c : Int) (h : ¬ (48 ≤ c ∧ c ≤ 57)) (h' : ¬ (97 ≤ c ∧ c ≤ 102)) : digV c = none := by unfold digV; rw [if_neg h, if_neg h']

theorem rnumber_mid (s : ByteArray) (w : World) (h1 : 1 ≤ s.size) (h2 : s.size ≤ 8) :
    Calls Try.prog 20 #[.string s] w fun e w' => e = .returned (.tuple #[.int .i64 (numV s), .int .i64 (numE s)]) ∧ w' = w := by
  have E : Hid (numOf s = numFrom s 0 0) := by show _ = _; unfold numOf numFrom; rw [if_pos ⟨h1, h2⟩]; simp
  go_enter Try.func20, Try.ntmps20
  go_wp2
  go_loop [4, 5] (fun n i => ∃ (p : Nat) (acc : Int), p ≤ s.size ∧ i = .int .i64 (p : Int) ∧ n = .int .i64 acc ∧ 0 ≤ acc ∧ Hid (acc < 16 ^ p) ∧ Hid (numFrom s p acc = numFrom s 0 0)) (fun _ i => s.size - (intOf i).toNat)
  case atStart => exact ⟨0, 0, Nat.zero_le _, rfl, rfl, by omega, show (0 : Int) < 16 ^ 0 by decide, show numFrom s 0 0 = numFrom s 0 0 from rfl⟩
  case round =>
    obtain ⟨p, acc, hp, rfl, rfl, ha, hA, hE⟩ := hrel
    by_cases hlt : p < s.size
    · have hab : acc < 268435456 := by
        have h3 : (16 : Int) ^ p ≤ 16 ^ 7 := by
          have := Nat.pow_le_pow_right (show 0 < 16 by decide) (show p ≤ 7 by omega)
          have e1 : ((16 ^ p : Nat) : Int) = (16 : Int) ^ p := by simp
          omega
        have := hA.out
        omega
      by_cases c1 : 48 ≤ ((s[p]'hlt).toNat : Int) ∧ ((s[p]'hlt).toNat : Int) ≤ 57
      · have hv := digV_a _ c1.1 c1.2
        have HV : Hid (digV ((s[p]'hlt).toNat : Int) = some (((s[p]'hlt).toNat : Int) - 48)) := hv
        clear hv
        obtain ⟨c11, c12⟩ := c1
        go_wp2
        go_round
        case rel => exact ⟨p + 1, acc * 16 + (((s[p]'hlt).toNat : Int) - 48), by omega, by go_num, by go_num, by omega, num_lt p acc _ (by omega) hA.out, (numFrom_some s p acc _ hlt HV.out).symm.trans hE.out⟩
        case measure => simp [intOf]; omega
      · by_cases c2 : 97 ≤ ((s[p]'hlt).toNat : Int) ∧ ((s[p]'hlt).toNat : Int) ≤ 102
        · have HV : Hid (digV ((s[p]'hlt).toNat : Int) = some (((s[p]'hlt).toNat : Int) - 97 + 10)) := digV_b _ c2.1 c2.2
          obtain ⟨c21, c22⟩ := c2
          have c13 : ¬ ((s[p]'hlt).toNat : Int) ≤ 57 := by omega
          clear c1
          go_wp2
          go_round
          case rel => exact ⟨p + 1, acc * 16 + (((s[p]'hlt).toNat : Int) - 97 + 10), by omega, by go_num, by go_num, by omega, num_lt p acc _ (by omega) hA.out, (numFrom_some s p acc _ hlt HV.out).symm.trans hE.out⟩
          case measure => simp [intOf]; omega
        · have HV : Hid (digV ((s[p]'hlt).toNat : Int) = none) := digV_c _ c1 c2
          have hn := num_none s (E.out.trans (hE.out.symm.trans (numFrom_none s p acc hlt HV.out)))
          have HN : Hid (numV s = 0 ∧ numE s = 1) := hn
          clear hn
          go_wp2
          all_goals
            go_ret2
            exact ⟨ret_num HN.out.1.symm HN.out.2.symm, rfl⟩
    · go_wp2
      go_ret2
      have hn := num_some s acc (E.out.trans (hE.out.symm.trans (numFrom_end s p acc (by omega))))
      exact ⟨ret_num hn.1.symm hn.2.symm, rfl⟩

theorem rnumber_any (s : ByteArray) (w : World) (hs : s.size ≤ maxLen) :
    Calls Try.prog 20 #[.string s] w fun e w' => e = .returned (.tuple #[.int .i64 (numV s), .int .i64 (numE s)]) ∧ w' = w := by
  by_cases h : s.size < 1 ∨ 8 < s.size
  · exact rnumber_short s w h hs
  · exact rnumber_mid s w (by omega) (by omega)
end Go.Proofs.Ytcljbfembnbeiaa
