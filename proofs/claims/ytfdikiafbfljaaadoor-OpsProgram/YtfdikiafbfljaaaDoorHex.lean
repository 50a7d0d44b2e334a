/- bits.Hex: what it returns for every number and every count of digits; nothing that was there turns. -/
import Derived.Test.YtfdikiafbfljaaaDoorRows
import Derived.Test.YtfdikiafbfljaaaDoorText
import Derived.WalkKit
import Derived.WalkSpells
import Derived.WalkLawsBesides
import Derived.Deep.QuietTactic
import Derived.Deep.OwnRows
import Derived.Laws.IdiomStrings
namespace Go.Proofs.YtfdikiafbfljaaaDoor
open Go.RowKit
set_option maxHeartbeats 400000

theorem info5 : (Tryd.prog.info? 5).map (fun i => (i.zero, i.size, i.bytes)) = some (some (.int .u8 0), 1, 1) := by kernel_rfl

theorem hex_conv (D N : Nat) (w : World) :
    (convert 37 9 (.slice (some ⟨w.heap.size, 0, none⟩) D D)).run Tryd.prog (w.alloc (.cells (hexA D N 0) 5)) = .ok (.string (hexS D N)) (w.alloc (.cells (hexA D N 0) 5)) := by
  have h := run_convert_bytes_back (P := Tryd.prog) (w.alloc (.cells (hexA D N 0) 5)) 37 9 5 ⟨w.heap.size, 0, none⟩ D (hexL D N) Tryd.underlying37 Tryd.underlying5 Tryd.underlying9 (fun j hj => by
    have hj' : j < D := by simpa [hexL_len] using hj
    have hadd : (⟨w.heap.size, 0, none⟩ : Addr).add j = ⟨w.heap.size, j, none⟩ := by unfold Addr.add; split <;> simp_all
    rw [hadd, World.cell?_alloc_mark, hexA_get _ _ _ _ hj', hexL_get]
    simp)
  rw [hexL_len] at h
  exact h

theorem hex_no (n d : Int) (w : World) (h : d < 1 ∨ 8 < d ∨ n < 0) :
    Calls Tryd.prog 24 #[.int .i64 n, .int .i64 d] w fun e w' => e = .returned (.string (hexOf n d)) ∧ w' = w := by
  have e : hexOf n d = ⟨#[]⟩ := by unfold hexOf; rw [if_neg (by omega)]
  rw [e]
  by_cases h1 : d < 1
  · go_enter Tryd.func24, Tryd.ntmps24
    go_wp2
    go_ret
    exact ⟨rfl, rfl⟩
  · by_cases h2 : 8 < d
    · go_enter Tryd.func24, Tryd.ntmps24
      go_wp2
      go_ret
      exact ⟨rfl, rfl⟩
    · have h3 : n < 0 := by omega
      go_enter Tryd.func24, Tryd.ntmps24
      go_wp2
      go_ret
      exact ⟨rfl, rfl⟩

theorem signs (m : Nat) (h : m < 16) : (((ByteArray.mk #[48, 49, 50, 51, 52, 53, 54, 55, 56, 57, 97, 98, 99, 100, 101, 102])[m]'h).toNat : Int) = hexC (m : Int) := by
  revert m; decide

theorem ret_str {a b : ByteArray} (h : a = b) : Ending.returned (.string a) = .returned (.string b) := by rw [h]
theorem hexOf_yes (N D : Nat) (h1 : 1 ≤ D) (h2 : D ≤ 8) (h : N / 16 ^ (D - 0) = 0) : hexOf N D = hexS D N := by
  have e : (N : Int) / 16 ^ D = ((N / 16 ^ D : Nat) : Int) := by simp
  unfold hexOf
  rw [if_pos ⟨by omega, by omega, by omega, by rw [Int.toNat_natCast, e]; exact congrArg _ h⟩]
  simp
theorem hexOf_no (N D : Nat) (h : ¬ N / 16 ^ (D - 0) = 0) : hexOf N D = ⟨#[]⟩ := by
  have e : (N : Int) / 16 ^ D = ((N / 16 ^ D : Nat) : Int) := by simp
  unfold hexOf
  rw [if_neg]
  rintro ⟨_, _, _, h4⟩
  rw [Int.toNat_natCast, e] at h4
  exact h (Int.ofNat.inj h4)

theorem hex_next (N D j M : Nat) (h : j + 1 ≤ D) (hM : M = N / 16 ^ (D - (j + 1))) : M / 16 = N / 16 ^ (D - j) := by
  rw [hM, Nat.div_div_eq_div_mul, ← Nat.pow_succ, show (D - (j + 1)).succ = D - j from by omega]
theorem hex_here (N D j M : Nat) (hM : M = N / 16 ^ (D - (j + 1))) : hexC ((M : Int) % 16) = hexAt D N j := by
  unfold hexAt
  rw [show D - 1 - j = D - (j + 1) from by omega, ← hM]
  congr 1

theorem hex_yes (N D : Nat) (w : World) (h1 : 1 ≤ D) (h2 : D ≤ 8) (h3 : N ≤ 9223372036854775807) :
    Calls Tryd.prog 24 #[.int .i64 N, .int .i64 D] w fun e w' => e = .returned (.string (hexOf N D)) ∧ Below w.heap.size w w' := by
  have hmk := run_make_row' (P := Tryd.prog) 37 5 (.int .u8 0) 1 Tryd.underlying37 info5 rfl .i64 .i64 D (by omega) (by omega)
  have hst := hexA_start D N
  go_enter Tryd.func24, Tryd.ntmps24
  go_wp2
  clear hmk hst
  go_loopw [0, 6] (fun n i wr => ∃ (k M : Nat), k ≤ D ∧ i = .int .i64 ((k : Int) - 1) ∧ n = .int .i64 (M : Int) ∧ Hid (M = N / 16 ^ (D - k)) ∧ wr = w.alloc (.cells (hexA D N k) 5)) (fun _ i _ => (intOf i + 1).toNat)
  case atStart => exact ⟨D, N, Nat.le_refl _, rfl, rfl, show N = N / 16 ^ (D - D) by simp, rfl⟩
  case round =>
    obtain ⟨k, M, hk, rfl, rfl, hM, rfl⟩ := hrel
    have hMN : M ≤ 9223372036854775807 := Nat.le_trans (hM.out ▸ Nat.div_le_self _ _) h3
    cases k with
    | zero =>
      have hcv := hex_conv D N w
      by_cases hz : M = 0
      · subst hz
        go_wp2
        go_ret
        exact ⟨ret_str (hexOf_yes N D h1 h2 hM.out.symm).symm, (Below.refl _ _).alloc (Nat.le_refl _) _⟩
      · have hz' : ((M : Int) != 0) = true := by simp; omega
        go_wp2
        go_ret
        exact ⟨ret_str (hexOf_no N D (fun e => hz (hM.out.trans e))).symm, (Below.refl _ _).alloc (Nat.le_refl _) _⟩
    | succ j =>
      rw [show ((j + 1 : Nat) : Int) - 1 = (j : Int) from by omega]
      have hb : bits .and .i64 (M : Int) 15 = ((M % 16 : Nat) : Int) := by
        have := bits_mask .i64 63 (by decide) (fun n h0 h1 => by rw [IntKind.wrap_i64]; omega) 4 (by decide) (M : Int) (by omega) (by omega)
        have e : ((2 : Int) ^ 4 - 1) = 15 := by decide
        rw [e] at this
        rw [this]; omega
      have hg := hexA_get D N (j + 1) j (by omega)
      rw [if_pos (by omega)] at hg
      have hsg := signs (M % 16) (by omega)
      go_wp2
      go_roundw
      case rel => exact ⟨j, M / 16, by omega, rfl, by simp, hex_next N D j M (by omega) hM.out, by rw [hex_here N D j M hM.out, hexA_set]⟩
      case measure => simp [intOf]
/-- bits.Hex, whole. -/
theorem hex_any (n d : Int) (w : World) (hn : n ≤ 9223372036854775807) :
    Calls Tryd.prog 24 #[.int .i64 n, .int .i64 d] w fun e w' => e = .returned (.string (hexOf n d)) ∧ Below w.heap.size w w' := by
  by_cases h : d < 1 ∨ 8 < d ∨ n < 0
  · refine (hex_no n d w h).mono ?_
    rintro e w' ⟨he, rfl⟩
    exact ⟨he, Below.refl _ _⟩
  · obtain ⟨N, rfl⟩ := Int.eq_ofNat_of_zero_le (show 0 ≤ n by omega)
    obtain ⟨D, rfl⟩ := Int.eq_ofNat_of_zero_le (show 0 ≤ d by omega)
    exact hex_yes N D w (by omega) (by omega) (by omega)
end Go.Proofs.YtfdikiafbfljaaaDoor
