/- bits.Hex: what it returns for every number and every count of digits; nothing that was there turns. -/
import Derived.Test.YtkpfhnogpcigaaaDoorRRows
import Derived.Test.YtkpfhnogpcigaaaDoorRJText
import Derived.WalkKit
import Derived.WalkSpells
import Derived.WalkLawsBesides
import Derived.Deep.QuietTactic
import Derived.Deep.OwnRows
import Derived.Laws.IdiomStrings
namespace Go.Proofs.YtkpfhnogpcigaaaDoorR
open Go.RowKit
set_option maxHeartbeats 400000

theorem info5 : (Tryd.prog.info? 5).map (fun i => (i.zero, i.size, i.bytes)) = some (some (.int .u8 0), 1, 1) := by kernel_rfl

theorem hex_conv (D N : Nat) (w : World) :
    (convert 33 9 (.slice (some ⟨w.heap.size, 0, none⟩) D D)).run Tryd.prog (w.alloc (.cells (hexA D N 0) 5)) = .ok (.string (hexS D N)) (w.alloc (.cells (hexA D N 0) 5)) := by
  have h := run_convert_bytes_back (P := Tryd.prog) (w.alloc (.cells (hexA D N 0) 5)) 33 9 5 ⟨w.heap.size, 0, none⟩ D (hexL D N) Tryd.underlying33 Tryd.underlying5 Tryd.underlying9 (fun j hj => by
    have hj' : j < D := by simpa [hexL_len] using hj
    have hadd : (⟨w.heap.size, 0, none⟩ : Addr).add j = ⟨w.heap.size, j, none⟩ := by unfold Addr.add; split <;> simp_all
    rw [hadd, World.cell?_alloc_mark, hexA_get _ _ _ _ hj', hexL_get]
    simp)
  rw [hexL_len] at h
  exact h

theorem signs (m : Nat) (h : m < 16) : (((ByteArray.mk #[48, 49, 50, 51, 52, 53, 54, 55, 56, 57, 97, 98, 99, 100, 101, 102])[m]'h).toNat : Int) = hexC (m : Int) := by
  revert m; decide

theorem ret_str {a b : ByteArray} (h : a = b) : Ending.returned (.string a) = .returned (.string b) := by rw [h]
theorem hexOf_yes (N D : Nat) (h1 : 1 ≤ D) (h2 : D ≤ 8) (h : N / 16 ^ (D - 0) = 0) : hexOf N D = hexS D N := by
  have e : (N : Int) / 16 ^ D = ((N / 16 ^ D : Nat) : Int) := by simp
  unfold hexOf
  rw [if_pos ⟨by omega, by omega, by omega, by rw [Int.toNat_natCast, e]; exact congrArg _ h⟩]
  simp
theorem hexOf_no (N D : Nat) (h : ¬ N / 16 ^ (D - 0) = 0) : hexOf N D = ⟨#[]⟩ := by
  have e : (N : Int) / 16 ^ D = ((N / 16 ^ D : Nat) : Int) := by simp
  unfold hexOf
  rw [if_neg]
  rintro ⟨_, _, _, h4⟩
  rw [Int.toNat_natCast, e] at h4
  exact h (Int.ofNat.inj h4)

theorem hex_next (N D j M : Nat) (h : j + 1 ≤ D) (hM : M = N / 16 ^ (D - (j + 1))) : M / 16 = N / 16 ^ (D - j) := by
  rw [hM, Nat.div_div_eq_div_mul, ← Nat.pow_succ, show (D - (j + 1)).succ = D - j from by omega]
theorem hex_here (N D j M : Nat) (hM : M = N / 16 ^ (D - (j + 1))) : hexC ((M : Int) % 16) = hexAt D N j := by
  unfold hexAt
  rw [show D - 1 - j = D - (j + 1) from by omega, ← hM]
  congr 1

end Go.Proofs.YtkpfhnogpcigaaaDoorR
