/- store: cells, lead, Read, Write, SetLatch, Latch. -/
import Derived.Test.YthjpghnmnbhaiaaBase
namespace Go.Proofs.Ythjpghnmnbhaiaa
open Go Go.RowKit
set_option linter.unusedVariables false
set_option maxHeartbeats 1000000
set_option maxRecDepth 20000

theorem al50 : Try.prog.arrayLen 50 = 32768 := by kernel_rfl
theorem al51 : Try.prog.arrayLen 51 = 512 := by kernel_rfl
theorem sz50 (w : World) : (sizeOf (Try.prog.elem 50)).run Try.prog w = .ok 1 w := by kernel_rfl
theorem sz51 (w : World) : (sizeOf (Try.prog.elem 51)).run Try.prog w = .ok 1 w := by kernel_rfl
theorem cutRam (g n : Nat) (h : n ≤ 32768) (v : World) : (Instr.sliceAt 50 (.pointer (some ⟨g, 0, none⟩)) none (some (.int .i64 (n : Int))) none).run Try.prog v = .ok (.slice (some ⟨g, 0, none⟩) n 32768) v := by
  rw [run_sliceAt_array_h v 50 ⟨g, 0, none⟩ (by kernel_rfl) .i64 (n : Int) (by omega) (by rw [al50]; omega), sz50, al50]
  simp [slicedAt, Addr.add, Result.andThen]
theorem cutRom (g : Nat) (v : World) : (Instr.sliceAt 51 (.pointer (some ⟨g, 32769, none⟩)) none none none).run Try.prog v = .ok (.slice (some ⟨g, 32769, none⟩) 512 512) v := by
  rw [run_sliceAt_array_all v 51 ⟨g, 32769, none⟩ (by kernel_rfl), sz51, al51]
  simp [slicedAt, Addr.add, Result.andThen]

theorem cells_any (w : World) (g : Nat) (S : St) (ok : S.ok) (h : Sto w g S) :
    Calls Try.prog 34 #[.pointer (some ⟨g, 0, none⟩)] w fun e w' => e = .returned (.slice (some ⟨g, 0, none⟩) S.n 32768) ∧ ∃ k, w' = w.drewN k := by
  have c0 := h.n
  have h1 := ok.hi
  have h2 := ok.lo
  obtain ⟨n, hn⟩ : ∃ n, S.n = n := ⟨_, rfl⟩
  rw [hn] at c0 h1 h2
  rw [hn]
  have cut := cutRam g n h1
  clear h ok hn
  go_enter Try.func34, Try.ntmps34
  go_wp2
  go_region
  go_wp2
  go_ret
  exact ⟨rfl, _, rfl⟩

theorem lead_any (w : World) (g : Nat) (S : St) (h : Sto w g S) (a : Nat) (ha : a < 65536) :
    Calls Try.prog 38 #[.pointer (some ⟨g, 0, none⟩), .int .u16 (a : Int)] w fun e w' => e = .returned (.tuple #[.int .i64 (leadP S a), .int .i64 (leadI S a : Nat)]) ∧ w' = w := by
  have c0 := h.n
  have c1 := h.on
  obtain ⟨n, hn⟩ : ∃ n, S.n = n := ⟨_, rfl⟩
  obtain ⟨on, ho⟩ : ∃ n, S.on = n := ⟨_, rfl⟩
  unfold leadP leadI
  rw [hn, ho]
  rw [hn] at c0
  rw [ho] at c1
  clear h hn ho
  by_cases q1 : 33280 ≤ a
  · rw [if_pos q1, if_pos q1]
    have q1' : (33280 : Int) ≤ a := by omega
    clear q1
    go_enter Try.func38, Try.ntmps38
    go_wp2
    go_returns
    exact ⟨rfl, rfl⟩
  rw [if_neg q1, if_neg q1]
  have q1' : decide (33280 ≤ a) = false := by simpa using q1
  have q1'' : decide ((33280 : Int) ≤ a) = false := by simp; omega
  by_cases q2 : 32768 ≤ a
  · rw [if_pos q2, if_pos q2]
    have q2' : (32768 : Int) ≤ a := by omega
    have e : ((a - 32768 : Nat) : Int) = (a : Int) - 32768 := by omega
    rw [e]
    clear q1 q2 e
    go_enter Try.func38, Try.ntmps38
    go_wp2
    go_returns
    exact ⟨rfl, rfl⟩
  rw [if_neg q2, if_neg q2]
  have q2' : decide (32768 ≤ a) = false := by simpa using q2
  have q2'' : decide ((32768 : Int) ≤ a) = false := by simp; omega
  clear q1 q2
  cases on with
  | true =>
    simp only [if_true]
    have e : ((a % 512 : Nat) : Int) = (a : Int) % 512 := by omega
    have e1 : (a : Int).tmod 512 = (a : Int) % 512 := Int.tmod_eq_emod_of_nonneg (by omega)
    rw [e]
    clear e
    go_enter Try.func38, Try.ntmps38
    go_wp2
    go_returns
    exact ⟨by first | rfl | rw [e1], rfl⟩
  | false =>
    simp only [Bool.false_eq_true, if_false]
    by_cases q3 : a < n
    · rw [if_pos q3, if_pos q3]
      have q3' : (a : Int) < n := by omega
      clear q3
      go_enter Try.func38, Try.ntmps38
      go_wp2
      go_returns
      exact ⟨rfl, rfl⟩
    · rw [if_neg q3, if_neg q3]
      have q3' : (n : Int) ≤ a := by omega
      clear q3
      go_enter Try.func38, Try.ntmps38
      go_wp2
      go_returns
      exact ⟨rfl, rfl⟩
end Go.Proofs.Ythjpghnmnbhaiaa
