/- bits.High, Low and Word, bits.Do at any sum, and the document's examples that every statement asks at its end. -/
import Derived.Test.YtcljbfembnbeiabDoA
import Derived.Test.YtcljbfembnbeiabDoB
import Derived.Test.YtcljbfembnbeiabDoC
import Derived.Test.YtcljbfembnbeiabHex
import Derived.Test.YtcljbfembnbeiabNum
namespace Go.Proofs.Ytcljbfembnbeiab
open Go.RowKit
set_option maxHeartbeats 400000

theorem w16 (n : Int) (h0 : 0 ≤ n) (h1 : n < 2 ^ 16) : IntKind.u16.wrap n = n := by rw [IntKind.wrap_u16]; omega
theorem ret_int {k : IntKind} {a b : Int} (h : a = b) : Ending.returned (.int k a) = .returned (.int k b) := by rw [h]

theorem high_any (x : Int) (w : World) (h0 : 0 ≤ x) (h1 : x ≤ 65535) :
    Calls Try.prog 9 #[.int .u16 x] w fun e w' => e = .returned (.int .u8 (x / 256)) ∧ w' = w := by
  go_enter Try.func9, Try.ntmps9
  go_wp2
  go_ret
  exact ⟨ret_int (by omega), rfl⟩
theorem low_any (x : Int) (w : World) (_h0 : 0 ≤ x) (_h1 : x ≤ 65535) :
    Calls Try.prog 7 #[.int .u16 x] w fun e w' => e = .returned (.int .u8 (x % 256)) ∧ w' = w := by
  go_enter Try.func7, Try.ntmps7
  go_wp2
  go_ret
  exact ⟨ret_int (by omega), rfl⟩
theorem word_any (h l : Int) (w : World) (h0 : 0 ≤ h) (h1 : h ≤ 255) (l0 : 0 ≤ l) (l1 : l ≤ 255) :
    Calls Try.prog 10 #[.int .u8 h, .int .u8 l] w fun e w' => e = .returned (.int .u16 (h * 256 + l)) ∧ w' = w := by
  have hj : bits .or .u16 (h * 256) l = h * 256 + l := bits_join .u16 16 (by decide) w16 8 _ _ (by omega) (by omega) (by omega) l0 (by omega) (by omega)
  go_enter Try.func10, Try.ntmps10
  go_wp2
  go_ret
  exact ⟨rfl, rfl⟩

theorem do_else (s d b : Int) (df : Bool) (hs : 14 ≤ s) (hs' : s ≤ 255) (w : World) :
    Calls Try.prog 6 #[.int .u8 s, .int .u8 d, .int .u8 b, .bool df] w fun e w' => e = .returned (.tuple #[.int .u8 (doV s d b df), .bool (doF s d b df)]) ∧ Below w.heap.size w w' := by
  have e1 : doV s d b df = 0 := by unfold doV; simp [show ¬ s = 0 by omega, show ¬ s = 1 by omega, show ¬ s = 2 by omega, show ¬ s = 3 by omega, show ¬ s = 4 by omega, show ¬ s = 5 by omega, show ¬ s = 6 by omega, show ¬ s = 7 by omega, show ¬ s = 8 by omega, show ¬ s = 9 by omega, show ¬ s = 10 by omega, show ¬ s = 11 by omega, show ¬ s = 12 by omega, show ¬ s = 13 by omega]
  have e2 : doF s d b df = false := by unfold doF; simp [show ¬ s = 0 by omega, show ¬ s = 1 by omega, show ¬ s = 2 by omega, show ¬ s = 3 by omega, show ¬ s = 4 by omega, show ¬ s = 5 by omega, show ¬ s = 6 by omega, show ¬ s = 7 by omega, show ¬ s = 8 by omega, show ¬ s = 9 by omega, show ¬ s = 10 by omega, show ¬ s = 11 by omega, show ¬ s = 12 by omega, show ¬ s = 13 by omega]
  rw [e1, e2]
  go_enter Try.func6, Try.ntmps6
  go_wp2_with (first | (go_at_call 11; refine (rows_any _).mono ?_; rintro e w' ⟨rfl, rfl⟩) | refine rowst1 rfl 37 _ _ rfl tab rfl rfl _ (by kernel_rfl) (by kernel_rfl) (by kernel_rfl) ?_)
  go_ret2
  exact ⟨rfl, ((Below.refl _ _).alloc (Nat.le_refl _) _).alloc (by simp) _⟩

/-- bits.Do, whole. -/
theorem do_any (s d b : Int) (df : Bool) (hs : 0 ≤ s) (hs' : s ≤ 255) (hd : 0 ≤ d) (hd' : d ≤ 255) (hb : 0 ≤ b) (hb' : b ≤ 255) (w : World) :
    Calls Try.prog 6 #[.int .u8 s, .int .u8 d, .int .u8 b, .bool df] w fun e w' => e = .returned (.tuple #[.int .u8 (doV s d b df), .bool (doF s d b df)]) ∧ Below w.heap.size w w' := by
  by_cases h : 14 ≤ s
  · exact do_else s d b df h hs' w
  · have hc : s = 0 ∨ s = 1 ∨ s = 2 ∨ s = 3 ∨ s = 4 ∨ s = 5 ∨ s = 6 ∨ s = 7 ∨ s = 8 ∨ s = 9 ∨ s = 10 ∨ s = 11 ∨ s = 12 ∨ s = 13 := by omega
    rcases hc with rfl | rfl | rfl | rfl | rfl | rfl | rfl | rfl | rfl | rfl | rfl | rfl | rfl | rfl
    · exact do0 d b df hd hd' hb hb' w
    · exact do1 d b df hd hd' hb hb' w
    · exact do2 d b df hd hd' hb hb' w
    · exact do3 d b df hd hd' hb hb' w
    · exact do4 d b df hd hd' hb hb' w
    · exact do5 d b df hd hd' hb hb' w
    · exact do6 d b df hd hd' hb hb' w
    · exact do7 d b df hd hd' hb hb' w
    · exact do8 d b df hd hd' hb hb' w
    · exact do9 d b df hd hd' hb hb' w
    · exact do10 d b df hd hd' hb hb' w
    · exact do11 d b df hd hd' hb hb' w
    · exact do12 d b df hd hd' hb hb' w
    · exact do13 d b df hd hd' hb hb' w

theorem aw_do (w : World) : Calls Try.prog 6 #[.int .u8 4, .int .u8 200, .int .u8 100, .bool false] w fun e w' => e = .returned (.tuple #[.int .u8 44, .bool true]) ∧ Below w.heap.size w w' :=
  (do4 200 100 false (by decide) (by decide) (by decide) (by decide) w).mono fun _ _ ⟨he, hb⟩ => ⟨he.trans (ret2 (by decide) (by decide)), hb⟩
theorem aw_hex (w : World) : Calls Try.prog 13 #[.int .i64 2748, .int .i64 4] w fun e w' => e = .returned (.string ⟨#[48, 97, 98, 99]⟩) ∧ Below w.heap.size w w' :=
  (hex_any 2748 4 w (by decide)).mono fun _ _ ⟨he, hb⟩ => ⟨he.trans (ret_str (by decide)), hb⟩
theorem aw_num (w : World) : Calls Try.prog 14 #[.string ⟨#[102, 102]⟩] w fun e w' => e = .returned (.tuple #[.int .i64 255, .int .i64 0]) ∧ Below w.heap.size w w' :=
  (number_any ⟨#[102, 102]⟩ w (by decide)).mono fun _ _ ⟨he, hb⟩ => ⟨he.trans (ret_num (by decide) (by decide)), hb⟩

theorem awake_any (w : World) : Calls Try.prog 8 #[] w fun e w' => e = .returned (.bool true) ∧ Below w.heap.size w w' := by
  go_enter Try.func8, Try.ntmps8
  go_wp2_with (first | (go_at_call 6; refine (aw_do _).mono ?_; rintro e w1 ⟨rfl, hb1⟩) | (go_at_call 13; refine (aw_hex _).mono ?_; rintro e w2 ⟨rfl, hb2⟩) | (go_at_call 14; refine (aw_num _).mono ?_; rintro e w3 ⟨rfl, hb3⟩) | (go_at_call 10; refine (word_any _ _ _ (by omega) (by omega) (by omega) (by omega)).mono ?_; rintro e w4 ⟨rfl, rfl⟩))
  go_ret
  exact ⟨rfl, (hb1.trans (hb2.mono hb1.size)).trans (hb3.mono (Nat.le_trans hb1.size hb2.size))⟩
end Go.Proofs.Ytcljbfembnbeiab
