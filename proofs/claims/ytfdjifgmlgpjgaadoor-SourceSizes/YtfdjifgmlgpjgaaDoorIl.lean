/- An instruction's line of one word or two, by the document. -/
import Derived.Test.YtfdjifgmlgpjgaaDoorIk
namespace Go.Proofs.YtfdjifgmlgpjgaaDoor
open Go Go.RowKit
set_option linter.unusedVariables false
set_option maxHeartbeats 3000000
set_option maxRecDepth 20000

theorem rord1_no (w : World) (sp : Option Addr) (cap : Nat) (x0 : ByteArray) (h0 : Hid (∃ g, sp = some ⟨g, 0, none⟩ ∧ w.cell? ⟨g, 0, none⟩ = some (.string x0))) (hs : x0.size ≤ 1000000) (hw : ¬ parseE x0 = 0) : Calls Tryd.prog 70 #[.slice sp 1 cap] w fun e w' => e = .returned (.tuple #[.agg (i6 z6), .bool false]) ∧ Below w.heap.size w w' := by
  have K3 : Hid (Fm w [(w.heap.size, i6 z6, 35), (w.heap.size + 1, i6 (ordR x0 ⟨#[]⟩ 0 0), 35)] ((w.alloc (.cells #[.int .u8 0, .string ⟨#[]⟩, .int .i64 0, .string ⟨#[]⟩, .int .u8 0, .slice none 0 0] 35)).alloc (.cells #[.int .u8 2, .string x0, .int .i64 0, .string ⟨#[]⟩, .int .u8 0, .slice none 0 0] 35))) := Fm.two w _ _ _ _
  have hP := fun v => rparse_any x0 (by omega) v
  obtain ⟨E, hE⟩ : ∃ e, parseE x0 = e := ⟨_, rfl⟩
  obtain ⟨N, hN⟩ : ∃ e, parseN x0 = e := ⟨_, rfl⟩
  obtain ⟨A, hA⟩ : ∃ e, parseA x0 = e := ⟨_, rfl⟩
  rw [hE] at hw
  simp only [hE, hN, hA, retI] at hP ⊢
  clear hE hN hA
  have qe : (E != 0) = true := by rw [bne_iff_ne]; exact hw
  obtain ⟨g, rfl, hc0⟩ := h0.out
  have i0 := fun v => idxT g 1 cap 0 (by omega) v
  have lg := World.block_lt_of_cell? w _ hc0
  clear hs
  replace hw : Hid _ := hw
  go_enter Tryd.func70, Tryd.ntmps70
  go_wp2_with (first
    | (go_at_call 93; refine (hP _).mono ?_; rintro e y2 ⟨rfl, h2⟩; have K4 : Hid (Fm w [(w.heap.size, i6 z6, 35), (w.heap.size + 1, i6 (ordR x0 ⟨#[]⟩ 0 0), 35), (y2.heap.size, #[.string N, .int .i64 A], 83)] (y2.alloc (.cells #[.string N, .int .i64 A] 83))) := (K3.out.below h2).new _ _; clear h2)
    | ((with_reducible refine at_st rt6 w.heap.size (i6 z6) (i6 z6) ?_ ?_ ?_ ?_ (.tmp 2) (.tmp 60) ?_ ?_ ?_ ?_ ?_); exact K4.out.bx 0 _ _ _ rfl; rfl; rfl; exact i6_one _; rfl; rfl; rfl; rfl; intro y5 hw5; have K5 : Hid (Fm w [(w.heap.size, i6 z6, 35), (w.heap.size + 1, i6 (ordR x0 ⟨#[]⟩ 0 0), 35), (y2.heap.size, #[.string N, .int .i64 A], 83)] y5) := K4.out.put 0 _ _ _ _ rfl hw5.out))
  exact ret_row2 rt6 rfl rfl rfl (K5.out.bx 0 _ _ _ rfl) rfl rfl ⟨rfl, K5.out.low⟩
theorem rord1_yes (w : World) (sp : Option Addr) (cap : Nat) (x0 : ByteArray) (h0 : Hid (∃ g, sp = some ⟨g, 0, none⟩ ∧ w.cell? ⟨g, 0, none⟩ = some (.string x0))) (hs : x0.size ≤ 1000000) (hw : parseE x0 = 0) : Calls Tryd.prog 70 #[.slice sp 1 cap] w fun e w' => e = .returned (.tuple #[.agg (i6 (ordR x0 ⟨#[]⟩ (parseA x0) 0)), .bool true]) ∧ Below w.heap.size w w' := by
  have K3 : Hid (Fm w [(w.heap.size, i6 z6, 35), (w.heap.size + 1, i6 (ordR x0 ⟨#[]⟩ 0 0), 35)] ((w.alloc (.cells #[.int .u8 0, .string ⟨#[]⟩, .int .i64 0, .string ⟨#[]⟩, .int .u8 0, .slice none 0 0] 35)).alloc (.cells #[.int .u8 2, .string x0, .int .i64 0, .string ⟨#[]⟩, .int .u8 0, .slice none 0 0] 35))) := Fm.two w _ _ _ _
  have hP := fun v => rparse_any x0 (by omega) v
  obtain ⟨E, hE⟩ : ∃ e, parseE x0 = e := ⟨_, rfl⟩
  obtain ⟨N, hN⟩ : ∃ e, parseN x0 = e := ⟨_, rfl⟩
  obtain ⟨A, hA⟩ : ∃ e, parseA x0 = e := ⟨_, rfl⟩
  rw [hE] at hw
  simp only [hE, hN, hA, retI] at hP ⊢
  clear hE hN hA
  have qe : (E != 0) = false := by rw [bne_eq_false_iff_eq]; exact hw
  obtain ⟨g, rfl, hc0⟩ := h0.out
  have i0 := fun v => idxT g 1 cap 0 (by omega) v
  have lg := World.block_lt_of_cell? w _ hc0
  clear hs
  replace hw : Hid _ := hw
  go_enter Tryd.func70, Tryd.ntmps70
  go_wp2_with (first
    | (go_at_call 93; refine (hP _).mono ?_; rintro e y2 ⟨rfl, h2⟩; have K4 : Hid (Fm w [(w.heap.size, i6 z6, 35), (w.heap.size + 1, i6 (ordR x0 ⟨#[]⟩ 0 0), 35), (y2.heap.size, #[.string N, .int .i64 A], 83)] (y2.alloc (.cells #[.string N, .int .i64 A] 83))) := (K3.out.below h2).new _ _; clear h2; have g1 := (K4.out.bx 2 _ _ _ rfl).c 1 (.int .i64 A) rfl; have z1 := (K4.out.bx 1 _ _ _ rfl).fz 2; have z2 := (K4.out.bx 1 _ _ _ rfl).c 2 (.int .i64 0) rfl; have K6 : Hid (Fm w [(w.heap.size, i6 z6, 35), (w.heap.size + 1, i6 (ordR x0 ⟨#[]⟩ A 0), 35), (y2.heap.size, #[.string N, .int .i64 A], 83)] ((y2.alloc (.cells #[.string N, .int .i64 A] 83)).setCell ⟨w.heap.size + 1, 2, none⟩ (.int .i64 A))) := K4.out.setCell 1 _ _ _ _ rfl 2 _ rfl)
    | ((with_reducible refine at_load rt6 (w.heap.size + 1) (i6 (ordR x0 ⟨#[]⟩ A 0)) ?_ ?_ (.tmp 4) ?_ ?_ ?_ ?_); exact K6.out.bx 1 _ _ _ rfl; rfl; rfl; rfl; rfl)
    | ((with_reducible refine at_st rt6 w.heap.size (i6 z6) (i6 (ordR x0 ⟨#[]⟩ A 0)) ?_ ?_ ?_ ?_ (.tmp 2) (.tmp 64) ?_ ?_ ?_ ?_ ?_); exact K6.out.bx 0 _ _ _ rfl; rfl; rfl; exact i6_one _; rfl; rfl; rfl; rfl; intro y5 hw5; have K5 : Hid (Fm w [(w.heap.size, i6 (ordR x0 ⟨#[]⟩ A 0), 35), (w.heap.size + 1, i6 (ordR x0 ⟨#[]⟩ A 0), 35), (y2.heap.size, #[.string N, .int .i64 A], 83)] y5) := K6.out.put 0 _ _ _ _ rfl hw5.out))
  exact ret_row2 rt6 rfl rfl rfl (K5.out.bx 0 _ _ _ rfl) rfl rfl ⟨rfl, K5.out.low⟩
theorem rord2_no (w : World) (sp : Option Addr) (cap : Nat) (x0 x1 : ByteArray) (h0 : Hid (∃ g, sp = some ⟨g, 0, none⟩ ∧ w.cell? ⟨g, 0, none⟩ = some (.string x0) ∧ w.cell? ⟨g, 1, none⟩ = some (.string x1))) (hs : x0.size ≤ 1000000 ∧ x1.size ≤ 1000000) (hw : ¬ parseE (x0 ++ ⟨#[32]⟩ ++ x1) = 0) : Calls Tryd.prog 70 #[.slice sp 2 cap] w fun e w' => e = .returned (.tuple #[.agg (i6 z6), .bool false]) ∧ Below w.heap.size w w' := by
  have K3 : Hid (Fm w [(w.heap.size, i6 z6, 35), (w.heap.size + 1, i6 (ordR x0 ⟨#[]⟩ 0 0), 35)] ((w.alloc (.cells #[.int .u8 0, .string ⟨#[]⟩, .int .i64 0, .string ⟨#[]⟩, .int .u8 0, .slice none 0 0] 35)).alloc (.cells #[.int .u8 2, .string x0, .int .i64 0, .string ⟨#[]⟩, .int .u8 0, .slice none 0 0] 35))) := Fm.two w _ _ _ _
  have hP := fun v => rparse_any (x0 ++ ⟨#[32]⟩ ++ x1) (by have e : (⟨#[32]⟩ : ByteArray).size = 1 := rfl; rw [ByteArray.size_append, ByteArray.size_append]; omega) v
  obtain ⟨E, hE⟩ : ∃ e, parseE (x0 ++ ⟨#[32]⟩ ++ x1) = e := ⟨_, rfl⟩
  obtain ⟨N, hN⟩ : ∃ e, parseN (x0 ++ ⟨#[32]⟩ ++ x1) = e := ⟨_, rfl⟩
  obtain ⟨A, hA⟩ : ∃ e, parseA (x0 ++ ⟨#[32]⟩ ++ x1) = e := ⟨_, rfl⟩
  rw [hE] at hw
  simp only [hE, hN, hA, retI] at hP ⊢
  clear hE hN hA
  have qe : (E != 0) = true := by rw [bne_iff_ne]; exact hw
  obtain ⟨g, rfl, hc0, hc1⟩ := h0.out
  have i0 := fun v => idxT g 2 cap 0 (by omega) v
  have i1 := fun v => idxT g 2 cap 1 (by omega) v
  have s0 : (x0.size : Int) ≤ 1000000 := by omega
  have s1 : (x1.size : Int) ≤ 1000000 := by omega
  have lg := World.block_lt_of_cell? w _ hc0
  clear hs
  replace hw : Hid _ := hw
  go_enter Tryd.func70, Tryd.ntmps70
  go_wp2_with (first
    | (go_at_call 93; refine (hP _).mono ?_; rintro e y2 ⟨rfl, h2⟩; have K4 : Hid (Fm w [(w.heap.size, i6 z6, 35), (w.heap.size + 1, i6 (ordR x0 ⟨#[]⟩ 0 0), 35), (y2.heap.size, #[.string N, .int .i64 A], 83)] (y2.alloc (.cells #[.string N, .int .i64 A] 83))) := (K3.out.below h2).new _ _; clear h2)
    | ((with_reducible refine at_st rt6 w.heap.size (i6 z6) (i6 z6) ?_ ?_ ?_ ?_ (.tmp 2) (.tmp 60) ?_ ?_ ?_ ?_ ?_); exact K4.out.bx 0 _ _ _ rfl; rfl; rfl; exact i6_one _; rfl; rfl; rfl; rfl; intro y5 hw5; have K5 : Hid (Fm w [(w.heap.size, i6 z6, 35), (w.heap.size + 1, i6 (ordR x0 ⟨#[]⟩ 0 0), 35), (y2.heap.size, #[.string N, .int .i64 A], 83)] y5) := K4.out.put 0 _ _ _ _ rfl hw5.out))
  exact ret_row2 rt6 rfl rfl rfl (K5.out.bx 0 _ _ _ rfl) rfl rfl ⟨rfl, K5.out.low⟩
theorem rord2_yes (w : World) (sp : Option Addr) (cap : Nat) (x0 x1 : ByteArray) (h0 : Hid (∃ g, sp = some ⟨g, 0, none⟩ ∧ w.cell? ⟨g, 0, none⟩ = some (.string x0) ∧ w.cell? ⟨g, 1, none⟩ = some (.string x1))) (hs : x0.size ≤ 1000000 ∧ x1.size ≤ 1000000) (hw : parseE (x0 ++ ⟨#[32]⟩ ++ x1) = 0) : Calls Tryd.prog 70 #[.slice sp 2 cap] w fun e w' => e = .returned (.tuple #[.agg (i6 (ordR x0 ⟨#[]⟩ (parseA (x0 ++ ⟨#[32]⟩ ++ x1)) 0)), .bool true]) ∧ Below w.heap.size w w' := by
  have K3 : Hid (Fm w [(w.heap.size, i6 z6, 35), (w.heap.size + 1, i6 (ordR x0 ⟨#[]⟩ 0 0), 35)] ((w.alloc (.cells #[.int .u8 0, .string ⟨#[]⟩, .int .i64 0, .string ⟨#[]⟩, .int .u8 0, .slice none 0 0] 35)).alloc (.cells #[.int .u8 2, .string x0, .int .i64 0, .string ⟨#[]⟩, .int .u8 0, .slice none 0 0] 35))) := Fm.two w _ _ _ _
  have hP := fun v => rparse_any (x0 ++ ⟨#[32]⟩ ++ x1) (by have e : (⟨#[32]⟩ : ByteArray).size = 1 := rfl; rw [ByteArray.size_append, ByteArray.size_append]; omega) v
  obtain ⟨E, hE⟩ : ∃ e, parseE (x0 ++ ⟨#[32]⟩ ++ x1) = e := ⟨_, rfl⟩
  obtain ⟨N, hN⟩ : ∃ e, parseN (x0 ++ ⟨#[32]⟩ ++ x1) = e := ⟨_, rfl⟩
  obtain ⟨A, hA⟩ : ∃ e, parseA (x0 ++ ⟨#[32]⟩ ++ x1) = e := ⟨_, rfl⟩
  rw [hE] at hw
  simp only [hE, hN, hA, retI] at hP ⊢
  clear hE hN hA
  have qe : (E != 0) = false := by rw [bne_eq_false_iff_eq]; exact hw
  obtain ⟨g, rfl, hc0, hc1⟩ := h0.out
  have i0 := fun v => idxT g 2 cap 0 (by omega) v
  have i1 := fun v => idxT g 2 cap 1 (by omega) v
  have s0 : (x0.size : Int) ≤ 1000000 := by omega
  have s1 : (x1.size : Int) ≤ 1000000 := by omega
  have lg := World.block_lt_of_cell? w _ hc0
  clear hs
  replace hw : Hid _ := hw
  go_enter Tryd.func70, Tryd.ntmps70
  go_wp2_with (first
    | (go_at_call 93; refine (hP _).mono ?_; rintro e y2 ⟨rfl, h2⟩; have K4 : Hid (Fm w [(w.heap.size, i6 z6, 35), (w.heap.size + 1, i6 (ordR x0 ⟨#[]⟩ 0 0), 35), (y2.heap.size, #[.string N, .int .i64 A], 83)] (y2.alloc (.cells #[.string N, .int .i64 A] 83))) := (K3.out.below h2).new _ _; clear h2; have g1 := (K4.out.bx 2 _ _ _ rfl).c 1 (.int .i64 A) rfl; have z1 := (K4.out.bx 1 _ _ _ rfl).fz 2; have z2 := (K4.out.bx 1 _ _ _ rfl).c 2 (.int .i64 0) rfl; have K6 : Hid (Fm w [(w.heap.size, i6 z6, 35), (w.heap.size + 1, i6 (ordR x0 ⟨#[]⟩ A 0), 35), (y2.heap.size, #[.string N, .int .i64 A], 83)] ((y2.alloc (.cells #[.string N, .int .i64 A] 83)).setCell ⟨w.heap.size + 1, 2, none⟩ (.int .i64 A))) := K4.out.setCell 1 _ _ _ _ rfl 2 _ rfl)
    | ((with_reducible refine at_load rt6 (w.heap.size + 1) (i6 (ordR x0 ⟨#[]⟩ A 0)) ?_ ?_ (.tmp 4) ?_ ?_ ?_ ?_); exact K6.out.bx 1 _ _ _ rfl; rfl; rfl; rfl; rfl)
    | ((with_reducible refine at_st rt6 w.heap.size (i6 z6) (i6 (ordR x0 ⟨#[]⟩ A 0)) ?_ ?_ ?_ ?_ (.tmp 2) (.tmp 64) ?_ ?_ ?_ ?_ ?_); exact K6.out.bx 0 _ _ _ rfl; rfl; rfl; exact i6_one _; rfl; rfl; rfl; rfl; intro y5 hw5; have K5 : Hid (Fm w [(w.heap.size, i6 (ordR x0 ⟨#[]⟩ A 0), 35), (w.heap.size + 1, i6 (ordR x0 ⟨#[]⟩ A 0), 35), (y2.heap.size, #[.string N, .int .i64 A], 83)] y5) := K6.out.put 0 _ _ _ _ rfl hw5.out))
  exact ret_row2 rt6 rfl rfl rfl (K5.out.bx 0 _ _ _ rfl) rfl rfl ⟨rfl, K5.out.low⟩
end Go.Proofs.YtfdjifgmlgpjgaaDoor
