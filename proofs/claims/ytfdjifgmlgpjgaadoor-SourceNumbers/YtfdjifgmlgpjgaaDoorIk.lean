/- An instruction's line of three words, by the document. -/
import Derived.Test.YtfdjifgmlgpjgaaDoorIj
namespace Go.Proofs.YtfdjifgmlgpjgaaDoor
open Go Go.RowKit
set_option linter.unusedVariables false
set_option maxHeartbeats 3000000
set_option maxRecDepth 20000

def ordR (n l : ByteArray) (a p : Int) : Ri := ⟨2, n, a, l, p, none, 0, 0⟩
theorem rord_to (w : World) (sp : Option Addr) (cap : Nat) (x0 x1 x2 : ByteArray) (h0 : Hid (∃ g, sp = some ⟨g, 0, none⟩ ∧ w.cell? ⟨g, 0, none⟩ = some (.string x0) ∧ w.cell? ⟨g, 1, none⟩ = some (.string x1) ∧ w.cell? ⟨g, 2, none⟩ = some (.string x2))) (hw : x1 = ⟨#[116, 111]⟩) : Calls Tryd.prog 70 #[.slice sp 3 cap] w fun e w' => e = .returned (.tuple #[.agg (i6 (ordR x0 x2 0 1)), .bool (mayI (ordR x0 x2 0 1))]) ∧ Below w.heap.size w w' := by
  have K3 : Hid (Fm w [(w.heap.size, i6 z6, 35), (w.heap.size + 1, i6 (ordR x0 x2 0 1), 35)] ((w.alloc (.cells #[.int .u8 0, .string ⟨#[]⟩, .int .i64 0, .string ⟨#[]⟩, .int .u8 0, .slice none 0 0] 35)).alloc (.cells #[.int .u8 2, .string x0, .int .i64 0, .string x2, .int .u8 1, .slice none 0 0] 35))) := Fm.two w _ _ _ _
  have hM := fun v => rmayI_any v (ordR x0 x2 0 1)
  generalize mayI (ordR x0 x2 0 1) = ok at hM
  obtain ⟨g, rfl, hc0, hc1, hc2⟩ := h0.out
  have i0 := fun v => idxT g 3 cap 0 (by omega) v
  have i1 := fun v => idxT g 3 cap 1 (by omega) v
  have i2 := fun v => idxT g 3 cap 2 (by omega) v
  have lg := World.block_lt_of_cell? w _ hc0
  have q1 : (x1.toList == [116, 111]) = true := by rw [str_is]; exact decide_eq_true hw
  go_enter Tryd.func70, Tryd.ntmps70
  go_wp2_with (first
    | ((with_reducible refine at_load rt6 (w.heap.size + 1) (i6 (ordR x0 x2 0 1)) ?_ ?_ (.tmp 4) ?_ ?_ ?_ ?_); (first | exact K3.out.bx 1 _ _ _ rfl | exact K4.out.bx 1 _ _ _ rfl); rfl; rfl; rfl; rfl)
    | (go_at_call 26; refine (hM _).mono ?_; rintro e y2 ⟨rfl, h2⟩; have K4 : Hid (Fm w [(w.heap.size, i6 z6, 35), (w.heap.size + 1, i6 (ordR x0 x2 0 1), 35)] y2) := K3.out.below h2; clear h2)
    | ((with_reducible refine at_st rt6 w.heap.size (i6 z6) (i6 (ordR x0 x2 0 1)) ?_ ?_ ?_ ?_ (.tmp 2) (.tmp 35) ?_ ?_ ?_ ?_ ?_); exact K4.out.bx 0 _ _ _ rfl; rfl; rfl; exact i6_one _; rfl; rfl; rfl; rfl; intro y5 hw5; have K5 : Hid (Fm w [(w.heap.size, i6 (ordR x0 x2 0 1), 35), (w.heap.size + 1, i6 (ordR x0 x2 0 1), 35)] y5) := K4.out.put 0 _ _ _ _ rfl hw5.out))
  exact ret_row2 rt6 rfl rfl rfl (K5.out.bx 0 _ _ _ rfl) rfl rfl ⟨rfl, K5.out.low⟩
theorem rord_high (w : World) (sp : Option Addr) (cap : Nat) (x0 x1 x2 : ByteArray) (h0 : Hid (∃ g, sp = some ⟨g, 0, none⟩ ∧ w.cell? ⟨g, 0, none⟩ = some (.string x0) ∧ w.cell? ⟨g, 1, none⟩ = some (.string x1) ∧ w.cell? ⟨g, 2, none⟩ = some (.string x2))) (hw : x1 = ⟨#[104, 105, 103, 104]⟩) : Calls Tryd.prog 70 #[.slice sp 3 cap] w fun e w' => e = .returned (.tuple #[.agg (i6 (ordR x0 x2 0 2)), .bool (mayI (ordR x0 x2 0 2))]) ∧ Below w.heap.size w w' := by
  have K3 : Hid (Fm w [(w.heap.size, i6 z6, 35), (w.heap.size + 1, i6 (ordR x0 x2 0 2), 35)] ((w.alloc (.cells #[.int .u8 0, .string ⟨#[]⟩, .int .i64 0, .string ⟨#[]⟩, .int .u8 0, .slice none 0 0] 35)).alloc (.cells #[.int .u8 2, .string x0, .int .i64 0, .string x2, .int .u8 2, .slice none 0 0] 35))) := Fm.two w _ _ _ _
  have hM := fun v => rmayI_any v (ordR x0 x2 0 2)
  generalize mayI (ordR x0 x2 0 2) = ok at hM
  obtain ⟨g, rfl, hc0, hc1, hc2⟩ := h0.out
  have i0 := fun v => idxT g 3 cap 0 (by omega) v
  have i1 := fun v => idxT g 3 cap 1 (by omega) v
  have i2 := fun v => idxT g 3 cap 2 (by omega) v
  have lg := World.block_lt_of_cell? w _ hc0
  have q1 : (x1.toList == [116, 111]) = false := by rw [str_is]; exact decide_eq_false (by rw [hw]; decide)
  have q2 : (x1.toList == [104, 105, 103, 104]) = true := by rw [str_is]; exact decide_eq_true hw
  go_enter Tryd.func70, Tryd.ntmps70
  go_wp2_with (first
    | ((with_reducible refine at_load rt6 (w.heap.size + 1) (i6 (ordR x0 x2 0 2)) ?_ ?_ (.tmp 4) ?_ ?_ ?_ ?_); (first | exact K3.out.bx 1 _ _ _ rfl | exact K4.out.bx 1 _ _ _ rfl); rfl; rfl; rfl; rfl)
    | (go_at_call 26; refine (hM _).mono ?_; rintro e y2 ⟨rfl, h2⟩; have K4 : Hid (Fm w [(w.heap.size, i6 z6, 35), (w.heap.size + 1, i6 (ordR x0 x2 0 2), 35)] y2) := K3.out.below h2; clear h2)
    | ((with_reducible refine at_st rt6 w.heap.size (i6 z6) (i6 (ordR x0 x2 0 2)) ?_ ?_ ?_ ?_ (.tmp 2) (.tmp 35) ?_ ?_ ?_ ?_ ?_); exact K4.out.bx 0 _ _ _ rfl; rfl; rfl; exact i6_one _; rfl; rfl; rfl; rfl; intro y5 hw5; have K5 : Hid (Fm w [(w.heap.size, i6 (ordR x0 x2 0 2), 35), (w.heap.size + 1, i6 (ordR x0 x2 0 2), 35)] y5) := K4.out.put 0 _ _ _ _ rfl hw5.out))
  exact ret_row2 rt6 rfl rfl rfl (K5.out.bx 0 _ _ _ rfl) rfl rfl ⟨rfl, K5.out.low⟩
theorem rord_low (w : World) (sp : Option Addr) (cap : Nat) (x0 x1 x2 : ByteArray) (h0 : Hid (∃ g, sp = some ⟨g, 0, none⟩ ∧ w.cell? ⟨g, 0, none⟩ = some (.string x0) ∧ w.cell? ⟨g, 1, none⟩ = some (.string x1) ∧ w.cell? ⟨g, 2, none⟩ = some (.string x2))) (hw : x1 = ⟨#[108, 111, 119]⟩) : Calls Tryd.prog 70 #[.slice sp 3 cap] w fun e w' => e = .returned (.tuple #[.agg (i6 (ordR x0 x2 0 3)), .bool (mayI (ordR x0 x2 0 3))]) ∧ Below w.heap.size w w' := by
  have K3 : Hid (Fm w [(w.heap.size, i6 z6, 35), (w.heap.size + 1, i6 (ordR x0 x2 0 3), 35)] ((w.alloc (.cells #[.int .u8 0, .string ⟨#[]⟩, .int .i64 0, .string ⟨#[]⟩, .int .u8 0, .slice none 0 0] 35)).alloc (.cells #[.int .u8 2, .string x0, .int .i64 0, .string x2, .int .u8 3, .slice none 0 0] 35))) := Fm.two w _ _ _ _
  have hM := fun v => rmayI_any v (ordR x0 x2 0 3)
  generalize mayI (ordR x0 x2 0 3) = ok at hM
  obtain ⟨g, rfl, hc0, hc1, hc2⟩ := h0.out
  have i0 := fun v => idxT g 3 cap 0 (by omega) v
  have i1 := fun v => idxT g 3 cap 1 (by omega) v
  have i2 := fun v => idxT g 3 cap 2 (by omega) v
  have lg := World.block_lt_of_cell? w _ hc0
  have q1 : (x1.toList == [116, 111]) = false := by rw [str_is]; exact decide_eq_false (by rw [hw]; decide)
  have q2 : (x1.toList == [104, 105, 103, 104]) = false := by rw [str_is]; exact decide_eq_false (by rw [hw]; decide)
  have q3 : (x1.toList == [108, 111, 119]) = true := by rw [str_is]; exact decide_eq_true hw
  go_enter Tryd.func70, Tryd.ntmps70
  go_wp2_with (first
    | ((with_reducible refine at_load rt6 (w.heap.size + 1) (i6 (ordR x0 x2 0 3)) ?_ ?_ (.tmp 4) ?_ ?_ ?_ ?_); (first | exact K3.out.bx 1 _ _ _ rfl | exact K4.out.bx 1 _ _ _ rfl); rfl; rfl; rfl; rfl)
    | (go_at_call 26; refine (hM _).mono ?_; rintro e y2 ⟨rfl, h2⟩; have K4 : Hid (Fm w [(w.heap.size, i6 z6, 35), (w.heap.size + 1, i6 (ordR x0 x2 0 3), 35)] y2) := K3.out.below h2; clear h2)
    | ((with_reducible refine at_st rt6 w.heap.size (i6 z6) (i6 (ordR x0 x2 0 3)) ?_ ?_ ?_ ?_ (.tmp 2) (.tmp 35) ?_ ?_ ?_ ?_ ?_); exact K4.out.bx 0 _ _ _ rfl; rfl; rfl; exact i6_one _; rfl; rfl; rfl; rfl; intro y5 hw5; have K5 : Hid (Fm w [(w.heap.size, i6 (ordR x0 x2 0 3), 35), (w.heap.size + 1, i6 (ordR x0 x2 0 3), 35)] y5) := K4.out.put 0 _ _ _ _ rfl hw5.out))
  exact ret_row2 rt6 rfl rfl rfl (K5.out.bx 0 _ _ _ rfl) rfl rfl ⟨rfl, K5.out.low⟩
theorem rord_other (w : World) (sp : Option Addr) (cap : Nat) (x0 x1 : ByteArray) (h0 : Hid (∃ g, sp = some ⟨g, 0, none⟩ ∧ w.cell? ⟨g, 0, none⟩ = some (.string x0) ∧ w.cell? ⟨g, 1, none⟩ = some (.string x1))) (hw : ¬ x1 = ⟨#[116, 111]⟩ ∧ ¬ x1 = ⟨#[104, 105, 103, 104]⟩ ∧ ¬ x1 = ⟨#[108, 111, 119]⟩) : Calls Tryd.prog 70 #[.slice sp 3 cap] w fun e w' => e = .returned (.tuple #[.agg (i6 z6), .bool false]) ∧ Below w.heap.size w w' := by
  have K3 : Hid (Fm w [(w.heap.size, i6 z6, 35), (w.heap.size + 1, i6 (ordR x0 ⟨#[]⟩ 0 0), 35)] ((w.alloc (.cells #[.int .u8 0, .string ⟨#[]⟩, .int .i64 0, .string ⟨#[]⟩, .int .u8 0, .slice none 0 0] 35)).alloc (.cells #[.int .u8 2, .string x0, .int .i64 0, .string ⟨#[]⟩, .int .u8 0, .slice none 0 0] 35))) := Fm.two w _ _ _ _
  obtain ⟨g, rfl, hc0, hc1⟩ := h0.out
  have i0 := fun v => idxT g 3 cap 0 (by omega) v
  have i1 := fun v => idxT g 3 cap 1 (by omega) v
  have lg := World.block_lt_of_cell? w _ hc0
  have q1 : (x1.toList == [116, 111]) = false := by rw [str_is]; exact decide_eq_false hw.1
  have q2 : (x1.toList == [104, 105, 103, 104]) = false := by rw [str_is]; exact decide_eq_false hw.2.1
  have q3 : (x1.toList == [108, 111, 119]) = false := by rw [str_is]; exact decide_eq_false hw.2.2
  replace hw : Hid _ := hw
  go_enter Tryd.func70, Tryd.ntmps70
  go_wp2_with (first
    | ((with_reducible refine at_st rt6 w.heap.size (i6 z6) (i6 z6) ?_ ?_ ?_ ?_ (.tmp 2) (.tmp 19) ?_ ?_ ?_ ?_ ?_); exact K3.out.bx 0 _ _ _ rfl; rfl; rfl; exact i6_one _; rfl; rfl; rfl; rfl; intro y5 hw5; have K5 : Hid (Fm w [(w.heap.size, i6 z6, 35), (w.heap.size + 1, i6 (ordR x0 ⟨#[]⟩ 0 0), 35)] y5) := K3.out.put 0 _ _ _ _ rfl hw5.out))
  exact ret_row2 rt6 rfl rfl rfl (K5.out.bx 0 _ _ _ rfl) rfl rfl ⟨rfl, K5.out.low⟩
theorem rord_many (w : World) (sp : Option Addr) (n cap : Nat) (x0 : ByteArray) (h0 : Hid (∃ g, sp = some ⟨g, 0, none⟩ ∧ w.cell? ⟨g, 0, none⟩ = some (.string x0))) (hn : 3 < n) (hn2 : n ≤ 1000001) : Calls Tryd.prog 70 #[.slice sp n cap] w fun e w' => e = .returned (.tuple #[.agg (i6 z6), .bool false]) ∧ Below w.heap.size w w' := by
  have K3 : Hid (Fm w [(w.heap.size, i6 z6, 35), (w.heap.size + 1, i6 (ordR x0 ⟨#[]⟩ 0 0), 35)] ((w.alloc (.cells #[.int .u8 0, .string ⟨#[]⟩, .int .i64 0, .string ⟨#[]⟩, .int .u8 0, .slice none 0 0] 35)).alloc (.cells #[.int .u8 2, .string x0, .int .i64 0, .string ⟨#[]⟩, .int .u8 0, .slice none 0 0] 35))) := Fm.two w _ _ _ _
  obtain ⟨g, rfl, hc0⟩ := h0.out
  have i0 := fun v => idxT g n cap 0 (by omega) v
  have lg := World.block_lt_of_cell? w _ hc0
  have q1 : ((n : Int) == 3) = false := by rw [beq_eq_false_iff_ne]; omega
  have q2 : (2 : Int) < n := by omega
  go_enter Tryd.func70, Tryd.ntmps70
  go_wp2_with (first
    | ((with_reducible refine at_st rt6 w.heap.size (i6 z6) (i6 z6) ?_ ?_ ?_ ?_ (.tmp 2) (.tmp 40) ?_ ?_ ?_ ?_ ?_); exact K3.out.bx 0 _ _ _ rfl; rfl; rfl; exact i6_one _; rfl; rfl; rfl; rfl; intro y5 hw5; have K5 : Hid (Fm w [(w.heap.size, i6 z6, 35), (w.heap.size + 1, i6 (ordR x0 ⟨#[]⟩ 0 0), 35)] y5) := K3.out.put 0 _ _ _ _ rfl hw5.out))
  exact ret_row2 rt6 rfl rfl rfl (K5.out.bx 0 _ _ _ rfl) rfl rfl ⟨rfl, K5.out.low⟩
end Go.Proofs.YtfdjifgmlgpjgaaDoor
