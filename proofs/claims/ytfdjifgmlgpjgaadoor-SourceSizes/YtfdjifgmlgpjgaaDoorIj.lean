/- A line's label, by the document. -/
import Derived.Test.YtfdjifgmlgpjgaaDoorIi
namespace Go.Proofs.YtfdjifgmlgpjgaaDoor
open Go Go.RowKit
set_option linter.unusedVariables false
set_option maxHeartbeats 3000000
set_option maxRecDepth 20000

def z6 : Ri := ⟨0, ⟨#[]⟩, 0, ⟨#[]⟩, 0, none, 0, 0⟩
theorem i6_one (r : Ri) : (i6 r).all (·.oneCell') = true := by simp [i6, Value.oneCell']
theorem built0 : Tryd.prog.built 35 [] = some (i6 z6) := by kernel_rfl
def labR (n : ByteArray) : Ri := ⟨1, n, 0, ⟨#[]⟩, 0, none, 0, 0⟩
theorem built_lab (n : ByteArray) : Tryd.prog.built 35 [(0, .int .u8 1), (1, .string n)] = some (i6 (labR n)) := by kernel_rfl
theorem mayI_lab (n : ByteArray) : mayI (labR n) = isNm n := by
  unfold mayI labR
  simp
  intro _
  rfl
/-- What a label's line says, by its first word. -/
def labOk (x : ByteArray) : Bool := decide ((strL x).getLast? = some 58) && isNm (x.extract 0 (x.size - 1))

theorem rlabel_more (w : World) (sp : Option Addr) (n cap : Nat) (x : ByteArray) (hx : Hid (0 < x.size)) (h0 : Hid (∃ g, sp = some ⟨g, 0, none⟩ ∧ w.cell? ⟨g, 0, none⟩ = some (.string x))) (hn : 1 < n) (hn2 : n ≤ 1000001) : Calls Tryd.prog 67 #[.slice sp n cap] w fun e w' => e = .returned (.tuple #[.agg (i6 z6), .bool false]) ∧ Below w.heap.size w w' := by
  have K1 : Hid (Fm w [(w.heap.size, i6 z6, 35)] (w.alloc (.cells #[.int .u8 0, .string ⟨#[]⟩, .int .i64 0, .string ⟨#[]⟩, .int .u8 0, .slice none 0 0] 35))) := Fm.one w _ _
  obtain ⟨g, rfl, hc⟩ := h0.out
  have ij := fun v => idxT g n cap 0 (by omega) v
  have ni : (1 : Int) < n := by omega
  have q1 : ((n : Int) != 1) = true := by rw [bne_iff_ne]; omega
  have c0 : (w.alloc (.cells #[.int .u8 0, .string ⟨#[]⟩, .int .i64 0, .string ⟨#[]⟩, .int .u8 0, .slice none 0 0] 35)).cell? ⟨g, 0, none⟩ = some (.string x) := (K1.out.low.cell (p := ⟨g, 0, none⟩) (World.block_lt_of_cell? w _ hc)).trans hc
  replace hc : Hid _ := hc
  clear hn hn2
  go_enter Tryd.func67, Tryd.ntmps67
  go_wp2_with (first
    | ((with_reducible refine at_bu #[] [] (i6 z6) ?_ ?_ ?_ built0 ?_); kernel_rfl; rfl; rfl)
    | ((with_reducible refine at_st rt6 w.heap.size (i6 z6) (i6 z6) ?_ ?_ ?_ ?_ (.tmp 2) (.tmp 21) ?_ ?_ ?_ ?_ ?_); exact K1.out.bx 0 _ _ _ rfl; rfl; rfl; exact i6_one _; rfl; rfl; rfl; rfl; intro y2 hw2; have K2 : Hid (Fm w [(w.heap.size, i6 z6, 35)] y2) := K1.out.put 0 _ _ _ _ rfl hw2.out))
  exact ret_row2 rt6 rfl rfl rfl (K2.out.bx 0 _ _ _ rfl) rfl rfl ⟨rfl, K2.out.low⟩
theorem rlabel_one (w : World) (sp : Option Addr) (cap : Nat) (x : ByteArray) (hx : 0 < x.size) (hx2 : x.size ≤ 1000000) (h0 : Hid (∃ g, sp = some ⟨g, 0, none⟩ ∧ w.cell? ⟨g, 0, none⟩ = some (.string x))) (hl : x[x.size - 1]'(by omega) ≠ 58) : Calls Tryd.prog 67 #[.slice sp 1 cap] w fun e w' => e = .returned (.tuple #[.agg (i6 z6), .bool false]) ∧ Below w.heap.size w w' := by
  have K1 : Hid (Fm w [(w.heap.size, i6 z6, 35)] (w.alloc (.cells #[.int .u8 0, .string ⟨#[]⟩, .int .i64 0, .string ⟨#[]⟩, .int .u8 0, .slice none 0 0] 35))) := Fm.one w _ _
  obtain ⟨g, rfl, hc⟩ := h0.out
  have ij := fun v => idxT g 1 cap 0 (by omega) v
  have c0 : (w.alloc (.cells #[.int .u8 0, .string ⟨#[]⟩, .int .i64 0, .string ⟨#[]⟩, .int .u8 0, .slice none 0 0] 35)).cell? ⟨g, 0, none⟩ = some (.string x) := (K1.out.low.cell (p := ⟨g, 0, none⟩) (World.block_lt_of_cell? w _ hc)).trans hc
  replace hc : Hid _ := hc
  have x1 : (1 : Int) ≤ x.size := by omega
  have x2 : (x.size : Int) ≤ 1000000 := by omega
  have x3 : ((x.size : Int) - 1).toNat = x.size - 1 := by omega
  have x4 : (x.size : Int) - 1 < x.size := by omega
  have x5 : 0 ≤ (x.size : Int) - 1 := by omega
  have l1 : (((x[x.size - 1]'(by omega)).toNat : Int) != 58) = true := by
    rw [bne_iff_ne]
    intro e
    exact hl (UInt8.toNat_inj.1 (by show (x[x.size - 1]'(by omega)).toNat = 58; omega))
  go_enter Tryd.func67, Tryd.ntmps67
  go_wp2_with (first
    | ((with_reducible refine at_bu #[] [] (i6 z6) ?_ ?_ ?_ built0 ?_); kernel_rfl; rfl; rfl)
    | ((with_reducible refine at_st rt6 w.heap.size (i6 z6) (i6 z6) ?_ ?_ ?_ ?_ (.tmp 2) (.tmp 21) ?_ ?_ ?_ ?_ ?_); exact K1.out.bx 0 _ _ _ rfl; rfl; rfl; exact i6_one _; rfl; rfl; rfl; rfl; intro y2 hw2; have K2 : Hid (Fm w [(w.heap.size, i6 z6, 35)] y2) := K1.out.put 0 _ _ _ _ rfl hw2.out))
  exact ret_row2 rt6 rfl rfl rfl (K2.out.bx 0 _ _ _ rfl) rfl rfl ⟨rfl, K2.out.low⟩
theorem rlabel_yes (w : World) (sp : Option Addr) (cap : Nat) (x : ByteArray) (hx : 0 < x.size) (hx2 : x.size ≤ 1000000) (h0 : Hid (∃ g, sp = some ⟨g, 0, none⟩ ∧ w.cell? ⟨g, 0, none⟩ = some (.string x))) (hl : x[x.size - 1]'(by omega) = 58) : Calls Tryd.prog 67 #[.slice sp 1 cap] w fun e w' => e = .returned (.tuple #[.agg (i6 (labR (x.extract 0 (x.size - 1)))), .bool (isNm (x.extract 0 (x.size - 1)))]) ∧ Below w.heap.size w w' := by
  have K1 : Hid (Fm w [(w.heap.size, i6 z6, 35)] (w.alloc (.cells #[.int .u8 0, .string ⟨#[]⟩, .int .i64 0, .string ⟨#[]⟩, .int .u8 0, .slice none 0 0] 35))) := Fm.one w _ _
  have K3 : Hid (Fm w [(w.heap.size, i6 z6, 35), (w.heap.size + 1, i6 (labR (x.extract 0 (x.size - 1))), 35)] ((w.alloc (.cells #[.int .u8 0, .string ⟨#[]⟩, .int .i64 0, .string ⟨#[]⟩, .int .u8 0, .slice none 0 0] 35)).alloc (.cells #[.int .u8 1, .string (x.extract 0 (x.size - 1)), .int .i64 0, .string ⟨#[]⟩, .int .u8 0, .slice none 0 0] 35))) := Fm.two w _ _ _ _
  have hM := fun v => rmayI_any v (labR (x.extract 0 (x.size - 1)))
  simp only [mayI_lab] at hM
  obtain ⟨g, rfl, hc⟩ := h0.out
  have ij := fun v => idxT g 1 cap 0 (by omega) v
  have c0 : (w.alloc (.cells #[.int .u8 0, .string ⟨#[]⟩, .int .i64 0, .string ⟨#[]⟩, .int .u8 0, .slice none 0 0] 35)).cell? ⟨g, 0, none⟩ = some (.string x) := (K1.out.low.cell (p := ⟨g, 0, none⟩) (World.block_lt_of_cell? w _ hc)).trans hc
  replace hc : Hid _ := hc
  have x1 : (1 : Int) ≤ x.size := by omega
  have x2 : (x.size : Int) ≤ 1000000 := by omega
  have x3 : ((x.size : Int) - 1).toNat = x.size - 1 := by omega
  have x4 : (x.size : Int) - 1 < x.size := by omega
  have x5 : 0 ≤ (x.size : Int) - 1 := by omega
  have x6 : (x.size : Int) - 1 ≤ x.size := by omega
  have l1 : (((x[x.size - 1]'(by omega)).toNat : Int) != 58) = false := by
    rw [bne_eq_false_iff_eq, hl]
    rfl
  replace hl : Hid _ := hl
  go_enter Tryd.func67, Tryd.ntmps67
  go_wp2_with (first
    | ((with_reducible refine at_load rt6 (w.heap.size + 1) (i6 (labR (x.extract 0 (x.size - 1)))) ?_ ?_ (.tmp 5) ?_ ?_ ?_ ?_); (first | exact K3.out.bx 1 _ _ _ rfl | exact K4.out.bx 1 _ _ _ rfl); rfl; rfl; rfl; rfl)
    | (go_at_call 26; refine (hM _).mono ?_; rintro e y2 ⟨rfl, h2⟩; have K4 : Hid (Fm w [(w.heap.size, i6 z6, 35), (w.heap.size + 1, i6 (labR (x.extract 0 (x.size - 1))), 35)] y2) := K3.out.below h2; clear h2)
    | ((with_reducible refine at_st rt6 w.heap.size (i6 z6) (i6 (labR (x.extract 0 (x.size - 1)))) ?_ ?_ ?_ ?_ (.tmp 2) (.tmp 30) ?_ ?_ ?_ ?_ ?_); exact K4.out.bx 0 _ _ _ rfl; rfl; rfl; exact i6_one _; rfl; rfl; rfl; rfl; intro y5 hw5; have K5 : Hid (Fm w [(w.heap.size, i6 (labR (x.extract 0 (x.size - 1))), 35), (w.heap.size + 1, i6 (labR (x.extract 0 (x.size - 1))), 35)] y5) := K4.out.put 0 _ _ _ _ rfl hw5.out))
  exact ret_row2 rt6 rfl rfl rfl (K5.out.bx 0 _ _ _ rfl) rfl rfl ⟨rfl, K5.out.low⟩
end Go.Proofs.YtfdjifgmlgpjgaaDoor
