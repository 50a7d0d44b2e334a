/- What the rows' own functions read out of a machine, and lay into it. -/
import Derived.Test.YtehnhjdjjalifaaDoorQ1
import Derived.Test.YtehnhjdjjalifaaDoorX6
namespace Go.Proofs.YtehnhjdjjalifaaDoor
open Go Go.RowKit
set_option linter.unusedVariables false
set_option maxHeartbeats 2000000
set_option maxRecDepth 20000

/-- A box was written; all else stands, and there may be more. -/
structure Sto (b : Nat) (z z' : World) : Prop where
  low : Below b z z'
  oth : ∀ q, q ≠ b → q < z.heap.size → z'.heap[q]? = z.heap[q]?
theorem Sto.refl (b : Nat) (z : World) : Sto b z z := ⟨Below.refl _ _, fun _ _ _ => rfl⟩
theorem Sto.trans {b : Nat} {x y z : World} (h : Sto b x y) (k : Sto b y z) : Sto b x z := ⟨h.low.trans k.low, fun q hq hx => (k.oth q hq (Nat.lt_of_lt_of_le hx h.low.size)).trans (h.oth q hq hx)⟩
theorem Sto.of_below {b : Nat} {z z' : World} (h : Below z.heap.size z z') (hb : b ≤ z.heap.size) : Sto b z z' := ⟨h.mono hb, fun q _ hq => h.block q hq⟩
theorem Sto.set (b j : Nat) (v : Value) (z : World) : Sto b z (z.setCell ⟨b, j, none⟩ v) := ⟨(Below.refl b z).setCell (p := ⟨b, j, none⟩) (Nat.le_refl _) v, fun q hq _ => heap_setCell_other z ⟨b, j, none⟩ q v hq⟩
/-- What laying a value into a machine leaves. -/
def LyE (b : Nat) (M : Array Value) (j : Nat) (v : Value) (w : World) (e : Ending) (w' : World) : Prop := e = .returned (.tuple #[]) ∧ Hid (Bx w' b (M.setIfInBounds j v) 35 ∧ Sto b w w')
theorem LyE.of_set {b : Nat} {M : Array Value} {j : Nat} {v : Value} {w : World} (h : Bx w b M 35) : LyE b M j v w (.returned (.tuple #[])) (w.setCell ⟨b, j, none⟩ v) := ⟨rfl, heap_setCell_same w b j M _ v h, Sto.set b j v w⟩
theorem of_3 (w : World) (C : Array Value) (n : Nat) (hc : C[16]? = some (.int .u8 (n : Int))) : Calls Tryd.prog 26 #[.agg C] w fun e w' => e = .returned (.int .u8 (n : Int)) ∧ Below w.heap.size w w' := by
  have B0 : Bx (w.alloc (.cells C 35)) w.heap.size C 35 := one_bxL _ _ _
  have K0 : Hid (Below w.heap.size w (w.alloc (.cells C 35))) := below1 w _
  have c0 := B0.c 16 _ hc
  clear B0 hc
  go_enter Tryd.func26, Tryd.ntmps26
  go_wp2
  go_ret
  exact ⟨rfl, K0.out⟩
theorem ly_4 (w : World) (b : Nat) (M : Array Value) (hb : Bx w b M 35) (hM : M.size = 35) (n : Nat) : Calls Tryd.prog 27 #[.pointer (some ⟨b, 0, none⟩), .int .u8 (n : Int)] w (LyE b M 16 (.int .u8 (n : Int)) w) := by
  obtain ⟨x, hx⟩ : ∃ x, M[16]? = some x := ⟨_, Array.getElem?_eq_getElem (show 16 < M.size by rw [hM]; decide)⟩
  have d := hb.c 16 x hx
  have z := hb.fz 16
  have H : Hid (LyE b M 16 (.int .u8 (n : Int)) w (.returned (.tuple #[])) (w.setCell ⟨b, 16, none⟩ (.int .u8 (n : Int)))) := LyE.of_set hb
  clear hb hM hx
  go_enter Tryd.func27, Tryd.ntmps27
  go_wp2
  go_end0
  exact H.out
theorem of_5 (w : World) (C : Array Value) (n : Bool) (hc : C[17]? = some (.bool n)) : Calls Tryd.prog 29 #[.agg C] w fun e w' => e = .returned (.bool n) ∧ Below w.heap.size w w' := by
  have B0 : Bx (w.alloc (.cells C 35)) w.heap.size C 35 := one_bxL _ _ _
  have K0 : Hid (Below w.heap.size w (w.alloc (.cells C 35))) := below1 w _
  have c0 := B0.c 17 _ hc
  clear B0 hc
  go_enter Tryd.func29, Tryd.ntmps29
  go_wp2
  go_ret
  exact ⟨rfl, K0.out⟩
theorem ly_6 (w : World) (b : Nat) (M : Array Value) (hb : Bx w b M 35) (hM : M.size = 35) (n : Bool) : Calls Tryd.prog 30 #[.pointer (some ⟨b, 0, none⟩), .bool n] w (LyE b M 17 (.bool n) w) := by
  obtain ⟨x, hx⟩ : ∃ x, M[17]? = some x := ⟨_, Array.getElem?_eq_getElem (show 17 < M.size by rw [hM]; decide)⟩
  have d := hb.c 17 x hx
  have z := hb.fz 17
  have H : Hid (LyE b M 17 (.bool n) w (.returned (.tuple #[])) (w.setCell ⟨b, 17, none⟩ (.bool n))) := LyE.of_set hb
  clear hb hM hx
  go_enter Tryd.func30, Tryd.ntmps30
  go_wp2
  go_end0
  exact H.out
theorem of_7 (w : World) (C : Array Value) (n : Nat) (hc : C[18]? = some (.int .u8 (n : Int))) : Calls Tryd.prog 31 #[.agg C] w fun e w' => e = .returned (.int .u8 (n : Int)) ∧ Below w.heap.size w w' := by
  have B0 : Bx (w.alloc (.cells C 35)) w.heap.size C 35 := one_bxL _ _ _
  have K0 : Hid (Below w.heap.size w (w.alloc (.cells C 35))) := below1 w _
  have c0 := B0.c 18 _ hc
  clear B0 hc
  go_enter Tryd.func31, Tryd.ntmps31
  go_wp2
  go_ret
  exact ⟨rfl, K0.out⟩
theorem ly_8 (w : World) (b : Nat) (M : Array Value) (hb : Bx w b M 35) (hM : M.size = 35) (n : Nat) : Calls Tryd.prog 32 #[.pointer (some ⟨b, 0, none⟩), .int .u8 (n : Int)] w (LyE b M 18 (.int .u8 (n : Int)) w) := by
  obtain ⟨x, hx⟩ : ∃ x, M[18]? = some x := ⟨_, Array.getElem?_eq_getElem (show 18 < M.size by rw [hM]; decide)⟩
  have d := hb.c 18 x hx
  have z := hb.fz 18
  have H : Hid (LyE b M 18 (.int .u8 (n : Int)) w (.returned (.tuple #[])) (w.setCell ⟨b, 18, none⟩ (.int .u8 (n : Int)))) := LyE.of_set hb
  clear hb hM hx
  go_enter Tryd.func32, Tryd.ntmps32
  go_wp2
  go_end0
  exact H.out
theorem of_9 (w : World) (C : Array Value) (n : Nat) (hc : C[19]? = some (.int .u8 (n : Int))) : Calls Tryd.prog 33 #[.agg C] w fun e w' => e = .returned (.int .u8 (n : Int)) ∧ Below w.heap.size w w' := by
  have B0 : Bx (w.alloc (.cells C 35)) w.heap.size C 35 := one_bxL _ _ _
  have K0 : Hid (Below w.heap.size w (w.alloc (.cells C 35))) := below1 w _
  have c0 := B0.c 19 _ hc
  clear B0 hc
  go_enter Tryd.func33, Tryd.ntmps33
  go_wp2
  go_ret
  exact ⟨rfl, K0.out⟩
theorem ly_10 (w : World) (b : Nat) (M : Array Value) (hb : Bx w b M 35) (hM : M.size = 35) (n : Nat) : Calls Tryd.prog 34 #[.pointer (some ⟨b, 0, none⟩), .int .u8 (n : Int)] w (LyE b M 19 (.int .u8 (n : Int)) w) := by
  obtain ⟨x, hx⟩ : ∃ x, M[19]? = some x := ⟨_, Array.getElem?_eq_getElem (show 19 < M.size by rw [hM]; decide)⟩
  have d := hb.c 19 x hx
  have z := hb.fz 19
  have H : Hid (LyE b M 19 (.int .u8 (n : Int)) w (.returned (.tuple #[])) (w.setCell ⟨b, 19, none⟩ (.int .u8 (n : Int)))) := LyE.of_set hb
  clear hb hM hx
  go_enter Tryd.func34, Tryd.ntmps34
  go_wp2
  go_end0
  exact H.out
theorem of_11 (w : World) (C : Array Value) (n : Nat) (hc : C[20]? = some (.int .u8 (n : Int))) : Calls Tryd.prog 35 #[.agg C] w fun e w' => e = .returned (.int .u8 (n : Int)) ∧ Below w.heap.size w w' := by
  have B0 : Bx (w.alloc (.cells C 35)) w.heap.size C 35 := one_bxL _ _ _
  have K0 : Hid (Below w.heap.size w (w.alloc (.cells C 35))) := below1 w _
  have c0 := B0.c 20 _ hc
  clear B0 hc
  go_enter Tryd.func35, Tryd.ntmps35
  go_wp2
  go_ret
  exact ⟨rfl, K0.out⟩
theorem ly_12 (w : World) (b : Nat) (M : Array Value) (hb : Bx w b M 35) (hM : M.size = 35) (n : Nat) : Calls Tryd.prog 36 #[.pointer (some ⟨b, 0, none⟩), .int .u8 (n : Int)] w (LyE b M 20 (.int .u8 (n : Int)) w) := by
  obtain ⟨x, hx⟩ : ∃ x, M[20]? = some x := ⟨_, Array.getElem?_eq_getElem (show 20 < M.size by rw [hM]; decide)⟩
  have d := hb.c 20 x hx
  have z := hb.fz 20
  have H : Hid (LyE b M 20 (.int .u8 (n : Int)) w (.returned (.tuple #[])) (w.setCell ⟨b, 20, none⟩ (.int .u8 (n : Int)))) := LyE.of_set hb
  clear hb hM hx
  go_enter Tryd.func36, Tryd.ntmps36
  go_wp2
  go_end0
  exact H.out
theorem of_13 (w : World) (C : Array Value) (n : Bool) (hc : C[21]? = some (.bool n)) : Calls Tryd.prog 37 #[.agg C] w fun e w' => e = .returned (.bool n) ∧ Below w.heap.size w w' := by
  have B0 : Bx (w.alloc (.cells C 35)) w.heap.size C 35 := one_bxL _ _ _
  have K0 : Hid (Below w.heap.size w (w.alloc (.cells C 35))) := below1 w _
  have c0 := B0.c 21 _ hc
  clear B0 hc
  go_enter Tryd.func37, Tryd.ntmps37
  go_wp2
  go_ret
  exact ⟨rfl, K0.out⟩
theorem ly_14 (w : World) (b : Nat) (M : Array Value) (hb : Bx w b M 35) (hM : M.size = 35) (n : Bool) : Calls Tryd.prog 38 #[.pointer (some ⟨b, 0, none⟩), .bool n] w (LyE b M 21 (.bool n) w) := by
  obtain ⟨x, hx⟩ : ∃ x, M[21]? = some x := ⟨_, Array.getElem?_eq_getElem (show 21 < M.size by rw [hM]; decide)⟩
  have d := hb.c 21 x hx
  have z := hb.fz 21
  have H : Hid (LyE b M 21 (.bool n) w (.returned (.tuple #[])) (w.setCell ⟨b, 21, none⟩ (.bool n))) := LyE.of_set hb
  clear hb hM hx
  go_enter Tryd.func38, Tryd.ntmps38
  go_wp2
  go_end0
  exact H.out
theorem of_15 (w : World) (C : Array Value) (n : Bool) (hc : C[22]? = some (.bool n)) : Calls Tryd.prog 39 #[.agg C] w fun e w' => e = .returned (.bool n) ∧ Below w.heap.size w w' := by
  have B0 : Bx (w.alloc (.cells C 35)) w.heap.size C 35 := one_bxL _ _ _
  have K0 : Hid (Below w.heap.size w (w.alloc (.cells C 35))) := below1 w _
  have c0 := B0.c 22 _ hc
  clear B0 hc
  go_enter Tryd.func39, Tryd.ntmps39
  go_wp2
  go_ret
  exact ⟨rfl, K0.out⟩
theorem ly_16 (w : World) (b : Nat) (M : Array Value) (hb : Bx w b M 35) (hM : M.size = 35) (n : Bool) : Calls Tryd.prog 40 #[.pointer (some ⟨b, 0, none⟩), .bool n] w (LyE b M 22 (.bool n) w) := by
  obtain ⟨x, hx⟩ : ∃ x, M[22]? = some x := ⟨_, Array.getElem?_eq_getElem (show 22 < M.size by rw [hM]; decide)⟩
  have d := hb.c 22 x hx
  have z := hb.fz 22
  have H : Hid (LyE b M 22 (.bool n) w (.returned (.tuple #[])) (w.setCell ⟨b, 22, none⟩ (.bool n))) := LyE.of_set hb
  clear hb hM hx
  go_enter Tryd.func40, Tryd.ntmps40
  go_wp2
  go_end0
  exact H.out
theorem of_17 (w : World) (C : Array Value) (n : Nat) (hc : C[23]? = some (.int .u8 (n : Int))) : Calls Tryd.prog 41 #[.agg C] w fun e w' => e = .returned (.int .u8 (n : Int)) ∧ Below w.heap.size w w' := by
  have B0 : Bx (w.alloc (.cells C 35)) w.heap.size C 35 := one_bxL _ _ _
  have K0 : Hid (Below w.heap.size w (w.alloc (.cells C 35))) := below1 w _
  have c0 := B0.c 23 _ hc
  clear B0 hc
  go_enter Tryd.func41, Tryd.ntmps41
  go_wp2
  go_ret
  exact ⟨rfl, K0.out⟩
theorem ly_18 (w : World) (b : Nat) (M : Array Value) (hb : Bx w b M 35) (hM : M.size = 35) (n : Nat) : Calls Tryd.prog 42 #[.pointer (some ⟨b, 0, none⟩), .int .u8 (n : Int)] w (LyE b M 23 (.int .u8 (n : Int)) w) := by
  obtain ⟨x, hx⟩ : ∃ x, M[23]? = some x := ⟨_, Array.getElem?_eq_getElem (show 23 < M.size by rw [hM]; decide)⟩
  have d := hb.c 23 x hx
  have z := hb.fz 23
  have H : Hid (LyE b M 23 (.int .u8 (n : Int)) w (.returned (.tuple #[])) (w.setCell ⟨b, 23, none⟩ (.int .u8 (n : Int)))) := LyE.of_set hb
  clear hb hM hx
  go_enter Tryd.func42, Tryd.ntmps42
  go_wp2
  go_end0
  exact H.out
theorem of_19 (w : World) (C : Array Value) (n : Nat) (hc : C[24]? = some (.int .u8 (n : Int))) : Calls Tryd.prog 43 #[.agg C] w fun e w' => e = .returned (.int .u8 (n : Int)) ∧ Below w.heap.size w w' := by
  have B0 : Bx (w.alloc (.cells C 35)) w.heap.size C 35 := one_bxL _ _ _
  have K0 : Hid (Below w.heap.size w (w.alloc (.cells C 35))) := below1 w _
  have c0 := B0.c 24 _ hc
  clear B0 hc
  go_enter Tryd.func43, Tryd.ntmps43
  go_wp2
  go_ret
  exact ⟨rfl, K0.out⟩
theorem ly_20 (w : World) (b : Nat) (M : Array Value) (hb : Bx w b M 35) (hM : M.size = 35) (n : Nat) : Calls Tryd.prog 44 #[.pointer (some ⟨b, 0, none⟩), .int .u8 (n : Int)] w (LyE b M 24 (.int .u8 (n : Int)) w) := by
  obtain ⟨x, hx⟩ : ∃ x, M[24]? = some x := ⟨_, Array.getElem?_eq_getElem (show 24 < M.size by rw [hM]; decide)⟩
  have d := hb.c 24 x hx
  have z := hb.fz 24
  have H : Hid (LyE b M 24 (.int .u8 (n : Int)) w (.returned (.tuple #[])) (w.setCell ⟨b, 24, none⟩ (.int .u8 (n : Int)))) := LyE.of_set hb
  clear hb hM hx
  go_enter Tryd.func44, Tryd.ntmps44
  go_wp2
  go_end0
  exact H.out
theorem of_21 (w : World) (C : Array Value) (n : Nat) (hc : C[25]? = some (.int .u8 (n : Int))) : Calls Tryd.prog 46 #[.agg C] w fun e w' => e = .returned (.int .u8 (n : Int)) ∧ Below w.heap.size w w' := by
  have B0 : Bx (w.alloc (.cells C 35)) w.heap.size C 35 := one_bxL _ _ _
  have K0 : Hid (Below w.heap.size w (w.alloc (.cells C 35))) := below1 w _
  have c0 := B0.c 25 _ hc
  clear B0 hc
  go_enter Tryd.func46, Tryd.ntmps46
  go_wp2
  go_ret
  exact ⟨rfl, K0.out⟩
theorem ly_22 (w : World) (b : Nat) (M : Array Value) (hb : Bx w b M 35) (hM : M.size = 35) (n : Nat) : Calls Tryd.prog 47 #[.pointer (some ⟨b, 0, none⟩), .int .u8 (n : Int)] w (LyE b M 25 (.int .u8 (n : Int)) w) := by
  obtain ⟨x, hx⟩ : ∃ x, M[25]? = some x := ⟨_, Array.getElem?_eq_getElem (show 25 < M.size by rw [hM]; decide)⟩
  have d := hb.c 25 x hx
  have z := hb.fz 25
  have H : Hid (LyE b M 25 (.int .u8 (n : Int)) w (.returned (.tuple #[])) (w.setCell ⟨b, 25, none⟩ (.int .u8 (n : Int)))) := LyE.of_set hb
  clear hb hM hx
  go_enter Tryd.func47, Tryd.ntmps47
  go_wp2
  go_end0
  exact H.out
theorem of_23 (w : World) (C : Array Value) (n : Nat) (hn : n < 65536) (hc : C[26]? = some (.int .i64 (n : Int))) : Calls Tryd.prog 48 #[.agg C] w fun e w' => e = .returned (.int .u16 (n : Int)) ∧ Below w.heap.size w w' := by
  have B0 : Bx (w.alloc (.cells C 35)) w.heap.size C 35 := one_bxL _ _ _
  have K0 : Hid (Below w.heap.size w (w.alloc (.cells C 35))) := below1 w _
  have c0 := B0.c 26 _ hc
  have i0 : (n : Int) < 65536 := by omega
  clear hn
  clear B0 hc
  go_enter Tryd.func48, Tryd.ntmps48
  go_wp2
  go_ret
  exact ⟨rfl, K0.out⟩
theorem ly_24 (w : World) (b : Nat) (M : Array Value) (hb : Bx w b M 35) (hM : M.size = 35) (n : Nat) (hn : n < 65536) : Calls Tryd.prog 49 #[.pointer (some ⟨b, 0, none⟩), .int .u16 (n : Int)] w (LyE b M 26 (.int .i64 (n : Int)) w) := by
  obtain ⟨x, hx⟩ : ∃ x, M[26]? = some x := ⟨_, Array.getElem?_eq_getElem (show 26 < M.size by rw [hM]; decide)⟩
  have d := hb.c 26 x hx
  have z := hb.fz 26
  have H : Hid (LyE b M 26 (.int .i64 (n : Int)) w (.returned (.tuple #[])) (w.setCell ⟨b, 26, none⟩ (.int .i64 (n : Int)))) := LyE.of_set hb
  have i0 : (n : Int) < 65536 := by omega
  clear hn
  clear hb hM hx
  go_enter Tryd.func49, Tryd.ntmps49
  go_wp2
  go_end0
  exact H.out
theorem of_25 (w : World) (C : Array Value) (n : Nat) (hn : n < 256) (hc : C[27]? = some (.int .i64 (n : Int))) : Calls Tryd.prog 50 #[.agg C] w fun e w' => e = .returned (.int .u8 (n : Int)) ∧ Below w.heap.size w w' := by
  have B0 : Bx (w.alloc (.cells C 35)) w.heap.size C 35 := one_bxL _ _ _
  have K0 : Hid (Below w.heap.size w (w.alloc (.cells C 35))) := below1 w _
  have c0 := B0.c 27 _ hc
  have i0 : (n : Int) < 256 := by omega
  clear hn
  clear B0 hc
  go_enter Tryd.func50, Tryd.ntmps50
  go_wp2
  go_ret
  exact ⟨rfl, K0.out⟩
theorem ly_26 (w : World) (b : Nat) (M : Array Value) (hb : Bx w b M 35) (hM : M.size = 35) (n : Nat) (hn : n < 256) : Calls Tryd.prog 51 #[.pointer (some ⟨b, 0, none⟩), .int .u8 (n : Int)] w (LyE b M 27 (.int .i64 (n : Int)) w) := by
  obtain ⟨x, hx⟩ : ∃ x, M[27]? = some x := ⟨_, Array.getElem?_eq_getElem (show 27 < M.size by rw [hM]; decide)⟩
  have d := hb.c 27 x hx
  have z := hb.fz 27
  have H : Hid (LyE b M 27 (.int .i64 (n : Int)) w (.returned (.tuple #[])) (w.setCell ⟨b, 27, none⟩ (.int .i64 (n : Int)))) := LyE.of_set hb
  have i0 : (n : Int) < 256 := by omega
  clear hn
  clear hb hM hx
  go_enter Tryd.func51, Tryd.ntmps51
  go_wp2
  go_end0
  exact H.out
theorem of_27 (w : World) (C : Array Value) (n : Bool) (hc : C[28]? = some (.bool n)) : Calls Tryd.prog 52 #[.agg C] w fun e w' => e = .returned (.bool n) ∧ Below w.heap.size w w' := by
  have B0 : Bx (w.alloc (.cells C 35)) w.heap.size C 35 := one_bxL _ _ _
  have K0 : Hid (Below w.heap.size w (w.alloc (.cells C 35))) := below1 w _
  have c0 := B0.c 28 _ hc
  clear B0 hc
  go_enter Tryd.func52, Tryd.ntmps52
  go_wp2
  go_ret
  exact ⟨rfl, K0.out⟩
theorem ly_28 (w : World) (b : Nat) (M : Array Value) (hb : Bx w b M 35) (hM : M.size = 35) (n : Bool) : Calls Tryd.prog 53 #[.pointer (some ⟨b, 0, none⟩), .bool n] w (LyE b M 28 (.bool n) w) := by
  obtain ⟨x, hx⟩ : ∃ x, M[28]? = some x := ⟨_, Array.getElem?_eq_getElem (show 28 < M.size by rw [hM]; decide)⟩
  have d := hb.c 28 x hx
  have z := hb.fz 28
  have H : Hid (LyE b M 28 (.bool n) w (.returned (.tuple #[])) (w.setCell ⟨b, 28, none⟩ (.bool n))) := LyE.of_set hb
  clear hb hM hx
  go_enter Tryd.func53, Tryd.ntmps53
  go_wp2
  go_end0
  exact H.out
theorem of_29 (w : World) (C : Array Value) (n : Nat) (hn : n < 256) (hc : C[29]? = some (.int .i64 (n : Int))) : Calls Tryd.prog 54 #[.agg C] w fun e w' => e = .returned (.int .u8 (n : Int)) ∧ Below w.heap.size w w' := by
  have B0 : Bx (w.alloc (.cells C 35)) w.heap.size C 35 := one_bxL _ _ _
  have K0 : Hid (Below w.heap.size w (w.alloc (.cells C 35))) := below1 w _
  have c0 := B0.c 29 _ hc
  have i0 : (n : Int) < 256 := by omega
  clear hn
  clear B0 hc
  go_enter Tryd.func54, Tryd.ntmps54
  go_wp2
  go_ret
  exact ⟨rfl, K0.out⟩
theorem ly_30 (w : World) (b : Nat) (M : Array Value) (hb : Bx w b M 35) (hM : M.size = 35) (n : Nat) (hn : n < 256) : Calls Tryd.prog 55 #[.pointer (some ⟨b, 0, none⟩), .int .u8 (n : Int)] w (LyE b M 29 (.int .i64 (n : Int)) w) := by
  obtain ⟨x, hx⟩ : ∃ x, M[29]? = some x := ⟨_, Array.getElem?_eq_getElem (show 29 < M.size by rw [hM]; decide)⟩
  have d := hb.c 29 x hx
  have z := hb.fz 29
  have H : Hid (LyE b M 29 (.int .i64 (n : Int)) w (.returned (.tuple #[])) (w.setCell ⟨b, 29, none⟩ (.int .i64 (n : Int)))) := LyE.of_set hb
  have i0 : (n : Int) < 256 := by omega
  clear hn
  clear hb hM hx
  go_enter Tryd.func55, Tryd.ntmps55
  go_wp2
  go_end0
  exact H.out
theorem of_31 (w : World) (C : Array Value) (n : Nat) (hc : C[30]? = some (.int .u8 (n : Int))) : Calls Tryd.prog 56 #[.agg C] w fun e w' => e = .returned (.int .u8 (n : Int)) ∧ Below w.heap.size w w' := by
  have B0 : Bx (w.alloc (.cells C 35)) w.heap.size C 35 := one_bxL _ _ _
  have K0 : Hid (Below w.heap.size w (w.alloc (.cells C 35))) := below1 w _
  have c0 := B0.c 30 _ hc
  clear B0 hc
  go_enter Tryd.func56, Tryd.ntmps56
  go_wp2
  go_ret
  exact ⟨rfl, K0.out⟩
theorem ly_32 (w : World) (b : Nat) (M : Array Value) (hb : Bx w b M 35) (hM : M.size = 35) (n : Nat) : Calls Tryd.prog 57 #[.pointer (some ⟨b, 0, none⟩), .int .u8 (n : Int)] w (LyE b M 30 (.int .u8 (n : Int)) w) := by
  obtain ⟨x, hx⟩ : ∃ x, M[30]? = some x := ⟨_, Array.getElem?_eq_getElem (show 30 < M.size by rw [hM]; decide)⟩
  have d := hb.c 30 x hx
  have z := hb.fz 30
  have H : Hid (LyE b M 30 (.int .u8 (n : Int)) w (.returned (.tuple #[])) (w.setCell ⟨b, 30, none⟩ (.int .u8 (n : Int)))) := LyE.of_set hb
  clear hb hM hx
  go_enter Tryd.func57, Tryd.ntmps57
  go_wp2
  go_end0
  exact H.out
theorem of_33 (w : World) (C : Array Value) (n : Bool) (hc : C[31]? = some (.bool n)) : Calls Tryd.prog 58 #[.agg C] w fun e w' => e = .returned (.bool n) ∧ Below w.heap.size w w' := by
  have B0 : Bx (w.alloc (.cells C 35)) w.heap.size C 35 := one_bxL _ _ _
  have K0 : Hid (Below w.heap.size w (w.alloc (.cells C 35))) := below1 w _
  have c0 := B0.c 31 _ hc
  clear B0 hc
  go_enter Tryd.func58, Tryd.ntmps58
  go_wp2
  go_ret
  exact ⟨rfl, K0.out⟩
theorem ly_34 (w : World) (b : Nat) (M : Array Value) (hb : Bx w b M 35) (hM : M.size = 35) (n : Bool) : Calls Tryd.prog 59 #[.pointer (some ⟨b, 0, none⟩), .bool n] w (LyE b M 31 (.bool n) w) := by
  obtain ⟨x, hx⟩ : ∃ x, M[31]? = some x := ⟨_, Array.getElem?_eq_getElem (show 31 < M.size by rw [hM]; decide)⟩
  have d := hb.c 31 x hx
  have z := hb.fz 31
  have H : Hid (LyE b M 31 (.bool n) w (.returned (.tuple #[])) (w.setCell ⟨b, 31, none⟩ (.bool n))) := LyE.of_set hb
  clear hb hM hx
  go_enter Tryd.func59, Tryd.ntmps59
  go_wp2
  go_end0
  exact H.out
theorem of_35 (w : World) (C : Array Value) (n : Nat) (hc : C[34]? = some (.int .u64 (n : Int))) : Calls Tryd.prog 61 #[.agg C] w fun e w' => e = .returned (.int .u64 (n : Int)) ∧ Below w.heap.size w w' := by
  have B0 : Bx (w.alloc (.cells C 35)) w.heap.size C 35 := one_bxL _ _ _
  have K0 : Hid (Below w.heap.size w (w.alloc (.cells C 35))) := below1 w _
  have c0 := B0.c 34 _ hc
  clear B0 hc
  go_enter Tryd.func61, Tryd.ntmps61
  go_wp2
  go_ret
  exact ⟨rfl, K0.out⟩
theorem ly_36 (w : World) (b : Nat) (M : Array Value) (hb : Bx w b M 35) (hM : M.size = 35) (n : Nat) : Calls Tryd.prog 62 #[.pointer (some ⟨b, 0, none⟩), .int .u64 (n : Int)] w (LyE b M 34 (.int .u64 (n : Int)) w) := by
  obtain ⟨x, hx⟩ : ∃ x, M[34]? = some x := ⟨_, Array.getElem?_eq_getElem (show 34 < M.size by rw [hM]; decide)⟩
  have d := hb.c 34 x hx
  have z := hb.fz 34
  have H : Hid (LyE b M 34 (.int .u64 (n : Int)) w (.returned (.tuple #[])) (w.setCell ⟨b, 34, none⟩ (.int .u64 (n : Int)))) := LyE.of_set hb
  clear hb hM hx
  go_enter Tryd.func62, Tryd.ntmps62
  go_wp2
  go_end0
  exact H.out
theorem of_37 (w : World) (C : Array Value) (sp : Option Addr) (n cap : Nat) (hn : n < 65536) (hc : C[32]? = some (.slice sp n cap)) : Calls Tryd.prog 63 #[.agg C] w fun e w' => e = .returned (.int .u16 (n : Int)) ∧ Below w.heap.size w w' := by
  have B0 : Bx (w.alloc (.cells C 35)) w.heap.size C 35 := one_bxL _ _ _
  have K0 : Hid (Below w.heap.size w (w.alloc (.cells C 35))) := below1 w _
  have c0 := B0.c 32 _ hc
  have i0 : (n : Int) < 65536 := by omega
  clear hn
  clear B0 hc
  go_enter Tryd.func63, Tryd.ntmps63
  go_wp2
  go_ret
  exact ⟨rfl, K0.out⟩
theorem of_39 (w : World) (C : Array Value) (sp : Option Addr) (n cap : Nat) (hc : C[32]? = some (.slice sp n cap)) : Calls Tryd.prog 66 #[.agg C] w fun e w' => e = .returned (.int .i64 (n : Int)) ∧ Below w.heap.size w w' := by
  have B0 : Bx (w.alloc (.cells C 35)) w.heap.size C 35 := one_bxL _ _ _
  have K0 : Hid (Below w.heap.size w (w.alloc (.cells C 35))) := below1 w _
  have c0 := B0.c 32 _ hc
  clear B0 hc
  go_enter Tryd.func66, Tryd.ntmps66
  go_wp2
  go_ret
  exact ⟨rfl, K0.out⟩
theorem of_40 (w : World) (C : Array Value) (sp : Option Addr) (n cap : Nat) (hc : C[32]? = some (.slice sp n cap)) : Calls Tryd.prog 67 #[.agg C] w fun e w' => e = .returned (.slice sp n cap) ∧ Below w.heap.size w w' := by
  have B0 : Bx (w.alloc (.cells C 35)) w.heap.size C 35 := one_bxL _ _ _
  have K0 : Hid (Below w.heap.size w (w.alloc (.cells C 35))) := below1 w _
  have c0 := B0.c 32 _ hc
  clear B0 hc
  go_enter Tryd.func67, Tryd.ntmps67
  go_wp2
  go_ret
  exact ⟨rfl, K0.out⟩
theorem of_42 (w : World) (C : Array Value) (sp : Option Addr) (n cap : Nat) (hc : C[33]? = some (.slice sp n cap)) : Calls Tryd.prog 70 #[.agg C] w fun e w' => e = .returned (.slice sp n cap) ∧ Below w.heap.size w w' := by
  have B0 : Bx (w.alloc (.cells C 35)) w.heap.size C 35 := one_bxL _ _ _
  have K0 : Hid (Below w.heap.size w (w.alloc (.cells C 35))) := below1 w _
  have c0 := B0.c 33 _ hc
  clear B0 hc
  go_enter Tryd.func70, Tryd.ntmps70
  go_wp2
  go_ret
  exact ⟨rfl, K0.out⟩
theorem ly_41 (w : World) (b : Nat) (M : Array Value) (hb : Bx w b M 35) (hM : M.size = 35) (sp : Option Addr) (n cap : Nat) : Calls Tryd.prog 68 #[.pointer (some ⟨b, 0, none⟩), .slice sp n cap] w (LyE b M 32 (.slice sp n cap) w) := by
  obtain ⟨x, hx⟩ : ∃ x, M[32]? = some x := ⟨_, Array.getElem?_eq_getElem (show 32 < M.size by rw [hM]; decide)⟩
  have d := hb.c 32 x hx
  have z := hb.fz 32
  have H : Hid (LyE b M 32 (.slice sp n cap) w (.returned (.tuple #[])) (w.setCell ⟨b, 32, none⟩ (.slice sp n cap))) := LyE.of_set hb
  clear hb hM hx
  go_enter Tryd.func68, Tryd.ntmps68
  go_wp2
  go_end0
  exact H.out
theorem ly_43 (w : World) (b : Nat) (M : Array Value) (hb : Bx w b M 35) (hM : M.size = 35) (sp : Option Addr) (n cap : Nat) : Calls Tryd.prog 71 #[.pointer (some ⟨b, 0, none⟩), .slice sp n cap] w (LyE b M 33 (.slice sp n cap) w) := by
  obtain ⟨x, hx⟩ : ∃ x, M[33]? = some x := ⟨_, Array.getElem?_eq_getElem (show 33 < M.size by rw [hM]; decide)⟩
  have d := hb.c 33 x hx
  have z := hb.fz 33
  have H : Hid (LyE b M 33 (.slice sp n cap) w (.returned (.tuple #[])) (w.setCell ⟨b, 33, none⟩ (.slice sp n cap))) := LyE.of_set hb
  clear hb hM hx
  go_enter Tryd.func71, Tryd.ntmps71
  go_wp2
  go_end0
  exact H.out
theorem mk_row16 (n : Nat) (hn : n < 65536) : ∃ M : Array Value, ∀ v, (Instr.makeSlice 32 (.int .u16 (n : Int)) (.int .u16 (n : Int))).run Tryd.prog v = .ok (.slice (some ⟨v.heap.size, 0, none⟩) n n) (v.alloc (.cells M 5)) := by
  obtain ⟨i, z, hi, hz0, hz1, hz2, hz3⟩ := kByte.i
  refine ⟨madeCells z.cells (n * 1), fun v => ?_⟩
  have := run_make (P := Tryd.prog) v 32 5 i z kByte.u hi hz0 .u16 .u16 (n : Int) (n : Int) (by omega) (Int.le_refl _) (by rw [hz2]; omega) (by omega)
  rw [hz1, Int.toNat_natCast] at this
  exact this
theorem ly_38 (w : World) (b : Nat) (M : Array Value) (hb : Bx w b M 35) (hM : M.size = 35) (n : Nat) (hn : n < 65536) : Calls Tryd.prog 64 #[.pointer (some ⟨b, 0, none⟩), .int .u16 (n : Int)] w (LyE b M 32 (.slice (some ⟨w.heap.size, 0, none⟩) n n) w) := by
  obtain ⟨Z, hZ⟩ := mk_row16 n hn
  have hl := heap_lt hb
  have hb2 : Bx (w.alloc (.cells Z 5)) b M 35 := ((below1 w (.cells Z 5)).block b hl).trans hb
  obtain ⟨x, hx⟩ : ∃ x, M[32]? = some x := ⟨_, Array.getElem?_eq_getElem (show 32 < M.size by rw [hM]; decide)⟩
  have d := hb2.c 32 x hx
  have z := hb2.fz 32
  have mk := hZ w
  have H : Hid (LyE b M 32 (.slice (some ⟨w.heap.size, 0, none⟩) n n) w (.returned (.tuple #[])) ((w.alloc (.cells Z 5)).setCell ⟨b, 32, none⟩ (.slice (some ⟨w.heap.size, 0, none⟩) n n))) := ⟨rfl, heap_setCell_same _ b 32 M _ _ hb2, (Sto.of_below (below1 w _) (Nat.le_of_lt hl)).trans (Sto.set b 32 _ _)⟩
  have i0 : (n : Int) < 65536 := by omega
  clear hb hM hb2 hZ hl hn hx
  go_enter Tryd.func64, Tryd.ntmps64
  go_wp2
  go_end0
  exact H.out
theorem idxR (g k : Nat) (hk : k < 16) (w : World) : (Instr.indexAt 24 (.pointer (some ⟨g, 0, none⟩)) (.int .i64 (k : Int))).run Tryd.prog w = .ok (.pointer (some ⟨g, k, none⟩)) w := by
  have := idx (P := Tryd.prog) (g := g) (off := 0) Tryd.underlying24 (s := 1) (by kernel_rfl) .i64 k w hk
  rwa [Nat.zero_add, Nat.mul_one] at this
theorem of_1 (w : World) (C : Array Value) (bK k : Nat) (hK : Bx w bK #[.int .i64 (k : Int)] 3) (hk : k < 16) (n : Nat) (hc : C[k]? = some (.int .u16 (n : Int))) : Calls Tryd.prog 23 #[.agg C, .pointer (some ⟨bK, 0, none⟩)] w fun e w' => e = .returned (.int .u16 (n : Int)) ∧ Below w.heap.size w w' := by
  have B0 : Bx (w.alloc (.cells C 35)) w.heap.size C 35 := one_bxL _ _ _
  have K0 : Hid (Below w.heap.size w (w.alloc (.cells C 35))) := below1 w _
  have c0 := B0.c k _ hc
  have c1 : (w.alloc (.cells C 35)).cell? ⟨bK, 0, none⟩ = some (.int .i64 (k : Int)) := Bx.c (((below1 w (.cells C 35)).block bK (heap_lt hK)).trans hK) 0 _ rfl
  have ix := fun v => idxR w.heap.size k hk v
  clear B0 hc hK hk
  go_enter Tryd.func23, Tryd.ntmps23
  go_wp2
  go_ret
  exact ⟨rfl, K0.out⟩
theorem ly_2 (w : World) (b : Nat) (M : Array Value) (hb : Bx w b M 35) (hM : M.size = 35) (bK k : Nat) (hK : Bx w bK #[.int .i64 (k : Int)] 3) (hk : k < 16) (n : Nat) : Calls Tryd.prog 24 #[.pointer (some ⟨b, 0, none⟩), .int .u16 (n : Int), .pointer (some ⟨bK, 0, none⟩)] w (LyE b M k (.int .u16 (n : Int)) w) := by
  obtain ⟨x, hx⟩ : ∃ x, M[k]? = some x := ⟨_, Array.getElem?_eq_getElem (show k < M.size by rw [hM]; omega)⟩
  have d := hb.c k x hx
  have z := hb.fz k
  have c1 := hK.c 0 (.int .i64 (k : Int)) rfl
  have ix := fun v => idxR b k hk v
  have H : Hid (∀ m, LyE b M k (.int .u16 (n : Int)) w (.returned (.tuple #[])) ((w.drewN m).setCell ⟨b, k, none⟩ (.int .u16 (n : Int)))) := fun m => ⟨rfl, heap_setCell_same (w.drewN m) b k M _ _ hb, (Sto.of_below (below_drewN (Below.refl _ w)) (Nat.le_of_lt (heap_lt hb))).trans (Sto.set b k _ _)⟩
  clear hb hM hK hk hx
  go_enter Tryd.func24, Tryd.ntmps24
  go_wp2
  refine region_class_tail 7 (fun y => ∃ n, y = w.drewN n) (by kernel_rfl) (by kernel_rfl) ⟨1, rfl⟩ ?_
  dsimp only [List.take, List.drop]
  repeat (go_big_quiet_step (fail))
  refine wpQuiet_nil ?_
  rintro _ ⟨nq, rfl⟩
  go_wp2
  go_end0
  exact H.out _
end Go.Proofs.YtehnhjdjjalifaaDoor
