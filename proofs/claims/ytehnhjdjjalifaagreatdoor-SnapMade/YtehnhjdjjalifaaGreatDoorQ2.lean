/- What the rows' own functions read out of a machine, and lay into it. -/
import Derived.Test.YtehnhjdjjalifaaGreatDoorQ1
import Derived.Test.YtehnhjdjjalifaaGreatDoorX6
namespace Go.Proofs.YtehnhjdjjalifaaGreatDoor
open Go Go.RowKit
set_option linter.unusedVariables false
set_option maxHeartbeats 2000000
set_option maxRecDepth 20000

/-- A box was written; all else stands, and there may be more. -/
structure Sto (b : Nat) (z z' : World) : Prop where
  low : Below b z z'
  oth : ∀ q, q ≠ b → q < z.heap.size → z'.heap[q]? = z.heap[q]?
theorem Sto.refl (b : Nat) (z : World) : Sto b z z := ⟨Below.refl _ _, fun _ _ _ => rfl⟩
theorem Sto.trans {b : Nat} {x y z : World} (h : Sto b x y) (k : Sto b y z) : Sto b x z := ⟨h.low.trans k.low, fun q hq hx => (k.oth q hq (Nat.lt_of_lt_of_le hx h.low.size)).trans (h.oth q hq hx)⟩
theorem Sto.of_below {b : Nat} {z z' : World} (h : Below z.heap.size z z') (hb : b ≤ z.heap.size) : Sto b z z' := ⟨h.mono hb, fun q _ hq => h.block q hq⟩
theorem Sto.set (b j : Nat) (v : Value) (z : World) : Sto b z (z.setCell ⟨b, j, none⟩ v) := ⟨(Below.refl b z).setCell (p := ⟨b, j, none⟩) (Nat.le_refl _) v, fun q hq _ => heap_setCell_other z ⟨b, j, none⟩ q v hq⟩
/-- What laying a value into a machine leaves. -/
def LyE (b : Nat) (M : Array Value) (j : Nat) (v : Value) (w : World) (e : Ending) (w' : World) : Prop := e = .returned (.tuple #[]) ∧ Hid (Bx w' b (M.setIfInBounds j v) 34 ∧ Sto b w w')
theorem LyE.of_set {b : Nat} {M : Array Value} {j : Nat} {v : Value} {w : World} (h : Bx w b M 34) : LyE b M j v w (.returned (.tuple #[])) (w.setCell ⟨b, j, none⟩ v) := ⟨rfl, heap_setCell_same w b j M _ v h, Sto.set b j v w⟩
theorem of_3 (w : World) (C : Array Value) (n : Nat) (hc : C[16]? = some (.int .u8 (n : Int))) : Calls Tryz.prog 37 #[.agg C] w fun e w' => e = .returned (.int .u8 (n : Int)) ∧ Below w.heap.size w w' := by
  have B0 : Bx (w.alloc (.cells C 34)) w.heap.size C 34 := one_bxL _ _ _
  have K0 : Hid (Below w.heap.size w (w.alloc (.cells C 34))) := below1 w _
  have c0 := B0.c 16 _ hc
  clear B0 hc
  go_enter Tryz.func37, Tryz.ntmps37
  go_wp2
  go_ret
  exact ⟨rfl, K0.out⟩
theorem ly_4 (w : World) (b : Nat) (M : Array Value) (hb : Bx w b M 34) (hM : M.size = 35) (n : Nat) : Calls Tryz.prog 38 #[.pointer (some ⟨b, 0, none⟩), .int .u8 (n : Int)] w (LyE b M 16 (.int .u8 (n : Int)) w) := by
  obtain ⟨x, hx⟩ : ∃ x, M[16]? = some x := ⟨_, Array.getElem?_eq_getElem (show 16 < M.size by rw [hM]; decide)⟩
  have d := hb.c 16 x hx
  have z := hb.fz 16
  have H : Hid (LyE b M 16 (.int .u8 (n : Int)) w (.returned (.tuple #[])) (w.setCell ⟨b, 16, none⟩ (.int .u8 (n : Int)))) := LyE.of_set hb
  clear hb hM hx
  go_enter Tryz.func38, Tryz.ntmps38
  go_wp2
  go_end0
  exact H.out
theorem of_5 (w : World) (C : Array Value) (n : Bool) (hc : C[17]? = some (.bool n)) : Calls Tryz.prog 40 #[.agg C] w fun e w' => e = .returned (.bool n) ∧ Below w.heap.size w w' := by
  have B0 : Bx (w.alloc (.cells C 34)) w.heap.size C 34 := one_bxL _ _ _
  have K0 : Hid (Below w.heap.size w (w.alloc (.cells C 34))) := below1 w _
  have c0 := B0.c 17 _ hc
  clear B0 hc
  go_enter Tryz.func40, Tryz.ntmps40
  go_wp2
  go_ret
  exact ⟨rfl, K0.out⟩
theorem ly_6 (w : World) (b : Nat) (M : Array Value) (hb : Bx w b M 34) (hM : M.size = 35) (n : Bool) : Calls Tryz.prog 41 #[.pointer (some ⟨b, 0, none⟩), .bool n] w (LyE b M 17 (.bool n) w) := by
  obtain ⟨x, hx⟩ : ∃ x, M[17]? = some x := ⟨_, Array.getElem?_eq_getElem (show 17 < M.size by rw [hM]; decide)⟩
  have d := hb.c 17 x hx
  have z := hb.fz 17
  have H : Hid (LyE b M 17 (.bool n) w (.returned (.tuple #[])) (w.setCell ⟨b, 17, none⟩ (.bool n))) := LyE.of_set hb
  clear hb hM hx
  go_enter Tryz.func41, Tryz.ntmps41
  go_wp2
  go_end0
  exact H.out
theorem of_7 (w : World) (C : Array Value) (n : Nat) (hc : C[18]? = some (.int .u8 (n : Int))) : Calls Tryz.prog 42 #[.agg C] w fun e w' => e = .returned (.int .u8 (n : Int)) ∧ Below w.heap.size w w' := by
  have B0 : Bx (w.alloc (.cells C 34)) w.heap.size C 34 := one_bxL _ _ _
  have K0 : Hid (Below w.heap.size w (w.alloc (.cells C 34))) := below1 w _
  have c0 := B0.c 18 _ hc
  clear B0 hc
  go_enter Tryz.func42, Tryz.ntmps42
  go_wp2
  go_ret
  exact ⟨rfl, K0.out⟩
theorem ly_8 (w : World) (b : Nat) (M : Array Value) (hb : Bx w b M 34) (hM : M.size = 35) (n : Nat) : Calls Tryz.prog 43 #[.pointer (some ⟨b, 0, none⟩), .int .u8 (n : Int)] w (LyE b M 18 (.int .u8 (n : Int)) w) := by
  obtain ⟨x, hx⟩ : ∃ x, M[18]? = some x := ⟨_, Array.getElem?_eq_getElem (show 18 < M.size by rw [hM]; decide)⟩
  have d := hb.c 18 x hx
  have z := hb.fz 18
  have H : Hid (LyE b M 18 (.int .u8 (n : Int)) w (.returned (.tuple #[])) (w.setCell ⟨b, 18, none⟩ (.int .u8 (n : Int)))) := LyE.of_set hb
  clear hb hM hx
  go_enter Tryz.func43, Tryz.ntmps43
  go_wp2
  go_end0
  exact H.out
theorem of_9 (w : World) (C : Array Value) (n : Nat) (hc : C[19]? = some (.int .u8 (n : Int))) : Calls Tryz.prog 44 #[.agg C] w fun e w' => e = .returned (.int .u8 (n : Int)) ∧ Below w.heap.size w w' := by
  have B0 : Bx (w.alloc (.cells C 34)) w.heap.size C 34 := one_bxL _ _ _
  have K0 : Hid (Below w.heap.size w (w.alloc (.cells C 34))) := below1 w _
  have c0 := B0.c 19 _ hc
  clear B0 hc
  go_enter Tryz.func44, Tryz.ntmps44
  go_wp2
  go_ret
  exact ⟨rfl, K0.out⟩
theorem ly_10 (w : World) (b : Nat) (M : Array Value) (hb : Bx w b M 34) (hM : M.size = 35) (n : Nat) : Calls Tryz.prog 45 #[.pointer (some ⟨b, 0, none⟩), .int .u8 (n : Int)] w (LyE b M 19 (.int .u8 (n : Int)) w) := by
  obtain ⟨x, hx⟩ : ∃ x, M[19]? = some x := ⟨_, Array.getElem?_eq_getElem (show 19 < M.size by rw [hM]; decide)⟩
  have d := hb.c 19 x hx
  have z := hb.fz 19
  have H : Hid (LyE b M 19 (.int .u8 (n : Int)) w (.returned (.tuple #[])) (w.setCell ⟨b, 19, none⟩ (.int .u8 (n : Int)))) := LyE.of_set hb
  clear hb hM hx
  go_enter Tryz.func45, Tryz.ntmps45
  go_wp2
  go_end0
  exact H.out
theorem of_11 (w : World) (C : Array Value) (n : Nat) (hc : C[20]? = some (.int .u8 (n : Int))) : Calls Tryz.prog 46 #[.agg C] w fun e w' => e = .returned (.int .u8 (n : Int)) ∧ Below w.heap.size w w' := by
  have B0 : Bx (w.alloc (.cells C 34)) w.heap.size C 34 := one_bxL _ _ _
  have K0 : Hid (Below w.heap.size w (w.alloc (.cells C 34))) := below1 w _
  have c0 := B0.c 20 _ hc
  clear B0 hc
  go_enter Tryz.func46, Tryz.ntmps46
  go_wp2
  go_ret
  exact ⟨rfl, K0.out⟩
theorem ly_12 (w : World) (b : Nat) (M : Array Value) (hb : Bx w b M 34) (hM : M.size = 35) (n : Nat) : Calls Tryz.prog 47 #[.pointer (some ⟨b, 0, none⟩), .int .u8 (n : Int)] w (LyE b M 20 (.int .u8 (n : Int)) w) := by
  obtain ⟨x, hx⟩ : ∃ x, M[20]? = some x := ⟨_, Array.getElem?_eq_getElem (show 20 < M.size by rw [hM]; decide)⟩
  have d := hb.c 20 x hx
  have z := hb.fz 20
  have H : Hid (LyE b M 20 (.int .u8 (n : Int)) w (.returned (.tuple #[])) (w.setCell ⟨b, 20, none⟩ (.int .u8 (n : Int)))) := LyE.of_set hb
  clear hb hM hx
  go_enter Tryz.func47, Tryz.ntmps47
  go_wp2
  go_end0
  exact H.out
theorem of_13 (w : World) (C : Array Value) (n : Bool) (hc : C[21]? = some (.bool n)) : Calls Tryz.prog 48 #[.agg C] w fun e w' => e = .returned (.bool n) ∧ Below w.heap.size w w' := by
  have B0 : Bx (w.alloc (.cells C 34)) w.heap.size C 34 := one_bxL _ _ _
  have K0 : Hid (Below w.heap.size w (w.alloc (.cells C 34))) := below1 w _
  have c0 := B0.c 21 _ hc
  clear B0 hc
  go_enter Tryz.func48, Tryz.ntmps48
  go_wp2
  go_ret
  exact ⟨rfl, K0.out⟩
theorem ly_14 (w : World) (b : Nat) (M : Array Value) (hb : Bx w b M 34) (hM : M.size = 35) (n : Bool) : Calls Tryz.prog 49 #[.pointer (some ⟨b, 0, none⟩), .bool n] w (LyE b M 21 (.bool n) w) := by
  obtain ⟨x, hx⟩ : ∃ x, M[21]? = some x := ⟨_, Array.getElem?_eq_getElem (show 21 < M.size by rw [hM]; decide)⟩
  have d := hb.c 21 x hx
  have z := hb.fz 21
  have H : Hid (LyE b M 21 (.bool n) w (.returned (.tuple #[])) (w.setCell ⟨b, 21, none⟩ (.bool n))) := LyE.of_set hb
  clear hb hM hx
  go_enter Tryz.func49, Tryz.ntmps49
  go_wp2
  go_end0
  exact H.out
theorem of_15 (w : World) (C : Array Value) (n : Bool) (hc : C[22]? = some (.bool n)) : Calls Tryz.prog 50 #[.agg C] w fun e w' => e = .returned (.bool n) ∧ Below w.heap.size w w' := by
  have B0 : Bx (w.alloc (.cells C 34)) w.heap.size C 34 := one_bxL _ _ _
  have K0 : Hid (Below w.heap.size w (w.alloc (.cells C 34))) := below1 w _
  have c0 := B0.c 22 _ hc
  clear B0 hc
  go_enter Tryz.func50, Tryz.ntmps50
  go_wp2
  go_ret
  exact ⟨rfl, K0.out⟩
theorem ly_16 (w : World) (b : Nat) (M : Array Value) (hb : Bx w b M 34) (hM : M.size = 35) (n : Bool) : Calls Tryz.prog 51 #[.pointer (some ⟨b, 0, none⟩), .bool n] w (LyE b M 22 (.bool n) w) := by
  obtain ⟨x, hx⟩ : ∃ x, M[22]? = some x := ⟨_, Array.getElem?_eq_getElem (show 22 < M.size by rw [hM]; decide)⟩
  have d := hb.c 22 x hx
  have z := hb.fz 22
  have H : Hid (LyE b M 22 (.bool n) w (.returned (.tuple #[])) (w.setCell ⟨b, 22, none⟩ (.bool n))) := LyE.of_set hb
  clear hb hM hx
  go_enter Tryz.func51, Tryz.ntmps51
  go_wp2
  go_end0
  exact H.out
theorem of_17 (w : World) (C : Array Value) (n : Nat) (hc : C[23]? = some (.int .u8 (n : Int))) : Calls Tryz.prog 52 #[.agg C] w fun e w' => e = .returned (.int .u8 (n : Int)) ∧ Below w.heap.size w w' := by
  have B0 : Bx (w.alloc (.cells C 34)) w.heap.size C 34 := one_bxL _ _ _
  have K0 : Hid (Below w.heap.size w (w.alloc (.cells C 34))) := below1 w _
  have c0 := B0.c 23 _ hc
  clear B0 hc
  go_enter Tryz.func52, Tryz.ntmps52
  go_wp2
  go_ret
  exact ⟨rfl, K0.out⟩
theorem ly_18 (w : World) (b : Nat) (M : Array Value) (hb : Bx w b M 34) (hM : M.size = 35) (n : Nat) : Calls Tryz.prog 53 #[.pointer (some ⟨b, 0, none⟩), .int .u8 (n : Int)] w (LyE b M 23 (.int .u8 (n : Int)) w) := by
  obtain ⟨x, hx⟩ : ∃ x, M[23]? = some x := ⟨_, Array.getElem?_eq_getElem (show 23 < M.size by rw [hM]; decide)⟩
  have d := hb.c 23 x hx
  have z := hb.fz 23
  have H : Hid (LyE b M 23 (.int .u8 (n : Int)) w (.returned (.tuple #[])) (w.setCell ⟨b, 23, none⟩ (.int .u8 (n : Int)))) := LyE.of_set hb
  clear hb hM hx
  go_enter Tryz.func53, Tryz.ntmps53
  go_wp2
  go_end0
  exact H.out
theorem of_19 (w : World) (C : Array Value) (n : Nat) (hc : C[24]? = some (.int .u8 (n : Int))) : Calls Tryz.prog 54 #[.agg C] w fun e w' => e = .returned (.int .u8 (n : Int)) ∧ Below w.heap.size w w' := by
  have B0 : Bx (w.alloc (.cells C 34)) w.heap.size C 34 := one_bxL _ _ _
  have K0 : Hid (Below w.heap.size w (w.alloc (.cells C 34))) := below1 w _
  have c0 := B0.c 24 _ hc
  clear B0 hc
  go_enter Tryz.func54, Tryz.ntmps54
  go_wp2
  go_ret
  exact ⟨rfl, K0.out⟩
theorem ly_20 (w : World) (b : Nat) (M : Array Value) (hb : Bx w b M 34) (hM : M.size = 35) (n : Nat) : Calls Tryz.prog 55 #[.pointer (some ⟨b, 0, none⟩), .int .u8 (n : Int)] w (LyE b M 24 (.int .u8 (n : Int)) w) := by
  obtain ⟨x, hx⟩ : ∃ x, M[24]? = some x := ⟨_, Array.getElem?_eq_getElem (show 24 < M.size by rw [hM]; decide)⟩
  have d := hb.c 24 x hx
  have z := hb.fz 24
  have H : Hid (LyE b M 24 (.int .u8 (n : Int)) w (.returned (.tuple #[])) (w.setCell ⟨b, 24, none⟩ (.int .u8 (n : Int)))) := LyE.of_set hb
  clear hb hM hx
  go_enter Tryz.func55, Tryz.ntmps55
  go_wp2
  go_end0
  exact H.out
theorem of_21 (w : World) (C : Array Value) (n : Nat) (hc : C[25]? = some (.int .u8 (n : Int))) : Calls Tryz.prog 57 #[.agg C] w fun e w' => e = .returned (.int .u8 (n : Int)) ∧ Below w.heap.size w w' := by
  have B0 : Bx (w.alloc (.cells C 34)) w.heap.size C 34 := one_bxL _ _ _
  have K0 : Hid (Below w.heap.size w (w.alloc (.cells C 34))) := below1 w _
  have c0 := B0.c 25 _ hc
  clear B0 hc
  go_enter Tryz.func57, Tryz.ntmps57
  go_wp2
  go_ret
  exact ⟨rfl, K0.out⟩
theorem ly_22 (w : World) (b : Nat) (M : Array Value) (hb : Bx w b M 34) (hM : M.size = 35) (n : Nat) : Calls Tryz.prog 58 #[.pointer (some ⟨b, 0, none⟩), .int .u8 (n : Int)] w (LyE b M 25 (.int .u8 (n : Int)) w) := by
  obtain ⟨x, hx⟩ : ∃ x, M[25]? = some x := ⟨_, Array.getElem?_eq_getElem (show 25 < M.size by rw [hM]; decide)⟩
  have d := hb.c 25 x hx
  have z := hb.fz 25
  have H : Hid (LyE b M 25 (.int .u8 (n : Int)) w (.returned (.tuple #[])) (w.setCell ⟨b, 25, none⟩ (.int .u8 (n : Int)))) := LyE.of_set hb
  clear hb hM hx
  go_enter Tryz.func58, Tryz.ntmps58
  go_wp2
  go_end0
  exact H.out
theorem of_23 (w : World) (C : Array Value) (n : Nat) (hn : n < 65536) (hc : C[26]? = some (.int .i64 (n : Int))) : Calls Tryz.prog 59 #[.agg C] w fun e w' => e = .returned (.int .u16 (n : Int)) ∧ Below w.heap.size w w' := by
  have B0 : Bx (w.alloc (.cells C 34)) w.heap.size C 34 := one_bxL _ _ _
  have K0 : Hid (Below w.heap.size w (w.alloc (.cells C 34))) := below1 w _
  have c0 := B0.c 26 _ hc
  have i0 : (n : Int) < 65536 := by omega
  clear hn
  clear B0 hc
  go_enter Tryz.func59, Tryz.ntmps59
  go_wp2
  go_ret
  exact ⟨rfl, K0.out⟩
theorem ly_24 (w : World) (b : Nat) (M : Array Value) (hb : Bx w b M 34) (hM : M.size = 35) (n : Nat) (hn : n < 65536) : Calls Tryz.prog 60 #[.pointer (some ⟨b, 0, none⟩), .int .u16 (n : Int)] w (LyE b M 26 (.int .i64 (n : Int)) w) := by
  obtain ⟨x, hx⟩ : ∃ x, M[26]? = some x := ⟨_, Array.getElem?_eq_getElem (show 26 < M.size by rw [hM]; decide)⟩
  have d := hb.c 26 x hx
  have z := hb.fz 26
  have H : Hid (LyE b M 26 (.int .i64 (n : Int)) w (.returned (.tuple #[])) (w.setCell ⟨b, 26, none⟩ (.int .i64 (n : Int)))) := LyE.of_set hb
  have i0 : (n : Int) < 65536 := by omega
  clear hn
  clear hb hM hx
  go_enter Tryz.func60, Tryz.ntmps60
  go_wp2
  go_end0
  exact H.out
theorem of_25 (w : World) (C : Array Value) (n : Nat) (hn : n < 256) (hc : C[27]? = some (.int .i64 (n : Int))) : Calls Tryz.prog 61 #[.agg C] w fun e w' => e = .returned (.int .u8 (n : Int)) ∧ Below w.heap.size w w' := by
  have B0 : Bx (w.alloc (.cells C 34)) w.heap.size C 34 := one_bxL _ _ _
  have K0 : Hid (Below w.heap.size w (w.alloc (.cells C 34))) := below1 w _
  have c0 := B0.c 27 _ hc
  have i0 : (n : Int) < 256 := by omega
  clear hn
  clear B0 hc
  go_enter Tryz.func61, Tryz.ntmps61
  go_wp2
  go_ret
  exact ⟨rfl, K0.out⟩
theorem ly_26 (w : World) (b : Nat) (M : Array Value) (hb : Bx w b M 34) (hM : M.size = 35) (n : Nat) (hn : n < 256) : Calls Tryz.prog 62 #[.pointer (some ⟨b, 0, none⟩), .int .u8 (n : Int)] w (LyE b M 27 (.int .i64 (n : Int)) w) := by
  obtain ⟨x, hx⟩ : ∃ x, M[27]? = some x := ⟨_, Array.getElem?_eq_getElem (show 27 < M.size by rw [hM]; decide)⟩
  have d := hb.c 27 x hx
  have z := hb.fz 27
  have H : Hid (LyE b M 27 (.int .i64 (n : Int)) w (.returned (.tuple #[])) (w.setCell ⟨b, 27, none⟩ (.int .i64 (n : Int)))) := LyE.of_set hb
  have i0 : (n : Int) < 256 := by omega
  clear hn
  clear hb hM hx
  go_enter Tryz.func62, Tryz.ntmps62
  go_wp2
  go_end0
  exact H.out
theorem of_27 (w : World) (C : Array Value) (n : Bool) (hc : C[28]? = some (.bool n)) : Calls Tryz.prog 63 #[.agg C] w fun e w' => e = .returned (.bool n) ∧ Below w.heap.size w w' := by
  have B0 : Bx (w.alloc (.cells C 34)) w.heap.size C 34 := one_bxL _ _ _
  have K0 : Hid (Below w.heap.size w (w.alloc (.cells C 34))) := below1 w _
  have c0 := B0.c 28 _ hc
  clear B0 hc
  go_enter Tryz.func63, Tryz.ntmps63
  go_wp2
  go_ret
  exact ⟨rfl, K0.out⟩
theorem ly_28 (w : World) (b : Nat) (M : Array Value) (hb : Bx w b M 34) (hM : M.size = 35) (n : Bool) : Calls Tryz.prog 64 #[.pointer (some ⟨b, 0, none⟩), .bool n] w (LyE b M 28 (.bool n) w) := by
  obtain ⟨x, hx⟩ : ∃ x, M[28]? = some x := ⟨_, Array.getElem?_eq_getElem (show 28 < M.size by rw [hM]; decide)⟩
  have d := hb.c 28 x hx
  have z := hb.fz 28
  have H : Hid (LyE b M 28 (.bool n) w (.returned (.tuple #[])) (w.setCell ⟨b, 28, none⟩ (.bool n))) := LyE.of_set hb
  clear hb hM hx
  go_enter Tryz.func64, Tryz.ntmps64
  go_wp2
  go_end0
  exact H.out
theorem of_29 (w : World) (C : Array Value) (n : Nat) (hn : n < 256) (hc : C[29]? = some (.int .i64 (n : Int))) : Calls Tryz.prog 65 #[.agg C] w fun e w' => e = .returned (.int .u8 (n : Int)) ∧ Below w.heap.size w w' := by
  have B0 : Bx (w.alloc (.cells C 34)) w.heap.size C 34 := one_bxL _ _ _
  have K0 : Hid (Below w.heap.size w (w.alloc (.cells C 34))) := below1 w _
  have c0 := B0.c 29 _ hc
  have i0 : (n : Int) < 256 := by omega
  clear hn
  clear B0 hc
  go_enter Tryz.func65, Tryz.ntmps65
  go_wp2
  go_ret
  exact ⟨rfl, K0.out⟩
theorem ly_30 (w : World) (b : Nat) (M : Array Value) (hb : Bx w b M 34) (hM : M.size = 35) (n : Nat) (hn : n < 256) : Calls Tryz.prog 66 #[.pointer (some ⟨b, 0, none⟩), .int .u8 (n : Int)] w (LyE b M 29 (.int .i64 (n : Int)) w) := by
  obtain ⟨x, hx⟩ : ∃ x, M[29]? = some x := ⟨_, Array.getElem?_eq_getElem (show 29 < M.size by rw [hM]; decide)⟩
  have d := hb.c 29 x hx
  have z := hb.fz 29
  have H : Hid (LyE b M 29 (.int .i64 (n : Int)) w (.returned (.tuple #[])) (w.setCell ⟨b, 29, none⟩ (.int .i64 (n : Int)))) := LyE.of_set hb
  have i0 : (n : Int) < 256 := by omega
  clear hn
  clear hb hM hx
  go_enter Tryz.func66, Tryz.ntmps66
  go_wp2
  go_end0
  exact H.out
theorem of_31 (w : World) (C : Array Value) (n : Nat) (hc : C[30]? = some (.int .u8 (n : Int))) : Calls Tryz.prog 67 #[.agg C] w fun e w' => e = .returned (.int .u8 (n : Int)) ∧ Below w.heap.size w w' := by
  have B0 : Bx (w.alloc (.cells C 34)) w.heap.size C 34 := one_bxL _ _ _
  have K0 : Hid (Below w.heap.size w (w.alloc (.cells C 34))) := below1 w _
  have c0 := B0.c 30 _ hc
  clear B0 hc
  go_enter Tryz.func67, Tryz.ntmps67
  go_wp2
  go_ret
  exact ⟨rfl, K0.out⟩
theorem ly_32 (w : World) (b : Nat) (M : Array Value) (hb : Bx w b M 34) (hM : M.size = 35) (n : Nat) : Calls Tryz.prog 68 #[.pointer (some ⟨b, 0, none⟩), .int .u8 (n : Int)] w (LyE b M 30 (.int .u8 (n : Int)) w) := by
  obtain ⟨x, hx⟩ : ∃ x, M[30]? = some x := ⟨_, Array.getElem?_eq_getElem (show 30 < M.size by rw [hM]; decide)⟩
  have d := hb.c 30 x hx
  have z := hb.fz 30
  have H : Hid (LyE b M 30 (.int .u8 (n : Int)) w (.returned (.tuple #[])) (w.setCell ⟨b, 30, none⟩ (.int .u8 (n : Int)))) := LyE.of_set hb
  clear hb hM hx
  go_enter Tryz.func68, Tryz.ntmps68
  go_wp2
  go_end0
  exact H.out
theorem of_33 (w : World) (C : Array Value) (n : Bool) (hc : C[31]? = some (.bool n)) : Calls Tryz.prog 69 #[.agg C] w fun e w' => e = .returned (.bool n) ∧ Below w.heap.size w w' := by
  have B0 : Bx (w.alloc (.cells C 34)) w.heap.size C 34 := one_bxL _ _ _
  have K0 : Hid (Below w.heap.size w (w.alloc (.cells C 34))) := below1 w _
  have c0 := B0.c 31 _ hc
  clear B0 hc
  go_enter Tryz.func69, Tryz.ntmps69
  go_wp2
  go_ret
  exact ⟨rfl, K0.out⟩
theorem ly_34 (w : World) (b : Nat) (M : Array Value) (hb : Bx w b M 34) (hM : M.size = 35) (n : Bool) : Calls Tryz.prog 70 #[.pointer (some ⟨b, 0, none⟩), .bool n] w (LyE b M 31 (.bool n) w) := by
  obtain ⟨x, hx⟩ : ∃ x, M[31]? = some x := ⟨_, Array.getElem?_eq_getElem (show 31 < M.size by rw [hM]; decide)⟩
  have d := hb.c 31 x hx
  have z := hb.fz 31
  have H : Hid (LyE b M 31 (.bool n) w (.returned (.tuple #[])) (w.setCell ⟨b, 31, none⟩ (.bool n))) := LyE.of_set hb
  clear hb hM hx
  go_enter Tryz.func70, Tryz.ntmps70
  go_wp2
  go_end0
  exact H.out
theorem of_35 (w : World) (C : Array Value) (n : Nat) (hc : C[34]? = some (.int .u64 (n : Int))) : Calls Tryz.prog 72 #[.agg C] w fun e w' => e = .returned (.int .u64 (n : Int)) ∧ Below w.heap.size w w' := by
  have B0 : Bx (w.alloc (.cells C 34)) w.heap.size C 34 := one_bxL _ _ _
  have K0 : Hid (Below w.heap.size w (w.alloc (.cells C 34))) := below1 w _
  have c0 := B0.c 34 _ hc
  clear B0 hc
  go_enter Tryz.func72, Tryz.ntmps72
  go_wp2
  go_ret
  exact ⟨rfl, K0.out⟩
theorem ly_36 (w : World) (b : Nat) (M : Array Value) (hb : Bx w b M 34) (hM : M.size = 35) (n : Nat) : Calls Tryz.prog 73 #[.pointer (some ⟨b, 0, none⟩), .int .u64 (n : Int)] w (LyE b M 34 (.int .u64 (n : Int)) w) := by
  obtain ⟨x, hx⟩ : ∃ x, M[34]? = some x := ⟨_, Array.getElem?_eq_getElem (show 34 < M.size by rw [hM]; decide)⟩
  have d := hb.c 34 x hx
  have z := hb.fz 34
  have H : Hid (LyE b M 34 (.int .u64 (n : Int)) w (.returned (.tuple #[])) (w.setCell ⟨b, 34, none⟩ (.int .u64 (n : Int)))) := LyE.of_set hb
  clear hb hM hx
  go_enter Tryz.func73, Tryz.ntmps73
  go_wp2
  go_end0
  exact H.out
theorem of_37 (w : World) (C : Array Value) (sp : Option Addr) (n cap : Nat) (hn : n < 65536) (hc : C[32]? = some (.slice sp n cap)) : Calls Tryz.prog 74 #[.agg C] w fun e w' => e = .returned (.int .u16 (n : Int)) ∧ Below w.heap.size w w' := by
  have B0 : Bx (w.alloc (.cells C 34)) w.heap.size C 34 := one_bxL _ _ _
  have K0 : Hid (Below w.heap.size w (w.alloc (.cells C 34))) := below1 w _
  have c0 := B0.c 32 _ hc
  have i0 : (n : Int) < 65536 := by omega
  clear hn
  clear B0 hc
  go_enter Tryz.func74, Tryz.ntmps74
  go_wp2
  go_ret
  exact ⟨rfl, K0.out⟩
theorem of_39 (w : World) (C : Array Value) (sp : Option Addr) (n cap : Nat) (hc : C[32]? = some (.slice sp n cap)) : Calls Tryz.prog 77 #[.agg C] w fun e w' => e = .returned (.int .i64 (n : Int)) ∧ Below w.heap.size w w' := by
  have B0 : Bx (w.alloc (.cells C 34)) w.heap.size C 34 := one_bxL _ _ _
  have K0 : Hid (Below w.heap.size w (w.alloc (.cells C 34))) := below1 w _
  have c0 := B0.c 32 _ hc
  clear B0 hc
  go_enter Tryz.func77, Tryz.ntmps77
  go_wp2
  go_ret
  exact ⟨rfl, K0.out⟩
theorem of_40 (w : World) (C : Array Value) (sp : Option Addr) (n cap : Nat) (hc : C[32]? = some (.slice sp n cap)) : Calls Tryz.prog 78 #[.agg C] w fun e w' => e = .returned (.slice sp n cap) ∧ Below w.heap.size w w' := by
  have B0 : Bx (w.alloc (.cells C 34)) w.heap.size C 34 := one_bxL _ _ _
  have K0 : Hid (Below w.heap.size w (w.alloc (.cells C 34))) := below1 w _
  have c0 := B0.c 32 _ hc
  clear B0 hc
  go_enter Tryz.func78, Tryz.ntmps78
  go_wp2
  go_ret
  exact ⟨rfl, K0.out⟩
theorem of_42 (w : World) (C : Array Value) (sp : Option Addr) (n cap : Nat) (hc : C[33]? = some (.slice sp n cap)) : Calls Tryz.prog 81 #[.agg C] w fun e w' => e = .returned (.slice sp n cap) ∧ Below w.heap.size w w' := by
  have B0 : Bx (w.alloc (.cells C 34)) w.heap.size C 34 := one_bxL _ _ _
  have K0 : Hid (Below w.heap.size w (w.alloc (.cells C 34))) := below1 w _
  have c0 := B0.c 33 _ hc
  clear B0 hc
  go_enter Tryz.func81, Tryz.ntmps81
  go_wp2
  go_ret
  exact ⟨rfl, K0.out⟩
theorem ly_41 (w : World) (b : Nat) (M : Array Value) (hb : Bx w b M 34) (hM : M.size = 35) (sp : Option Addr) (n cap : Nat) : Calls Tryz.prog 79 #[.pointer (some ⟨b, 0, none⟩), .slice sp n cap] w (LyE b M 32 (.slice sp n cap) w) := by
  obtain ⟨x, hx⟩ : ∃ x, M[32]? = some x := ⟨_, Array.getElem?_eq_getElem (show 32 < M.size by rw [hM]; decide)⟩
  have d := hb.c 32 x hx
  have z := hb.fz 32
  have H : Hid (LyE b M 32 (.slice sp n cap) w (.returned (.tuple #[])) (w.setCell ⟨b, 32, none⟩ (.slice sp n cap))) := LyE.of_set hb
  clear hb hM hx
  go_enter Tryz.func79, Tryz.ntmps79
  go_wp2
  go_end0
  exact H.out
theorem ly_43 (w : World) (b : Nat) (M : Array Value) (hb : Bx w b M 34) (hM : M.size = 35) (sp : Option Addr) (n cap : Nat) : Calls Tryz.prog 82 #[.pointer (some ⟨b, 0, none⟩), .slice sp n cap] w (LyE b M 33 (.slice sp n cap) w) := by
  obtain ⟨x, hx⟩ : ∃ x, M[33]? = some x := ⟨_, Array.getElem?_eq_getElem (show 33 < M.size by rw [hM]; decide)⟩
  have d := hb.c 33 x hx
  have z := hb.fz 33
  have H : Hid (LyE b M 33 (.slice sp n cap) w (.returned (.tuple #[])) (w.setCell ⟨b, 33, none⟩ (.slice sp n cap))) := LyE.of_set hb
  clear hb hM hx
  go_enter Tryz.func82, Tryz.ntmps82
  go_wp2
  go_end0
  exact H.out
theorem mk_row16 (n : Nat) (hn : n < 65536) : ∃ M : Array Value, ∀ v, (Instr.makeSlice 31 (.int .u16 (n : Int)) (.int .u16 (n : Int))).run Tryz.prog v = .ok (.slice (some ⟨v.heap.size, 0, none⟩) n n) (v.alloc (.cells M 5)) := by
  obtain ⟨i, z, hi, hz0, hz1, hz2, hz3⟩ := kByte.i
  refine ⟨madeCells z.cells (n * 1), fun v => ?_⟩
  have := run_make (P := Tryz.prog) v 31 5 i z kByte.u hi hz0 .u16 .u16 (n : Int) (n : Int) (by omega) (Int.le_refl _) (by rw [hz2]; omega) (by omega)
  rw [hz1, Int.toNat_natCast] at this
  exact this
theorem ly_38 (w : World) (b : Nat) (M : Array Value) (hb : Bx w b M 34) (hM : M.size = 35) (n : Nat) (hn : n < 65536) : Calls Tryz.prog 75 #[.pointer (some ⟨b, 0, none⟩), .int .u16 (n : Int)] w (LyE b M 32 (.slice (some ⟨w.heap.size, 0, none⟩) n n) w) := by
  obtain ⟨Z, hZ⟩ := mk_row16 n hn
  have hl := heap_lt hb
  have hb2 : Bx (w.alloc (.cells Z 5)) b M 34 := ((below1 w (.cells Z 5)).block b hl).trans hb
  obtain ⟨x, hx⟩ : ∃ x, M[32]? = some x := ⟨_, Array.getElem?_eq_getElem (show 32 < M.size by rw [hM]; decide)⟩
  have d := hb2.c 32 x hx
  have z := hb2.fz 32
  have mk := hZ w
  have H : Hid (LyE b M 32 (.slice (some ⟨w.heap.size, 0, none⟩) n n) w (.returned (.tuple #[])) ((w.alloc (.cells Z 5)).setCell ⟨b, 32, none⟩ (.slice (some ⟨w.heap.size, 0, none⟩) n n))) := ⟨rfl, heap_setCell_same _ b 32 M _ _ hb2, (Sto.of_below (below1 w _) (Nat.le_of_lt hl)).trans (Sto.set b 32 _ _)⟩
  have i0 : (n : Int) < 65536 := by omega
  clear hb hM hb2 hZ hl hn hx
  go_enter Tryz.func75, Tryz.ntmps75
  go_wp2
  go_end0
  exact H.out
theorem idxR (g k : Nat) (hk : k < 16) (w : World) : (Instr.indexAt 23 (.pointer (some ⟨g, 0, none⟩)) (.int .i64 (k : Int))).run Tryz.prog w = .ok (.pointer (some ⟨g, k, none⟩)) w := by
  have := idx (P := Tryz.prog) (g := g) (off := 0) Tryz.underlying23 (s := 1) (by kernel_rfl) .i64 k w hk
  rwa [Nat.zero_add, Nat.mul_one] at this
theorem of_1 (w : World) (C : Array Value) (bK k : Nat) (hK : Bx w bK #[.int .i64 (k : Int)] 3) (hk : k < 16) (n : Nat) (hc : C[k]? = some (.int .u16 (n : Int))) : Calls Tryz.prog 34 #[.agg C, .pointer (some ⟨bK, 0, none⟩)] w fun e w' => e = .returned (.int .u16 (n : Int)) ∧ Below w.heap.size w w' := by
  have B0 : Bx (w.alloc (.cells C 34)) w.heap.size C 34 := one_bxL _ _ _
  have K0 : Hid (Below w.heap.size w (w.alloc (.cells C 34))) := below1 w _
  have c0 := B0.c k _ hc
  have c1 : (w.alloc (.cells C 34)).cell? ⟨bK, 0, none⟩ = some (.int .i64 (k : Int)) := Bx.c (((below1 w (.cells C 34)).block bK (heap_lt hK)).trans hK) 0 _ rfl
  have ix := fun v => idxR w.heap.size k hk v
  clear B0 hc hK hk
  go_enter Tryz.func34, Tryz.ntmps34
  go_wp2
  go_ret
  exact ⟨rfl, K0.out⟩
theorem ly_2 (w : World) (b : Nat) (M : Array Value) (hb : Bx w b M 34) (hM : M.size = 35) (bK k : Nat) (hK : Bx w bK #[.int .i64 (k : Int)] 3) (hk : k < 16) (n : Nat) : Calls Tryz.prog 35 #[.pointer (some ⟨b, 0, none⟩), .int .u16 (n : Int), .pointer (some ⟨bK, 0, none⟩)] w (LyE b M k (.int .u16 (n : Int)) w) := by
  obtain ⟨x, hx⟩ : ∃ x, M[k]? = some x := ⟨_, Array.getElem?_eq_getElem (show k < M.size by rw [hM]; omega)⟩
  have d := hb.c k x hx
  have z := hb.fz k
  have c1 := hK.c 0 (.int .i64 (k : Int)) rfl
  have ix := fun v => idxR b k hk v
  have H : Hid (∀ m, LyE b M k (.int .u16 (n : Int)) w (.returned (.tuple #[])) ((w.drewN m).setCell ⟨b, k, none⟩ (.int .u16 (n : Int)))) := fun m => ⟨rfl, heap_setCell_same (w.drewN m) b k M _ _ hb, (Sto.of_below (below_drewN (Below.refl _ w)) (Nat.le_of_lt (heap_lt hb))).trans (Sto.set b k _ _)⟩
  clear hb hM hK hk hx
  go_enter Tryz.func35, Tryz.ntmps35
  go_wp2
  refine region_class_tail 7 (fun y => ∃ n, y = w.drewN n) (by kernel_rfl) (by kernel_rfl) ⟨1, rfl⟩ ?_
  dsimp only [List.take, List.drop]
  repeat (go_big_quiet_step (fail))
  refine wpQuiet_nil ?_
  rintro _ ⟨nq, rfl⟩
  go_wp2
  go_end0
  exact H.out _
end Go.Proofs.YtehnhjdjjalifaaGreatDoor
