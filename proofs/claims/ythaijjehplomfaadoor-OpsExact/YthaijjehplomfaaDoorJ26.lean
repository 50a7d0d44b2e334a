/- An order's word laid behind the bytes: add. -/
import Derived.Test.YthaijjehplomfaaDoorJ18
import Derived.Test.YthaijjehplomfaaDoorJ25
namespace Go.Proofs.YthaijjehplomfaaDoor
open Go Go.RowKit
set_option linter.unusedVariables false
set_option maxHeartbeats 1000000
set_option maxRecDepth 20000

theorem low_any (x : Int) (w : World) (_h0 : 0 ≤ x) (_h1 : x ≤ 65535) : Calls Tryd.prog 52 #[.int .u16 x] w fun e w' => e = .returned (.int .u8 (x % 256)) ∧ w' = w := by
  go_enter Tryd.func52, Tryd.ntmps52
  go_wp2
  go_ret
  exact ⟨rfl, rfl⟩
theorem high_any (x : Int) (w : World) (h0 : 0 ≤ x) (h1 : x ≤ 65535) : Calls Tryd.prog 51 #[.int .u16 x] w fun e w' => e = .returned (.int .u8 (x / 256)) ∧ w' = w := by
  go_enter Tryd.func51, Tryd.ntmps51
  go_wp2
  go_ret
  exact ⟨rfl, rfl⟩
/-- Bytes put behind, the box not yet written. -/
def Mid (w : World) (P g : Nat) (vb vu : Value) (bs : List UInt8) (F : ByteArray → Option Nat) (us : List Us) (hl : List UInt8) (v : Value) (y : World) : Prop :=
  Bx y P #[vb, .map (some g), vu] 77 ∧ OwnL 5 1 cU w.heap.size y v (bs ++ hl) ∧ MapF y g (fun s => (F s).map fun a => .int .u16 (a : Int)) ∧ OwnL 108 9 usC w.heap.size y vu us ∧ Below w.heap.size w y ∧ w.heap.size ≤ P ∧ w.heap.size ≤ g
def actA (x0 x1 x2 x3 x4 x5 x6 x7 x8 x9 x10 v11 v12 v13 v14 v15 v16 v17 v18 v19 v20 v21 v22 v23 : Value) : Act := ⟨#[x0, x1, x2, x3, x4, x5, x6, x7, x8, x9, x10, v11, v12, v13, v14, v15, v16, v17, v18, v19, v20, v21, v22, v23], []⟩
def IA (w : World) (P g : Nat) (vb vu : Value) (bs : List UInt8) (F : ByteArray → Option Nat) (us : List Us) (X : Nat) (hl : List UInt8) (y0 : World) (x0 x1 x2 x3 x4 x5 x6 x7 x8 x9 x10 : Value) (s : Array Bool) (a : Act) (y : World) : Prop := s.size = 14 ∧ Kp y0 y ∧ ∃ (v11 v12 v13 v14 v15 v16 v17 v18 v19 v20 v21 v22 v23 : Value), a = actA x0 x1 x2 x3 x4 x5 x6 x7 x8 x9 x10 v11 v12 v13 v14 v15 v16 v17 v18 v19 v20 v21 v22 v23
  ∧ (s.getD 0 false = true → v11 = .pointer (some ⟨P, 0, none⟩))
  ∧ (s.getD 1 false = true → v12 = .pointer (some ⟨P, 0, none⟩))
  ∧ (s.getD 2 false = true → v13 = .pointer (some ⟨P, 0, none⟩))
  ∧ (s.getD 3 false = true → v14 = .pointer (some ⟨P, 0, none⟩))
  ∧ (s.getD 4 false = true → v15 = vb)
  ∧ (s.getD 5 false = true → v16 = .int .u16 (X : Int))
  ∧ (s.getD 6 false = true → v17 = .int .u8 ((X : Int) / 256))
  ∧ (s.getD 7 false = true → v18 = .int .u16 (X : Int))
  ∧ (s.getD 8 false = true → v19 = .int .u8 ((X : Int) % 256))
  ∧ (s.getD 9 false = true → s.getD 10 false = false → ∃ g0, v20 = .slice (some ⟨g0, 0, none⟩) 2 2 ∧ Bx y g0 #[.int .u8 ((X : Int) / 256), .int .u8 ((X : Int) % 256)] 5)
  ∧ (s.getD 11 false = true → v22 = .pointer (some ⟨P, 0, none⟩))
  ∧ (s.getD 12 false = true → v23 = .pointer (some ⟨P, 0, none⟩))
  ∧ (s.getD 10 false = true → s.getD 4 false = true ∧ s.getD 9 false = true)
  ∧ (s.getD 13 false = true → s.getD 10 false = true)
  ∧ (s.getD 10 false = false → Pg w P g vb vu bs F us y)
  ∧ (s.getD 10 false = true → s.getD 13 false = false → Mid w P g vb vu bs F us hl v21 y)
  ∧ (s.getD 13 false = true → ∃ vb', Pg w P g vb' vu (bs ++ hl) F us y)
theorem putA11 (x0 x1 x2 x3 x4 x5 x6 x7 x8 x9 x10 v11 v12 v13 v14 v15 v16 v17 v18 v19 v20 v21 v22 v23 v : Value) : (actA x0 x1 x2 x3 x4 x5 x6 x7 x8 x9 x10 v11 v12 v13 v14 v15 v16 v17 v18 v19 v20 v21 v22 v23).put (some 11) v = actA x0 x1 x2 x3 x4 x5 x6 x7 x8 x9 x10 v v12 v13 v14 v15 v16 v17 v18 v19 v20 v21 v22 v23 := by kernel_rfl
theorem putA12 (x0 x1 x2 x3 x4 x5 x6 x7 x8 x9 x10 v11 v12 v13 v14 v15 v16 v17 v18 v19 v20 v21 v22 v23 v : Value) : (actA x0 x1 x2 x3 x4 x5 x6 x7 x8 x9 x10 v11 v12 v13 v14 v15 v16 v17 v18 v19 v20 v21 v22 v23).put (some 12) v = actA x0 x1 x2 x3 x4 x5 x6 x7 x8 x9 x10 v11 v v13 v14 v15 v16 v17 v18 v19 v20 v21 v22 v23 := by kernel_rfl
theorem putA13 (x0 x1 x2 x3 x4 x5 x6 x7 x8 x9 x10 v11 v12 v13 v14 v15 v16 v17 v18 v19 v20 v21 v22 v23 v : Value) : (actA x0 x1 x2 x3 x4 x5 x6 x7 x8 x9 x10 v11 v12 v13 v14 v15 v16 v17 v18 v19 v20 v21 v22 v23).put (some 13) v = actA x0 x1 x2 x3 x4 x5 x6 x7 x8 x9 x10 v11 v12 v v14 v15 v16 v17 v18 v19 v20 v21 v22 v23 := by kernel_rfl
theorem putA14 (x0 x1 x2 x3 x4 x5 x6 x7 x8 x9 x10 v11 v12 v13 v14 v15 v16 v17 v18 v19 v20 v21 v22 v23 v : Value) : (actA x0 x1 x2 x3 x4 x5 x6 x7 x8 x9 x10 v11 v12 v13 v14 v15 v16 v17 v18 v19 v20 v21 v22 v23).put (some 14) v = actA x0 x1 x2 x3 x4 x5 x6 x7 x8 x9 x10 v11 v12 v13 v v15 v16 v17 v18 v19 v20 v21 v22 v23 := by kernel_rfl
theorem putA15 (x0 x1 x2 x3 x4 x5 x6 x7 x8 x9 x10 v11 v12 v13 v14 v15 v16 v17 v18 v19 v20 v21 v22 v23 v : Value) : (actA x0 x1 x2 x3 x4 x5 x6 x7 x8 x9 x10 v11 v12 v13 v14 v15 v16 v17 v18 v19 v20 v21 v22 v23).put (some 15) v = actA x0 x1 x2 x3 x4 x5 x6 x7 x8 x9 x10 v11 v12 v13 v14 v v16 v17 v18 v19 v20 v21 v22 v23 := by kernel_rfl
theorem putA16 (x0 x1 x2 x3 x4 x5 x6 x7 x8 x9 x10 v11 v12 v13 v14 v15 v16 v17 v18 v19 v20 v21 v22 v23 v : Value) : (actA x0 x1 x2 x3 x4 x5 x6 x7 x8 x9 x10 v11 v12 v13 v14 v15 v16 v17 v18 v19 v20 v21 v22 v23).put (some 16) v = actA x0 x1 x2 x3 x4 x5 x6 x7 x8 x9 x10 v11 v12 v13 v14 v15 v v17 v18 v19 v20 v21 v22 v23 := by kernel_rfl
theorem putA17 (x0 x1 x2 x3 x4 x5 x6 x7 x8 x9 x10 v11 v12 v13 v14 v15 v16 v17 v18 v19 v20 v21 v22 v23 v : Value) : (actA x0 x1 x2 x3 x4 x5 x6 x7 x8 x9 x10 v11 v12 v13 v14 v15 v16 v17 v18 v19 v20 v21 v22 v23).put (some 17) v = actA x0 x1 x2 x3 x4 x5 x6 x7 x8 x9 x10 v11 v12 v13 v14 v15 v16 v v18 v19 v20 v21 v22 v23 := by kernel_rfl
theorem putA18 (x0 x1 x2 x3 x4 x5 x6 x7 x8 x9 x10 v11 v12 v13 v14 v15 v16 v17 v18 v19 v20 v21 v22 v23 v : Value) : (actA x0 x1 x2 x3 x4 x5 x6 x7 x8 x9 x10 v11 v12 v13 v14 v15 v16 v17 v18 v19 v20 v21 v22 v23).put (some 18) v = actA x0 x1 x2 x3 x4 x5 x6 x7 x8 x9 x10 v11 v12 v13 v14 v15 v16 v17 v v19 v20 v21 v22 v23 := by kernel_rfl
theorem putA19 (x0 x1 x2 x3 x4 x5 x6 x7 x8 x9 x10 v11 v12 v13 v14 v15 v16 v17 v18 v19 v20 v21 v22 v23 v : Value) : (actA x0 x1 x2 x3 x4 x5 x6 x7 x8 x9 x10 v11 v12 v13 v14 v15 v16 v17 v18 v19 v20 v21 v22 v23).put (some 19) v = actA x0 x1 x2 x3 x4 x5 x6 x7 x8 x9 x10 v11 v12 v13 v14 v15 v16 v17 v18 v v20 v21 v22 v23 := by kernel_rfl
theorem putA20 (x0 x1 x2 x3 x4 x5 x6 x7 x8 x9 x10 v11 v12 v13 v14 v15 v16 v17 v18 v19 v20 v21 v22 v23 v : Value) : (actA x0 x1 x2 x3 x4 x5 x6 x7 x8 x9 x10 v11 v12 v13 v14 v15 v16 v17 v18 v19 v20 v21 v22 v23).put (some 20) v = actA x0 x1 x2 x3 x4 x5 x6 x7 x8 x9 x10 v11 v12 v13 v14 v15 v16 v17 v18 v19 v v21 v22 v23 := by kernel_rfl
theorem putA21 (x0 x1 x2 x3 x4 x5 x6 x7 x8 x9 x10 v11 v12 v13 v14 v15 v16 v17 v18 v19 v20 v21 v22 v23 v : Value) : (actA x0 x1 x2 x3 x4 x5 x6 x7 x8 x9 x10 v11 v12 v13 v14 v15 v16 v17 v18 v19 v20 v21 v22 v23).put (some 21) v = actA x0 x1 x2 x3 x4 x5 x6 x7 x8 x9 x10 v11 v12 v13 v14 v15 v16 v17 v18 v19 v20 v v22 v23 := by kernel_rfl
theorem putA22 (x0 x1 x2 x3 x4 x5 x6 x7 x8 x9 x10 v11 v12 v13 v14 v15 v16 v17 v18 v19 v20 v21 v22 v23 v : Value) : (actA x0 x1 x2 x3 x4 x5 x6 x7 x8 x9 x10 v11 v12 v13 v14 v15 v16 v17 v18 v19 v20 v21 v22 v23).put (some 22) v = actA x0 x1 x2 x3 x4 x5 x6 x7 x8 x9 x10 v11 v12 v13 v14 v15 v16 v17 v18 v19 v20 v21 v v23 := by kernel_rfl
theorem putA23 (x0 x1 x2 x3 x4 x5 x6 x7 x8 x9 x10 v11 v12 v13 v14 v15 v16 v17 v18 v19 v20 v21 v22 v23 v : Value) : (actA x0 x1 x2 x3 x4 x5 x6 x7 x8 x9 x10 v11 v12 v13 v14 v15 v16 v17 v18 v19 v20 v21 v22 v23).put (some 23) v = actA x0 x1 x2 x3 x4 x5 x6 x7 x8 x9 x10 v11 v12 v13 v14 v15 v16 v17 v18 v19 v20 v21 v22 v := by kernel_rfl
theorem putAn (x0 x1 x2 x3 x4 x5 x6 x7 x8 x9 x10 v11 v12 v13 v14 v15 v16 v17 v18 v19 v20 v21 v22 v23 v : Value) : (actA x0 x1 x2 x3 x4 x5 x6 x7 x8 x9 x10 v11 v12 v13 v14 v15 v16 v17 v18 v19 v20 v21 v22 v23).put none v = actA x0 x1 x2 x3 x4 x5 x6 x7 x8 x9 x10 v11 v12 v13 v14 v15 v16 v17 v18 v19 v20 v21 v22 v23 := by kernel_rfl
theorem evA0 (x0 x1 x2 x3 x4 x5 x6 x7 x8 x9 x10 v11 v12 v13 v14 v15 v16 v17 v18 v19 v20 v21 v22 v23 : Value) : (actA x0 x1 x2 x3 x4 x5 x6 x7 x8 x9 x10 v11 v12 v13 v14 v15 v16 v17 v18 v19 v20 v21 v22 v23).eval (.tmp 0) = x0 := by kernel_rfl
theorem evA4 (x0 x1 x2 x3 x4 x5 x6 x7 x8 x9 x10 v11 v12 v13 v14 v15 v16 v17 v18 v19 v20 v21 v22 v23 : Value) : (actA x0 x1 x2 x3 x4 x5 x6 x7 x8 x9 x10 v11 v12 v13 v14 v15 v16 v17 v18 v19 v20 v21 v22 v23).eval (.tmp 4) = x4 := by kernel_rfl
theorem evA11 (x0 x1 x2 x3 x4 x5 x6 x7 x8 x9 x10 v11 v12 v13 v14 v15 v16 v17 v18 v19 v20 v21 v22 v23 : Value) : (actA x0 x1 x2 x3 x4 x5 x6 x7 x8 x9 x10 v11 v12 v13 v14 v15 v16 v17 v18 v19 v20 v21 v22 v23).eval (.tmp 11) = v11 := by kernel_rfl
theorem evA12 (x0 x1 x2 x3 x4 x5 x6 x7 x8 x9 x10 v11 v12 v13 v14 v15 v16 v17 v18 v19 v20 v21 v22 v23 : Value) : (actA x0 x1 x2 x3 x4 x5 x6 x7 x8 x9 x10 v11 v12 v13 v14 v15 v16 v17 v18 v19 v20 v21 v22 v23).eval (.tmp 12) = v12 := by kernel_rfl
theorem evA13 (x0 x1 x2 x3 x4 x5 x6 x7 x8 x9 x10 v11 v12 v13 v14 v15 v16 v17 v18 v19 v20 v21 v22 v23 : Value) : (actA x0 x1 x2 x3 x4 x5 x6 x7 x8 x9 x10 v11 v12 v13 v14 v15 v16 v17 v18 v19 v20 v21 v22 v23).eval (.tmp 13) = v13 := by kernel_rfl
theorem evA14 (x0 x1 x2 x3 x4 x5 x6 x7 x8 x9 x10 v11 v12 v13 v14 v15 v16 v17 v18 v19 v20 v21 v22 v23 : Value) : (actA x0 x1 x2 x3 x4 x5 x6 x7 x8 x9 x10 v11 v12 v13 v14 v15 v16 v17 v18 v19 v20 v21 v22 v23).eval (.tmp 14) = v14 := by kernel_rfl
theorem evA15 (x0 x1 x2 x3 x4 x5 x6 x7 x8 x9 x10 v11 v12 v13 v14 v15 v16 v17 v18 v19 v20 v21 v22 v23 : Value) : (actA x0 x1 x2 x3 x4 x5 x6 x7 x8 x9 x10 v11 v12 v13 v14 v15 v16 v17 v18 v19 v20 v21 v22 v23).eval (.tmp 15) = v15 := by kernel_rfl
theorem evA16 (x0 x1 x2 x3 x4 x5 x6 x7 x8 x9 x10 v11 v12 v13 v14 v15 v16 v17 v18 v19 v20 v21 v22 v23 : Value) : (actA x0 x1 x2 x3 x4 x5 x6 x7 x8 x9 x10 v11 v12 v13 v14 v15 v16 v17 v18 v19 v20 v21 v22 v23).eval (.tmp 16) = v16 := by kernel_rfl
theorem evA17 (x0 x1 x2 x3 x4 x5 x6 x7 x8 x9 x10 v11 v12 v13 v14 v15 v16 v17 v18 v19 v20 v21 v22 v23 : Value) : (actA x0 x1 x2 x3 x4 x5 x6 x7 x8 x9 x10 v11 v12 v13 v14 v15 v16 v17 v18 v19 v20 v21 v22 v23).eval (.tmp 17) = v17 := by kernel_rfl
theorem evA18 (x0 x1 x2 x3 x4 x5 x6 x7 x8 x9 x10 v11 v12 v13 v14 v15 v16 v17 v18 v19 v20 v21 v22 v23 : Value) : (actA x0 x1 x2 x3 x4 x5 x6 x7 x8 x9 x10 v11 v12 v13 v14 v15 v16 v17 v18 v19 v20 v21 v22 v23).eval (.tmp 18) = v18 := by kernel_rfl
theorem evA19 (x0 x1 x2 x3 x4 x5 x6 x7 x8 x9 x10 v11 v12 v13 v14 v15 v16 v17 v18 v19 v20 v21 v22 v23 : Value) : (actA x0 x1 x2 x3 x4 x5 x6 x7 x8 x9 x10 v11 v12 v13 v14 v15 v16 v17 v18 v19 v20 v21 v22 v23).eval (.tmp 19) = v19 := by kernel_rfl
theorem evA20 (x0 x1 x2 x3 x4 x5 x6 x7 x8 x9 x10 v11 v12 v13 v14 v15 v16 v17 v18 v19 v20 v21 v22 v23 : Value) : (actA x0 x1 x2 x3 x4 x5 x6 x7 x8 x9 x10 v11 v12 v13 v14 v15 v16 v17 v18 v19 v20 v21 v22 v23).eval (.tmp 20) = v20 := by kernel_rfl
theorem evA21 (x0 x1 x2 x3 x4 x5 x6 x7 x8 x9 x10 v11 v12 v13 v14 v15 v16 v17 v18 v19 v20 v21 v22 v23 : Value) : (actA x0 x1 x2 x3 x4 x5 x6 x7 x8 x9 x10 v11 v12 v13 v14 v15 v16 v17 v18 v19 v20 v21 v22 v23).eval (.tmp 21) = v21 := by kernel_rfl
theorem evA22 (x0 x1 x2 x3 x4 x5 x6 x7 x8 x9 x10 v11 v12 v13 v14 v15 v16 v17 v18 v19 v20 v21 v22 v23 : Value) : (actA x0 x1 x2 x3 x4 x5 x6 x7 x8 x9 x10 v11 v12 v13 v14 v15 v16 v17 v18 v19 v20 v21 v22 v23).eval (.tmp 22) = v22 := by kernel_rfl
theorem evA23 (x0 x1 x2 x3 x4 x5 x6 x7 x8 x9 x10 v11 v12 v13 v14 v15 v16 v17 v18 v19 v20 v21 v22 v23 : Value) : (actA x0 x1 x2 x3 x4 x5 x6 x7 x8 x9 x10 v11 v12 v13 v14 v15 v16 v17 v18 v19 v20 v21 v22 v23).eval (.tmp 23) = v23 := by kernel_rfl
def Wt (o : Oper) (q : Nat) : Prop := ∃ e ∈ o.after, Region.binds .any e = true ∧ e.on = q
theorem lt14 {i : Nat} (h : i < 14) : i = 0 ∨ i = 1 ∨ i = 2 ∨ i = 3 ∨ i = 4 ∨ i = 5 ∨ i = 6 ∨ i = 7 ∨ i = 8 ∨ i = 9 ∨ i = 10 ∨ i = 11 ∨ i = 12 ∨ i = 13 := by omega
def OpA (ops : Array Oper) (i : Nat) (d : Option Nat) (p : Op) (on : List Nat) : Prop := ∃ o : Oper, ops[i]? = some o ∧ o.guard = none ∧ o.dst = d ∧ o.op = p ∧ ∀ q ∈ on, Wt o q
theorem regA {ops : Array Oper} {Q : Exit → Act → World → Prop} {id : Nat} {a : Act} {y0 : World} (w : World) (P g : Nat) (spb : Option Addr) (nb capb : Nat) (vu : Value) (bs : List UInt8) (F : ByteArray → Option Nat) (us : List Us) (X : Nat) (hX : X ≤ 65535) (hl : List UInt8) (hhl : hl = [UInt8.ofNat (X / 256), UInt8.ofNat (X % 256)]) (hbs : bs.length ≤ 100000) (x0 x1 x2 x3 x4 x5 x6 x7 x8 x9 x10 : Value) (h0 : x0 = .pointer (some ⟨P, 0, none⟩)) (h4 : x4 = .int .u16 (X : Int)) (hsz : ops.size = 14) (hu : upB .any ops = true)
    (o0 : OpA ops 0 (some 11) (.move (.tmp 0)) [])
    (o1 : OpA ops 1 (some 12) (.move (.tmp 0)) [])
    (o2 : OpA ops 2 (some 13) (.nilCheck (.tmp 12)) [1])
    (o3 : OpA ops 3 (some 14) (.fieldAddr 77 (.tmp 13) 0) [2])
    (o4 : OpA ops 4 (some 15) (.load 45 (.tmp 14)) [3])
    (o5 : OpA ops 5 (some 16) (.move (.tmp 4)) [])
    (o6 : OpA ops 6 (some 17) (.call { callee := .value (.func 51), args := #[.tmp 16], argTypes := #[27] }) [5])
    (o7 : OpA ops 7 (some 18) (.move (.tmp 4)) [])
    (o8 : OpA ops 8 (some 19) (.call { callee := .value (.func 52), args := #[.tmp 18], argTypes := #[27] }) [7])
    (o9 : OpA ops 9 (some 20) (.buildSlice 45 2 #[(0, .tmp 17), (1, .tmp 19)]) [6, 8])
    (o10 : OpA ops 10 (some 21) (.call { callee := .builtin .append, args := #[.tmp 15, .tmp 20], argTypes := #[45, 45] }) [4, 9])
    (o11 : OpA ops 11 (some 22) (.nilCheck (.tmp 11)) [0, 10])
    (o12 : OpA ops 12 (some 23) (.fieldAddr 77 (.tmp 22) 0) [11, 10])
    (o13 : OpA ops 13 none (.store 45 (.tmp 23) (.tmp 21)) [12, 10])
    (hP : Pg w P g (.slice spb nb capb) vu bs F us y0) (ha : a = actA x0 x1 x2 x3 x4 x5 x6 x7 x8 x9 x10 undef undef undef undef undef undef undef undef undef undef undef undef undef)
    (fin : ∀ (y : World) (vb' : Value) (v11 v12 v13 v14 v15 v16 v17 v18 v19 v20 v21 v22 v23 : Value), Hid (Pg w P g vb' vu (bs ++ hl) F us y) → Hid (Kp y0 y) → Q .normal (actA x0 x1 x2 x3 x4 x5 x6 x7 x8 x9 x10 v11 v12 v13 v14 v15 v16 v17 v18 v19 v20 v21 v22 v23) y) : (Code.region id ops true).wp Tryd.prog Q a y0 := by
  have bd : ∀ x : World, Below x.heap.size x x.drew := fun x => ⟨rfl, rfl, rfl, Nat.le_refl _, fun _ _ => rfl⟩
  refine region_inv2 (IA w P g (.slice spb nb capb) vu bs F us X hl y0 x0 x1 x2 x3 x4 x5 x6 x7 x8 x9 x10) (by kernel_rfl) hu (fun s a y h => by rw [h.1, hsz]) ?_ ?_ ?_
  · rw [hsz]
    refine ⟨rfl, Kp.of_below (bd y0), undef, undef, undef, undef, undef, undef, undef, undef, undef, undef, undef, undef, undef, ha, fun h => absurd h (by decide), fun h => absurd h (by decide), fun h => absurd h (by decide), fun h => absurd h (by decide), fun h => absurd h (by decide), fun h => absurd h (by decide), fun h => absurd h (by decide), fun h => absurd h (by decide), fun h => absurd h (by decide), fun h _ => absurd h (by decide), fun h => absurd h (by decide), fun h => absurd h (by decide), fun h => absurd h (by decide), fun h => absurd h (by decide), fun _ => hP.below (bd y0), fun h _ => absurd h (by decide), fun h => absurd h (by decide)⟩
  · intro s a y i o hI hoi hnd haf
    have hi : i < 14 := by rw [← hsz]; exact (Array.getElem?_eq_some_iff.1 hoi).1
    obtain ⟨hs, hk, v11, v12, v13, v14, v15, v16, v17, v18, v19, v20, v21, v22, v23, rfl, c0, c1, c2, c3, c4, c5, c6, c7, c8, c9, c11, c12, d1, d2, m0, m1, m2⟩ := hI
    have hset : ∀ j, (s.setIfInBounds i true).getD j false = if j = i then true else s.getD j false := fun j => getD_set s i j (by omega)
    have hsz' : (s.setIfInBounds i true).size = 14 := by simpa using hs
    rcases lt14 hi with rfl | rfl | rfl | rfl | rfl | rfl | rfl | rfl | rfl | rfl | rfl | rfl | rfl | rfl
    · obtain ⟨o', ho', og, od, oo, ow⟩ := o0
      rw [ho'] at hoi
      injection hoi with hoi
      subst hoi
      refine wpOp_val (.pointer (some ⟨P, 0, none⟩)) ho' og ?_ ?_
      · unfold execOp; simp only [oo, evA0, h0, Sem.run_pure]
      · rw [od, putA11]
        exact ⟨hsz', hk, .pointer (some ⟨P, 0, none⟩), v12, v13, v14, v15, v16, v17, v18, v19, v20, v21, v22, v23, rfl, fun _ => rfl, fun h0 => c1 (by rw [hset] at h0; simpa using h0), fun h0 => c2 (by rw [hset] at h0; simpa using h0), fun h0 => c3 (by rw [hset] at h0; simpa using h0), fun h0 => c4 (by rw [hset] at h0; simpa using h0), fun h0 => c5 (by rw [hset] at h0; simpa using h0), fun h0 => c6 (by rw [hset] at h0; simpa using h0), fun h0 => c7 (by rw [hset] at h0; simpa using h0), fun h0 => c8 (by rw [hset] at h0; simpa using h0), fun h0 h1 => c9 (by rw [hset] at h0; simpa using h0) (by rw [hset] at h1; simpa using h1), fun h0 => c11 (by rw [hset] at h0; simpa using h0), fun h0 => c12 (by rw [hset] at h0; simpa using h0), fun h0 => ⟨by rw [hset]; split; rfl; exact (d1 (by rw [hset] at h0; simpa using h0)).1, by rw [hset]; split; rfl; exact (d1 (by rw [hset] at h0; simpa using h0)).2⟩, fun h0 => by rw [hset]; split; rfl; exact d2 (by rw [hset] at h0; simpa using h0), fun h0 => m0 (by rw [hset] at h0; simpa using h0), fun h0 h1 => m1 (by rw [hset] at h0; simpa using h0) (by rw [hset] at h1; simpa using h1), fun h0 => m2 (by rw [hset] at h0; simpa using h0)⟩
    · obtain ⟨o', ho', og, od, oo, ow⟩ := o1
      rw [ho'] at hoi
      injection hoi with hoi
      subst hoi
      refine wpOp_val (.pointer (some ⟨P, 0, none⟩)) ho' og ?_ ?_
      · unfold execOp; simp only [oo, evA0, h0, Sem.run_pure]
      · rw [od, putA12]
        exact ⟨hsz', hk, v11, .pointer (some ⟨P, 0, none⟩), v13, v14, v15, v16, v17, v18, v19, v20, v21, v22, v23, rfl, fun h0 => c0 (by rw [hset] at h0; simpa using h0), fun _ => rfl, fun h0 => c2 (by rw [hset] at h0; simpa using h0), fun h0 => c3 (by rw [hset] at h0; simpa using h0), fun h0 => c4 (by rw [hset] at h0; simpa using h0), fun h0 => c5 (by rw [hset] at h0; simpa using h0), fun h0 => c6 (by rw [hset] at h0; simpa using h0), fun h0 => c7 (by rw [hset] at h0; simpa using h0), fun h0 => c8 (by rw [hset] at h0; simpa using h0), fun h0 h1 => c9 (by rw [hset] at h0; simpa using h0) (by rw [hset] at h1; simpa using h1), fun h0 => c11 (by rw [hset] at h0; simpa using h0), fun h0 => c12 (by rw [hset] at h0; simpa using h0), fun h0 => ⟨by rw [hset]; split; rfl; exact (d1 (by rw [hset] at h0; simpa using h0)).1, by rw [hset]; split; rfl; exact (d1 (by rw [hset] at h0; simpa using h0)).2⟩, fun h0 => by rw [hset]; split; rfl; exact d2 (by rw [hset] at h0; simpa using h0), fun h0 => m0 (by rw [hset] at h0; simpa using h0), fun h0 h1 => m1 (by rw [hset] at h0; simpa using h0) (by rw [hset] at h1; simpa using h1), fun h0 => m2 (by rw [hset] at h0; simpa using h0)⟩
    · obtain ⟨o', ho', og, od, oo, ow⟩ := o2
      rw [ho'] at hoi
      injection hoi with hoi
      subst hoi
      have y1 : s.getD 1 false = true := by
        obtain ⟨e, m, b, n⟩ := ow 1 (by simp)
        have := haf e m b
        rwa [n] at this
      refine wpOp_val (.pointer (some ⟨P, 0, none⟩)) ho' og ?_ ?_
      · have e := c1 y1; subst e; unfold execOp; simp only [oo, evA12, Sem.run_pure]
      · rw [od, putA13]
        exact ⟨hsz', hk, v11, v12, .pointer (some ⟨P, 0, none⟩), v14, v15, v16, v17, v18, v19, v20, v21, v22, v23, rfl, fun h0 => c0 (by rw [hset] at h0; simpa using h0), fun h0 => c1 (by rw [hset] at h0; simpa using h0), fun _ => rfl, fun h0 => c3 (by rw [hset] at h0; simpa using h0), fun h0 => c4 (by rw [hset] at h0; simpa using h0), fun h0 => c5 (by rw [hset] at h0; simpa using h0), fun h0 => c6 (by rw [hset] at h0; simpa using h0), fun h0 => c7 (by rw [hset] at h0; simpa using h0), fun h0 => c8 (by rw [hset] at h0; simpa using h0), fun h0 h1 => c9 (by rw [hset] at h0; simpa using h0) (by rw [hset] at h1; simpa using h1), fun h0 => c11 (by rw [hset] at h0; simpa using h0), fun h0 => c12 (by rw [hset] at h0; simpa using h0), fun h0 => ⟨by rw [hset]; split; rfl; exact (d1 (by rw [hset] at h0; simpa using h0)).1, by rw [hset]; split; rfl; exact (d1 (by rw [hset] at h0; simpa using h0)).2⟩, fun h0 => by rw [hset]; split; rfl; exact d2 (by rw [hset] at h0; simpa using h0), fun h0 => m0 (by rw [hset] at h0; simpa using h0), fun h0 h1 => m1 (by rw [hset] at h0; simpa using h0) (by rw [hset] at h1; simpa using h1), fun h0 => m2 (by rw [hset] at h0; simpa using h0)⟩
    · obtain ⟨o', ho', og, od, oo, ow⟩ := o3
      rw [ho'] at hoi
      injection hoi with hoi
      subst hoi
      have y2 : s.getD 2 false = true := by
        obtain ⟨e, m, b, n⟩ := ow 2 (by simp)
        have := haf e m b
        rwa [n] at this
      refine wpOp_val (.pointer (some ⟨P, 0, none⟩)) ho' og ?_ ?_
      · have e := c2 y2; subst e; unfold execOp; simp only [oo, evA13]; show _ = _; kernel_rfl
      · rw [od, putA14]
        exact ⟨hsz', hk, v11, v12, v13, .pointer (some ⟨P, 0, none⟩), v15, v16, v17, v18, v19, v20, v21, v22, v23, rfl, fun h0 => c0 (by rw [hset] at h0; simpa using h0), fun h0 => c1 (by rw [hset] at h0; simpa using h0), fun h0 => c2 (by rw [hset] at h0; simpa using h0), fun _ => rfl, fun h0 => c4 (by rw [hset] at h0; simpa using h0), fun h0 => c5 (by rw [hset] at h0; simpa using h0), fun h0 => c6 (by rw [hset] at h0; simpa using h0), fun h0 => c7 (by rw [hset] at h0; simpa using h0), fun h0 => c8 (by rw [hset] at h0; simpa using h0), fun h0 h1 => c9 (by rw [hset] at h0; simpa using h0) (by rw [hset] at h1; simpa using h1), fun h0 => c11 (by rw [hset] at h0; simpa using h0), fun h0 => c12 (by rw [hset] at h0; simpa using h0), fun h0 => ⟨by rw [hset]; split; rfl; exact (d1 (by rw [hset] at h0; simpa using h0)).1, by rw [hset]; split; rfl; exact (d1 (by rw [hset] at h0; simpa using h0)).2⟩, fun h0 => by rw [hset]; split; rfl; exact d2 (by rw [hset] at h0; simpa using h0), fun h0 => m0 (by rw [hset] at h0; simpa using h0), fun h0 h1 => m1 (by rw [hset] at h0; simpa using h0) (by rw [hset] at h1; simpa using h1), fun h0 => m2 (by rw [hset] at h0; simpa using h0)⟩
    · obtain ⟨o', ho', og, od, oo, ow⟩ := o4
      rw [ho'] at hoi
      injection hoi with hoi
      subst hoi
      have y3 : s.getD 3 false = true := by
        obtain ⟨e, m, b, n⟩ := ow 3 (by simp)
        have := haf e m b
        rwa [n] at this
      refine wpOp_val (.slice spb nb capb) ho' og ?_ ?_
      · have e := c3 y3; subst e; have n10 : s.getD 10 false = false := by rcases hh : s.getD 10 false with _ | _; rfl; rw [(d1 hh).1] at hnd; cases hnd
        have x := (m0 n10).box.c 0 (.slice spb nb capb) rfl
        unfold execOp; simp only [oo, evA14]; go_simp
      · rw [od, putA15]
        exact ⟨hsz', hk, v11, v12, v13, v14, .slice spb nb capb, v16, v17, v18, v19, v20, v21, v22, v23, rfl, fun h0 => c0 (by rw [hset] at h0; simpa using h0), fun h0 => c1 (by rw [hset] at h0; simpa using h0), fun h0 => c2 (by rw [hset] at h0; simpa using h0), fun h0 => c3 (by rw [hset] at h0; simpa using h0), fun _ => rfl, fun h0 => c5 (by rw [hset] at h0; simpa using h0), fun h0 => c6 (by rw [hset] at h0; simpa using h0), fun h0 => c7 (by rw [hset] at h0; simpa using h0), fun h0 => c8 (by rw [hset] at h0; simpa using h0), fun h0 h1 => c9 (by rw [hset] at h0; simpa using h0) (by rw [hset] at h1; simpa using h1), fun h0 => c11 (by rw [hset] at h0; simpa using h0), fun h0 => c12 (by rw [hset] at h0; simpa using h0), fun h0 => ⟨by rw [hset]; split; rfl; exact (d1 (by rw [hset] at h0; simpa using h0)).1, by rw [hset]; split; rfl; exact (d1 (by rw [hset] at h0; simpa using h0)).2⟩, fun h0 => by rw [hset]; split; rfl; exact d2 (by rw [hset] at h0; simpa using h0), fun h0 => m0 (by rw [hset] at h0; simpa using h0), fun h0 h1 => m1 (by rw [hset] at h0; simpa using h0) (by rw [hset] at h1; simpa using h1), fun h0 => m2 (by rw [hset] at h0; simpa using h0)⟩
    · obtain ⟨o', ho', og, od, oo, ow⟩ := o5
      rw [ho'] at hoi
      injection hoi with hoi
      subst hoi
      refine wpOp_val (.int .u16 (X : Int)) ho' og ?_ ?_
      · unfold execOp; simp only [oo, evA4, h4, Sem.run_pure]
      · rw [od, putA16]
        exact ⟨hsz', hk, v11, v12, v13, v14, v15, .int .u16 (X : Int), v17, v18, v19, v20, v21, v22, v23, rfl, fun h0 => c0 (by rw [hset] at h0; simpa using h0), fun h0 => c1 (by rw [hset] at h0; simpa using h0), fun h0 => c2 (by rw [hset] at h0; simpa using h0), fun h0 => c3 (by rw [hset] at h0; simpa using h0), fun h0 => c4 (by rw [hset] at h0; simpa using h0), fun _ => rfl, fun h0 => c6 (by rw [hset] at h0; simpa using h0), fun h0 => c7 (by rw [hset] at h0; simpa using h0), fun h0 => c8 (by rw [hset] at h0; simpa using h0), fun h0 h1 => c9 (by rw [hset] at h0; simpa using h0) (by rw [hset] at h1; simpa using h1), fun h0 => c11 (by rw [hset] at h0; simpa using h0), fun h0 => c12 (by rw [hset] at h0; simpa using h0), fun h0 => ⟨by rw [hset]; split; rfl; exact (d1 (by rw [hset] at h0; simpa using h0)).1, by rw [hset]; split; rfl; exact (d1 (by rw [hset] at h0; simpa using h0)).2⟩, fun h0 => by rw [hset]; split; rfl; exact d2 (by rw [hset] at h0; simpa using h0), fun h0 => m0 (by rw [hset] at h0; simpa using h0), fun h0 h1 => m1 (by rw [hset] at h0; simpa using h0) (by rw [hset] at h1; simpa using h1), fun h0 => m2 (by rw [hset] at h0; simpa using h0)⟩
    · obtain ⟨o', ho', og, od, oo, ow⟩ := o6
      rw [ho'] at hoi
      injection hoi with hoi
      subst hoi
      have y5 : s.getD 5 false = true := by
        obtain ⟨e, m, b, n⟩ := ow 5 (by simp)
        have := haf e m b
        rwa [n] at this
      have e : (actA x0 x1 x2 x3 x4 x5 x6 x7 x8 x9 x10 v11 v12 v13 v14 v15 v16 v17 v18 v19 v20 v21 v22 v23).eval (.tmp 16) = .int .u16 (X : Int) := (evA16 ..).trans (c5 y5)
      refine wpOp_call 51 #[.int .u16 (X : Int)] _ ho' og ?_ (high_any (X : Int) y (by omega) (by omega)) ?_
      · generalize actA x0 x1 x2 x3 x4 x5 x6 x7 x8 x9 x10 v11 v12 v13 v14 v15 v16 v17 v18 v19 v20 v21 v22 v23 = A at e
        simp only [Act.eval, Array.getD_eq_getD_getElem?] at e
        unfold execOp; simp only [oo]; go_simp
      · rintro e y ⟨rfl, rfl⟩
        refine ⟨_, rfl, ?_⟩
        rw [od, putA17]
        exact ⟨hsz', hk, v11, v12, v13, v14, v15, v16, .int .u8 ((X : Int) / 256), v18, v19, v20, v21, v22, v23, rfl, fun h0 => c0 (by rw [hset] at h0; simpa using h0), fun h0 => c1 (by rw [hset] at h0; simpa using h0), fun h0 => c2 (by rw [hset] at h0; simpa using h0), fun h0 => c3 (by rw [hset] at h0; simpa using h0), fun h0 => c4 (by rw [hset] at h0; simpa using h0), fun h0 => c5 (by rw [hset] at h0; simpa using h0), fun _ => rfl, fun h0 => c7 (by rw [hset] at h0; simpa using h0), fun h0 => c8 (by rw [hset] at h0; simpa using h0), fun h0 h1 => c9 (by rw [hset] at h0; simpa using h0) (by rw [hset] at h1; simpa using h1), fun h0 => c11 (by rw [hset] at h0; simpa using h0), fun h0 => c12 (by rw [hset] at h0; simpa using h0), fun h0 => ⟨by rw [hset]; split; rfl; exact (d1 (by rw [hset] at h0; simpa using h0)).1, by rw [hset]; split; rfl; exact (d1 (by rw [hset] at h0; simpa using h0)).2⟩, fun h0 => by rw [hset]; split; rfl; exact d2 (by rw [hset] at h0; simpa using h0), fun h0 => m0 (by rw [hset] at h0; simpa using h0), fun h0 h1 => m1 (by rw [hset] at h0; simpa using h0) (by rw [hset] at h1; simpa using h1), fun h0 => m2 (by rw [hset] at h0; simpa using h0)⟩
    · obtain ⟨o', ho', og, od, oo, ow⟩ := o7
      rw [ho'] at hoi
      injection hoi with hoi
      subst hoi
      refine wpOp_val (.int .u16 (X : Int)) ho' og ?_ ?_
      · unfold execOp; simp only [oo, evA4, h4, Sem.run_pure]
      · rw [od, putA18]
        exact ⟨hsz', hk, v11, v12, v13, v14, v15, v16, v17, .int .u16 (X : Int), v19, v20, v21, v22, v23, rfl, fun h0 => c0 (by rw [hset] at h0; simpa using h0), fun h0 => c1 (by rw [hset] at h0; simpa using h0), fun h0 => c2 (by rw [hset] at h0; simpa using h0), fun h0 => c3 (by rw [hset] at h0; simpa using h0), fun h0 => c4 (by rw [hset] at h0; simpa using h0), fun h0 => c5 (by rw [hset] at h0; simpa using h0), fun h0 => c6 (by rw [hset] at h0; simpa using h0), fun _ => rfl, fun h0 => c8 (by rw [hset] at h0; simpa using h0), fun h0 h1 => c9 (by rw [hset] at h0; simpa using h0) (by rw [hset] at h1; simpa using h1), fun h0 => c11 (by rw [hset] at h0; simpa using h0), fun h0 => c12 (by rw [hset] at h0; simpa using h0), fun h0 => ⟨by rw [hset]; split; rfl; exact (d1 (by rw [hset] at h0; simpa using h0)).1, by rw [hset]; split; rfl; exact (d1 (by rw [hset] at h0; simpa using h0)).2⟩, fun h0 => by rw [hset]; split; rfl; exact d2 (by rw [hset] at h0; simpa using h0), fun h0 => m0 (by rw [hset] at h0; simpa using h0), fun h0 h1 => m1 (by rw [hset] at h0; simpa using h0) (by rw [hset] at h1; simpa using h1), fun h0 => m2 (by rw [hset] at h0; simpa using h0)⟩
    · obtain ⟨o', ho', og, od, oo, ow⟩ := o8
      rw [ho'] at hoi
      injection hoi with hoi
      subst hoi
      have y7 : s.getD 7 false = true := by
        obtain ⟨e, m, b, n⟩ := ow 7 (by simp)
        have := haf e m b
        rwa [n] at this
      have e : (actA x0 x1 x2 x3 x4 x5 x6 x7 x8 x9 x10 v11 v12 v13 v14 v15 v16 v17 v18 v19 v20 v21 v22 v23).eval (.tmp 18) = .int .u16 (X : Int) := (evA18 ..).trans (c7 y7)
      refine wpOp_call 52 #[.int .u16 (X : Int)] _ ho' og ?_ (low_any (X : Int) y (by omega) (by omega)) ?_
      · generalize actA x0 x1 x2 x3 x4 x5 x6 x7 x8 x9 x10 v11 v12 v13 v14 v15 v16 v17 v18 v19 v20 v21 v22 v23 = A at e
        simp only [Act.eval, Array.getD_eq_getD_getElem?] at e
        unfold execOp; simp only [oo]; go_simp
      · rintro e y ⟨rfl, rfl⟩
        refine ⟨_, rfl, ?_⟩
        rw [od, putA19]
        exact ⟨hsz', hk, v11, v12, v13, v14, v15, v16, v17, v18, .int .u8 ((X : Int) % 256), v20, v21, v22, v23, rfl, fun h0 => c0 (by rw [hset] at h0; simpa using h0), fun h0 => c1 (by rw [hset] at h0; simpa using h0), fun h0 => c2 (by rw [hset] at h0; simpa using h0), fun h0 => c3 (by rw [hset] at h0; simpa using h0), fun h0 => c4 (by rw [hset] at h0; simpa using h0), fun h0 => c5 (by rw [hset] at h0; simpa using h0), fun h0 => c6 (by rw [hset] at h0; simpa using h0), fun h0 => c7 (by rw [hset] at h0; simpa using h0), fun _ => rfl, fun h0 h1 => c9 (by rw [hset] at h0; simpa using h0) (by rw [hset] at h1; simpa using h1), fun h0 => c11 (by rw [hset] at h0; simpa using h0), fun h0 => c12 (by rw [hset] at h0; simpa using h0), fun h0 => ⟨by rw [hset]; split; rfl; exact (d1 (by rw [hset] at h0; simpa using h0)).1, by rw [hset]; split; rfl; exact (d1 (by rw [hset] at h0; simpa using h0)).2⟩, fun h0 => by rw [hset]; split; rfl; exact d2 (by rw [hset] at h0; simpa using h0), fun h0 => m0 (by rw [hset] at h0; simpa using h0), fun h0 h1 => m1 (by rw [hset] at h0; simpa using h0) (by rw [hset] at h1; simpa using h1), fun h0 => m2 (by rw [hset] at h0; simpa using h0)⟩
    · obtain ⟨o', ho', og, od, oo, ow⟩ := o9
      rw [ho'] at hoi
      injection hoi with hoi
      subst hoi
      have y6 : s.getD 6 false = true := by
        obtain ⟨e, m, b, n⟩ := ow 6 (by simp)
        have := haf e m b
        rwa [n] at this
      have y8 : s.getD 8 false = true := by
        obtain ⟨e, m, b, n⟩ := ow 8 (by simp)
        have := haf e m b
        rwa [n] at this
      have n10 : s.getD 10 false = false := by
        rcases hh : s.getD 10 false with _ | _
        · rfl
        · rw [(d1 hh).2] at hnd; cases hnd
      have e17 : (actA x0 x1 x2 x3 x4 x5 x6 x7 x8 x9 x10 v11 v12 v13 v14 v15 v16 v17 v18 v19 v20 v21 v22 v23).eval (.tmp 17) = .int .u8 ((X : Int) / 256) := (evA17 ..).trans (c6 y6)
      have e19 : (actA x0 x1 x2 x3 x4 x5 x6 x7 x8 x9 x10 v11 v12 v13 v14 v15 v16 v17 v18 v19 v20 v21 v22 v23).eval (.tmp 19) = .int .u8 ((X : Int) % 256) := (evA19 ..).trans (c8 y8)
      obtain ⟨ib, hib, hz0, hz1, hz2⟩ := info_parts infoU
      refine wpOp_of ho' (by unfold Region.wanted; rw [og]) ?_
      refine wp_buildSlice 45 5 2 _ oo #[.int .u8 ((X : Int) / 256), .int .u8 ((X : Int) % 256)] ib (.int .u8 0) Tryd.underlying45 hib hz0 (by rw [hz1]; decide) (by rw [hz1]; decide) ?_ ?_
      · have e : ((#[(0, .tmp 17), (1, .tmp 19)] : Array (Nat × Operand)).map fun (i, x) => (i, (actA x0 x1 x2 x3 x4 x5 x6 x7 x8 x9 x10 v11 v12 v13 v14 v15 v16 v17 v18 v19 v20 v21 v22 v23).eval x)).toList = [(0, .int .u8 ((X : Int) / 256)), (1, .int .u8 ((X : Int) % 256))] := by simp [e17, e19]
        rw [e, hz1]
        show _ = _
        kernel_rfl
      · have hb := below1 y (.cells #[.int .u8 ((X : Int) / 256), .int .u8 ((X : Int) % 256)] 5)
        rw [od, putA20]
        exact ⟨hsz', hk.trans (Kp.of_below hb), v11, v12, v13, v14, v15, v16, v17, v18, v19, .slice (some ⟨y.heap.size, 0, none⟩) 2 2, v21, v22, v23, rfl, fun h0 => c0 (by rw [hset] at h0; simpa using h0), fun h0 => c1 (by rw [hset] at h0; simpa using h0), fun h0 => c2 (by rw [hset] at h0; simpa using h0), fun h0 => c3 (by rw [hset] at h0; simpa using h0), fun h0 => c4 (by rw [hset] at h0; simpa using h0), fun h0 => c5 (by rw [hset] at h0; simpa using h0), fun h0 => c6 (by rw [hset] at h0; simpa using h0), fun h0 => c7 (by rw [hset] at h0; simpa using h0), fun h0 => c8 (by rw [hset] at h0; simpa using h0), fun _ _ => ⟨y.heap.size, rfl, alloc_last' y _⟩, fun h0 => c11 (by rw [hset] at h0; simpa using h0), fun h0 => c12 (by rw [hset] at h0; simpa using h0), fun h0 => ⟨by rw [hset]; split; rfl; exact (d1 (by rw [hset] at h0; simpa using h0)).1, by rw [hset]; split; rfl; exact (d1 (by rw [hset] at h0; simpa using h0)).2⟩, fun h0 => by rw [hset]; split; rfl; exact d2 (by rw [hset] at h0; simpa using h0), fun h0 => (m0 n10).below hb, fun h0 h1 => absurd (show s.getD 10 false = true by rw [hset] at h0; simpa using h0) (by rw [n10]; simp), fun h0 => absurd (d2 (by rw [hset] at h0; simpa using h0)) (by rw [n10]; simp)⟩
    · obtain ⟨o', ho', og, od, oo, ow⟩ := o10
      rw [ho'] at hoi
      injection hoi with hoi
      subst hoi
      have y4 : s.getD 4 false = true := by
        obtain ⟨e, m, b, n⟩ := ow 4 (by simp)
        have := haf e m b
        rwa [n] at this
      have y9 : s.getD 9 false = true := by
        obtain ⟨e, m, b, n⟩ := ow 9 (by simp)
        have := haf e m b
        rwa [n] at this
      have n13 : s.getD 13 false = false := by
        rcases hh : s.getD 13 false with _ | _
        · rfl
        · rw [d2 hh] at hnd; cases hnd
      have hp := m0 hnd
      obtain ⟨g0, e20, b20⟩ := c9 y9 hnd
      have q15 : (actA x0 x1 x2 x3 x4 x5 x6 x7 x8 x9 x10 v11 v12 v13 v14 v15 v16 v17 v18 v19 v20 v21 v22 v23).eval (.tmp 15) = .slice spb nb capb := (evA15 ..).trans (c4 y4)
      have q20 : (actA x0 x1 x2 x3 x4 x5 x6 x7 x8 x9 x10 v11 v12 v13 v14 v15 v16 v17 v18 v19 v20 v21 v22 v23).eval (.tmp 20) = .slice (some ⟨g0, 0, none⟩) 2 2 := (evA20 ..).trans e20
      have hlies : LiesL 1 cU y (some ⟨g0, 0, none⟩) hl := by
        rw [hhl]
        intro j b hj
        refine ⟨g0, 0, rfl, fun i v hv => ?_⟩
        have hi1 : i < 1 := (List.getElem?_eq_some_iff.1 hv).1
        obtain rfl : i = 0 := by omega
        have ev : v = byV b := by simpa [cU] using hv.symm
        subst ev
        refine b20.c _ _ ?_
        match j, hj with
        | 0, hj => simp at hj; subst hj; simp [byV]; omega
        | 1, hj => simp at hj; subst hj; simp [byV]
      refine wpOp_list ho' ?_
      refine at_appNL kU og (.tmp 15) (.tmp 20) oo w.heap.size (.slice spb nb capb) bs q15 hp.bs g0 0 2 2 hl (by rw [hhl]; rfl) q20 hlies (by decide) (by omega) hp.low.size ?_
      intro v' z A
      have A2 := hp.app A.out
      rw [od, putA21]
      exact ⟨hsz', hk.trans A2.2.2.2.2.2, v11, v12, v13, v14, v15, v16, v17, v18, v19, v20, v', v22, v23, rfl, fun h0 => c0 (by rw [hset] at h0; simpa using h0), fun h0 => c1 (by rw [hset] at h0; simpa using h0), fun h0 => c2 (by rw [hset] at h0; simpa using h0), fun h0 => c3 (by rw [hset] at h0; simpa using h0), fun h0 => c4 (by rw [hset] at h0; simpa using h0), fun h0 => c5 (by rw [hset] at h0; simpa using h0), fun h0 => c6 (by rw [hset] at h0; simpa using h0), fun h0 => c7 (by rw [hset] at h0; simpa using h0), fun h0 => c8 (by rw [hset] at h0; simpa using h0), fun _ h1 => absurd h1 (by rw [hset]; simp), fun h0 => c11 (by rw [hset] at h0; simpa using h0), fun h0 => c12 (by rw [hset] at h0; simpa using h0), fun _ => ⟨by rw [hset]; simpa using y4, by rw [hset]; simpa using y9⟩, fun h0 => by rw [hset]; split; rfl; exact d2 (by rw [hset] at h0; simpa using h0), fun h0 => absurd h0 (by rw [hset]; simp), fun _ _ => ⟨A2.1, A2.2.1, A2.2.2.1, A2.2.2.2.1, A2.2.2.2.2.1, hp.geP, hp.geg⟩, fun h0 => absurd (show s.getD 13 false = true by rw [hset] at h0; simpa using h0) (by rw [n13]; simp)⟩
    · obtain ⟨o', ho', og, od, oo, ow⟩ := o11
      rw [ho'] at hoi
      injection hoi with hoi
      subst hoi
      have y0 : s.getD 0 false = true := by
        obtain ⟨e, m, b, n⟩ := ow 0 (by simp)
        have := haf e m b
        rwa [n] at this
      have y10 : s.getD 10 false = true := by
        obtain ⟨e, m, b, n⟩ := ow 10 (by simp)
        have := haf e m b
        rwa [n] at this
      refine wpOp_val (.pointer (some ⟨P, 0, none⟩)) ho' og ?_ ?_
      · have e := c0 y0; subst e; unfold execOp; simp only [oo, evA11, Sem.run_pure]
      · rw [od, putA22]
        exact ⟨hsz', hk, v11, v12, v13, v14, v15, v16, v17, v18, v19, v20, v21, .pointer (some ⟨P, 0, none⟩), v23, rfl, fun h0 => c0 (by rw [hset] at h0; simpa using h0), fun h0 => c1 (by rw [hset] at h0; simpa using h0), fun h0 => c2 (by rw [hset] at h0; simpa using h0), fun h0 => c3 (by rw [hset] at h0; simpa using h0), fun h0 => c4 (by rw [hset] at h0; simpa using h0), fun h0 => c5 (by rw [hset] at h0; simpa using h0), fun h0 => c6 (by rw [hset] at h0; simpa using h0), fun h0 => c7 (by rw [hset] at h0; simpa using h0), fun h0 => c8 (by rw [hset] at h0; simpa using h0), fun h0 h1 => c9 (by rw [hset] at h0; simpa using h0) (by rw [hset] at h1; simpa using h1), fun _ => rfl, fun h0 => c12 (by rw [hset] at h0; simpa using h0), fun h0 => ⟨by rw [hset]; split; rfl; exact (d1 (by rw [hset] at h0; simpa using h0)).1, by rw [hset]; split; rfl; exact (d1 (by rw [hset] at h0; simpa using h0)).2⟩, fun h0 => by rw [hset]; split; rfl; exact d2 (by rw [hset] at h0; simpa using h0), fun h0 => m0 (by rw [hset] at h0; simpa using h0), fun h0 h1 => m1 (by rw [hset] at h0; simpa using h0) (by rw [hset] at h1; simpa using h1), fun h0 => m2 (by rw [hset] at h0; simpa using h0)⟩
    · obtain ⟨o', ho', og, od, oo, ow⟩ := o12
      rw [ho'] at hoi
      injection hoi with hoi
      subst hoi
      have y11 : s.getD 11 false = true := by
        obtain ⟨e, m, b, n⟩ := ow 11 (by simp)
        have := haf e m b
        rwa [n] at this
      have y10 : s.getD 10 false = true := by
        obtain ⟨e, m, b, n⟩ := ow 10 (by simp)
        have := haf e m b
        rwa [n] at this
      refine wpOp_val (.pointer (some ⟨P, 0, none⟩)) ho' og ?_ ?_
      · have e := c11 y11; subst e; unfold execOp; simp only [oo, evA22]; show _ = _; kernel_rfl
      · rw [od, putA23]
        exact ⟨hsz', hk, v11, v12, v13, v14, v15, v16, v17, v18, v19, v20, v21, v22, .pointer (some ⟨P, 0, none⟩), rfl, fun h0 => c0 (by rw [hset] at h0; simpa using h0), fun h0 => c1 (by rw [hset] at h0; simpa using h0), fun h0 => c2 (by rw [hset] at h0; simpa using h0), fun h0 => c3 (by rw [hset] at h0; simpa using h0), fun h0 => c4 (by rw [hset] at h0; simpa using h0), fun h0 => c5 (by rw [hset] at h0; simpa using h0), fun h0 => c6 (by rw [hset] at h0; simpa using h0), fun h0 => c7 (by rw [hset] at h0; simpa using h0), fun h0 => c8 (by rw [hset] at h0; simpa using h0), fun h0 h1 => c9 (by rw [hset] at h0; simpa using h0) (by rw [hset] at h1; simpa using h1), fun h0 => c11 (by rw [hset] at h0; simpa using h0), fun _ => rfl, fun h0 => ⟨by rw [hset]; split; rfl; exact (d1 (by rw [hset] at h0; simpa using h0)).1, by rw [hset]; split; rfl; exact (d1 (by rw [hset] at h0; simpa using h0)).2⟩, fun h0 => by rw [hset]; split; rfl; exact d2 (by rw [hset] at h0; simpa using h0), fun h0 => m0 (by rw [hset] at h0; simpa using h0), fun h0 h1 => m1 (by rw [hset] at h0; simpa using h0) (by rw [hset] at h1; simpa using h1), fun h0 => m2 (by rw [hset] at h0; simpa using h0)⟩
    · obtain ⟨o', ho', og, od, oo, ow⟩ := o13
      rw [ho'] at hoi
      injection hoi with hoi
      subst hoi
      have y12 : s.getD 12 false = true := by
        obtain ⟨e, m, b, n⟩ := ow 12 (by simp)
        have := haf e m b
        rwa [n] at this
      have y10 : s.getD 10 false = true := by
        obtain ⟨e, m, b, n⟩ := ow 10 (by simp)
        have := haf e m b
        rwa [n] at this
      obtain ⟨B1, B2, B3, B4, B5, B6, B7⟩ := m1 y10 hnd
      obtain ⟨sp2, cap2, e21, _, _, _, _⟩ := B2.open kU.len
      have q23 : (actA x0 x1 x2 x3 x4 x5 x6 x7 x8 x9 x10 v11 v12 v13 v14 v15 v16 v17 v18 v19 v20 v21 v22 v23).eval (.tmp 23) = .pointer (some ⟨P, 0, none⟩) := (evA23 ..).trans (c12 y12)
      have q21 : (actA x0 x1 x2 x3 x4 x5 x6 x7 x8 x9 x10 v11 v12 v13 v14 v15 v16 v17 v18 v19 v20 v21 v22 v23).eval (.tmp 21) = .slice sp2 (bs ++ hl).length cap2 := (evA21 ..).trans e21
      have k1 := B1.c 0 (.slice spb nb capb) rfl
      have k2 := B1.fz 0
      have hput := Pg.put B1 B2 B3 B4 B6 B7 B5 rfl
      rw [e21] at hput
      refine wpOp_skip (w' := y.setCell ⟨P, 0, none⟩ (.slice sp2 (bs ++ hl).length cap2)) ho' og ?_ ?_
      · generalize (bs ++ hl).length = nn at q21
        generalize actA x0 x1 x2 x3 x4 x5 x6 x7 x8 x9 x10 v11 v12 v13 v14 v15 v16 v17 v18 v19 v20 v21 v22 v23 = A at q23 q21
        simp only [Act.eval, Array.getD_eq_getD_getElem?] at q23 q21
        unfold execOp; simp only [oo]; go_simp
      · rw [od, putAn]
        exact ⟨hsz', hk.trans hput.2, v11, v12, v13, v14, v15, v16, v17, v18, v19, v20, v21, v22, v23, rfl, fun h0 => c0 (by rw [hset] at h0; simpa using h0), fun h0 => c1 (by rw [hset] at h0; simpa using h0), fun h0 => c2 (by rw [hset] at h0; simpa using h0), fun h0 => c3 (by rw [hset] at h0; simpa using h0), fun h0 => c4 (by rw [hset] at h0; simpa using h0), fun h0 => c5 (by rw [hset] at h0; simpa using h0), fun h0 => c6 (by rw [hset] at h0; simpa using h0), fun h0 => c7 (by rw [hset] at h0; simpa using h0), fun h0 => c8 (by rw [hset] at h0; simpa using h0), fun _ h1 => absurd (show s.getD 10 false = false by rw [hset] at h1; simpa using h1) (by rw [y10]; simp), fun h0 => c11 (by rw [hset] at h0; simpa using h0), fun h0 => c12 (by rw [hset] at h0; simpa using h0), fun h0 => ⟨by rw [hset]; split; rfl; exact (d1 (by rw [hset] at h0; simpa using h0)).1, by rw [hset]; split; rfl; exact (d1 (by rw [hset] at h0; simpa using h0)).2⟩, fun _ => by rw [hset]; simpa using y10, fun h0 => absurd (show s.getD 10 false = false by rw [hset] at h0; simpa using h0) (by rw [y10]; simp), fun _ h1 => absurd h1 (by rw [hset]; simp), fun _ => ⟨_, hput.1⟩⟩
  · intro s a y hI hall
    obtain ⟨hs, hk, v11, v12, v13, v14, v15, v16, v17, v18, v19, v20, v21, v22, v23, rfl, c0, c1, c2, c3, c4, c5, c6, c7, c8, c9, c11, c12, d1, d2, m0, m1, m2⟩ := hI
    obtain ⟨vb', hp⟩ := m2 (hall 13 (by omega))
    exact fin y vb' v11 v12 v13 v14 v15 v16 v17 v18 v19 v20 v21 v22 v23 hp hk
theorem add_any (w y : World) (P g : Nat) (vb vu : Value) (bs : List UInt8) (F : ByteArray → Option Nat) (us : List Us) (K : Hid (Pg w P g vb vu bs F us y)) (hbs : bs.length ≤ 100000) (o : Od) (X : Nat) (he : encW o = some X) :
    Calls Tryd.prog 50 #[.pointer (some ⟨P, 0, none⟩), .agg (o6 o)] y fun e z => (∃ v, e = .returned v) ∧ ∃ vb', Pg w P g vb' vu (bs ++ [UInt8.ofNat (X / 256), UInt8.ofNat (X % 256)]) F us z ∧ Kp y z := by
  have hX := enc_lt he
  have hEn := fun z => encode_any z o (enc_R he)
  rw [he] at hEn
  simp only [Option.getD_some, Option.isSome_some, if_true] at hEn
  have hF : Hid (Fm y [(y.heap.size, o6 o, 30)] (y.alloc (.cells (o6 o) 30))) := Fm.one y _ _
  obtain ⟨spb, capb, hvb, _, _, _, _⟩ := K.out.bs.open kU.len
  obtain ⟨nb, hnb⟩ : ∃ n, Hid (bs.length = n) := ⟨_, (rfl : bs.length = _)⟩
  rw [hnb.out] at hvb
  subst hvb
  have hX' : Hid (X ≤ 65535) := by show _ ≤ _; omega
  have hbs' : Hid (bs.length ≤ 100000) := hbs
  clear he hX hbs
  go_enter Tryd.func50, Tryd.ntmps50
  go_wp2_with (first
    | (go_at_call 8; refine (hEn _).mono ?_; rintro e y2 ⟨rfl, hb2⟩; have K2 : Hid (Fm y [(y.heap.size, o6 o, 30)] y2) := K1.out.below hb2)
    | ((with_reducible refine at_load rtO y.heap.size (o6 o) ?_ ?_ (.tmp 3) ?_ ?_ ?_ ?_); exact K1.out.bx 0 _ _ _ rfl; rfl; rfl; rfl; rfl)
    | ((with_reducible refine gen_world (y.alloc (.cells (o6 o) 30)) (Fm y [(y.heap.size, o6 o, 30)]) hF.out ?_); intro y1 K1))
  refine regA w P g spb nb capb vu bs F us X hX'.out _ rfl hbs'.out (.pointer (some ⟨P, 0, none⟩)) (.agg (o6 o)) undef (.pointer (some ⟨y.heap.size, 0, none⟩)) (.int .u16 (X : Int)) (.int .i64 0) (.tuple #[.int .u16 (X : Int), .int .i64 0]) (.agg (o6 o)) (.tuple #[.int .u16 (X : Int), .int .i64 0]) (.int .u16 (X : Int)) (.int .i64 0) rfl rfl ?_ ?_ ?_ ?_ ?_ ?_ ?_ ?_ ?_ ?_ ?_ ?_ ?_ ?_ ?_ ?_ (K.out.below K2.out.low) ?_ ?_
  · rfl
  · kernel_rfl
  · exact ⟨_, rfl, rfl, rfl, rfl, fun q hq => absurd hq (by simp)⟩
  · exact ⟨_, rfl, rfl, rfl, rfl, fun q hq => absurd hq (by simp)⟩
  · exact ⟨_, rfl, rfl, rfl, rfl, List.forall_mem_cons.2 ⟨⟨{ on := 1, ground := .data }, by simp, rfl, rfl⟩, fun q hq => absurd hq (by simp)⟩⟩
  · exact ⟨_, rfl, rfl, rfl, rfl, List.forall_mem_cons.2 ⟨⟨{ on := 2, ground := .data }, by simp, rfl, rfl⟩, fun q hq => absurd hq (by simp)⟩⟩
  · exact ⟨_, rfl, rfl, rfl, rfl, List.forall_mem_cons.2 ⟨⟨{ on := 3, ground := .data }, by simp, rfl, rfl⟩, fun q hq => absurd hq (by simp)⟩⟩
  · exact ⟨_, rfl, rfl, rfl, rfl, fun q hq => absurd hq (by simp)⟩
  · exact ⟨_, rfl, rfl, rfl, rfl, List.forall_mem_cons.2 ⟨⟨{ on := 5, ground := .data }, by simp, rfl, rfl⟩, fun q hq => absurd hq (by simp)⟩⟩
  · exact ⟨_, rfl, rfl, rfl, rfl, fun q hq => absurd hq (by simp)⟩
  · exact ⟨_, rfl, rfl, rfl, rfl, List.forall_mem_cons.2 ⟨⟨{ on := 7, ground := .data }, by simp, rfl, rfl⟩, fun q hq => absurd hq (by simp)⟩⟩
  · exact ⟨_, rfl, rfl, rfl, rfl, List.forall_mem_cons.2 ⟨⟨{ on := 6, ground := .data }, by simp, rfl, rfl⟩, List.forall_mem_cons.2 ⟨⟨{ on := 8, ground := .data }, by simp, rfl, rfl⟩, fun q hq => absurd hq (by simp)⟩⟩⟩
  · exact ⟨_, rfl, rfl, rfl, rfl, List.forall_mem_cons.2 ⟨⟨{ on := 4, ground := .data }, by simp, rfl, rfl⟩, List.forall_mem_cons.2 ⟨⟨{ on := 9, ground := .data }, by simp, rfl, rfl⟩, fun q hq => absurd hq (by simp)⟩⟩⟩
  · exact ⟨_, rfl, rfl, rfl, rfl, List.forall_mem_cons.2 ⟨⟨{ on := 0, ground := .data }, by simp, rfl, rfl⟩, List.forall_mem_cons.2 ⟨⟨{ on := 10, ground := .phase }, by simp, rfl, rfl⟩, fun q hq => absurd hq (by simp)⟩⟩⟩
  · exact ⟨_, rfl, rfl, rfl, rfl, List.forall_mem_cons.2 ⟨⟨{ on := 11, ground := .data }, by simp, rfl, rfl⟩, List.forall_mem_cons.2 ⟨⟨{ on := 10, ground := .phase }, by simp, rfl, rfl⟩, fun q hq => absurd hq (by simp)⟩⟩⟩
  · exact ⟨_, rfl, rfl, rfl, rfl, List.forall_mem_cons.2 ⟨⟨{ on := 12, ground := .data }, by simp, rfl, rfl⟩, List.forall_mem_cons.2 ⟨⟨{ on := 10, ground := .data }, by simp, rfl, rfl⟩, fun q hq => absurd hq (by simp)⟩⟩⟩
  · kernel_rfl
  · intro z vb' v11 v12 v13 v14 v15 v16 v17 v18 v19 v20 v21 v22 v23 hp hk
    dsimp only [actA]
    go_wp2
    go_end0
    exact ⟨⟨_, rfl⟩, vb', hp.out, (Kp.of_below K2.out.low).trans hk.out⟩
end Go.Proofs.YthaijjehplomfaaDoor
