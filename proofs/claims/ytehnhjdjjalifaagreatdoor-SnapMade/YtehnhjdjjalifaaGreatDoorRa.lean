/- A raster and what the processor does, as plain data; the chip's answers as plain functions; the table of lines. -/
import Derived.Test.YtehnhjdjjalifaaGreatDoorGn
namespace Go.Proofs.YtehnhjdjjalifaaGreatDoor
open Go Go.RowKit
set_option linter.unusedVariables false
set_option maxRecDepth 20000

structure Ra where
  L : Int
  C : Int
  On : Bool
  G : Int
/-- What the processor does to the bus. -/
structure Dv where
  Code : Int
  Addr : Int
  Rd : Bool
  Wr : Bool
  Own : Bool
  Data : Int
  Port : Int
  Pulse : Bool
def raC (r : Ra) : Array Value := #[.int .i64 r.L, .int .i64 r.C, .bool r.On, .int .i64 r.G]
def dvC (d : Dv) : Array Value := #[.int .u8 d.Code, .int .u16 d.Addr, .bool d.Rd, .bool d.Wr, .bool d.Own, .int .u8 d.Data, .int .u8 d.Port, .bool d.Pulse]
def zeroR : Ra := ⟨0, 0, false, 0⟩
theorem raC_one (r : Ra) : (raC r).all (·.oneCell') = true := by simp [raC, Value.oneCell']
theorem dvC_one (d : Dv) : (dvC d).all (·.oneCell') = true := by simp [dvC, Value.oneCell']
theorem rtR : Rt Tryz.prog 28 4 := ⟨⟨_, Tryz.underlying28, rfl⟩, by kernel_rfl⟩
theorem zeroVR (w : World) : (zeroValue 28).run Tryz.prog w = .ok (.agg (raC zeroR)) w := by kernel_rfl
theorem raC_L (r : Ra) : (raC r)[0]? = some (.int .i64 r.L) := rfl
theorem raC_C (r : Ra) : (raC r)[1]? = some (.int .i64 r.C) := rfl
theorem raC_On (r : Ra) : (raC r)[2]? = some (.bool r.On) := rfl
theorem raC_G (r : Ra) : (raC r)[3]? = some (.int .i64 r.G) := rfl
theorem dvC_Code (d : Dv) : (dvC d)[0]? = some (.int .u8 d.Code) := rfl
theorem dvC_Rd (d : Dv) : (dvC d)[2]? = some (.bool d.Rd) := rfl
theorem dvC_Wr (d : Dv) : (dvC d)[3]? = some (.bool d.Wr) := rfl
theorem dvC_Port (d : Dv) : (dvC d)[6]? = some (.int .u8 d.Port) := rfl
/-- Numbers of a raster that a machine can hold. -/
structure Ra.wf (r : Ra) : Prop where
  L : -9223372036854775808 ≤ r.L ∧ r.L ≤ 9223372036854775807
  C : -9223372036854775808 ≤ r.C ∧ r.C ≤ 9223372036854775807
  G : -9223372036854775808 ≤ r.G ∧ r.G ≤ 9223372036854775807
structure Dv.wf (d : Dv) : Prop where
  Code : 0 ≤ d.Code ∧ d.Code < 256
  Port : 0 ≤ d.Port ∧ d.Port < 256

def shownB (l : Int) : Bool := decide (80 ≤ l) && decide (l ≤ 207)
def askB (l : Int) : Bool := decide (78 ≤ l) && decide (l ≤ 79)
def flagB (l : Int) : Bool := (decide (76 ≤ l) && decide (l ≤ 79)) || (decide (204 ≤ l) && decide (l ≤ 207))
def mostM (r : Ra) : Int := if shownB r.L then (if r.C ≤ 2 then 0 else if 10 ≤ r.C then 8 else r.C - 2) else 0
def mayB (r : Ra) : Bool := decide (0 ≤ r.L) && decide (r.L ≤ 261) && decide (0 ≤ r.C) && decide (r.C ≤ 13) && decide (0 ≤ r.G) && decide (r.G ≤ mostM r)
def checkM (r : Ra) : Int := if mayB r then 0 else 50
def wantsB (r : Ra) : Bool := mayB r && r.On && shownB r.L && decide (2 ≤ r.C) && decide (r.G < 8)
def takesB (r : Ra) (d : Dv) : Bool := wantsB r && (d.Code == 2) && d.Rd
def reqB (r : Ra) (d : Dv) : Bool := wantsB r && !((r.G == 7) && takesB r d)
def intB (r : Ra) : Bool := mayB r && r.On && askB r.L
def flgB (r : Ra) : Bool := mayB r && flagB r.L
def onM (was : Bool) (d : Dv) (m : Int) : Bool := if m = 0 ∨ m = 1 then (if d.Port = 1 then (if d.Wr then true else if d.Rd then false else was) else was) else false
def gotM (r : Ra) (d : Dv) : Int := if takesB r d then r.G + 1 else r.G
def nextM (r : Ra) (d : Dv) (m : Int) : Ra := if r.C = 13 then ⟨if r.L = 261 then 0 else r.L + 1, 0, onM r.On d m, 0⟩ else ⟨r.L, r.C + 1, onM r.On d m, gotM r d⟩
def stepM (r : Ra) (d : Dv) (m : Int) : Ra := if mayB r && decide (m ≤ 3) then nextM r d m else zeroR

structure May (r : Ra) : Prop where
  l0 : 0 ≤ r.L
  l1 : r.L ≤ 261
  c0 : 0 ≤ r.C
  c1 : r.C ≤ 13
  g0 : 0 ≤ r.G
  g1 : r.G ≤ mostM r
theorem mayB_iff (r : Ra) : mayB r = true ↔ May r := by
  unfold mayB
  simp only [Bool.and_eq_true, decide_eq_true_eq]
  exact ⟨fun ⟨⟨⟨⟨⟨a, b⟩, c⟩, d⟩, e⟩, f⟩ => ⟨a, b, c, d, e, f⟩, fun h => ⟨⟨⟨⟨⟨h.l0, h.l1⟩, h.c0⟩, h.c1⟩, h.g0⟩, h.g1⟩⟩

/-- What the table of lines holds. -/
structure Tl (w : World) : Prop where
  a0 : w.cell? ⟨0, 0, none⟩ = some (.int .u8 0)
  a1 : w.cell? ⟨0, 1, none⟩ = some (.int .i64 80)
  a2 : w.cell? ⟨0, 2, none⟩ = some (.int .i64 207)
  b0 : w.cell? ⟨0, 3, none⟩ = some (.int .u8 1)
  b1 : w.cell? ⟨0, 4, none⟩ = some (.int .i64 78)
  b2 : w.cell? ⟨0, 5, none⟩ = some (.int .i64 79)
  c0 : w.cell? ⟨0, 6, none⟩ = some (.int .u8 2)
  c1 : w.cell? ⟨0, 7, none⟩ = some (.int .i64 76)
  c2 : w.cell? ⟨0, 8, none⟩ = some (.int .i64 79)
  d0 : w.cell? ⟨0, 9, none⟩ = some (.int .u8 2)
  d1 : w.cell? ⟨0, 10, none⟩ = some (.int .i64 204)
  d2 : w.cell? ⟨0, 11, none⟩ = some (.int .i64 207)
  size : 1 ≤ w.heap.size
theorem Tl.below {w w' : World} (h : Tl w) (hb : Below w.heap.size w w') : Tl w' := by
  have hs := h.size
  have k : ∀ i, w'.cell? ⟨0, i, none⟩ = w.cell? ⟨0, i, none⟩ := fun i => hb.cell (show 0 < w.heap.size by omega)
  exact ⟨(k 0).trans h.a0, (k 1).trans h.a1, (k 2).trans h.a2, (k 3).trans h.b0, (k 4).trans h.b1, (k 5).trans h.b2, (k 6).trans h.c0, (k 7).trans h.c1, (k 8).trans h.c2, (k 9).trans h.d0, (k 10).trans h.d1, (k 11).trans h.d2, Nat.le_trans hs hb.size⟩
end Go.Proofs.YtehnhjdjjalifaaGreatDoor
