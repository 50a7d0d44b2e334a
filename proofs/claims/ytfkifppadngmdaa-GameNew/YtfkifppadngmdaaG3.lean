/- A CHIP-8 machine in memory; whether it may be; how much of it there is. -/
import Derived.Test.YtfkifppadngmdaaG0
import Derived.Test.YtfkifppadngmdaaD4
namespace Go.Proofs.Ytfkifppadngmdaa
open Go Go.RowKit Go.Shelf
set_option linter.unusedVariables false
set_option maxHeartbeats 1000000
set_option maxRecDepth 20000

/-- A register's cell. -/
def gV (v : List UInt8) (k : Nat) : Value := byV (v.getD k 0)
/-- A word's cell, of a font. -/
def wV (l : List Nat) (k : Nat) : Value := .int .u16 ((l.getD k 0 : Nat) : Int)
/-- A machine's cells. -/
def gCs (v : List UInt8) (i pc : Nat) (sS : Value) (de so : UInt8) (sP sM : Value) : Array Value :=
  #[gV v 0, gV v 1, gV v 2, gV v 3, gV v 4, gV v 5, gV v 6, gV v 7, gV v 8, gV v 9, gV v 10, gV v 11, gV v 12, gV v 13, gV v 14, gV v 15,
    .int .u16 (i : Int), .int .u16 (pc : Int), sS, byV de, byV so, sP, sM]
/-- A font's cells. -/
def fCs (pl : List Nat) (fr : Nat) (sB : Value) : Array Value :=
  #[wV pl 0, wV pl 1, wV pl 2, wV pl 3, wV pl 4, wV pl 5, wV pl 6, wV pl 7, wV pl 8, wV pl 9, wV pl 10, wV pl 11, wV pl 12, wV pl 13, wV pl 14, wV pl 15, .int .u16 (fr : Int), sB]
theorem below_one (w : World) (o : Obj) : Below w.heap.size w (w.alloc o) := (Below.refl _ _).alloc (Nat.le_refl _) _
theorem below_two (w : World) (o p : Obj) : Below w.heap.size w ((w.alloc o).alloc p) := ((Below.refl _ _).alloc (Nat.le_refl _) _).alloc (by simp) _
/-- How much of a machine and its font there is. -/
def vasG (a b c d : Nat) : Bool := decide (2147483647 < a + b + c + d)
end Go.Proofs.Ytfkifppadngmdaa
