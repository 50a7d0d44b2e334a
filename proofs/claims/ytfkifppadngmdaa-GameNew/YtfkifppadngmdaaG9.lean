/- The document's own: so many bytes from an address on. -/
import Derived.Test.YtfkifppadngmdaaG8
namespace Go.Proofs.Ytfkifppadngmdaa
open Go Go.RowKit Go.Shelf
set_option linter.unusedVariables false
set_option maxHeartbeats 1000000
set_option maxRecDepth 20000

/-- What 'read' answers: bytes in memory of their own, or none. -/
def RdA (w : World) (o : Option (List UInt8)) (e : Ending) (w' : World) : Prop := match o with
  | some l => ∃ v, e = .returned (.tuple #[v, .bool true]) ∧ KL 5 1 cB w v l w'
  | none => e = .returned (.tuple #[.slice none 0 0, .bool false]) ∧ Below w.heap.size w w'
theorem read_step {g : Gm} {f : Fo} {a k : Nat} {l : List UInt8} (h : readG g f a k = some l) {b : UInt8} (hb : atG g f (a + k) = some b) : readG g f a (k + 1) = some (l ++ [b]) := by
  simp only [readG, h, hb]
theorem read_none {g : Gm} {f : Fo} {a k : Nat} (h : atG g f (a + k) = none) : ∀ n, k < n → readG g f a n = none
  | 0, hn => by omega
  | n + 1, hn => by
    rcases Nat.eq_or_lt_of_le (Nat.le_of_lt_succ hn) with e | e
    · subst e
      simp only [readG, h]
      split <;> rfl
    · simp only [readG, read_none h n e]
end Go.Proofs.Ytfkifppadngmdaa
