/- The statements' own: what the program's calls promise, and GameMay over it. -/
import Derived.Test.YtfkifppadngmdaaG6
import Derived.Test.YtfkifppadngmdaaG2
namespace Go.Proofs.Ytfkifppadngmdaa
open Go Go.RowKit Go.Shelf
set_option linter.unusedVariables false
set_option maxHeartbeats 1000000
set_option maxRecDepth 20000

/-- A feed's cells. -/
def dCs (d : Fd) : Array Value := #[byV d.rn, .int .u16 (d.ks : Int), .int .i64 d.ky]
structure Fd.Ok (d : Fd) : Prop where
  ks : d.ks < 65536
  ky : -9223372036854775808 ≤ d.ky ∧ d.ky ≤ 9223372036854775807
/-- A font that lies in memory. -/
structure FL (w : World) (D : Array Value) (f : Fo) : Prop where
  c : ∃ (sB : Option Addr) (cB' : Nat), D = fCs f.pl f.fr (.slice sB f.by_.length cB') ∧ LB w sB f.by_
  n : f.pl.length = 16
  pl : ∀ s ∈ f.pl, s < 65536
  fr : f.fr < 65536
theorem FL.below {w y : World} {D : Array Value} {f : Fo} (h : FL w D f) (hb : Below w.heap.size w y) : FL y D f := by
  obtain ⟨⟨sB, cB', e, h1⟩, h2, h3, h4⟩ := h
  exact ⟨⟨sB, cB', e, h1.below hb⟩, h2, h3, h4⟩
theorem GO.below {B : Nat} {w y : World} {C : Array Value} {g : Gm} (h : GO B w C g) (hb : Below w.heap.size w y) : GO B y C g := by
  obtain ⟨⟨vS, vP, vM, e, h1, h2, h3, h4⟩, ok⟩ := h
  exact ⟨⟨vS, vP, vM, e, h1.below hb, h2.below hb, h3.below hb, h4⟩, ok⟩
theorem rtFn : Rt Try.prog 42 18 := ⟨⟨_, Try.underlying42, rfl⟩, by kernel_rfl⟩
theorem rtFd : Rt Try.prog 44 3 := ⟨⟨_, Try.underlying44, rfl⟩, by kernel_rfl⟩
theorem GL.size {w : World} {C : Array Value} {g : Gm} (h : GL w C g) : C.size = 23 ∧ C.all (·.oneCell') = true ∧ ∃ sp cap, C[21]? = some (.slice sp g.pg.length cap) := by
  obtain ⟨⟨sS, sP, sM, cS, cP, cM, rfl, h1, h2, h3⟩, ok⟩ := h
  refine ⟨rfl, ?_, sP, cP, rfl⟩
  unfold gCs gV byV
  simp [Value.oneCell']
theorem FL.size {w : World} {D : Array Value} {f : Fo} (h : FL w D f) : D.size = 18 := by
  obtain ⟨⟨sB, cB', rfl, h1⟩, h2, h3, h4⟩ := h
  rfl
/-- Not more than the document's bound. -/
def smaG (g : Gm) (f : Fo) : Prop := g.st.length + g.pg.length + g.me.length + f.by_.length ≤ 2147483647
end Go.Proofs.Ytfkifppadngmdaa
