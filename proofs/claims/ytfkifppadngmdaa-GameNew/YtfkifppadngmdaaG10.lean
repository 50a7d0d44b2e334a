/- The document's own: a machine that skips; a machine a sixtieth of a second later. -/
import Derived.Test.YtfkifppadngmdaaG9
namespace Go.Proofs.Ytfkifppadngmdaa
open Go Go.RowKit Go.Shelf
set_option linter.unusedVariables false
set_option maxHeartbeats 1000000
set_option maxRecDepth 20000

/-- A machine's cells with another PC. -/
theorem gCs_pc (v : List UInt8) (i pc pc' : Nat) (sS : Value) (de so : UInt8) (sP sM : Value) : (gCs v i pc sS de so sP sM).setIfInBounds 17 (.int .u16 (pc' : Int)) = gCs v i pc' sS de so sP sM := rfl
theorem gCs_de (v : List UInt8) (i pc : Nat) (sS : Value) (de de' so : UInt8) (sP sM : Value) : (gCs v i pc sS de so sP sM).setIfInBounds 19 (byV de') = gCs v i pc sS de' so sP sM := rfl
theorem gCs_so (v : List UInt8) (i pc : Nat) (sS : Value) (de so so' : UInt8) (sP sM : Value) : (gCs v i pc sS de so sP sM).setIfInBounds 20 (byV so') = gCs v i pc sS de so' sP sM := rfl
theorem gCs_one (v : List UInt8) (i pc : Nat) (a b c : Option Addr) (n1 n2 n3 m1 m2 m3 : Nat) (de so : UInt8) : (gCs v i pc (.slice a n1 m1) de so (.slice b n2 m2) (.slice c n3 m3)).all (·.oneCell') = true := by
  unfold gCs gV byV
  simp [Value.oneCell']
end Go.Proofs.Ytfkifppadngmdaa
