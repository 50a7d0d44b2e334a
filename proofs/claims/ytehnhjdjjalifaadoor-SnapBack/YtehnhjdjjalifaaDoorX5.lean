/- The document's own: may a machine be so? -/
import Derived.Test.YtehnhjdjjalifaaDoorX3
namespace Go.Proofs.YtehnhjdjjalifaaDoor
open Go Go.RowKit
set_option linter.unusedVariables false
set_option maxHeartbeats 4000000
set_option maxRecDepth 20000

/-- What the document says of a processor, of a raster, of a machine. -/
def chkC (s : Bd) : Int := if 15 < s.p.toNat then 40 else if 15 < s.x.toNat then 40 else if s.ph.toNat < 1 then 40 else if 8 < s.ph.toNat then 40 else if s.ph.toNat = 3 then (if s.op.toNat / 16 = 12 then 0 else 40) else if s.b.toNat ≠ 0 then 40 else if s.ph.toNat = 5 then (if s.op.toNat = 0 then 0 else 40) else if s.ph.toNat = 4 then (if s.op.toNat = 0 then 0 else 40) else 0
def mostR (s : Bd) : Int := if (80 ≤ s.ln ∧ s.ln ≤ 207) ∧ 2 < s.cy then s.cy - 2 else 0
def chkR (s : Bd) : Int := if s.ln < 0 then 50 else if 261 < s.ln then 50 else if s.cy < 0 then 50 else if 13 < s.cy then 50 else if s.gt < 0 then 50 else if 8 < s.gt then 50 else if mostR s < s.gt then 50 else 0
def chkB (s : Bd) : Int := if ¬ (2048 ≤ s.ram.length ∧ s.ram.length ≤ 32768 ∧ s.ram.length % 2048 = 0) then 30 else if s.rom.length ≠ 512 then 31 else if chkC s ≠ 0 then chkC s else if chkR s ≠ 0 then chkR s else if 15 < s.pd.toNat then 1 else 0
end Go.Proofs.YtehnhjdjjalifaaDoor
