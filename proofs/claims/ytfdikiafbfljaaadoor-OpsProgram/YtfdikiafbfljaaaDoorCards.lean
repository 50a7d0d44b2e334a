/-
  DERIVED. GIVEN WITH THE SEED: THE CARDS: each row of YtfdikiafbfljaaaDoorRows.lean that lists a variable, with what it lists TIED to the program's text (the seventh form; the later family's looks); each row that meets fmt, with fmt's text TOLD by the authors' own Lean function (tested against real Go, not proved from fmt's source: count such statements apart). THE CARD IS WHAT COUNTS. Prove the row's statement (the work); the ties are given (YtfdikiafbfljaaaDoorTie.lean); close each card by the builder's one call (the guide's Derived/Test/ToyasCard.lean, 'card_holds'). Laid BY PROGRAM, IN A SANDBOX (cutbox-door.mjs). By AI agents, Wed Nov 11 2026. No macro, syntax, notation, axiom, sorry.
-/
import Derived.Test.YtfdikiafbfljaaaDoorRows
import GoSem.ClaimSeven
namespace Go.Proofs.YtfdikiafbfljaaaDoor
namespace Rows

/-- THE TIED CARD OF 'vesperlaw16.OpsExact'. -/
def opsExactCard : Claim7 := { stood := { row := opsExactRow, standIns := [], harness := (true, "962ba4ef16be7ed63661eb848dfe8afab9603193739d287d3eab79ba461e5b3a"), looks := false }, kinds := [], alts := [], laidByText := true, laidKinds := [.data, .pinned], laidTests := true, laidLooks := .later }
def OpsExactCardSaid : Prop := Claim7.holds Tryd.pinned (.plain (OpenSpec.ofChange opsExactSpec)) opsExactCard

/-- THE TIED CARD OF 'vesperlaw16.OpsProgram'. -/
def opsProgramCard : Claim7 := { stood := { row := opsProgramRow, standIns := [], harness := (true, "962ba4ef16be7ed63661eb848dfe8afab9603193739d287d3eab79ba461e5b3a"), looks := false }, kinds := [], alts := [], laidByText := true, laidKinds := [.data, .pinned], laidTests := true, laidLooks := .later }
def OpsProgramCardSaid : Prop := Claim7.holds Tryd.pinned (.plain (OpenSpec.ofChange opsProgramSpec)) opsProgramCard

/-- THE SECOND FORM's CARD OF 'vesperlaw16.OpsExact'. -/
def opsExactUptoCard : Claim7 := { stood := { row := opsExactUptoRow, standIns := [], harness := (true, "962ba4ef16be7ed63661eb848dfe8afab9603193739d287d3eab79ba461e5b3a"), looks := false }, kinds := [], alts := [], laidByText := true, laidKinds := [.data, .pinned], laidTests := true, laidLooks := .later }
def OpsExactUptoCardSaid : Prop := Claim7.holds Tryd.pinned (.plain (OpenSpec.upto opsExactSpec)) opsExactUptoCard

/-- THE SECOND FORM's CARD OF 'vesperlaw16.OpsProgram'. -/
def opsProgramUptoCard : Claim7 := { stood := { row := opsProgramUptoRow, standIns := [], harness := (true, "962ba4ef16be7ed63661eb848dfe8afab9603193739d287d3eab79ba461e5b3a"), looks := false }, kinds := [], alts := [], laidByText := true, laidKinds := [.data, .pinned], laidTests := true, laidLooks := .later }
def OpsProgramUptoCardSaid : Prop := Claim7.holds Tryd.pinned (.plain (OpenSpec.upto opsProgramSpec)) opsProgramUptoCard
end Rows
end Go.Proofs.YtfdikiafbfljaaaDoor
