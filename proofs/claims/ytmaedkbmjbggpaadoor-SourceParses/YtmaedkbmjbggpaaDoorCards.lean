/-
  DERIVED. GIVEN WITH THE SEED: THE CARDS: each row of YtmaedkbmjbggpaaDoorRows.lean that lists a variable, with what it lists TIED to the program's text (the seventh form; the later family's looks); each row that meets fmt, with fmt's text TOLD by the authors' own Lean function (tested against real Go, not proved from fmt's source: count such statements apart). THE CARD IS WHAT COUNTS. Prove the row's statement (the work); the ties are given (YtmaedkbmjbggpaaDoorTie.lean); close each card by the builder's one call (the guide's Derived/Test/ToyasCard.lean, 'card_holds'). Laid BY PROGRAM, IN A SANDBOX (cutbox-door.mjs). By AI agents, Wed Nov 11 2026. No macro, syntax, notation, axiom, sorry.
-/
import Derived.Test.YtmaedkbmjbggpaaDoorRows
import GoSem.ClaimSeven
namespace Go.Proofs.YtmaedkbmjbggpaaDoor
namespace Rows

/-- THE TIED CARD OF 'vesperlaw13.SourceChecks'. -/
def sourceChecksCard : Claim7 := { stood := { row := sourceChecksRow, standIns := [], harness := (true, "e5aa772ba6a7dd152ce910b96ad597da56443c43f728e2ffb0253f758d096ece"), looks := false }, kinds := [], alts := [], laidByText := true, laidKinds := [.data, .data, .data, .data, .data, .data, .data], laidTests := true, laidLooks := .later }
def SourceChecksCardSaid : Prop := Claim7.holds Tryd.pinned (.plain (OpenSpec.ofChange sourceChecksSpec)) sourceChecksCard

/-- THE TIED CARD OF 'vesperlaw13.SourcePrints'. -/
def sourcePrintsCard : Claim7 := { stood := { row := sourcePrintsRow, standIns := [], harness := (true, "e5aa772ba6a7dd152ce910b96ad597da56443c43f728e2ffb0253f758d096ece"), looks := false }, kinds := [], alts := [], laidByText := true, laidKinds := [.data, .data, .data, .data, .data, .data, .data], laidTests := true, laidLooks := .later }
def SourcePrintsCardSaid : Prop := Claim7.holds Tryd.pinned (.plain (OpenSpec.ofChange sourcePrintsSpec)) sourcePrintsCard

/-- THE TIED CARD OF 'vesperlaw13.SourceParses'. -/
def sourceParsesCard : Claim7 := { stood := { row := sourceParsesRow, standIns := [], harness := (true, "e5aa772ba6a7dd152ce910b96ad597da56443c43f728e2ffb0253f758d096ece"), looks := false }, kinds := [], alts := [], laidByText := true, laidKinds := [.data, .data, .data, .data, .data, .data, .data], laidTests := true, laidLooks := .later }
def SourceParsesCardSaid : Prop := Claim7.holds Tryd.pinned (.plain (OpenSpec.ofChange sourceParsesSpec)) sourceParsesCard

/-- THE SECOND FORM's CARD OF 'vesperlaw13.SourceChecks'. -/
def sourceChecksUptoCard : Claim7 := { stood := { row := sourceChecksUptoRow, standIns := [], harness := (true, "e5aa772ba6a7dd152ce910b96ad597da56443c43f728e2ffb0253f758d096ece"), looks := false }, kinds := [], alts := [], laidByText := true, laidKinds := [.data, .data, .data, .data, .data, .data, .data], laidTests := true, laidLooks := .later }
def SourceChecksUptoCardSaid : Prop := Claim7.holds Tryd.pinned (.plain (OpenSpec.upto sourceChecksSpec)) sourceChecksUptoCard

/-- THE SECOND FORM's CARD OF 'vesperlaw13.SourcePrints'. -/
def sourcePrintsUptoCard : Claim7 := { stood := { row := sourcePrintsUptoRow, standIns := [], harness := (true, "e5aa772ba6a7dd152ce910b96ad597da56443c43f728e2ffb0253f758d096ece"), looks := false }, kinds := [], alts := [], laidByText := true, laidKinds := [.data, .data, .data, .data, .data, .data, .data], laidTests := true, laidLooks := .later }
def SourcePrintsUptoCardSaid : Prop := Claim7.holds Tryd.pinned (.plain (OpenSpec.upto sourcePrintsSpec)) sourcePrintsUptoCard

/-- THE SECOND FORM's CARD OF 'vesperlaw13.SourceParses'. -/
def sourceParsesUptoCard : Claim7 := { stood := { row := sourceParsesUptoRow, standIns := [], harness := (true, "e5aa772ba6a7dd152ce910b96ad597da56443c43f728e2ffb0253f758d096ece"), looks := false }, kinds := [], alts := [], laidByText := true, laidKinds := [.data, .data, .data, .data, .data, .data, .data], laidTests := true, laidLooks := .later }
def SourceParsesUptoCardSaid : Prop := Claim7.holds Tryd.pinned (.plain (OpenSpec.upto sourceParsesSpec)) sourceParsesUptoCard
end Rows
end Go.Proofs.YtmaedkbmjbggpaaDoor
