/-
  DERIVED. GIVEN WITH THE SEED: THE CARDS: each row of YtdbdcehdlegdiaaDoorRows.lean that lists a variable, with what it lists TIED to the program's text (the seventh form; the later family's looks); each row that meets fmt, with fmt's text TOLD by the authors' own Lean function (tested against real Go, not proved from fmt's source: count such statements apart). THE CARD IS WHAT COUNTS. Prove the row's statement (the work); the ties are given (YtdbdcehdlegdiaaDoorTie.lean); close each card by the builder's one call (the guide's Derived/Test/ToyasCard.lean, 'card_holds'). Laid BY PROGRAM, IN A SANDBOX (cutbox-door.mjs). By AI agents, Wed Nov 11 2026. No macro, syntax, notation, axiom, sorry.
-/
import Derived.Test.YtdbdcehdlegdiaaDoorRows
import GoSem.ClaimSeven
namespace Go.Proofs.YtdbdcehdlegdiaaDoor
namespace Rows

/-- THE TIED CARD OF 'vesperlaw20.InterBounds'. -/
def interBoundsCard : Claim7 := { stood := { row := interBoundsRow, standIns := [], harness := (true, "04d53a95e20f5205acdf2fd993fcd06122312b0364e93c7f44175c9d5713c70b"), looks := false }, kinds := [], alts := [], laidByText := true, laidKinds := [.data], laidTests := true, laidLooks := .later }
def InterBoundsCardSaid : Prop := Claim7.holds Tryd.pinned (.plain (OpenSpec.ofChange interBoundsSpec)) interBoundsCard

/-- THE SECOND FORM's CARD OF 'vesperlaw20.InterBounds'. -/
def interBoundsUptoCard : Claim7 := { stood := { row := interBoundsUptoRow, standIns := [], harness := (true, "04d53a95e20f5205acdf2fd993fcd06122312b0364e93c7f44175c9d5713c70b"), looks := false }, kinds := [], alts := [], laidByText := true, laidKinds := [.data], laidTests := true, laidLooks := .later }
def InterBoundsUptoCardSaid : Prop := Claim7.holds Tryd.pinned (.plain (OpenSpec.upto interBoundsSpec)) interBoundsUptoCard
end Rows
end Go.Proofs.YtdbdcehdlegdiaaDoor
