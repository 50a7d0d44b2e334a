/-
  DERIVED. GIVEN WITH THE SEED: THE CARDS: each row of YtdfjfacilbahkabDoorRows.lean that lists a variable, with what it lists TIED to the program's text (the seventh form; the later family's looks); each row that meets fmt, with fmt's text TOLD by the authors' own Lean function (tested against real Go, not proved from fmt's source: count such statements apart). THE CARD IS WHAT COUNTS. Prove the row's statement (the work); the ties are given (YtdfjfacilbahkabDoorTie.lean); close each card by the builder's one call (the guide's Derived/Test/ToyasCard.lean, 'card_holds'). Laid BY PROGRAM, IN A SANDBOX (cutbox-door.mjs). By AI agents, Wed Nov 11 2026. No macro, syntax, notation, axiom, sorry.
-/
import Derived.Test.YtdfjfacilbahkabDoorRows
import GoSem.ClaimSeven
namespace Go.Proofs.YtdfjfacilbahkabDoor
namespace Rows

/-- THE TIED CARD OF 'vesperlaw12.TapeNear'. -/
def tapeNearCard : Claim7 := { stood := { row := tapeNearRow, standIns := [], harness := (true, "a03d079417cfc360b43604b1a7ca4a77183c14ad3a15e6c42cd25a55cf4d64cb"), looks := true }, kinds := [], alts := [], laidByText := true, laidKinds := [.handle], laidTests := true, laidLooks := .later }
def TapeNearCardSaid : Prop := Claim7.holds Tryd.pinned (.plain (OpenSpec.ofChange tapeNearSpec)) tapeNearCard

/-- THE SECOND FORM's CARD OF 'vesperlaw12.TapeNear'. -/
def tapeNearUptoCard : Claim7 := { stood := { row := tapeNearUptoRow, standIns := [], harness := (true, "a03d079417cfc360b43604b1a7ca4a77183c14ad3a15e6c42cd25a55cf4d64cb"), looks := true }, kinds := [], alts := [], laidByText := true, laidKinds := [.handle], laidTests := true, laidLooks := .later }
def TapeNearUptoCardSaid : Prop := Claim7.holds Tryd.pinned (.plain (OpenSpec.upto tapeNearSpec)) tapeNearUptoCard
end Rows
end Go.Proofs.YtdfjfacilbahkabDoor
