/-
  DERIVED. GIVEN WITH THE SEED: THE CARDS: each row of YtfdjifgmlgpjgabDoorRows.lean that lists a variable, with what it lists TIED to the program's text (the seventh form; the later family's looks); each row that meets fmt, with fmt's text TOLD by the authors' own Lean function (tested against real Go, not proved from fmt's source: count such statements apart). THE CARD IS WHAT COUNTS. Prove the row's statement (the work); the ties are given (YtfdjifgmlgpjgabDoorTie.lean); close each card by the builder's one call (the guide's Derived/Test/ToyasCard.lean, 'card_holds'). Laid BY PROGRAM, IN A SANDBOX (cutbox-door.mjs). By AI agents, Wed Nov 11 2026. No macro, syntax, notation, axiom, sorry.
-/
import Derived.Test.YtfdjifgmlgpjgabDoorRows
import GoSem.ClaimSeven
namespace Go.Proofs.YtfdjifgmlgpjgabDoor
namespace Rows

/-- THE TIED CARD OF 'vesperlaw13.SourceRoom'. -/
def sourceRoomCard : Claim7 := { stood := { row := sourceRoomRow, standIns := [], harness := (true, "1aa7bd0303c74fc5d76cff15dd9362f4315a6b8823ff60dd5d51dd6a5a4ce463"), looks := false }, kinds := [], alts := [], laidByText := true, laidKinds := [.data, .data, .data, .data, .data, .data, .data], laidTests := true, laidLooks := .later }
def SourceRoomCardSaid : Prop := Claim7.holds Tryd.pinned (.plain (OpenSpec.ofChange sourceRoomSpec)) sourceRoomCard

/-- THE SECOND FORM's CARD OF 'vesperlaw13.SourceRoom'. -/
def sourceRoomUptoCard : Claim7 := { stood := { row := sourceRoomUptoRow, standIns := [], harness := (true, "1aa7bd0303c74fc5d76cff15dd9362f4315a6b8823ff60dd5d51dd6a5a4ce463"), looks := false }, kinds := [], alts := [], laidByText := true, laidKinds := [.data, .data, .data, .data, .data, .data, .data], laidTests := true, laidLooks := .later }
def SourceRoomUptoCardSaid : Prop := Claim7.holds Tryd.pinned (.plain (OpenSpec.upto sourceRoomSpec)) sourceRoomUptoCard
end Rows
end Go.Proofs.YtfdjifgmlgpjgabDoor
