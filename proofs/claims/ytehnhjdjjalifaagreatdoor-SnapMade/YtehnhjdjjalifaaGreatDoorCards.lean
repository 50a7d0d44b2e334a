/-
  DERIVED. GIVEN WITH THE SEED: THE CARDS: each row of YtehnhjdjjalifaaGreatDoorRows.lean that lists a variable, with what it lists TIED to the program's text (the seventh form; the later family's looks); each row that meets fmt, with fmt's text TOLD by the authors' own Lean function (tested against real Go, not proved from fmt's source: count such statements apart). THE CARD IS WHAT COUNTS. Prove the row's statement (the work); the ties are given (YtehnhjdjjalifaaGreatDoorTie.lean); close each card by the builder's one call (the guide's Derived/Test/ToyasCard.lean, 'card_holds'). Laid BY PROGRAM, IN A SANDBOX (cutbox-door.mjs). By AI agents, Wed Nov 11 2026. No macro, syntax, notation, axiom, sorry.
-/
import Derived.Test.YtehnhjdjjalifaaGreatDoorRows
import GoSem.ClaimSeven
namespace Go.Proofs.YtehnhjdjjalifaaGreatDoor
namespace Rows

/-- THE TIED CARD OF 'vesperlaw21.SnapSaves'. -/
def snapSavesCard : Claim7 := { stood := { row := snapSavesRow, standIns := [], harness := (true, "bcb500ee95336bf3ec1f6f7c23dc94192882837394987b7cdd1138dc868d8c20"), looks := false }, kinds := [], alts := [], laidByText := true, laidKinds := [.data, .data, .data, .data, .data, .data, .data], laidTests := true, laidLooks := .later }
def SnapSavesCardSaid : Prop := Claim7.holds Tryz.pinned (.plain (OpenSpec.ofChange snapSavesSpec)) snapSavesCard

/-- THE TIED CARD OF 'vesperlaw21.SnapLoads'. -/
def snapLoadsCard : Claim7 := { stood := { row := snapLoadsRow, standIns := [], harness := (true, "bcb500ee95336bf3ec1f6f7c23dc94192882837394987b7cdd1138dc868d8c20"), looks := false }, kinds := [], alts := [], laidByText := true, laidKinds := [.data, .data, .data, .data, .data, .data, .data], laidTests := true, laidLooks := .later }
def SnapLoadsCardSaid : Prop := Claim7.holds Tryz.pinned (.plain (OpenSpec.ofChange snapLoadsSpec)) snapLoadsCard

/-- THE TIED CARD OF 'vesperlaw21.SnapMade'. -/
def snapMadeCard : Claim7 := { stood := { row := snapMadeRow, standIns := [], harness := (true, "bcb500ee95336bf3ec1f6f7c23dc94192882837394987b7cdd1138dc868d8c20"), looks := false }, kinds := [], alts := [], laidByText := true, laidKinds := [.data, .data, .data, .data, .data, .data, .data], laidTests := true, laidLooks := .later }
def SnapMadeCardSaid : Prop := Claim7.holds Tryz.pinned (.plain (OpenSpec.ofChange snapMadeSpec)) snapMadeCard

/-- THE SECOND FORM's CARD OF 'vesperlaw21.SnapSaves'. -/
def snapSavesUptoCard : Claim7 := { stood := { row := snapSavesUptoRow, standIns := [], harness := (true, "bcb500ee95336bf3ec1f6f7c23dc94192882837394987b7cdd1138dc868d8c20"), looks := false }, kinds := [], alts := [], laidByText := true, laidKinds := [.data, .data, .data, .data, .data, .data, .data], laidTests := true, laidLooks := .later }
def SnapSavesUptoCardSaid : Prop := Claim7.holds Tryz.pinned (.plain (OpenSpec.upto snapSavesSpec)) snapSavesUptoCard

/-- THE SECOND FORM's CARD OF 'vesperlaw21.SnapLoads'. -/
def snapLoadsUptoCard : Claim7 := { stood := { row := snapLoadsUptoRow, standIns := [], harness := (true, "bcb500ee95336bf3ec1f6f7c23dc94192882837394987b7cdd1138dc868d8c20"), looks := false }, kinds := [], alts := [], laidByText := true, laidKinds := [.data, .data, .data, .data, .data, .data, .data], laidTests := true, laidLooks := .later }
def SnapLoadsUptoCardSaid : Prop := Claim7.holds Tryz.pinned (.plain (OpenSpec.upto snapLoadsSpec)) snapLoadsUptoCard

/-- THE SECOND FORM's CARD OF 'vesperlaw21.SnapMade'. -/
def snapMadeUptoCard : Claim7 := { stood := { row := snapMadeUptoRow, standIns := [], harness := (true, "bcb500ee95336bf3ec1f6f7c23dc94192882837394987b7cdd1138dc868d8c20"), looks := false }, kinds := [], alts := [], laidByText := true, laidKinds := [.data, .data, .data, .data, .data, .data, .data], laidTests := true, laidLooks := .later }
def SnapMadeUptoCardSaid : Prop := Claim7.holds Tryz.pinned (.plain (OpenSpec.upto snapMadeSpec)) snapMadeUptoCard
end Rows
end Go.Proofs.YtehnhjdjjalifaaGreatDoor
