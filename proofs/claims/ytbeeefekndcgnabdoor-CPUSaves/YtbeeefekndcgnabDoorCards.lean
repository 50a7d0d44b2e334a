/-
  DERIVED. GIVEN WITH THE SEED: THE CARDS: each row of YtbeeefekndcgnabDoorRows.lean that lists a variable, with what it lists TIED to the program's text (the seventh form; the later family's looks); each row that meets fmt, with fmt's text TOLD by the authors' own Lean function (tested against real Go, not proved from fmt's source: count such statements apart). THE CARD IS WHAT COUNTS. Prove the row's statement (the work); the ties are given (YtbeeefekndcgnabDoorTie.lean); close each card by the builder's one call (the guide's Derived/Test/ToyasCard.lean, 'card_holds'). Laid BY PROGRAM, IN A SANDBOX (cutbox-door.mjs). By AI agents, Wed Nov 11 2026. No macro, syntax, notation, axiom, sorry.
-/
import Derived.Test.YtbeeefekndcgnabDoorRows
import GoSem.ClaimSeven
namespace Go.Proofs.YtbeeefekndcgnabDoor
namespace Rows

/-- THE TIED CARD OF 'vesperlaw04.CPUAdds'. -/
def cPUAddsCard : Claim7 := { stood := { row := cPUAddsRow, standIns := [], harness := (true, "23a16791b6b35d76966a431a6dd0f37e4062abdb2f2faefbad4e88cb3767eb11"), looks := false }, kinds := [], alts := [], laidByText := true, laidKinds := [.data, .data, .data, .data, .data, .data, .data, .data, .data, .data, .data], laidTests := true, laidLooks := .later }
def CPUAddsCardSaid : Prop := Claim7.holds Tryd.pinned (.plain (OpenSpec.ofChange cPUAddsSpec)) cPUAddsCard

/-- THE TIED CARD OF 'vesperlaw04.CPUSaves'. -/
def cPUSavesCard : Claim7 := { stood := { row := cPUSavesRow, standIns := [], harness := (true, "23a16791b6b35d76966a431a6dd0f37e4062abdb2f2faefbad4e88cb3767eb11"), looks := false }, kinds := [], alts := [], laidByText := true, laidKinds := [.data, .data, .data, .data, .data, .data, .data, .data, .data, .data, .data], laidTests := true, laidLooks := .later }
def CPUSavesCardSaid : Prop := Claim7.holds Tryd.pinned (.plain (OpenSpec.ofChange cPUSavesSpec)) cPUSavesCard

/-- THE SECOND FORM's CARD OF 'vesperlaw04.CPUAdds'. -/
def cPUAddsUptoCard : Claim7 := { stood := { row := cPUAddsUptoRow, standIns := [], harness := (true, "23a16791b6b35d76966a431a6dd0f37e4062abdb2f2faefbad4e88cb3767eb11"), looks := false }, kinds := [], alts := [], laidByText := true, laidKinds := [.data, .data, .data, .data, .data, .data, .data, .data, .data, .data, .data], laidTests := true, laidLooks := .later }
def CPUAddsUptoCardSaid : Prop := Claim7.holds Tryd.pinned (.plain (OpenSpec.upto cPUAddsSpec)) cPUAddsUptoCard

/-- THE SECOND FORM's CARD OF 'vesperlaw04.CPUSaves'. -/
def cPUSavesUptoCard : Claim7 := { stood := { row := cPUSavesUptoRow, standIns := [], harness := (true, "23a16791b6b35d76966a431a6dd0f37e4062abdb2f2faefbad4e88cb3767eb11"), looks := false }, kinds := [], alts := [], laidByText := true, laidKinds := [.data, .data, .data, .data, .data, .data, .data, .data, .data, .data, .data], laidTests := true, laidLooks := .later }
def CPUSavesUptoCardSaid : Prop := Claim7.holds Tryd.pinned (.plain (OpenSpec.upto cPUSavesSpec)) cPUSavesUptoCard
end Rows
end Go.Proofs.YtbeeefekndcgnabDoor
