/-
  DERIVED. GIVEN WITH THE SEED: THE CARDS: each row of YtbeeefekndcgnaaGreatDoorRows.lean that lists a variable, with what it lists TIED to the program's text (the seventh form; the later family's looks); each row that meets fmt, with fmt's text TOLD by the authors' own Lean function (tested against real Go, not proved from fmt's source: count such statements apart). THE CARD IS WHAT COUNTS. Prove the row's statement (the work); the ties are given (YtbeeefekndcgnaaGreatDoorTie.lean); close each card by the builder's one call (the guide's Derived/Test/ToyasCard.lean, 'card_holds'). Laid BY PROGRAM, IN A SANDBOX (cutbox-door.mjs). By AI agents, Wed Nov 11 2026. No macro, syntax, notation, axiom, sorry.
-/
import Derived.Test.YtbeeefekndcgnaaGreatDoorRows
import GoSem.ClaimSeven
namespace Go.Proofs.YtbeeefekndcgnaaGreatDoor
namespace Rows

/-- THE TIED CARD OF 'vesperlaw04.CPUExact'. -/
def cPUExactCard : Claim7 := { stood := { row := cPUExactRow, standIns := [], harness := (true, "ea44d23ce3bbb19e196ebbae3093fbb04c71d0d2bf011a365527af3326b3e5fb"), looks := false }, kinds := [], alts := [], laidByText := true, laidKinds := [.data, .data, .data, .data, .data, .data, .data, .data, .data, .data, .data], laidTests := true, laidLooks := .later }
def CPUExactCardSaid : Prop := Claim7.holds Tryz.pinned (.plain (OpenSpec.ofChange cPUExactSpec)) cPUExactCard

/-- THE TIED CARD OF 'vesperlaw04.CPUMemory'. -/
def cPUMemoryCard : Claim7 := { stood := { row := cPUMemoryRow, standIns := [], harness := (true, "ea44d23ce3bbb19e196ebbae3093fbb04c71d0d2bf011a365527af3326b3e5fb"), looks := false }, kinds := [], alts := [], laidByText := true, laidKinds := [.data, .data, .data, .data, .data, .data, .data, .data, .data, .data, .data], laidTests := true, laidLooks := .later }
def CPUMemoryCardSaid : Prop := Claim7.holds Tryz.pinned (.plain (OpenSpec.ofChange cPUMemorySpec)) cPUMemoryCard

/-- THE SECOND FORM's CARD OF 'vesperlaw04.CPUExact'. -/
def cPUExactUptoCard : Claim7 := { stood := { row := cPUExactUptoRow, standIns := [], harness := (true, "ea44d23ce3bbb19e196ebbae3093fbb04c71d0d2bf011a365527af3326b3e5fb"), looks := false }, kinds := [], alts := [], laidByText := true, laidKinds := [.data, .data, .data, .data, .data, .data, .data, .data, .data, .data, .data], laidTests := true, laidLooks := .later }
def CPUExactUptoCardSaid : Prop := Claim7.holds Tryz.pinned (.plain (OpenSpec.upto cPUExactSpec)) cPUExactUptoCard

/-- THE SECOND FORM's CARD OF 'vesperlaw04.CPUMemory'. -/
def cPUMemoryUptoCard : Claim7 := { stood := { row := cPUMemoryUptoRow, standIns := [], harness := (true, "ea44d23ce3bbb19e196ebbae3093fbb04c71d0d2bf011a365527af3326b3e5fb"), looks := false }, kinds := [], alts := [], laidByText := true, laidKinds := [.data, .data, .data, .data, .data, .data, .data, .data, .data, .data, .data], laidTests := true, laidLooks := .later }
def CPUMemoryUptoCardSaid : Prop := Claim7.holds Tryz.pinned (.plain (OpenSpec.upto cPUMemorySpec)) cPUMemoryUptoCard
end Rows
end Go.Proofs.YtbeeefekndcgnaaGreatDoor
