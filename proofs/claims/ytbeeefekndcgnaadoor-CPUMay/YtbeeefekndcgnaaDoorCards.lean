/-
  DERIVED. GIVEN WITH THE SEED: THE CARDS: each row of YtbeeefekndcgnaaDoorRows.lean that lists a variable, with what it lists TIED to the program's text (the seventh form; the later family's looks); each row that meets fmt, with fmt's text TOLD by the authors' own Lean function (tested against real Go, not proved from fmt's source: count such statements apart). THE CARD IS WHAT COUNTS. Prove the row's statement (the work); the ties are given (YtbeeefekndcgnaaDoorTie.lean); close each card by the builder's one call (the guide's Derived/Test/ToyasCard.lean, 'card_holds'). Laid BY PROGRAM, IN A SANDBOX (cutbox-door.mjs). By AI agents, Wed Nov 11 2026. No macro, syntax, notation, axiom, sorry.
-/
import Derived.Test.YtbeeefekndcgnaaDoorRows
import GoSem.ClaimSeven
namespace Go.Proofs.YtbeeefekndcgnaaDoor
namespace Rows

/-- THE TIED CARD OF 'vesperlaw04.CPUMay'. -/
def cPUMayCard : Claim7 := { stood := { row := cPUMayRow, standIns := [], harness := (true, "4f092d490e3eb3199544d5d02512689e20045f70169b88b54d037fb5ed57f71a"), looks := false }, kinds := [], alts := [], laidByText := true, laidKinds := [.data, .data, .data, .data, .data, .data, .data, .data, .data, .data, .data], laidTests := true, laidLooks := .later }
def CPUMayCardSaid : Prop := Claim7.holds Tryd.pinned (.plain (OpenSpec.ofChange cPUMaySpec)) cPUMayCard

/-- THE TIED CARD OF 'vesperlaw04.CPUDeaf'. -/
def cPUDeafCard : Claim7 := { stood := { row := cPUDeafRow, standIns := [], harness := (true, "4f092d490e3eb3199544d5d02512689e20045f70169b88b54d037fb5ed57f71a"), looks := false }, kinds := [], alts := [], laidByText := true, laidKinds := [.data, .data, .data, .data, .data, .data, .data, .data, .data, .data, .data], laidTests := true, laidLooks := .later }
def CPUDeafCardSaid : Prop := Claim7.holds Tryd.pinned (.plain (OpenSpec.ofChange cPUDeafSpec)) cPUDeafCard

/-- THE TIED CARD OF 'vesperlaw04.CPUAsked'. -/
def cPUAskedCard : Claim7 := { stood := { row := cPUAskedRow, standIns := [], harness := (true, "4f092d490e3eb3199544d5d02512689e20045f70169b88b54d037fb5ed57f71a"), looks := false }, kinds := [], alts := [], laidByText := true, laidKinds := [.data, .data, .data, .data, .data, .data, .data, .data, .data, .data, .data], laidTests := true, laidLooks := .later }
def CPUAskedCardSaid : Prop := Claim7.holds Tryd.pinned (.plain (OpenSpec.ofChange cPUAskedSpec)) cPUAskedCard

/-- THE TIED CARD OF 'vesperlaw04.CPULoop'. -/
def cPULoopCard : Claim7 := { stood := { row := cPULoopRow, standIns := [], harness := (true, "4f092d490e3eb3199544d5d02512689e20045f70169b88b54d037fb5ed57f71a"), looks := false }, kinds := [], alts := [], laidByText := true, laidKinds := [.data, .data, .data, .data, .data, .data, .data, .data, .data, .data, .data], laidTests := true, laidLooks := .later }
def CPULoopCardSaid : Prop := Claim7.holds Tryd.pinned (.plain (OpenSpec.ofChange cPULoopSpec)) cPULoopCard

/-- THE SECOND FORM's CARD OF 'vesperlaw04.CPUMay'. -/
def cPUMayUptoCard : Claim7 := { stood := { row := cPUMayUptoRow, standIns := [], harness := (true, "4f092d490e3eb3199544d5d02512689e20045f70169b88b54d037fb5ed57f71a"), looks := false }, kinds := [], alts := [], laidByText := true, laidKinds := [.data, .data, .data, .data, .data, .data, .data, .data, .data, .data, .data], laidTests := true, laidLooks := .later }
def CPUMayUptoCardSaid : Prop := Claim7.holds Tryd.pinned (.plain (OpenSpec.upto cPUMaySpec)) cPUMayUptoCard

/-- THE SECOND FORM's CARD OF 'vesperlaw04.CPUDeaf'. -/
def cPUDeafUptoCard : Claim7 := { stood := { row := cPUDeafUptoRow, standIns := [], harness := (true, "4f092d490e3eb3199544d5d02512689e20045f70169b88b54d037fb5ed57f71a"), looks := false }, kinds := [], alts := [], laidByText := true, laidKinds := [.data, .data, .data, .data, .data, .data, .data, .data, .data, .data, .data], laidTests := true, laidLooks := .later }
def CPUDeafUptoCardSaid : Prop := Claim7.holds Tryd.pinned (.plain (OpenSpec.upto cPUDeafSpec)) cPUDeafUptoCard

/-- THE SECOND FORM's CARD OF 'vesperlaw04.CPUAsked'. -/
def cPUAskedUptoCard : Claim7 := { stood := { row := cPUAskedUptoRow, standIns := [], harness := (true, "4f092d490e3eb3199544d5d02512689e20045f70169b88b54d037fb5ed57f71a"), looks := false }, kinds := [], alts := [], laidByText := true, laidKinds := [.data, .data, .data, .data, .data, .data, .data, .data, .data, .data, .data], laidTests := true, laidLooks := .later }
def CPUAskedUptoCardSaid : Prop := Claim7.holds Tryd.pinned (.plain (OpenSpec.upto cPUAskedSpec)) cPUAskedUptoCard

/-- THE SECOND FORM's CARD OF 'vesperlaw04.CPULoop'. -/
def cPULoopUptoCard : Claim7 := { stood := { row := cPULoopUptoRow, standIns := [], harness := (true, "4f092d490e3eb3199544d5d02512689e20045f70169b88b54d037fb5ed57f71a"), looks := false }, kinds := [], alts := [], laidByText := true, laidKinds := [.data, .data, .data, .data, .data, .data, .data, .data, .data, .data, .data], laidTests := true, laidLooks := .later }
def CPULoopUptoCardSaid : Prop := Claim7.holds Tryd.pinned (.plain (OpenSpec.upto cPULoopSpec)) cPULoopUptoCard
end Rows
end Go.Proofs.YtbeeefekndcgnaaDoor
