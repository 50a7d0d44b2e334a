/-
  DERIVED. GIVEN WITH THE SEED: THE CARDS: each row of YtehnhjdjjalifaaDoorRows.lean that lists a variable, with what it lists TIED to the program's text (the seventh form; the later family's looks); each row that meets fmt, with fmt's text TOLD by the authors' own Lean function (tested against real Go, not proved from fmt's source: count such statements apart). THE CARD IS WHAT COUNTS. Prove the row's statement (the work); the ties are given (YtehnhjdjjalifaaDoorTie.lean); close each card by the builder's one call (the guide's Derived/Test/ToyasCard.lean, 'card_holds'). Laid BY PROGRAM, IN A SANDBOX (cutbox-door.mjs). By AI agents, Wed Nov 11 2026. No macro, syntax, notation, axiom, sorry.
-/
import Derived.Test.YtehnhjdjjalifaaDoorRows
import GoSem.ClaimSeven
namespace Go.Proofs.YtehnhjdjjalifaaDoor
namespace Rows

/-- THE TIED CARD OF 'vesperlaw21.SnapNames'. -/
def snapNamesCard : Claim7 := { stood := { row := snapNamesRow, standIns := [], harness := (true, "a1e04512e3930b9d8718ab927b95e33421e97c65aa98dc599e5fb714344d7d01"), looks := false }, kinds := [], alts := [], laidByText := true, laidKinds := [.data, .data, .data, .data, .data, .data, .data], laidTests := true, laidLooks := .later }
def SnapNamesCardSaid : Prop := Claim7.holds Tryd.pinned (.plain (OpenSpec.ofChange snapNamesSpec)) snapNamesCard

/-- THE TIED CARD OF 'vesperlaw21.SnapBack'. -/
def snapBackCard : Claim7 := { stood := { row := snapBackRow, standIns := [], harness := (true, "a1e04512e3930b9d8718ab927b95e33421e97c65aa98dc599e5fb714344d7d01"), looks := false }, kinds := [], alts := [], laidByText := true, laidKinds := [.data, .data, .data, .data, .data, .data, .data], laidTests := true, laidLooks := .later }
def SnapBackCardSaid : Prop := Claim7.holds Tryd.pinned (.plain (OpenSpec.ofChange snapBackSpec)) snapBackCard

/-- THE TIED CARD OF 'vesperlaw21.SnapTurned'. -/
def snapTurnedCard : Claim7 := { stood := { row := snapTurnedRow, standIns := [], harness := (true, "a1e04512e3930b9d8718ab927b95e33421e97c65aa98dc599e5fb714344d7d01"), looks := false }, kinds := [], alts := [], laidByText := true, laidKinds := [.data, .data, .data, .data, .data, .data, .data], laidTests := true, laidLooks := .later }
def SnapTurnedCardSaid : Prop := Claim7.holds Tryd.pinned (.plain (OpenSpec.ofChange snapTurnedSpec)) snapTurnedCard

/-- THE SECOND FORM's CARD OF 'vesperlaw21.SnapNames'. -/
def snapNamesUptoCard : Claim7 := { stood := { row := snapNamesUptoRow, standIns := [], harness := (true, "a1e04512e3930b9d8718ab927b95e33421e97c65aa98dc599e5fb714344d7d01"), looks := false }, kinds := [], alts := [], laidByText := true, laidKinds := [.data, .data, .data, .data, .data, .data, .data], laidTests := true, laidLooks := .later }
def SnapNamesUptoCardSaid : Prop := Claim7.holds Tryd.pinned (.plain (OpenSpec.upto snapNamesSpec)) snapNamesUptoCard

/-- THE SECOND FORM's CARD OF 'vesperlaw21.SnapBack'. -/
def snapBackUptoCard : Claim7 := { stood := { row := snapBackUptoRow, standIns := [], harness := (true, "a1e04512e3930b9d8718ab927b95e33421e97c65aa98dc599e5fb714344d7d01"), looks := false }, kinds := [], alts := [], laidByText := true, laidKinds := [.data, .data, .data, .data, .data, .data, .data], laidTests := true, laidLooks := .later }
def SnapBackUptoCardSaid : Prop := Claim7.holds Tryd.pinned (.plain (OpenSpec.upto snapBackSpec)) snapBackUptoCard

/-- THE SECOND FORM's CARD OF 'vesperlaw21.SnapTurned'. -/
def snapTurnedUptoCard : Claim7 := { stood := { row := snapTurnedUptoRow, standIns := [], harness := (true, "a1e04512e3930b9d8718ab927b95e33421e97c65aa98dc599e5fb714344d7d01"), looks := false }, kinds := [], alts := [], laidByText := true, laidKinds := [.data, .data, .data, .data, .data, .data, .data], laidTests := true, laidLooks := .later }
def SnapTurnedUptoCardSaid : Prop := Claim7.holds Tryd.pinned (.plain (OpenSpec.upto snapTurnedSpec)) snapTurnedUptoCard
end Rows
end Go.Proofs.YtehnhjdjjalifaaDoor
