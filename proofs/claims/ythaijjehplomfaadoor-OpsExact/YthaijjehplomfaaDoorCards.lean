/-
  DERIVED. GIVEN WITH THE SEED: THE CARDS: each row of YthaijjehplomfaaDoorRows.lean that lists a variable, with what it lists TIED to the program's text (the seventh form; the later family's looks); each row that meets fmt, with fmt's text TOLD by the authors' own Lean function (tested against real Go, not proved from fmt's source: count such statements apart). THE CARD IS WHAT COUNTS. Prove the row's statement (the work); the ties are given (YthaijjehplomfaaDoorTie.lean); close each card by the builder's one call (the guide's Derived/Test/ToyasCard.lean, 'card_holds'). Laid BY PROGRAM, IN A SANDBOX (cutbox-door.mjs). By AI agents, Wed Nov 11 2026. No macro, syntax, notation, axiom, sorry.
-/
import Derived.Test.YthaijjehplomfaaDoorRows
import GoSem.ClaimSeven
namespace Go.Proofs.YthaijjehplomfaaDoor
namespace Rows

/-- THE TIED CARD OF 'vesperlaw16.OpsExact'. -/
def opsExactCard : Claim7 := { stood := { row := opsExactRow, standIns := [], harness := (true, "436ab10534906d7830d1bbada054debed54790bce5f210b94295b70b8ca23452"), looks := false }, kinds := [], alts := [], laidByText := true, laidKinds := [.data, .pinned], laidTests := true, laidLooks := .later }
def OpsExactCardSaid : Prop := Claim7.holds Tryd.pinned (.plain (OpenSpec.ofChange opsExactSpec)) opsExactCard

/-- THE SECOND FORM's CARD OF 'vesperlaw16.OpsExact'. -/
def opsExactUptoCard : Claim7 := { stood := { row := opsExactUptoRow, standIns := [], harness := (true, "436ab10534906d7830d1bbada054debed54790bce5f210b94295b70b8ca23452"), looks := false }, kinds := [], alts := [], laidByText := true, laidKinds := [.data, .pinned], laidTests := true, laidLooks := .later }
def OpsExactUptoCardSaid : Prop := Claim7.holds Tryd.pinned (.plain (OpenSpec.upto opsExactSpec)) opsExactUptoCard
end Rows
end Go.Proofs.YthaijjehplomfaaDoor
