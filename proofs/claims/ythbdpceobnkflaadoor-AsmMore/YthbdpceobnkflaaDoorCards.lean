/-
  DERIVED. GIVEN WITH THE SEED: THE CARDS: each row of YthbdpceobnkflaaDoorRows.lean that lists a variable, with what it lists TIED to the program's text (the seventh form; the later family's looks); each row that meets fmt, with fmt's text TOLD by the authors' own Lean function (tested against real Go, not proved from fmt's source: count such statements apart). THE CARD IS WHAT COUNTS. Prove the row's statement (the work); the ties are given (YthbdpceobnkflaaDoorTie.lean); close each card by the builder's one call (the guide's Derived/Test/ToyasCard.lean, 'card_holds'). Laid BY PROGRAM, IN A SANDBOX (cutbox-door.mjs). By AI agents, Wed Nov 11 2026. No macro, syntax, notation, axiom, sorry.
-/
import Derived.Test.YthbdpceobnkflaaDoorRows
import GoSem.ClaimSeven
namespace Go.Proofs.YthbdpceobnkflaaDoor
namespace Rows

/-- THE TIED CARD OF 'vesperlaw14.AsmLays'. -/
def asmLaysCard : Claim7 := { stood := { row := asmLaysRow, standIns := [], harness := (true, "fbbb8f18bfad5ad067e450e64e62b90b49d4e0ce5a870d220200fe42076f2776"), looks := true }, kinds := [], alts := [], laidByText := true, laidKinds := [.data, .data, .data, .data, .data, .data], laidTests := true, laidLooks := .later }
def AsmLaysCardSaid : Prop := Claim7.holds Tryd.pinned (.plain (OpenSpec.ofChange asmLaysSpec)) asmLaysCard

/-- THE TIED CARD OF 'vesperlaw14.AsmMore'. -/
def asmMoreCard : Claim7 := { stood := { row := asmMoreRow, standIns := [], harness := (true, "fbbb8f18bfad5ad067e450e64e62b90b49d4e0ce5a870d220200fe42076f2776"), looks := true }, kinds := [], alts := [], laidByText := true, laidKinds := [.data, .data, .data, .data, .data, .data], laidTests := true, laidLooks := .later }
def AsmMoreCardSaid : Prop := Claim7.holds Tryd.pinned (.plain (OpenSpec.ofChange asmMoreSpec)) asmMoreCard

/-- THE TIED CARD OF 'vesperlaw14.AsmTwo'. -/
def asmTwoCard : Claim7 := { stood := { row := asmTwoRow, standIns := [], harness := (true, "fbbb8f18bfad5ad067e450e64e62b90b49d4e0ce5a870d220200fe42076f2776"), looks := true }, kinds := [], alts := [], laidByText := true, laidKinds := [.data, .data, .data, .data, .data, .data], laidTests := true, laidLooks := .later }
def AsmTwoCardSaid : Prop := Claim7.holds Tryd.pinned (.plain (OpenSpec.ofChange asmTwoSpec)) asmTwoCard

/-- THE SECOND FORM's CARD OF 'vesperlaw14.AsmLays'. -/
def asmLaysUptoCard : Claim7 := { stood := { row := asmLaysUptoRow, standIns := [], harness := (true, "fbbb8f18bfad5ad067e450e64e62b90b49d4e0ce5a870d220200fe42076f2776"), looks := true }, kinds := [], alts := [], laidByText := true, laidKinds := [.data, .data, .data, .data, .data, .data], laidTests := true, laidLooks := .later }
def AsmLaysUptoCardSaid : Prop := Claim7.holds Tryd.pinned (.plain (OpenSpec.upto asmLaysSpec)) asmLaysUptoCard

/-- THE SECOND FORM's CARD OF 'vesperlaw14.AsmMore'. -/
def asmMoreUptoCard : Claim7 := { stood := { row := asmMoreUptoRow, standIns := [], harness := (true, "fbbb8f18bfad5ad067e450e64e62b90b49d4e0ce5a870d220200fe42076f2776"), looks := true }, kinds := [], alts := [], laidByText := true, laidKinds := [.data, .data, .data, .data, .data, .data], laidTests := true, laidLooks := .later }
def AsmMoreUptoCardSaid : Prop := Claim7.holds Tryd.pinned (.plain (OpenSpec.upto asmMoreSpec)) asmMoreUptoCard

/-- THE SECOND FORM's CARD OF 'vesperlaw14.AsmTwo'. -/
def asmTwoUptoCard : Claim7 := { stood := { row := asmTwoUptoRow, standIns := [], harness := (true, "fbbb8f18bfad5ad067e450e64e62b90b49d4e0ce5a870d220200fe42076f2776"), looks := true }, kinds := [], alts := [], laidByText := true, laidKinds := [.data, .data, .data, .data, .data, .data], laidTests := true, laidLooks := .later }
def AsmTwoUptoCardSaid : Prop := Claim7.holds Tryd.pinned (.plain (OpenSpec.upto asmTwoSpec)) asmTwoUptoCard
end Rows
end Go.Proofs.YthbdpceobnkflaaDoor
