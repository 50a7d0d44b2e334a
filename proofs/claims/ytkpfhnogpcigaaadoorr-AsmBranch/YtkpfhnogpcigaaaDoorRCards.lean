/-
  DERIVED. GIVEN WITH THE SEED: THE CARDS: each row of YtkpfhnogpcigaaaDoorRRows.lean that lists a variable, with what it lists TIED to the program's text (the seventh form; the later family's looks); each row that meets fmt, with fmt's text TOLD by the authors' own Lean function (tested against real Go, not proved from fmt's source: count such statements apart). THE CARD IS WHAT COUNTS. Prove the row's statement (the work); the ties are given (YtkpfhnogpcigaaaDoorRTie.lean); close each card by the builder's one call (the guide's Derived/Test/ToyasCard.lean, 'card_holds'). Laid BY PROGRAM, IN A SANDBOX (cutbox-door.mjs). By AI agents, Wed Nov 11 2026. No macro, syntax, notation, axiom, sorry.
-/
import Derived.Test.YtkpfhnogpcigaaaDoorRRows
import GoSem.ClaimSeven
namespace Go.Proofs.YtkpfhnogpcigaaaDoorR
namespace Rows

/-- THE TIED CARD OF 'vesperlaw14.AsmObjects'. -/
def asmObjectsCard : Claim7 := { stood := { row := asmObjectsRow, standIns := [], harness := (true, "f3a27f110bf0816cf381b15df705f5a0d1e3ca7c1d7e88e465df0479bf2fdf24"), looks := true }, kinds := [], alts := [], laidByText := true, laidKinds := [.data, .data, .data, .data, .data, .data], laidTests := true, laidLooks := .later }
def AsmObjectsCardSaid : Prop := Claim7.holds Tryd.pinned (.plain (OpenSpec.ofChange asmObjectsSpec)) asmObjectsCard

/-- THE TIED CARD OF 'vesperlaw14.AsmBranch'. -/
def asmBranchCard : Claim7 := { stood := { row := asmBranchRow, standIns := [], harness := (true, "f3a27f110bf0816cf381b15df705f5a0d1e3ca7c1d7e88e465df0479bf2fdf24"), looks := true }, kinds := [], alts := [], laidByText := true, laidKinds := [.data, .data, .data, .data, .data, .data], laidTests := true, laidLooks := .later }
def AsmBranchCardSaid : Prop := Claim7.holds Tryd.pinned (.plain (OpenSpec.ofChange asmBranchSpec)) asmBranchCard

/-- THE TIED CARD OF 'vesperlaw14.AsmMore'. -/
def asmMoreCard : Claim7 := { stood := { row := asmMoreRow, standIns := [], harness := (true, "f3a27f110bf0816cf381b15df705f5a0d1e3ca7c1d7e88e465df0479bf2fdf24"), looks := true }, kinds := [], alts := [], laidByText := true, laidKinds := [.data, .data, .data, .data, .data, .data], laidTests := true, laidLooks := .later }
def AsmMoreCardSaid : Prop := Claim7.holds Tryd.pinned (.plain (OpenSpec.ofChange asmMoreSpec)) asmMoreCard

/-- THE TIED CARD OF 'vesperlaw14.AsmTwo'. -/
def asmTwoCard : Claim7 := { stood := { row := asmTwoRow, standIns := [], harness := (true, "f3a27f110bf0816cf381b15df705f5a0d1e3ca7c1d7e88e465df0479bf2fdf24"), looks := true }, kinds := [], alts := [], laidByText := true, laidKinds := [.data, .data, .data, .data, .data, .data], laidTests := true, laidLooks := .later }
def AsmTwoCardSaid : Prop := Claim7.holds Tryd.pinned (.plain (OpenSpec.ofChange asmTwoSpec)) asmTwoCard

/-- THE SECOND FORM's CARD OF 'vesperlaw14.AsmObjects'. -/
def asmObjectsUptoCard : Claim7 := { stood := { row := asmObjectsUptoRow, standIns := [], harness := (true, "f3a27f110bf0816cf381b15df705f5a0d1e3ca7c1d7e88e465df0479bf2fdf24"), looks := true }, kinds := [], alts := [], laidByText := true, laidKinds := [.data, .data, .data, .data, .data, .data], laidTests := true, laidLooks := .later }
def AsmObjectsUptoCardSaid : Prop := Claim7.holds Tryd.pinned (.plain (OpenSpec.upto asmObjectsSpec)) asmObjectsUptoCard

/-- THE SECOND FORM's CARD OF 'vesperlaw14.AsmBranch'. -/
def asmBranchUptoCard : Claim7 := { stood := { row := asmBranchUptoRow, standIns := [], harness := (true, "f3a27f110bf0816cf381b15df705f5a0d1e3ca7c1d7e88e465df0479bf2fdf24"), looks := true }, kinds := [], alts := [], laidByText := true, laidKinds := [.data, .data, .data, .data, .data, .data], laidTests := true, laidLooks := .later }
def AsmBranchUptoCardSaid : Prop := Claim7.holds Tryd.pinned (.plain (OpenSpec.upto asmBranchSpec)) asmBranchUptoCard

/-- THE SECOND FORM's CARD OF 'vesperlaw14.AsmMore'. -/
def asmMoreUptoCard : Claim7 := { stood := { row := asmMoreUptoRow, standIns := [], harness := (true, "f3a27f110bf0816cf381b15df705f5a0d1e3ca7c1d7e88e465df0479bf2fdf24"), looks := true }, kinds := [], alts := [], laidByText := true, laidKinds := [.data, .data, .data, .data, .data, .data], laidTests := true, laidLooks := .later }
def AsmMoreUptoCardSaid : Prop := Claim7.holds Tryd.pinned (.plain (OpenSpec.upto asmMoreSpec)) asmMoreUptoCard

/-- THE SECOND FORM's CARD OF 'vesperlaw14.AsmTwo'. -/
def asmTwoUptoCard : Claim7 := { stood := { row := asmTwoUptoRow, standIns := [], harness := (true, "f3a27f110bf0816cf381b15df705f5a0d1e3ca7c1d7e88e465df0479bf2fdf24"), looks := true }, kinds := [], alts := [], laidByText := true, laidKinds := [.data, .data, .data, .data, .data, .data], laidTests := true, laidLooks := .later }
def AsmTwoUptoCardSaid : Prop := Claim7.holds Tryd.pinned (.plain (OpenSpec.upto asmTwoSpec)) asmTwoUptoCard
end Rows
end Go.Proofs.YtkpfhnogpcigaaaDoorR
