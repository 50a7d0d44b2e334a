/-
  DERIVED. GIVEN WITH THE SEED: THE PROGRAM's TIES (one call each: nine closed facts by the kernel) AND EACH ROW's TIE, after the 31st guide's Derived/Test/Toyas{Tie, Card}.lean. No idea stands in it: it is a product of the set-up. Laid BY PROGRAM, IN A SANDBOX (cutbox-door.mjs). By AI agents, Wed Nov 11 2026. No macro, syntax, notation, axiom, sorry.
-/
import Derived.Test.YtbllnjifmcodbaaDoorRows
import Derived.LaidByTextLater
import Derived.SevenTiedAt
import Derived.LaidSub
import Derived.LaidOnce
namespace Go.Proofs.YtbllnjifmcodbaaDoor
open Go
set_option maxRecDepth 100000
theorem seatTie1 : Tryd.prog.laidByTextLater [("vesper/code.splitRow", Rows.laid_vesper_code_splitRow), ("vesper/code.rowNames", Rows.laid_vesper_code_rowNames), ("vesper/code.splitNames", Rows.laid_vesper_code_splitNames), ("vesper/code.rowForms", Rows.laid_vesper_code_rowForms), ("vesper/code.splitForms", Rows.laid_vesper_code_splitForms), ("vesper/code.layouts", Rows.laid_vesper_code_layouts), ("vesper/code.uses", Rows.laid_vesper_code_uses), ("vesper/code.rowUses", Rows.laid_vesper_code_rowUses), ("vesper/code.splitUses", Rows.laid_vesper_code_splitUses)] [.data, .data, .data, .data, .data, .data, .data, .data, .data] true :=
  Program.laidByTextLater_by_one 90 8 97 (by kernel_rfl) (by kernel_rfl) (by kernel_rfl) (by kernel_rfl) (by kernel_rfl) (by kernel_rfl) (fun _ _ => by kernel_rfl)
theorem seatTie2 : Tryd.prog.laidByTextLater [("vesper/code.splitRow", Rows.laid_vesper_code_splitRow), ("vesper/code.rowNames", Rows.laid_vesper_code_rowNames), ("vesper/code.splitNames", Rows.laid_vesper_code_splitNames), ("vesper/code.rowForms", Rows.laid_vesper_code_rowForms), ("vesper/code.splitForms", Rows.laid_vesper_code_splitForms), ("vesper/code.layouts", Rows.laid_vesper_code_layouts)] [.data, .data, .data, .data, .data, .data] true :=
  Program.laidByTextLater_by_one 90 8 97 (by kernel_rfl) (by kernel_rfl) (by kernel_rfl) (by kernel_rfl) (by kernel_rfl) (by kernel_rfl) (fun _ _ => by kernel_rfl)
theorem noOwnUnsafe : Tryd.pinned.checked.prog.headLifts.contains "ownunsafe" = false := by kernel_rfl
theorem tie : Tryd.prog.laidByTextLater [("vesper/code.splitRow", Rows.laid_vesper_code_splitRow), ("vesper/code.rowNames", Rows.laid_vesper_code_rowNames), ("vesper/code.splitNames", Rows.laid_vesper_code_splitNames), ("vesper/code.rowForms", Rows.laid_vesper_code_rowForms), ("vesper/code.splitForms", Rows.laid_vesper_code_splitForms), ("vesper/code.layouts", Rows.laid_vesper_code_layouts), ("vesper/code.uses", Rows.laid_vesper_code_uses), ("vesper/code.rowUses", Rows.laid_vesper_code_rowUses), ("vesper/code.splitUses", Rows.laid_vesper_code_splitUses)] [.data, .data, .data, .data, .data, .data, .data, .data, .data] true :=
  Program.laidByTextLater.sub seatTie1 ["vesper/code.splitRow", "vesper/code.rowNames", "vesper/code.splitNames", "vesper/code.rowForms", "vesper/code.splitForms", "vesper/code.layouts", "vesper/code.uses", "vesper/code.rowUses", "vesper/code.splitUses"] (by kernel_rfl) (by kernel_rfl)
theorem codeOps_row_tie : Rows.codeOpsRow.laidByTextAt .later Tryd.pinned [.data, .data, .data, .data, .data, .data, .data, .data, .data] true :=
  OpenClaim.laidByTextAt_later rfl rfl tie noOwnUnsafe
theorem codeExact_row_tie : Rows.codeExactRow.laidByTextAt .later Tryd.pinned [.data, .data, .data, .data, .data, .data, .data, .data, .data] true :=
  OpenClaim.laidByTextAt_later rfl rfl tie noOwnUnsafe
theorem tie2 : Tryd.prog.laidByTextLater [("vesper/code.splitRow", Rows.laid_vesper_code_splitRow), ("vesper/code.rowNames", Rows.laid_vesper_code_rowNames), ("vesper/code.splitNames", Rows.laid_vesper_code_splitNames), ("vesper/code.rowForms", Rows.laid_vesper_code_rowForms), ("vesper/code.splitForms", Rows.laid_vesper_code_splitForms), ("vesper/code.layouts", Rows.laid_vesper_code_layouts)] [.data, .data, .data, .data, .data, .data] true :=
  Program.laidByTextLater.sub seatTie2 ["vesper/code.splitRow", "vesper/code.rowNames", "vesper/code.splitNames", "vesper/code.rowForms", "vesper/code.splitForms", "vesper/code.layouts"] (by kernel_rfl) (by kernel_rfl)
theorem codeCuts_row_tie : Rows.codeCutsRow.laidByTextAt .later Tryd.pinned [.data, .data, .data, .data, .data, .data] true :=
  OpenClaim.laidByTextAt_later rfl rfl tie2 noOwnUnsafe
theorem codeThere_row_tie : Rows.codeThereRow.laidByTextAt .later Tryd.pinned [.data, .data, .data, .data, .data, .data] true :=
  OpenClaim.laidByTextAt_later rfl rfl tie2 noOwnUnsafe
theorem codeLines_row_tie : Rows.codeLinesRow.laidByTextAt .later Tryd.pinned [.data, .data, .data, .data, .data, .data] true :=
  OpenClaim.laidByTextAt_later rfl rfl tie2 noOwnUnsafe
theorem codeOpsUpto_row_tie : Rows.codeOpsUptoRow.laidByTextAt .later Tryd.pinned [.data, .data, .data, .data, .data, .data, .data, .data, .data] true :=
  OpenClaim.laidByTextAt_later rfl rfl tie noOwnUnsafe
theorem codeExactUpto_row_tie : Rows.codeExactUptoRow.laidByTextAt .later Tryd.pinned [.data, .data, .data, .data, .data, .data, .data, .data, .data] true :=
  OpenClaim.laidByTextAt_later rfl rfl tie noOwnUnsafe
theorem codeCutsUpto_row_tie : Rows.codeCutsUptoRow.laidByTextAt .later Tryd.pinned [.data, .data, .data, .data, .data, .data] true :=
  OpenClaim.laidByTextAt_later rfl rfl tie2 noOwnUnsafe
theorem codeThereUpto_row_tie : Rows.codeThereUptoRow.laidByTextAt .later Tryd.pinned [.data, .data, .data, .data, .data, .data] true :=
  OpenClaim.laidByTextAt_later rfl rfl tie2 noOwnUnsafe
theorem codeLinesUpto_row_tie : Rows.codeLinesUptoRow.laidByTextAt .later Tryd.pinned [.data, .data, .data, .data, .data, .data] true :=
  OpenClaim.laidByTextAt_later rfl rfl tie2 noOwnUnsafe
end Go.Proofs.YtbllnjifmcodbaaDoor
