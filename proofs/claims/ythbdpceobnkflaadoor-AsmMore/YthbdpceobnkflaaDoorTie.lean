/-
  DERIVED. GIVEN WITH THE SEED: THE PROGRAM's TIES (one call each: nine closed facts by the kernel) AND EACH ROW's TIE, after the 31st guide's Derived/Test/Toyas{Tie, Card}.lean. No idea stands in it: it is a product of the set-up. Laid BY PROGRAM, IN A SANDBOX (cutbox-door.mjs). By AI agents, Wed Nov 11 2026. No macro, syntax, notation, axiom, sorry.
-/
import Derived.Test.YthbdpceobnkflaaDoorRows
import Derived.LaidByTextLater
import Derived.SevenTiedAt
import Derived.LaidSub
import Derived.LaidOnce
namespace Go.Proofs.YthbdpceobnkflaaDoor
open Go
set_option maxRecDepth 100000
theorem seatTie1 : Tryd.prog.laidByTextLater [("vesper/code.splitRow", Rows.laid_vesper_code_splitRow), ("vesper/code.rowNames", Rows.laid_vesper_code_rowNames), ("vesper/code.splitNames", Rows.laid_vesper_code_splitNames), ("vesper/code.rowForms", Rows.laid_vesper_code_rowForms), ("vesper/code.splitForms", Rows.laid_vesper_code_splitForms), ("vesper/code.layouts", Rows.laid_vesper_code_layouts)] [.data, .data, .data, .data, .data, .data] true :=
  Program.laidByTextLater_by_one 57 8 97 (by kernel_rfl) (by kernel_rfl) (by kernel_rfl) (by kernel_rfl) (by kernel_rfl) (by kernel_rfl) (fun _ _ => by kernel_rfl)
theorem noOwnUnsafe : Tryd.pinned.checked.prog.headLifts.contains "ownunsafe" = false := by kernel_rfl
theorem tie : Tryd.prog.laidByTextLater [("vesper/code.splitRow", Rows.laid_vesper_code_splitRow), ("vesper/code.rowNames", Rows.laid_vesper_code_rowNames), ("vesper/code.splitNames", Rows.laid_vesper_code_splitNames), ("vesper/code.rowForms", Rows.laid_vesper_code_rowForms), ("vesper/code.splitForms", Rows.laid_vesper_code_splitForms), ("vesper/code.layouts", Rows.laid_vesper_code_layouts)] [.data, .data, .data, .data, .data, .data] true :=
  Program.laidByTextLater.sub seatTie1 ["vesper/code.splitRow", "vesper/code.rowNames", "vesper/code.splitNames", "vesper/code.rowForms", "vesper/code.splitForms", "vesper/code.layouts"] (by kernel_rfl) (by kernel_rfl)
theorem asmLays_row_tie : Rows.asmLaysRow.laidByTextAt .later Tryd.pinned [.data, .data, .data, .data, .data, .data] true :=
  OpenClaim.laidByTextAt_later rfl rfl tie noOwnUnsafe
theorem asmMore_row_tie : Rows.asmMoreRow.laidByTextAt .later Tryd.pinned [.data, .data, .data, .data, .data, .data] true :=
  OpenClaim.laidByTextAt_later rfl rfl tie noOwnUnsafe
theorem asmTwo_row_tie : Rows.asmTwoRow.laidByTextAt .later Tryd.pinned [.data, .data, .data, .data, .data, .data] true :=
  OpenClaim.laidByTextAt_later rfl rfl tie noOwnUnsafe
theorem asmLaysUpto_row_tie : Rows.asmLaysUptoRow.laidByTextAt .later Tryd.pinned [.data, .data, .data, .data, .data, .data] true :=
  OpenClaim.laidByTextAt_later rfl rfl tie noOwnUnsafe
theorem asmMoreUpto_row_tie : Rows.asmMoreUptoRow.laidByTextAt .later Tryd.pinned [.data, .data, .data, .data, .data, .data] true :=
  OpenClaim.laidByTextAt_later rfl rfl tie noOwnUnsafe
theorem asmTwoUpto_row_tie : Rows.asmTwoUptoRow.laidByTextAt .later Tryd.pinned [.data, .data, .data, .data, .data, .data] true :=
  OpenClaim.laidByTextAt_later rfl rfl tie noOwnUnsafe
end Go.Proofs.YthbdpceobnkflaaDoor
