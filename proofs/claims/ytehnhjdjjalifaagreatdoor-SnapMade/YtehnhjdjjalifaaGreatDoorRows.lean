/-
  NARROWER THAN 'FOR EVERY INPUT', by the rows' own cells (each row's printed sentence says how): SnapSaves: laid · SnapLoads: laid · SnapMade: laid.
  DERIVED. THE GIVEN ROWS OF THIS SEAT. 3 by the template 'for every input the law returns true; each argument reads behind the call as it read before'; 0 by the template 'total and deterministic' (their statements: YtehnhjdjjalifaaGreatDoorTotals.lean).
  GIVEN WITH THE SEED: the statements are not yours to turn. If you find one false, say at which input.
  Laid BY PROGRAM, IN A SANDBOX (cutbox-rows.mjs): the forced cells as the released guide's own fill.sh prints them over the translation f6dd21f65201e8ad… (all of the seat's roots in one cut). By AI agents, Wed Nov 11 2026. No macro, syntax, notation, axiom, sorry.
-/
import Derived.Test.YtehnhjdjjalifaaGreatDoorChecked
import GoSem.Claim
import GoSem.ClaimJoined
import GoSem.ClaimMapViews
import Derived.JoinedTies
import Derived.KernelRfl
namespace Go.Proofs.YtehnhjdjjalifaaGreatDoor
/- THE CELL 'sum', in the pinned program and in every row, IS THE sha256 OF THE DUMP (.gsa) THAT YtehnhjdjjalifaaGreatDoorProg.lean LOADS. Nothing in Lean hashes anything: it is a label: what it is worth is what the hold of that sum in a sandbox is worth. -/
noncomputable def Tryz.pinned : Pinned := { name := "ytehnhjdjjalifaagreatdoor", sum := "f6dd21f65201e8ad48e2db394057e671e9ab9c182b82088f1943985dadf1c53b", checked := Tryz.checked }
namespace Rows
def none {H : Type} : Left H := { results := [], args := [] }

/- WHAT THE LISTED PACKAGE-LEVEL VARIABLES READ AS WHEN THE CALL BEGINS. Each datum BY PROGRAM (the guide's laid-datum.mjs) off the statement by which the dump's own 'gosem.cut.vars' lays the variable. In a bare row this is a premise. The card (YtehnhjdjjalifaaGreatDoorCards.lean) ties it to the program's text. -/
def laid_vesper_code_splitRow {H : Type} : DataW H := .agg [.lit (.int .u8 1), .lit (.int .u8 0), .lit (.int .u8 0), .lit (.int .u8 2), .lit (.int .u8 0), .lit (.int .u8 0), .lit (.int .u8 3), .lit (.int .u8 4), .lit (.int .u8 0), .lit (.int .u8 0), .lit (.int .u8 0), .lit (.int .u8 0), .lit (.int .u8 5), .lit (.int .u8 0), .lit (.int .u8 0), .lit (.int .u8 6)]
def laid_vesper_code_rowNames {H : Type} : DataW H := .agg [.lit (.string []), .lit (.string [73, 78, 67]), .lit (.string [68, 69, 67]), .lit (.string []), .lit (.string [76, 68, 65]), .lit (.string [83, 84, 82]), .lit (.string []), .lit (.string []), .lit (.string [71, 76, 79]), .lit (.string [71, 72, 73]), .lit (.string [80, 76, 79]), .lit (.string [80, 72, 73]), .lit (.string []), .lit (.string [83, 69, 80]), .lit (.string [83, 69, 88]), .lit (.string [])]
def laid_vesper_code_splitNames {H : Type} : DataW H := .agg [.agg [.lit (.string [73, 68, 76]), .lit (.string [76, 68, 78]), .lit (.string [76, 68, 78]), .lit (.string [76, 68, 78]), .lit (.string [76, 68, 78]), .lit (.string [76, 68, 78]), .lit (.string [76, 68, 78]), .lit (.string [76, 68, 78]), .lit (.string [76, 68, 78]), .lit (.string [76, 68, 78]), .lit (.string [76, 68, 78]), .lit (.string [76, 68, 78]), .lit (.string [76, 68, 78]), .lit (.string [76, 68, 78]), .lit (.string [76, 68, 78]), .lit (.string [76, 68, 78])], .agg [.lit (.string [66, 82]), .lit (.string [66, 81]), .lit (.string [66, 90]), .lit (.string [66, 68, 70]), .lit (.string [66, 49]), .lit (.string [66, 50]), .lit (.string [66, 51]), .lit (.string [66, 52]), .lit (.string [83, 75, 80]), .lit (.string [66, 78, 81]), .lit (.string [66, 78, 90]), .lit (.string [66, 78, 70]), .lit (.string [66, 78, 49]), .lit (.string [66, 78, 50]), .lit (.string [66, 78, 51]), .lit (.string [66, 78, 52])], .agg [.lit (.string [73, 82, 88]), .lit (.string [79, 85, 84]), .lit (.string [79, 85, 84]), .lit (.string [79, 85, 84]), .lit (.string [79, 85, 84]), .lit (.string [79, 85, 84]), .lit (.string [79, 85, 84]), .lit (.string [79, 85, 84]), .lit (.string [78, 85, 76]), .lit (.string [73, 78, 80]), .lit (.string [73, 78, 80]), .lit (.string [73, 78, 80]), .lit (.string [73, 78, 80]), .lit (.string [73, 78, 80]), .lit (.string [73, 78, 80]), .lit (.string [73, 78, 80])], .agg [.lit (.string [82, 69, 84]), .lit (.string [68, 73, 83]), .lit (.string [76, 68, 88, 65]), .lit (.string [83, 84, 88, 68]), .lit (.string [65, 68, 67]), .lit (.string [83, 68, 66]), .lit (.string [83, 72, 82, 67]), .lit (.string [83, 77, 66]), .lit (.string [83, 65, 86]), .lit (.string [77, 65, 82, 75]), .lit (.string [82, 69, 81]), .lit (.string [83, 69, 81]), .lit (.string [65, 68, 67, 73]), .lit (.string [83, 68, 66, 73]), .lit (.string [83, 72, 76, 67]), .lit (.string [83, 77, 66, 73])], .agg [.lit (.string [76, 66, 82]), .lit (.string [76, 66, 81]), .lit (.string [76, 66, 90]), .lit (.string [76, 66, 68, 70]), .lit (.string [78, 79, 80]), .lit (.string [76, 83, 78, 81]), .lit (.string [76, 83, 78, 90]), .lit (.string [76, 83, 78, 70]), .lit (.string [76, 83, 75, 80]), .lit (.string [76, 66, 78, 81]), .lit (.string [76, 66, 78, 90]), .lit (.string [76, 66, 78, 70]), .lit (.string [76, 83, 73, 69]), .lit (.string [76, 83, 81]), .lit (.string [76, 83, 90]), .lit (.string [76, 83, 68, 70])], .agg [.lit (.string [76, 68, 88]), .lit (.string [79, 82]), .lit (.string [65, 78, 68]), .lit (.string [88, 79, 82]), .lit (.string [65, 68, 68]), .lit (.string [83, 68]), .lit (.string [83, 72, 82]), .lit (.string [83, 77]), .lit (.string [76, 68, 73]), .lit (.string [79, 82, 73]), .lit (.string [65, 78, 73]), .lit (.string [88, 82, 73]), .lit (.string [65, 68, 73]), .lit (.string [83, 68, 73]), .lit (.string [83, 72, 76]), .lit (.string [83, 77, 73])]]
def laid_vesper_code_rowForms {H : Type} : DataW H := .agg [.lit (.int .u8 0), .lit (.int .u8 2), .lit (.int .u8 2), .lit (.int .u8 0), .lit (.int .u8 2), .lit (.int .u8 2), .lit (.int .u8 0), .lit (.int .u8 0), .lit (.int .u8 2), .lit (.int .u8 2), .lit (.int .u8 2), .lit (.int .u8 2), .lit (.int .u8 0), .lit (.int .u8 2), .lit (.int .u8 2), .lit (.int .u8 0)]
def laid_vesper_code_splitForms {H : Type} : DataW H := .agg [.agg [.lit (.int .u8 1), .lit (.int .u8 2), .lit (.int .u8 2), .lit (.int .u8 2), .lit (.int .u8 2), .lit (.int .u8 2), .lit (.int .u8 2), .lit (.int .u8 2), .lit (.int .u8 2), .lit (.int .u8 2), .lit (.int .u8 2), .lit (.int .u8 2), .lit (.int .u8 2), .lit (.int .u8 2), .lit (.int .u8 2), .lit (.int .u8 2)], .agg [.lit (.int .u8 5), .lit (.int .u8 5), .lit (.int .u8 5), .lit (.int .u8 5), .lit (.int .u8 5), .lit (.int .u8 5), .lit (.int .u8 5), .lit (.int .u8 5), .lit (.int .u8 1), .lit (.int .u8 5), .lit (.int .u8 5), .lit (.int .u8 5), .lit (.int .u8 5), .lit (.int .u8 5), .lit (.int .u8 5), .lit (.int .u8 5)], .agg [.lit (.int .u8 1), .lit (.int .u8 3), .lit (.int .u8 3), .lit (.int .u8 3), .lit (.int .u8 3), .lit (.int .u8 3), .lit (.int .u8 3), .lit (.int .u8 3), .lit (.int .u8 1), .lit (.int .u8 3), .lit (.int .u8 3), .lit (.int .u8 3), .lit (.int .u8 3), .lit (.int .u8 3), .lit (.int .u8 3), .lit (.int .u8 3)], .agg [.lit (.int .u8 1), .lit (.int .u8 1), .lit (.int .u8 1), .lit (.int .u8 1), .lit (.int .u8 1), .lit (.int .u8 1), .lit (.int .u8 1), .lit (.int .u8 1), .lit (.int .u8 1), .lit (.int .u8 1), .lit (.int .u8 1), .lit (.int .u8 1), .lit (.int .u8 4), .lit (.int .u8 4), .lit (.int .u8 1), .lit (.int .u8 4)], .agg [.lit (.int .u8 6), .lit (.int .u8 6), .lit (.int .u8 6), .lit (.int .u8 6), .lit (.int .u8 1), .lit (.int .u8 1), .lit (.int .u8 1), .lit (.int .u8 1), .lit (.int .u8 1), .lit (.int .u8 6), .lit (.int .u8 6), .lit (.int .u8 6), .lit (.int .u8 1), .lit (.int .u8 1), .lit (.int .u8 1), .lit (.int .u8 1)], .agg [.lit (.int .u8 1), .lit (.int .u8 1), .lit (.int .u8 1), .lit (.int .u8 1), .lit (.int .u8 1), .lit (.int .u8 1), .lit (.int .u8 1), .lit (.int .u8 1), .lit (.int .u8 4), .lit (.int .u8 4), .lit (.int .u8 4), .lit (.int .u8 4), .lit (.int .u8 4), .lit (.int .u8 4), .lit (.int .u8 1), .lit (.int .u8 4)]]
def laid_vesper_code_layouts {H : Type} : DataW H := .agg [.agg [.lit (.int .i64 0), .lit (.int .i64 0), .lit (.int .i64 0)], .agg [.lit (.int .i64 1), .lit (.int .i64 0), .lit (.int .i64 0)], .agg [.lit (.int .i64 1), .lit (.int .i64 1), .lit (.int .i64 15)], .agg [.lit (.int .i64 1), .lit (.int .i64 1), .lit (.int .i64 7)], .agg [.lit (.int .i64 2), .lit (.int .i64 2), .lit (.int .i64 255)], .agg [.lit (.int .i64 2), .lit (.int .i64 2), .lit (.int .i64 255)], .agg [.lit (.int .i64 3), .lit (.int .i64 4), .lit (.int .i64 65535)]]
def laid_vesper_pixie_lines {H : Type} : DataW H := .agg [.agg [.lit (.int .u8 0), .lit (.int .i64 80), .lit (.int .i64 207)], .agg [.lit (.int .u8 1), .lit (.int .i64 78), .lit (.int .i64 79)], .agg [.lit (.int .u8 2), .lit (.int .i64 76), .lit (.int .i64 79)], .agg [.lit (.int .u8 2), .lit (.int .i64 204), .lit (.int .i64 207)]]

/-- 'vesperlaw21.SnapSaves': WHATEVER THE INPUT: true; the input reads as it did. -/
def snapSavesSpec : ChangeSpec := { name := "snapSaves", fn := fun _ => fun
  | [d] => { results := [.lit (.bool true)], args := [d] }
  | _ => none }
def snapSavesRow : OpenClaim := { program := "ytehnhjdjjalifaagreatdoor", sum := "f6dd21f65201e8ad48e2db394057e671e9ab9c182b82088f1943985dadf1c53b", func := "vesper/vesperlaw21.SnapSaves", spec := "snapSaves", unfollowed := true, recurses := true, named := ["vesper/code.rowNames", "vesper/code.rowForms", "vesper/code.splitRow", "vesper/code.splitNames", "vesper/code.splitForms", "vesper/code.layouts", "vesper/pixie.lines"], apart := false, laid := [("vesper/code.splitRow", laid_vesper_code_splitRow), ("vesper/code.rowNames", laid_vesper_code_rowNames), ("vesper/code.splitNames", laid_vesper_code_splitNames), ("vesper/code.rowForms", laid_vesper_code_rowForms), ("vesper/code.splitForms", laid_vesper_code_splitForms), ("vesper/code.layouts", laid_vesper_code_layouts), ("vesper/pixie.lines", laid_vesper_pixie_lines)] }
def SnapSavesSaid : Prop := snapSavesRow.holds Tryz.pinned (OpenSpec.ofChange snapSavesSpec)

/-- ITS FALSE NEIGHBOUR: 'it returns false'. Refute it at one input. -/
def snapSavesWrong : ChangeSpec := { name := "snapSaves", fn := fun _ => fun
  | [d] => { results := [.lit (.bool false)], args := [d] }
  | _ => none }
def SnapSavesWrongFalsely : Prop := snapSavesRow.holds Tryz.pinned (OpenSpec.ofChange snapSavesWrong)

/-- 'vesperlaw21.SnapLoads': WHATEVER THE INPUT: true; the input reads as it did. -/
def snapLoadsSpec : ChangeSpec := { name := "snapLoads", fn := fun _ => fun
  | [d] => { results := [.lit (.bool true)], args := [d] }
  | _ => none }
def snapLoadsRow : OpenClaim := { program := "ytehnhjdjjalifaagreatdoor", sum := "f6dd21f65201e8ad48e2db394057e671e9ab9c182b82088f1943985dadf1c53b", func := "vesper/vesperlaw21.SnapLoads", spec := "snapLoads", unfollowed := true, recurses := true, named := ["vesper/code.rowNames", "vesper/code.rowForms", "vesper/code.splitRow", "vesper/code.splitNames", "vesper/code.splitForms", "vesper/code.layouts", "vesper/pixie.lines"], apart := false, laid := [("vesper/code.splitRow", laid_vesper_code_splitRow), ("vesper/code.rowNames", laid_vesper_code_rowNames), ("vesper/code.splitNames", laid_vesper_code_splitNames), ("vesper/code.rowForms", laid_vesper_code_rowForms), ("vesper/code.splitForms", laid_vesper_code_splitForms), ("vesper/code.layouts", laid_vesper_code_layouts), ("vesper/pixie.lines", laid_vesper_pixie_lines)] }
def SnapLoadsSaid : Prop := snapLoadsRow.holds Tryz.pinned (OpenSpec.ofChange snapLoadsSpec)

/-- ITS FALSE NEIGHBOUR: 'it returns false'. Refute it at one input. -/
def snapLoadsWrong : ChangeSpec := { name := "snapLoads", fn := fun _ => fun
  | [d] => { results := [.lit (.bool false)], args := [d] }
  | _ => none }
def SnapLoadsWrongFalsely : Prop := snapLoadsRow.holds Tryz.pinned (OpenSpec.ofChange snapLoadsWrong)

/-- 'vesperlaw21.SnapMade': WHATEVER THE INPUT: true; the input reads as it did. -/
def snapMadeSpec : ChangeSpec := { name := "snapMade", fn := fun _ => fun
  | [d1, d2, d3] => { results := [.lit (.bool true)], args := [d1, d2, d3] }
  | _ => none }
def snapMadeRow : OpenClaim := { program := "ytehnhjdjjalifaagreatdoor", sum := "f6dd21f65201e8ad48e2db394057e671e9ab9c182b82088f1943985dadf1c53b", func := "vesper/vesperlaw21.SnapMade", spec := "snapMade", unfollowed := true, recurses := true, named := ["vesper/code.rowNames", "vesper/code.rowForms", "vesper/code.splitRow", "vesper/code.splitNames", "vesper/code.splitForms", "vesper/code.layouts", "vesper/pixie.lines"], apart := false, laid := [("vesper/code.splitRow", laid_vesper_code_splitRow), ("vesper/code.rowNames", laid_vesper_code_rowNames), ("vesper/code.splitNames", laid_vesper_code_splitNames), ("vesper/code.rowForms", laid_vesper_code_rowForms), ("vesper/code.splitForms", laid_vesper_code_splitForms), ("vesper/code.layouts", laid_vesper_code_layouts), ("vesper/pixie.lines", laid_vesper_pixie_lines)] }
def SnapMadeSaid : Prop := snapMadeRow.holds Tryz.pinned (OpenSpec.ofChange snapMadeSpec)

/-- ITS FALSE NEIGHBOUR: 'it returns false'. Refute it at one input. -/
def snapMadeWrong : ChangeSpec := { name := "snapMade", fn := fun _ => fun
  | [d1, d2, d3] => { results := [.lit (.bool false)], args := [d1, d2, d3] }
  | _ => none }
def SnapMadeWrongFalsely : Prop := snapMadeRow.holds Tryz.pinned (OpenSpec.ofChange snapMadeWrong)

/- THE SECOND FORM. 'bulk': how many values and letters a reading holds, each counted each time it is reached (what is shared counts as often as it is met; a slice's spare places count too). A statement '..UptoSaid' is the law's where the arguments, and the package variables that the reading takes, are together of bulk at most 1048576: NARROWER than '..Said'. Prove '..Said' where nothing that the law and all that it calls make is longer than what came in: it says more and counts as full. Else prove '..UptoSaid'. A law counts once. -/
mutual
def uptoBulk {H : Type} : DataW H → Nat
  | .lit (.string bytes) => bytes.length + 1
  | .lit _ => 1
  | .nil => 1
  | .ptr d => uptoBulk d + 1
  | .slice elems spare => uptoBulkAll elems + uptoBulkAll spare + 1
  | .agg parts => uptoBulkAll parts + 1
  | .iface _ d => uptoBulk d + 1
  | .map entries => uptoBulkEntries entries + 1
  | .held _ => 1
def uptoBulkAll {H : Type} : List (DataW H) → Nat
  | [] => 0
  | d :: r => uptoBulk d + uptoBulkAll r
def uptoBulkEntries {H : Type} : List (Lit × DataW H) → Nat
  | [] => 0
  | x :: r => uptoBulkEntry x + uptoBulkEntries r
def uptoBulkEntry {H : Type} : Lit × DataW H → Nat
  | (.string bytes, d) => bytes.length + uptoBulk d + 1
  | (_, d) => uptoBulk d + 1
 end
def uptoSmall : (H : Type) → List (DataW H) → Bool := fun _ ds => decide (uptoBulkAll ds ≤ 1048576)
def OpenSpec.upto (s : _root_.Go.ChangeSpec) : _root_.Go.OpenSpec := { _root_.Go.OpenSpec.ofChange s with cond := some uptoSmall }

/-- 'vesperlaw21.SnapSaves', WHERE WHAT IT READS IS OF BULK AT MOST 1048576: true; the input reads as it did. -/
def snapSavesUptoRow : OpenClaim := { program := "ytehnhjdjjalifaagreatdoor", sum := "f6dd21f65201e8ad48e2db394057e671e9ab9c182b82088f1943985dadf1c53b", func := "vesper/vesperlaw21.SnapSaves", spec := "snapSaves", unfollowed := true, recurses := true, named := ["vesper/code.rowNames", "vesper/code.rowForms", "vesper/code.splitRow", "vesper/code.splitNames", "vesper/code.splitForms", "vesper/code.layouts", "vesper/pixie.lines"], apart := false, laid := [("vesper/code.splitRow", laid_vesper_code_splitRow), ("vesper/code.rowNames", laid_vesper_code_rowNames), ("vesper/code.splitNames", laid_vesper_code_splitNames), ("vesper/code.rowForms", laid_vesper_code_rowForms), ("vesper/code.splitForms", laid_vesper_code_splitForms), ("vesper/code.layouts", laid_vesper_code_layouts), ("vesper/pixie.lines", laid_vesper_pixie_lines)], narrowed := true }
def SnapSavesUptoSaid : Prop := snapSavesUptoRow.holds Tryz.pinned (OpenSpec.upto snapSavesSpec)

/-- 'vesperlaw21.SnapLoads', WHERE WHAT IT READS IS OF BULK AT MOST 1048576: true; the input reads as it did. -/
def snapLoadsUptoRow : OpenClaim := { program := "ytehnhjdjjalifaagreatdoor", sum := "f6dd21f65201e8ad48e2db394057e671e9ab9c182b82088f1943985dadf1c53b", func := "vesper/vesperlaw21.SnapLoads", spec := "snapLoads", unfollowed := true, recurses := true, named := ["vesper/code.rowNames", "vesper/code.rowForms", "vesper/code.splitRow", "vesper/code.splitNames", "vesper/code.splitForms", "vesper/code.layouts", "vesper/pixie.lines"], apart := false, laid := [("vesper/code.splitRow", laid_vesper_code_splitRow), ("vesper/code.rowNames", laid_vesper_code_rowNames), ("vesper/code.splitNames", laid_vesper_code_splitNames), ("vesper/code.rowForms", laid_vesper_code_rowForms), ("vesper/code.splitForms", laid_vesper_code_splitForms), ("vesper/code.layouts", laid_vesper_code_layouts), ("vesper/pixie.lines", laid_vesper_pixie_lines)], narrowed := true }
def SnapLoadsUptoSaid : Prop := snapLoadsUptoRow.holds Tryz.pinned (OpenSpec.upto snapLoadsSpec)

/-- 'vesperlaw21.SnapMade', WHERE WHAT IT READS IS OF BULK AT MOST 1048576: true; the input reads as it did. -/
def snapMadeUptoRow : OpenClaim := { program := "ytehnhjdjjalifaagreatdoor", sum := "f6dd21f65201e8ad48e2db394057e671e9ab9c182b82088f1943985dadf1c53b", func := "vesper/vesperlaw21.SnapMade", spec := "snapMade", unfollowed := true, recurses := true, named := ["vesper/code.rowNames", "vesper/code.rowForms", "vesper/code.splitRow", "vesper/code.splitNames", "vesper/code.splitForms", "vesper/code.layouts", "vesper/pixie.lines"], apart := false, laid := [("vesper/code.splitRow", laid_vesper_code_splitRow), ("vesper/code.rowNames", laid_vesper_code_rowNames), ("vesper/code.splitNames", laid_vesper_code_splitNames), ("vesper/code.rowForms", laid_vesper_code_rowForms), ("vesper/code.splitForms", laid_vesper_code_splitForms), ("vesper/code.layouts", laid_vesper_code_layouts), ("vesper/pixie.lines", laid_vesper_pixie_lines)], narrowed := true }
def SnapMadeUptoSaid : Prop := snapMadeUptoRow.holds Tryz.pinned (OpenSpec.upto snapMadeSpec)

end Rows
end Go.Proofs.YtehnhjdjjalifaaGreatDoor
