/-
  NARROWER THAN 'FOR EVERY INPUT', by the rows' own cells (each row's printed sentence says how): InterBounds: laid.
  DERIVED. THE GIVEN ROWS OF THIS SEAT. 1 by the template 'for every input the law returns true; each argument reads behind the call as it read before'; 0 by the template 'total and deterministic' (their statements: YtdbdcehdlegdiaaDoorTotals.lean).
  GIVEN WITH THE SEED: the statements are not yours to turn. If you find one false, say at which input.
  Laid BY PROGRAM, IN A SANDBOX (cutbox-rows.mjs): the forced cells as the released guide's own fill.sh prints them over the translation 1a2a105f5bc2796e… (all of the seat's roots in one cut). By AI agents, Wed Nov 11 2026. No macro, syntax, notation, axiom, sorry.
-/
import Derived.Test.YtdbdcehdlegdiaaDoorChecked
import GoSem.Claim
import GoSem.ClaimJoined
import GoSem.ClaimMapViews
import Derived.JoinedTies
import Derived.KernelRfl
namespace Go.Proofs.YtdbdcehdlegdiaaDoor
/- THE CELL 'sum', in the pinned program and in every row, IS THE sha256 OF THE DUMP (.gsa) THAT YtdbdcehdlegdiaaDoorProg.lean LOADS. Nothing in Lean hashes anything: it is a label: what it is worth is what the hold of that sum in a sandbox is worth. -/
noncomputable def Tryd.pinned : Pinned := { name := "ytdbdcehdlegdiaadoor", sum := "1a2a105f5bc2796ec358d6cd8e8d2166687314013659c84209eb284c3704404e", checked := Tryd.checked }
namespace Rows
def none {H : Type} : Left H := { results := [], args := [] }

/- WHAT THE LISTED PACKAGE-LEVEL VARIABLES READ AS WHEN THE CALL BEGINS. Each datum BY PROGRAM (the guide's laid-datum.mjs) off the statement by which the dump's own 'gosem.cut.vars' lays the variable. In a bare row this is a premise. The card (YtdbdcehdlegdiaaDoorCards.lean) ties it to the program's text. -/
def laid_vesper_inter_bounds {H : Type} : DataW H := .agg [.lit (.int .i64 0), .lit (.int .i64 0), .lit (.int .i64 6336), .lit (.int .i64 1944), .lit (.int .i64 1924), .lit (.int .i64 1944), .lit (.int .i64 1924), .lit (.int .i64 1924), .lit (.int .i64 1928), .lit (.int .i64 1918), .lit (.int .i64 1920), .lit (.int .i64 1932), .lit (.int .i64 1954), .lit (.int .i64 1954), .lit (.int .i64 1954), .lit (.int .i64 1954), .lit (.int .i64 1928), .lit (.int .i64 1922), .lit (.int .i64 1934), .lit (.int .i64 1938), .lit (.int .i64 7018), .lit (.int .i64 1928), .lit (.int .i64 1932), .lit (.int .i64 1924), .lit (.int .i64 2124), .lit (.int .i64 1932), .lit (.int .i64 1936), .lit (.int .i64 1948), .lit (.int .i64 1962), .lit (.int .i64 2266), .lit (.int .i64 2372), .lit (.int .i64 2218)]

/-- 'vesperlaw20.InterBounds': WHATEVER THE INPUT: true; the input reads as it did. -/
def interBoundsSpec : ChangeSpec := { name := "interBounds", fn := fun _ => fun
  | [d1, d2] => { results := [.lit (.bool true)], args := [d1, d2] }
  | _ => none }
def interBoundsRow : OpenClaim := { program := "ytdbdcehdlegdiaadoor", sum := "1a2a105f5bc2796ec358d6cd8e8d2166687314013659c84209eb284c3704404e", func := "vesper/vesperlaw20.InterBounds", spec := "interBounds", unfollowed := true, recurses := true, named := ["vesper/inter.bounds"], apart := false, laid := [("vesper/inter.bounds", laid_vesper_inter_bounds)] }
def InterBoundsSaid : Prop := interBoundsRow.holds Tryd.pinned (OpenSpec.ofChange interBoundsSpec)

/-- ITS FALSE NEIGHBOUR: 'it returns false'. Refute it at one input. -/
def interBoundsWrong : ChangeSpec := { name := "interBounds", fn := fun _ => fun
  | [d1, d2] => { results := [.lit (.bool false)], args := [d1, d2] }
  | _ => none }
def InterBoundsWrongFalsely : Prop := interBoundsRow.holds Tryd.pinned (OpenSpec.ofChange interBoundsWrong)

/- THE SECOND FORM. 'bulk': how many values and letters a reading holds, each counted each time it is reached (what is shared counts as often as it is met; a slice's spare places count too). A statement '..UptoSaid' is the law's where the arguments, and the package variables that the reading takes, are together of bulk at most 1048576: NARROWER than '..Said'. Prove '..Said' where nothing that the law and all that it calls make is longer than what came in: it says more and counts as full. Else prove '..UptoSaid'. A law counts once. -/
mutual
def uptoBulk {H : Type} : DataW H → Nat
  | .lit (.string bytes) => bytes.length + 1
  | .lit _ => 1
  | .nil => 1
  | .ptr d => uptoBulk d + 1
  | .slice elems spare => uptoBulkAll elems + uptoBulkAll spare + 1
  | .agg parts => uptoBulkAll parts + 1
  | .iface _ d => uptoBulk d + 1
  | .map entries => uptoBulkEntries entries + 1
  | .held _ => 1
def uptoBulkAll {H : Type} : List (DataW H) → Nat
  | [] => 0
  | d :: r => uptoBulk d + uptoBulkAll r
def uptoBulkEntries {H : Type} : List (Lit × DataW H) → Nat
  | [] => 0
  | x :: r => uptoBulkEntry x + uptoBulkEntries r
def uptoBulkEntry {H : Type} : Lit × DataW H → Nat
  | (.string bytes, d) => bytes.length + uptoBulk d + 1
  | (_, d) => uptoBulk d + 1
 end
def uptoSmall : (H : Type) → List (DataW H) → Bool := fun _ ds => decide (uptoBulkAll ds ≤ 1048576)
def OpenSpec.upto (s : _root_.Go.ChangeSpec) : _root_.Go.OpenSpec := { _root_.Go.OpenSpec.ofChange s with cond := some uptoSmall }

/-- 'vesperlaw20.InterBounds', WHERE WHAT IT READS IS OF BULK AT MOST 1048576: true; the input reads as it did. -/
def interBoundsUptoRow : OpenClaim := { program := "ytdbdcehdlegdiaadoor", sum := "1a2a105f5bc2796ec358d6cd8e8d2166687314013659c84209eb284c3704404e", func := "vesper/vesperlaw20.InterBounds", spec := "interBounds", unfollowed := true, recurses := true, named := ["vesper/inter.bounds"], apart := false, laid := [("vesper/inter.bounds", laid_vesper_inter_bounds)], narrowed := true }
def InterBoundsUptoSaid : Prop := interBoundsUptoRow.holds Tryd.pinned (OpenSpec.upto interBoundsSpec)

end Rows
end Go.Proofs.YtdbdcehdlegdiaaDoor
