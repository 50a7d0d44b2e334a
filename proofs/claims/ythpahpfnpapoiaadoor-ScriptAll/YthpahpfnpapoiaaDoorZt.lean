/- The listed tables: what they hold. -/
import Derived.Test.YthpahpfnpapoiaaDoorRows
import Derived.Test.YthpahpfnpapoiaaDoorTab
import Derived.Test.YthpahpfnpapoiaaDoorXt
import Derived.Stop.LaidErr
import Derived.Shelf.Vars
namespace Go.Proofs.YthpahpfnpapoiaaDoor
open Go Go.RowKit

def theLaid : List (String × DataW Unit) := [("math/bits.deBruijn32tab", Rows.laid_math_bits_deBruijn32tab), ("math/bits.deBruijn64tab", Rows.laid_math_bits_deBruijn64tab), ("internal/strconv.uint64pow10", Rows.laid_internal_strconv_uint64pow10), ("unicode/utf8.acceptRanges", Rows.laid_unicode_utf8_acceptRanges), ("strconv.ErrRange", Rows.laid_strconv_ErrRange), ("strconv.ErrSyntax", Rows.laid_strconv_ErrSyntax), ("vesper/script.parts", Rows.laid_vesper_script_parts), ("unicode/utf8.first", Rows.laid_unicode_utf8_first)]
abbrev Tabs (w : World) : Prop := Tp w
theorem ru64 : Reads Tryd.prog 105 cell1 := reads_int (k := .u64) (by kernel_rfl)
theorem rpow : Reads Tryd.prog 119 (parts cell1) := reads_array (n := 20) (by kernel_rfl) (by kernel_rfl) ru64
theorem rstr : Reads Tryd.prog 9 cell1 := reads_string (by kernel_rfl)
theorem rint64 : Reads Tryd.prog 3 cell1 := reads_int (k := .i64) (by kernel_rfl)
theorem reads_struct' {P : Program} {t : TypeId} {fs : Array Field} {f : DataW Unit → List Value} (L : List (Nat × Nat)) (h : P.underlying t = some (.struct fs)) (hL : (fs.toList.map fun x => (x.offset, P.cellsOf x.type)) = L)
    (ho : (List.range L.length).all (fun i => (L[i]?.map (·.1)) == some ((L.take i).map (·.2)).sum) = true)
    (hc : P.cellsOf t = (L.map (·.2)).sum) (hf : ∀ x ∈ fs.toList, Reads P x.type f) : Reads P t (parts f) := by
  refine reads_struct h ?_ (by rw [hL]; exact hc) hf
  rw [hL]
  intro i x hx
  have hi : i < L.length := by
    rcases Nat.lt_or_ge i L.length with h | h
    · exact h
    · rw [List.getElem?_eq_none h] at hx; cases hx
  have := List.all_eq_true.1 ho i (List.mem_range.2 hi)
  rw [hx] at this
  simp at this
  simp [this]
theorem rpart : Reads Tryd.prog 77 (parts cell1) := reads_struct' [(0, 1), (1, 1)] Tryd.underlying77 (by kernel_rfl) (by decide) (by kernel_rfl) (by
  intro x hx
  simp at hx
  rcases hx with rfl | rfl
  · exact rstr
  · exact rint64)
theorem rparts : Reads Tryd.prog 78 (parts (parts cell1)) := reads_array (n := 9) (by kernel_rfl) (by kernel_rfl) rpart
theorem star : "*" ++ "errors.errorString" = "*errors.errorString" := by decide
theorem errRow (u : TypeId) (h : Tryd.prog.typeName? 3 u = some "*errors.errorString") : u = 138 :=
  typeName_ptr_named (nm := "errors.errorString") (by rw [star]; kernel_rfl) (by kernel_rfl) (by decide) u (by rw [star]; exact h)
theorem tabs_of {W : World} (hL : laidMet Tryd.prog theLaid W) (hsh : W.ShapedOpen Tryd.prog) : Tabs W := by
  have hL4 := hL.tail.tail.tail.tail
  have gR : Tryd.prog.globalNamed "strconv.ErrRange" = some 4 := by kernel_rfl
  have gS : Tryd.prog.globalNamed "strconv.ErrSyntax" = some 3 := by kernel_rfl
  obtain ⟨a0, s0, hv0, -, -, -⟩ := laid_sentinel hL4 gR (ti := 60) (by kernel_rfl) Tryd.underlying60 errRow Tryd.underlying138 Tryd.underlying140 rfl rfl Tryd.underlying9 (by kernel_rfl) (by kernel_rfl)
  obtain ⟨a1, s1, hv1, -, -, -⟩ := laid_sentinel hL4.tail gS (ti := 60) (by kernel_rfl) Tryd.underlying60 errRow Tryd.underlying138 Tryd.underlying140 rfl rfl Tryd.underlying9 (by kernel_rfl) (by kernel_rfl)
  obtain ⟨ps, h, _⟩ := hL
  have g0 : Tryd.prog.globalNamed "internal/strconv.uint64pow10" = some 2 := by kernel_rfl
  have v0 := var_of_laid g0 (t := 119) (by kernel_rfl) rpow h (d := Rows.laid_internal_strconv_uint64pow10) (by simp [theLaid])
  have g1 : Tryd.prog.globalNamed "vesper/script.parts" = some 0 := by kernel_rfl
  have v1 := var_of_laid g1 (t := 78) (by kernel_rfl) rparts h (d := Rows.laid_vesper_script_parts) (by simp [theLaid])
  have e1 : (parts (parts cell1) Rows.laid_vesper_script_parts).toArray = partC := by kernel_rfl
  rw [e1] at v1
  have c1 : W.cell? ⟨3, 0, none⟩ = some (.iface 138 (.pointer (some a1))) := by
    have h0 := World.var?_cell gS hv1 0
    simpa using h0
  have c0 : W.cell? ⟨4, 0, none⟩ = some (.iface 138 (.pointer (some a0))) := by
    have h0 := World.var?_cell gR hv0 0
    simpa using h0
  exact ⟨v0.trans (by kernel_rfl), cell_of_shapedOpen_int hsh (g := 1) (t := 3) (zero := #[.int .i64 0]) (of_decide_eq_true (by kernel_rfl)) (by kernel_rfl) rfl (by kernel_rfl) (by kernel_rfl) Tryd.underlying3, ⟨_, _, c1⟩, ⟨_, _, c0⟩, fun i v hv => (World.var?_cell g1 v1 i).trans hv⟩
/-- A world in which the listed tables stand. -/
def putCells (cs : List Value) : Obj → Obj
  | .cells _ t frozen => .cells cs.toArray t frozen
  | o => o
def laidWorld (P : Program) (os : Os) : World :=
  { World.holding P os ⟨#[.cells #[.string ⟨#[118, 97, 108, 117, 101, 32, 111, 117, 116, 32, 111, 102, 32, 114, 97, 110, 103, 101]⟩] 140, .cells #[.string ⟨#[105, 110, 118, 97, 108, 105, 100, 32, 115, 121, 110, 116, 97, 120]⟩] 140], #[], []⟩ with
    heap := ((((((((World.holding P os ⟨#[.cells #[.string ⟨#[118, 97, 108, 117, 101, 32, 111, 117, 116, 32, 111, 102, 32, 114, 97, 110, 103, 101]⟩] 140, .cells #[.string ⟨#[105, 110, 118, 97, 108, 105, 100, 32, 115, 121, 110, 116, 97, 120]⟩] 140], #[], []⟩).heap.modify 2 (putCells (parts cell1 Rows.laid_internal_strconv_uint64pow10))).modify 7 (putCells (parts cell1 Rows.laid_math_bits_deBruijn32tab))).modify 8 (putCells (parts cell1 Rows.laid_math_bits_deBruijn64tab))).modify 6 (putCells (parts (parts cell1) Rows.laid_unicode_utf8_acceptRanges))).modify 5 (putCells (parts cell1 Rows.laid_unicode_utf8_first))).modify 0 (putCells (parts (parts cell1) Rows.laid_vesper_script_parts))).modify 4 (putCells [.iface 138 (.pointer (some ⟨14, 0, none⟩))])).modify 3 (putCells [.iface 138 (.pointer (some ⟨15, 0, none⟩))]) }
end Go.Proofs.YthpahpfnpapoiaaDoor
