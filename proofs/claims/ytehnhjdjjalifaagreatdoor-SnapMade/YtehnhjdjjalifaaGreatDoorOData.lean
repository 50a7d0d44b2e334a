/- The tables of package code as plain lists, and what the program's listed variables hold. -/
import Derived.Test.YtehnhjdjjalifaaGreatDoorRows
import Derived.Test.YtehnhjdjjalifaaGreatDoorTab
import Derived.Below
import Derived.FnData
import Derived.WalkKit
namespace Go.Proofs.YtehnhjdjjalifaaGreatDoor
open Go Go.RowKit
def rowNmL : List (List UInt8) := [[], [73, 78, 67], [68, 69, 67], [], [76, 68, 65], [83, 84, 82], [], [], [71, 76, 79], [71, 72, 73], [80, 76, 79], [80, 72, 73], [], [83, 69, 80], [83, 69, 88], []]
def splNmL : List (List UInt8) := [[73, 68, 76], [76, 68, 78], [76, 68, 78], [76, 68, 78], [76, 68, 78], [76, 68, 78], [76, 68, 78], [76, 68, 78], [76, 68, 78], [76, 68, 78], [76, 68, 78], [76, 68, 78], [76, 68, 78], [76, 68, 78], [76, 68, 78], [76, 68, 78], [66, 82], [66, 81], [66, 90], [66, 68, 70], [66, 49], [66, 50], [66, 51], [66, 52], [83, 75, 80], [66, 78, 81], [66, 78, 90], [66, 78, 70], [66, 78, 49], [66, 78, 50], [66, 78, 51], [66, 78, 52], [73, 82, 88], [79, 85, 84], [79, 85, 84], [79, 85, 84], [79, 85, 84], [79, 85, 84], [79, 85, 84], [79, 85, 84], [78, 85, 76], [73, 78, 80], [73, 78, 80], [73, 78, 80], [73, 78, 80], [73, 78, 80], [73, 78, 80], [73, 78, 80], [82, 69, 84], [68, 73, 83], [76, 68, 88, 65], [83, 84, 88, 68], [65, 68, 67], [83, 68, 66], [83, 72, 82, 67], [83, 77, 66], [83, 65, 86], [77, 65, 82, 75], [82, 69, 81], [83, 69, 81], [65, 68, 67, 73], [83, 68, 66, 73], [83, 72, 76, 67], [83, 77, 66, 73], [76, 66, 82], [76, 66, 81], [76, 66, 90], [76, 66, 68, 70], [78, 79, 80], [76, 83, 78, 81], [76, 83, 78, 90], [76, 83, 78, 70], [76, 83, 75, 80], [76, 66, 78, 81], [76, 66, 78, 90], [76, 66, 78, 70], [76, 83, 73, 69], [76, 83, 81], [76, 83, 90], [76, 83, 68, 70], [76, 68, 88], [79, 82], [65, 78, 68], [88, 79, 82], [65, 68, 68], [83, 68], [83, 72, 82], [83, 77], [76, 68, 73], [79, 82, 73], [65, 78, 73], [88, 82, 73], [65, 68, 73], [83, 68, 73], [83, 72, 76], [83, 77, 73]]
def sprL : List Nat := [1, 0, 0, 2, 0, 0, 3, 4, 0, 0, 0, 0, 5, 0, 0, 6]
def rowFmL : List Nat := [0, 2, 2, 0, 2, 2, 0, 0, 2, 2, 2, 2, 0, 2, 2, 0]
def splFmL : List Nat := [1, 2, 2, 2, 2, 2, 2, 2, 2, 2, 2, 2, 2, 2, 2, 2, 5, 5, 5, 5, 5, 5, 5, 5, 1, 5, 5, 5, 5, 5, 5, 5, 1, 3, 3, 3, 3, 3, 3, 3, 1, 3, 3, 3, 3, 3, 3, 3, 1, 1, 1, 1, 1, 1, 1, 1, 1, 1, 1, 1, 4, 4, 1, 4, 6, 6, 6, 6, 1, 1, 1, 1, 1, 6, 6, 6, 1, 1, 1, 1, 1, 1, 1, 1, 1, 1, 1, 1, 4, 4, 4, 4, 4, 4, 1, 4]
def layL : List Nat := [0, 0, 0, 1, 0, 0, 1, 1, 15, 1, 1, 7, 2, 2, 255, 2, 2, 255, 3, 4, 65535]
def rowUsL : List Nat := [0, 0, 0, 0, 1, 2, 0, 0, 3, 3, 3, 3, 0, 3, 3, 0]
def splUsL : List Nat := [11, 1, 1, 1, 1, 1, 1, 1, 1, 1, 1, 1, 1, 1, 1, 1, 9, 9, 9, 9, 9, 9, 9, 9, 9, 9, 9, 9, 9, 9, 9, 9, 5, 5, 5, 5, 5, 5, 5, 5, 4, 7, 7, 7, 7, 7, 7, 7, 5, 5, 5, 6, 5, 5, 4, 5, 6, 10, 8, 8, 9, 9, 8, 9, 9, 9, 9, 9, 9, 9, 9, 9, 9, 9, 9, 9, 9, 9, 9, 9, 5, 5, 5, 5, 5, 5, 4, 5, 9, 9, 9, 9, 9, 9, 8, 9]
def useL : List (Nat × Bool × Bool × Bool) := [(0, false, false, false), (0, true, false, false), (0, false, true, true), (0, false, false, true), (1, false, false, false), (1, true, false, false), (1, false, true, true), (1, false, true, false), (2, false, false, false), (2, true, false, false), (3, false, true, true), (4, true, false, false)]

def rowNm (i : Nat) : ByteArray := ⟨(rowNmL.getD i []).toArray⟩
def spr (i : Nat) : Nat := sprL.getD i 0
def rowFm (i : Nat) : Nat := rowFmL.getD i 0
def splFm (i : Nat) : Nat := splFmL.getD i 0
def lay (i : Nat) : Nat := layL.getD i 0
def rowUs (i : Nat) : Nat := rowUsL.getD i 0
def splUs (i : Nat) : Nat := splUsL.getD i 0
def useN (i : Nat) : Nat := (useL.getD i (0, false, false, false)).1
def useR (i : Nat) : Bool := (useL.getD i (0, false, false, false)).2.1
def useW (i : Nat) : Bool := (useL.getD i (0, false, false, false)).2.2.1
def useO (i : Nat) : Bool := (useL.getD i (0, false, false, false)).2.2.2
def splNm (i : Nat) : ByteArray := ⟨(splNmL.getD i []).toArray⟩

/-- What the six tables of names and forms hold. -/
structure Tabs (w : World) : Prop where
  rn : ∀ i : Nat, i < 16 → w.cell? ⟨1, i, none⟩ = some (.string (rowNm i))
  rf : ∀ i : Nat, i < 16 → w.cell? ⟨2, i, none⟩ = some (.int .u8 (rowFm i : Nat))
  sr : ∀ i : Nat, i < 16 → w.cell? ⟨3, i, none⟩ = some (.int .u8 (spr i : Nat))
  sn : ∀ i : Nat, i < 96 → w.cell? ⟨4, i, none⟩ = some (.string (splNm i))
  sf : ∀ i : Nat, i < 96 → w.cell? ⟨5, i, none⟩ = some (.int .u8 (splFm i : Nat))
  ly : ∀ i : Nat, i < 21 → w.cell? ⟨6, i, none⟩ = some (.int .i64 (lay i : Nat))
  size : 1 < w.heap.size ∧ 2 < w.heap.size ∧ 3 < w.heap.size ∧ 4 < w.heap.size ∧ 5 < w.heap.size ∧ 6 < w.heap.size
theorem Tabs.below {w w' : World} (h : Tabs w) (hb : Below w.heap.size w w') : Tabs w' := by
  have hs := h.size
  exact ⟨fun i hi => (hb.cell (show 1 < w.heap.size by omega)).trans (h.rn i hi), fun i hi => (hb.cell (show 2 < w.heap.size by omega)).trans (h.rf i hi),
    fun i hi => (hb.cell (show 3 < w.heap.size by omega)).trans (h.sr i hi), fun i hi => (hb.cell (show 4 < w.heap.size by omega)).trans (h.sn i hi),
    fun i hi => (hb.cell (show 5 < w.heap.size by omega)).trans (h.sf i hi), fun i hi => (hb.cell (show 6 < w.heap.size by omega)).trans (h.ly i hi), by have := hb.size; omega⟩
theorem r9 : Reads Tryz.prog 9 cell1 := reads_string Tryz.underlying9
theorem r5 : Reads Tryz.prog 5 cell1 := reads_int Tryz.underlying5
theorem r22 : Reads Tryz.prog 108 cell1 := reads_int (k := .u8) (by kernel_rfl)
theorem r3 : Reads Tryz.prog 3 cell1 := reads_int (k := .i64) (by kernel_rfl)
theorem r4 : Reads Tryz.prog 4 cell1 := reads_bool (by kernel_rfl)
theorem r59 : Reads Tryz.prog 115 (parts cell1) := reads_array (n := 16) (e := 9) (by kernel_rfl) (by kernel_rfl) r9
theorem r60 : Reads Tryz.prog 116 (parts cell1) := reads_array (n := 16) (e := 108) (by kernel_rfl) (by kernel_rfl) r22
theorem r61 : Reads Tryz.prog 117 (parts cell1) := reads_array (n := 16) (e := 5) (by kernel_rfl) (by kernel_rfl) r5
theorem r62 : Reads Tryz.prog 118 (parts (parts cell1)) := reads_array (n := 6) (e := 115) (by kernel_rfl) (by kernel_rfl) r59
theorem r63 : Reads Tryz.prog 119 (parts (parts cell1)) := reads_array (n := 6) (e := 116) (by kernel_rfl) (by kernel_rfl) r60
theorem reads_struct' {P : Program} {t : TypeId} {fs : Array Field} {f : DataW Unit → List Value} (L : List (Nat × Nat)) (h : P.underlying t = some (.struct fs)) (hL : (fs.toList.map fun x => (x.offset, P.cellsOf x.type)) = L)
    (ho : (List.range L.length).all (fun i => (L[i]?.map (·.1)) == some ((L.take i).map (·.2)).sum) = true)
    (hc : P.cellsOf t = (L.map (·.2)).sum) (hf : ∀ x ∈ fs.toList, Reads P x.type f) : Reads P t (parts f) := by
  refine reads_struct h ?_ (by rw [hL]; exact hc) hf
  rw [hL]
  intro i x hx
  have hi : i < L.length := by
    rcases Nat.lt_or_ge i L.length with h | h
    · exact h
    · rw [List.getElem?_eq_none h] at hx; cases hx
  have := List.all_eq_true.1 ho i (List.mem_range.2 hi)
  rw [hx] at this
  simp at this
  simp [this]
theorem r65 : Reads Tryz.prog 121 (parts cell1) := reads_struct' [(0, 1), (1, 1), (2, 1)] Tryz.underlying121 (by kernel_rfl) (by decide) (by kernel_rfl) (by
  intro x hx
  simp at hx
  rcases hx with rfl | rfl | rfl <;> exact r3)
theorem r66 : Reads Tryz.prog 122 (parts (parts cell1)) := reads_array (n := 7) (e := 121) (by kernel_rfl) (by kernel_rfl) r65
theorem cell_of {P : Program} {W : World} {name : String} {g : Nat} {l : List Value} {i : Nat} {v : Value} (hg : P.globalNamed name = some g) (h : W.var? P name = some l.toArray) (hv : l[i]? = some v) : W.cell? ⟨g, i, none⟩ = some v := by
  rw [World.var?_cell hg h i]; simpa using hv
theorem size_of {P : Program} {W : World} {name : String} {g : Nat} {a : Array Value} (hg : P.globalNamed name = some g) (h : W.var? P name = some a) : g < W.heap.size := by
  simp only [World.var?, hg, Option.bind_some] at h
  split at h
  · rename_i e; exact (Array.getElem?_eq_some_iff.1 e).1
  · cases h

theorem at_map {α : Type} (L : List α) (f : α → Value) (d : α) (i : Nat) (h : i < L.length) : (L.map f)[i]? = some (f (L.getD i d)) := by
  simp [List.getD, h]
def asStr (l : List UInt8) : Value := .string ⟨l.toArray⟩
def asU8 (n : Nat) : Value := .int .u8 n
def asInt (n : Nat) : Value := .int .i64 n
def theLaid : List (String × DataW Unit) := [("vesper/code.splitRow", Rows.laid_vesper_code_splitRow), ("vesper/code.rowNames", Rows.laid_vesper_code_rowNames), ("vesper/code.splitNames", Rows.laid_vesper_code_splitNames), ("vesper/code.rowForms", Rows.laid_vesper_code_rowForms), ("vesper/code.splitForms", Rows.laid_vesper_code_splitForms), ("vesper/code.layouts", Rows.laid_vesper_code_layouts)] -- 1

set_option maxRecDepth 100000 in
theorem tabs_of_vars {W : World} {l : List (String × DataW Unit)} {ps : List MemPlace} (h : DataW.LaidVars Tryz.prog W l ps) (hm : ∀ x ∈ theLaid, x ∈ l) : Tabs W := by
  have g0 : Tryz.prog.globalNamed "vesper/code.rowNames" = some 1 := by kernel_rfl
  have g1 : Tryz.prog.globalNamed "vesper/code.rowForms" = some 2 := by kernel_rfl
  have g2 : Tryz.prog.globalNamed "vesper/code.splitRow" = some 3 := by kernel_rfl
  have g3 : Tryz.prog.globalNamed "vesper/code.splitNames" = some 4 := by kernel_rfl
  have g4 : Tryz.prog.globalNamed "vesper/code.splitForms" = some 5 := by kernel_rfl
  have g5 : Tryz.prog.globalNamed "vesper/code.layouts" = some 6 := by kernel_rfl
  have v0 := var_of_laid g0 (t := 115) (by kernel_rfl) r59 h (hm ("vesper/code.rowNames", Rows.laid_vesper_code_rowNames) (by simp [theLaid]))
  have v1 := var_of_laid g1 (t := 116) (by kernel_rfl) r60 h (hm ("vesper/code.rowForms", Rows.laid_vesper_code_rowForms) (by simp [theLaid]))
  have v2 := var_of_laid g2 (t := 117) (by kernel_rfl) r61 h (hm ("vesper/code.splitRow", Rows.laid_vesper_code_splitRow) (by simp [theLaid]))
  have v3 := var_of_laid g3 (t := 118) (by kernel_rfl) r62 h (hm ("vesper/code.splitNames", Rows.laid_vesper_code_splitNames) (by simp [theLaid]))
  have v4 := var_of_laid g4 (t := 119) (by kernel_rfl) r63 h (hm ("vesper/code.splitForms", Rows.laid_vesper_code_splitForms) (by simp [theLaid]))
  have v5 := var_of_laid g5 (t := 122) (by kernel_rfl) r66 h (hm ("vesper/code.layouts", Rows.laid_vesper_code_layouts) (by simp [theLaid]))
  rw [show parts cell1 Rows.laid_vesper_code_rowNames = rowNmL.map asStr by kernel_rfl] at v0
  rw [show parts cell1 Rows.laid_vesper_code_rowForms = rowFmL.map asU8 by kernel_rfl] at v1
  rw [show parts cell1 Rows.laid_vesper_code_splitRow = sprL.map asU8 by kernel_rfl] at v2
  rw [show parts (parts cell1) Rows.laid_vesper_code_splitNames = splNmL.map asStr by kernel_rfl] at v3
  rw [show parts (parts cell1) Rows.laid_vesper_code_splitForms = splFmL.map asU8 by kernel_rfl] at v4
  rw [show parts (parts cell1) Rows.laid_vesper_code_layouts = layL.map asInt by kernel_rfl] at v5
  exact ⟨fun i hi => cell_of g0 v0 (at_map _ _ [] i hi), fun i hi => cell_of g1 v1 (at_map _ _ 0 i hi), fun i hi => cell_of g2 v2 (at_map _ _ 0 i hi),
    fun i hi => cell_of g3 v3 (at_map _ _ [] i hi), fun i hi => cell_of g4 v4 (at_map _ _ 0 i hi), fun i hi => cell_of g5 v5 (at_map _ _ 0 i hi), size_of g0 v0, size_of g1 v1, size_of g2 v2, size_of g3 v3, size_of g4 v4, size_of g5 v5⟩

def asUse (x : Nat × Bool × Bool × Bool) : List Value := [.int .u8 x.1, .bool x.2.1, .bool x.2.2.1, .bool x.2.2.2, .int .u8 0]
theorem at_five : ∀ (L : List (Nat × Bool × Bool × Bool)) (i j : Nat), i < L.length → j < 5 → (L.flatMap asUse)[i * 5 + j]? = (asUse (L.getD i (0, false, false, false)))[j]?
  | [], i, j, h, _ => by simp at h
  | x :: L, 0, j, _, hj => by
    have : (asUse x).length = 5 := rfl
    simp only [List.flatMap_cons, Nat.zero_mul, Nat.zero_add]
    rw [List.getElem?_append_left (by omega)]
    simp
  | x :: L, i + 1, j, h, hj => by
    have e : (asUse x).length = 5 := rfl
    simp only [List.flatMap_cons]
    rw [List.getElem?_append_right (by omega), e, show (i + 1) * 5 + j - 5 = i * 5 + j from by omega, at_five L i j (by simpa using h) hj]
    simp [List.getD]
end Go.Proofs.YtehnhjdjjalifaaGreatDoor
