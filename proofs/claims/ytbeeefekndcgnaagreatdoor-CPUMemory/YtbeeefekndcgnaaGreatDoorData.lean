/- The tables of package code as plain lists, and what the program's listed variables hold. A world in which the program's tables hold what their initialisers lay: for the witness that a row asks. -/
import Derived.Test.YtbeeefekndcgnaaGreatDoorRows
import Derived.Test.YtbeeefekndcgnaaGreatDoorTab
import Derived.Below
import Derived.FnData
import Derived.WalkKit
namespace Go.Proofs.YtbeeefekndcgnaaGreatDoor
open Go Go.RowKit
def rowNmL : List (List UInt8) := [[], [73, 78, 67], [68, 69, 67], [], [76, 68, 65], [83, 84, 82], [], [], [71, 76, 79], [71, 72, 73], [80, 76, 79], [80, 72, 73], [], [83, 69, 80], [83, 69, 88], []]
def splNmL : List (List UInt8) := [[73, 68, 76], [76, 68, 78], [76, 68, 78], [76, 68, 78], [76, 68, 78], [76, 68, 78], [76, 68, 78], [76, 68, 78], [76, 68, 78], [76, 68, 78], [76, 68, 78], [76, 68, 78], [76, 68, 78], [76, 68, 78], [76, 68, 78], [76, 68, 78], [66, 82], [66, 81], [66, 90], [66, 68, 70], [66, 49], [66, 50], [66, 51], [66, 52], [83, 75, 80], [66, 78, 81], [66, 78, 90], [66, 78, 70], [66, 78, 49], [66, 78, 50], [66, 78, 51], [66, 78, 52], [73, 82, 88], [79, 85, 84], [79, 85, 84], [79, 85, 84], [79, 85, 84], [79, 85, 84], [79, 85, 84], [79, 85, 84], [78, 85, 76], [73, 78, 80], [73, 78, 80], [73, 78, 80], [73, 78, 80], [73, 78, 80], [73, 78, 80], [73, 78, 80], [82, 69, 84], [68, 73, 83], [76, 68, 88, 65], [83, 84, 88, 68], [65, 68, 67], [83, 68, 66], [83, 72, 82, 67], [83, 77, 66], [83, 65, 86], [77, 65, 82, 75], [82, 69, 81], [83, 69, 81], [65, 68, 67, 73], [83, 68, 66, 73], [83, 72, 76, 67], [83, 77, 66, 73], [76, 66, 82], [76, 66, 81], [76, 66, 90], [76, 66, 68, 70], [78, 79, 80], [76, 83, 78, 81], [76, 83, 78, 90], [76, 83, 78, 70], [76, 83, 75, 80], [76, 66, 78, 81], [76, 66, 78, 90], [76, 66, 78, 70], [76, 83, 73, 69], [76, 83, 81], [76, 83, 90], [76, 83, 68, 70], [76, 68, 88], [79, 82], [65, 78, 68], [88, 79, 82], [65, 68, 68], [83, 68], [83, 72, 82], [83, 77], [76, 68, 73], [79, 82, 73], [65, 78, 73], [88, 82, 73], [65, 68, 73], [83, 68, 73], [83, 72, 76], [83, 77, 73]]
def sprL : List Nat := [1, 0, 0, 2, 0, 0, 3, 4, 0, 0, 0, 0, 5, 0, 0, 6]
def rowFmL : List Nat := [0, 2, 2, 0, 2, 2, 0, 0, 2, 2, 2, 2, 0, 2, 2, 0]
def splFmL : List Nat := [1, 2, 2, 2, 2, 2, 2, 2, 2, 2, 2, 2, 2, 2, 2, 2, 5, 5, 5, 5, 5, 5, 5, 5, 1, 5, 5, 5, 5, 5, 5, 5, 1, 3, 3, 3, 3, 3, 3, 3, 1, 3, 3, 3, 3, 3, 3, 3, 1, 1, 1, 1, 1, 1, 1, 1, 1, 1, 1, 1, 4, 4, 1, 4, 6, 6, 6, 6, 1, 1, 1, 1, 1, 6, 6, 6, 1, 1, 1, 1, 1, 1, 1, 1, 1, 1, 1, 1, 4, 4, 4, 4, 4, 4, 1, 4]
def layL : List Nat := [0, 0, 0, 1, 0, 0, 1, 1, 15, 1, 1, 7, 2, 2, 255, 2, 2, 255, 3, 4, 65535]
def rowUsL : List Nat := [0, 0, 0, 0, 1, 2, 0, 0, 3, 3, 3, 3, 0, 3, 3, 0]
def splUsL : List Nat := [11, 1, 1, 1, 1, 1, 1, 1, 1, 1, 1, 1, 1, 1, 1, 1, 9, 9, 9, 9, 9, 9, 9, 9, 9, 9, 9, 9, 9, 9, 9, 9, 5, 5, 5, 5, 5, 5, 5, 5, 4, 7, 7, 7, 7, 7, 7, 7, 5, 5, 5, 6, 5, 5, 4, 5, 6, 10, 8, 8, 9, 9, 8, 9, 9, 9, 9, 9, 9, 9, 9, 9, 9, 9, 9, 9, 9, 9, 9, 9, 5, 5, 5, 5, 5, 5, 4, 5, 9, 9, 9, 9, 9, 9, 8, 9]
def useL : List (Nat × Bool × Bool × Bool) := [(0, false, false, false), (0, true, false, false), (0, false, true, true), (0, false, false, true), (1, false, false, false), (1, true, false, false), (1, false, true, true), (1, false, true, false), (2, false, false, false), (2, true, false, false), (3, false, true, true), (4, true, false, false)]

def rowNm (i : Nat) : ByteArray := ⟨(rowNmL.getD i []).toArray⟩
def spr (i : Nat) : Nat := sprL.getD i 0
def rowFm (i : Nat) : Nat := rowFmL.getD i 0
def splFm (i : Nat) : Nat := splFmL.getD i 0
def lay (i : Nat) : Nat := layL.getD i 0
def rowUs (i : Nat) : Nat := rowUsL.getD i 0
def splUs (i : Nat) : Nat := splUsL.getD i 0
def useN (i : Nat) : Nat := (useL.getD i (0, false, false, false)).1
def useR (i : Nat) : Bool := (useL.getD i (0, false, false, false)).2.1
def useW (i : Nat) : Bool := (useL.getD i (0, false, false, false)).2.2.1
def useO (i : Nat) : Bool := (useL.getD i (0, false, false, false)).2.2.2
def splNm (i : Nat) : ByteArray := ⟨(splNmL.getD i []).toArray⟩

def plSL : List Nat := [0, 1, 2, 3, 4, 6, 10, 8, 0, 1, 2, 3, 4, 6, 12, 8]
def crSL : List Nat := [0, 0, 0, 0, 5, 7, 11, 9, 0, 0, 0, 0, 5, 7, 13, 9]
def plS (i : Nat) : Nat := plSL.getD i 0
def crS (i : Nat) : Nat := crSL.getD i 0

/-- What the tables of packages code and cpu hold. -/
structure Tabs (w : World) : Prop where
  rn : ∀ i : Nat, i < 16 → w.cell? ⟨0, i, none⟩ = some (.string (rowNm i))
  rf : ∀ i : Nat, i < 16 → w.cell? ⟨1, i, none⟩ = some (.int .u8 (rowFm i : Nat))
  sr : ∀ i : Nat, i < 16 → w.cell? ⟨2, i, none⟩ = some (.int .u8 (spr i : Nat))
  sn : ∀ i : Nat, i < 96 → w.cell? ⟨3, i, none⟩ = some (.string (splNm i))
  sf : ∀ i : Nat, i < 96 → w.cell? ⟨4, i, none⟩ = some (.int .u8 (splFm i : Nat))
  ly : ∀ i : Nat, i < 21 → w.cell? ⟨5, i, none⟩ = some (.int .i64 (lay i : Nat))
  ru : ∀ i : Nat, i < 16 → w.cell? ⟨6, i, none⟩ = some (.int .u8 (rowUs i : Nat))
  su : ∀ i : Nat, i < 96 → w.cell? ⟨7, i, none⟩ = some (.int .u8 (splUs i : Nat))
  us : ∀ i : Nat, i < 12 → w.cell? ⟨8, i * 5, none⟩ = some (.int .u8 (useN i : Nat)) ∧ w.cell? ⟨8, i * 5 + 1, none⟩ = some (.bool (useR i))
    ∧ w.cell? ⟨8, i * 5 + 2, none⟩ = some (.bool (useW i)) ∧ w.cell? ⟨8, i * 5 + 3, none⟩ = some (.bool (useO i)) ∧ w.cell? ⟨8, i * 5 + 4, none⟩ = some (.int .u8 0)
  pl : ∀ i : Nat, i < 16 → w.cell? ⟨9, i, none⟩ = some (.int .u8 (plS i : Nat))
  cr : ∀ i : Nat, i < 16 → w.cell? ⟨10, i, none⟩ = some (.int .u8 (crS i : Nat))
  size : 11 ≤ w.heap.size
theorem Tabs.below {w w' : World} (h : Tabs w) (hb : Below w.heap.size w w') : Tabs w' := by
  have hs := h.size
  exact ⟨fun i hi => (hb.cell (show 0 < w.heap.size by omega)).trans (h.rn i hi), fun i hi => (hb.cell (show 1 < w.heap.size by omega)).trans (h.rf i hi), fun i hi => (hb.cell (show 2 < w.heap.size by omega)).trans (h.sr i hi), fun i hi => (hb.cell (show 3 < w.heap.size by omega)).trans (h.sn i hi), fun i hi => (hb.cell (show 4 < w.heap.size by omega)).trans (h.sf i hi), fun i hi => (hb.cell (show 5 < w.heap.size by omega)).trans (h.ly i hi), fun i hi => (hb.cell (show 6 < w.heap.size by omega)).trans (h.ru i hi), fun i hi => (hb.cell (show 7 < w.heap.size by omega)).trans (h.su i hi),
    fun i hi => ⟨(hb.cell (show 8 < w.heap.size by omega)).trans (h.us i hi).1, (hb.cell (show 8 < w.heap.size by omega)).trans (h.us i hi).2.1, (hb.cell (show 8 < w.heap.size by omega)).trans (h.us i hi).2.2.1, (hb.cell (show 8 < w.heap.size by omega)).trans (h.us i hi).2.2.2.1, (hb.cell (show 8 < w.heap.size by omega)).trans (h.us i hi).2.2.2.2⟩,
    fun i hi => (hb.cell (show 9 < w.heap.size by omega)).trans (h.pl i hi), fun i hi => (hb.cell (show 10 < w.heap.size by omega)).trans (h.cr i hi), Nat.le_trans hs hb.size⟩

theorem r9 : Reads Tryz.prog 9 cell1 := reads_string Tryz.underlying9
theorem r5 : Reads Tryz.prog 5 cell1 := reads_int Tryz.underlying5
theorem r22 : Reads Tryz.prog 58 cell1 := reads_int (k := .u8) (by kernel_rfl)
theorem r26 : Reads Tryz.prog 62 cell1 := reads_int (k := .u8) (by kernel_rfl)
theorem r3 : Reads Tryz.prog 3 cell1 := reads_int (k := .i64) (by kernel_rfl)
theorem r4 : Reads Tryz.prog 4 cell1 := reads_bool (by kernel_rfl)
theorem r59 : Reads Tryz.prog 78 (parts cell1) := reads_array (n := 16) (e := 9) (by kernel_rfl) (by kernel_rfl) r9
theorem r60 : Reads Tryz.prog 79 (parts cell1) := reads_array (n := 16) (e := 58) (by kernel_rfl) (by kernel_rfl) r22
theorem r61 : Reads Tryz.prog 80 (parts cell1) := reads_array (n := 16) (e := 5) (by kernel_rfl) (by kernel_rfl) r5
theorem r62 : Reads Tryz.prog 81 (parts (parts cell1)) := reads_array (n := 6) (e := 78) (by kernel_rfl) (by kernel_rfl) r59
theorem r63 : Reads Tryz.prog 82 (parts (parts cell1)) := reads_array (n := 6) (e := 79) (by kernel_rfl) (by kernel_rfl) r60
theorem r67 : Reads Tryz.prog 86 (parts (parts cell1)) := reads_array (n := 6) (e := 80) (by kernel_rfl) (by kernel_rfl) r61

theorem reads_struct' {P : Program} {t : TypeId} {fs : Array Field} {f : DataW Unit → List Value} (L : List (Nat × Nat)) (h : P.underlying t = some (.struct fs)) (hL : (fs.toList.map fun x => (x.offset, P.cellsOf x.type)) = L)
    (ho : (List.range L.length).all (fun i => (L[i]?.map (·.1)) == some ((L.take i).map (·.2)).sum) = true)
    (hc : P.cellsOf t = (L.map (·.2)).sum) (hf : ∀ x ∈ fs.toList, Reads P x.type f) : Reads P t (parts f) := by
  refine reads_struct h ?_ (by rw [hL]; exact hc) hf
  rw [hL]
  intro i x hx
  have hi : i < L.length := by
    rcases Nat.lt_or_ge i L.length with h | h
    · exact h
    · rw [List.getElem?_eq_none h] at hx; cases hx
  have := List.all_eq_true.1 ho i (List.mem_range.2 hi)
  rw [hx] at this
  simp at this
  simp [this]
theorem r65 : Reads Tryz.prog 84 (parts cell1) := reads_struct' [(0, 1), (1, 1), (2, 1)] Tryz.underlying84 (by kernel_rfl) (by decide) (by kernel_rfl) (by
  intro x hx
  simp at hx
  rcases hx with rfl | rfl | rfl <;> exact r3)
theorem r28 : Reads Tryz.prog 64 (parts cell1) := reads_struct' [(0, 1), (1, 1), (2, 1), (3, 1), (4, 1)] Tryz.underlying64 (by kernel_rfl) (by decide) (by kernel_rfl) (by
  intro x hx
  simp at hx
  rcases hx with rfl | rfl | rfl | rfl | rfl
  · exact r26
  · exact r4
  · exact r4
  · exact r4
  · exact r5)
theorem r66 : Reads Tryz.prog 85 (parts (parts cell1)) := reads_array (n := 7) (e := 84) (by kernel_rfl) (by kernel_rfl) r65
theorem r68 : Reads Tryz.prog 87 (parts (parts cell1)) := reads_array (n := 12) (e := 64) (by kernel_rfl) (by kernel_rfl) r28

theorem rSum : Reads Tryz.prog 93 cell1 := reads_int (k := .u8) (by kernel_rfl)
theorem rSums : Reads Tryz.prog 100 (parts cell1) := reads_array (n := 16) (e := 93) (by kernel_rfl) (by kernel_rfl) rSum

theorem cell_of {P : Program} {W : World} {name : String} {g : Nat} {l : List Value} {i : Nat} {v : Value} (hg : P.globalNamed name = some g) (h : W.var? P name = some l.toArray) (hv : l[i]? = some v) : W.cell? ⟨g, i, none⟩ = some v := by
  rw [World.var?_cell hg h i]; simpa using hv
theorem size_of {P : Program} {W : World} {name : String} {g : Nat} {a : Array Value} (hg : P.globalNamed name = some g) (h : W.var? P name = some a) : g < W.heap.size := by
  simp only [World.var?, hg, Option.bind_some] at h
  split at h
  · rename_i e; exact (Array.getElem?_eq_some_iff.1 e).1
  · cases h

theorem at_map {α : Type} (L : List α) (f : α → Value) (d : α) (i : Nat) (h : i < L.length) : (L.map f)[i]? = some (f (L.getD i d)) := by
  simp [List.getD, h]
def asStr (l : List UInt8) : Value := .string ⟨l.toArray⟩
def asU8 (n : Nat) : Value := .int .u8 n
def asInt (n : Nat) : Value := .int .i64 n
def theLaid : List (String × DataW Unit) := [("vesper/code.splitRow", Rows.laid_vesper_code_splitRow), ("vesper/code.rowNames", Rows.laid_vesper_code_rowNames), ("vesper/code.splitNames", Rows.laid_vesper_code_splitNames), ("vesper/code.rowForms", Rows.laid_vesper_code_rowForms), ("vesper/code.splitForms", Rows.laid_vesper_code_splitForms), ("vesper/code.layouts", Rows.laid_vesper_code_layouts), ("vesper/code.uses", Rows.laid_vesper_code_uses), ("vesper/code.rowUses", Rows.laid_vesper_code_rowUses), ("vesper/code.splitUses", Rows.laid_vesper_code_splitUses), ("vesper/cpu.carrySums", Rows.laid_vesper_cpu_carrySums), ("vesper/cpu.plainSums", Rows.laid_vesper_cpu_plainSums)]

def asUse (x : Nat × Bool × Bool × Bool) : List Value := [.int .u8 x.1, .bool x.2.1, .bool x.2.2.1, .bool x.2.2.2, .int .u8 0]
theorem at_five : ∀ (L : List (Nat × Bool × Bool × Bool)) (i j : Nat), i < L.length → j < 5 → (L.flatMap asUse)[i * 5 + j]? = (asUse (L.getD i (0, false, false, false)))[j]?
  | [], i, j, h, _ => by simp at h
  | x :: L, 0, j, _, hj => by
    have : (asUse x).length = 5 := rfl
    simp only [List.flatMap_cons, Nat.zero_mul, Nat.zero_add]
    rw [List.getElem?_append_left (by omega)]
    simp
  | x :: L, i + 1, j, h, hj => by
    have e : (asUse x).length = 5 := rfl
    simp only [List.flatMap_cons]
    rw [List.getElem?_append_right (by omega), e, show (i + 1) * 5 + j - 5 = i * 5 + j from by omega, at_five L i j (by simpa using h) hj]
    simp [List.getD]
set_option maxRecDepth 100000 in
theorem tabs_of_vars {W : World} {l : List (String × DataW Unit)} {ps : List MemPlace} (h : DataW.LaidVars Tryz.prog W l ps) (hm : ∀ x ∈ theLaid, x ∈ l) : Tabs W := by
  have g0 : Tryz.prog.globalNamed "vesper/code.rowNames" = some 0 := by kernel_rfl
  have g1 : Tryz.prog.globalNamed "vesper/code.rowForms" = some 1 := by kernel_rfl
  have g2 : Tryz.prog.globalNamed "vesper/code.splitRow" = some 2 := by kernel_rfl
  have g3 : Tryz.prog.globalNamed "vesper/code.splitNames" = some 3 := by kernel_rfl
  have g4 : Tryz.prog.globalNamed "vesper/code.splitForms" = some 4 := by kernel_rfl
  have g5 : Tryz.prog.globalNamed "vesper/code.layouts" = some 5 := by kernel_rfl
  have g6 : Tryz.prog.globalNamed "vesper/code.rowUses" = some 6 := by kernel_rfl
  have g7 : Tryz.prog.globalNamed "vesper/code.splitUses" = some 7 := by kernel_rfl
  have g8 : Tryz.prog.globalNamed "vesper/code.uses" = some 8 := by kernel_rfl
  have g9 : Tryz.prog.globalNamed "vesper/cpu.plainSums" = some 9 := by kernel_rfl
  have g10 : Tryz.prog.globalNamed "vesper/cpu.carrySums" = some 10 := by kernel_rfl
  have v0 := var_of_laid g0 (t := 78) (by kernel_rfl) r59 h (hm ("vesper/code.rowNames", Rows.laid_vesper_code_rowNames) (by simp [theLaid]))
  have v1 := var_of_laid g1 (t := 79) (by kernel_rfl) r60 h (hm ("vesper/code.rowForms", Rows.laid_vesper_code_rowForms) (by simp [theLaid]))
  have v2 := var_of_laid g2 (t := 80) (by kernel_rfl) r61 h (hm ("vesper/code.splitRow", Rows.laid_vesper_code_splitRow) (by simp [theLaid]))
  have v3 := var_of_laid g3 (t := 81) (by kernel_rfl) r62 h (hm ("vesper/code.splitNames", Rows.laid_vesper_code_splitNames) (by simp [theLaid]))
  have v4 := var_of_laid g4 (t := 82) (by kernel_rfl) r63 h (hm ("vesper/code.splitForms", Rows.laid_vesper_code_splitForms) (by simp [theLaid]))
  have v5 := var_of_laid g5 (t := 85) (by kernel_rfl) r66 h (hm ("vesper/code.layouts", Rows.laid_vesper_code_layouts) (by simp [theLaid]))
  have v6 := var_of_laid g6 (t := 80) (by kernel_rfl) r61 h (hm ("vesper/code.rowUses", Rows.laid_vesper_code_rowUses) (by simp [theLaid]))
  have v7 := var_of_laid g7 (t := 86) (by kernel_rfl) r67 h (hm ("vesper/code.splitUses", Rows.laid_vesper_code_splitUses) (by simp [theLaid]))
  have v8 := var_of_laid g8 (t := 87) (by kernel_rfl) r68 h (hm ("vesper/code.uses", Rows.laid_vesper_code_uses) (by simp [theLaid]))
  have v9 := var_of_laid g9 (t := 100) (by kernel_rfl) rSums h (hm ("vesper/cpu.plainSums", Rows.laid_vesper_cpu_plainSums) (by simp [theLaid]))
  have v10 := var_of_laid g10 (t := 100) (by kernel_rfl) rSums h (hm ("vesper/cpu.carrySums", Rows.laid_vesper_cpu_carrySums) (by simp [theLaid]))
  rw [show parts cell1 Rows.laid_vesper_code_rowNames = rowNmL.map asStr by kernel_rfl] at v0
  rw [show parts cell1 Rows.laid_vesper_code_rowForms = rowFmL.map asU8 by kernel_rfl] at v1
  rw [show parts cell1 Rows.laid_vesper_code_splitRow = sprL.map asU8 by kernel_rfl] at v2
  rw [show parts (parts cell1) Rows.laid_vesper_code_splitNames = splNmL.map asStr by kernel_rfl] at v3
  rw [show parts (parts cell1) Rows.laid_vesper_code_splitForms = splFmL.map asU8 by kernel_rfl] at v4
  rw [show parts (parts cell1) Rows.laid_vesper_code_layouts = layL.map asInt by kernel_rfl] at v5
  rw [show parts cell1 Rows.laid_vesper_code_rowUses = rowUsL.map asU8 by kernel_rfl] at v6
  rw [show parts (parts cell1) Rows.laid_vesper_code_splitUses = splUsL.map asU8 by kernel_rfl] at v7
  rw [show parts (parts cell1) Rows.laid_vesper_code_uses = useL.flatMap asUse by kernel_rfl] at v8
  rw [show parts cell1 Rows.laid_vesper_cpu_plainSums = plSL.map asU8 by kernel_rfl] at v9
  rw [show parts cell1 Rows.laid_vesper_cpu_carrySums = crSL.map asU8 by kernel_rfl] at v10
  have z0 := size_of g0 v0
  have z1 := size_of g1 v1
  have z2 := size_of g2 v2
  have z3 := size_of g3 v3
  have z4 := size_of g4 v4
  have z5 := size_of g5 v5
  have z6 := size_of g6 v6
  have z7 := size_of g7 v7
  have z8 := size_of g8 v8
  have z9 := size_of g9 v9
  have z10 := size_of g10 v10
  exact ⟨fun i hi => cell_of g0 v0 (at_map _ _ [] i hi), fun i hi => cell_of g1 v1 (at_map _ _ 0 i hi), fun i hi => cell_of g2 v2 (at_map _ _ 0 i hi), fun i hi => cell_of g3 v3 (at_map _ _ [] i hi), fun i hi => cell_of g4 v4 (at_map _ _ 0 i hi), fun i hi => cell_of g5 v5 (at_map _ _ 0 i hi), fun i hi => cell_of g6 v6 (at_map _ _ 0 i hi), fun i hi => cell_of g7 v7 (at_map _ _ 0 i hi), fun i hi => ⟨cell_of g8 v8 (at_five _ i 0 hi (by decide)), cell_of g8 v8 (at_five _ i 1 hi (by decide)), cell_of g8 v8 (at_five _ i 2 hi (by decide)), cell_of g8 v8 (at_five _ i 3 hi (by decide)), cell_of g8 v8 (at_five _ i 4 hi (by decide))⟩, fun i hi => cell_of g9 v9 (at_map _ _ 0 i hi), fun i hi => cell_of g10 v10 (at_map _ _ 0 i hi), by omega⟩
end Go.Proofs.YtbeeefekndcgnaaGreatDoor

namespace Go.Proofs.YtbeeefekndcgnaaGreatDoor
open Go

def putCells (cs : List Value) : Obj → Obj
  | .cells _ t frozen => .cells cs.toArray t frozen
  | o => o
def laidWorld (P : Program) (os : Os) : World :=
  { World.holding P os ⟨#[], #[], []⟩ with heap := ((((((((((((World.holding P os ⟨#[], #[], []⟩).heap.modify 0 (putCells (rowNmL.map asStr))).modify 1 (putCells (rowFmL.map asU8))).modify 2 (putCells (sprL.map asU8))).modify 3 (putCells (splNmL.map asStr))).modify 4 (putCells (splFmL.map asU8))).modify 5 (putCells (layL.map asInt))).modify 6 (putCells (rowUsL.map asU8))).modify 7 (putCells (splUsL.map asU8))).modify 8 (putCells (useL.flatMap asUse))).modify 9 (putCells (plSL.map asU8))).modify 10 (putCells (crSL.map asU8))) }
end Go.Proofs.YtbeeefekndcgnaaGreatDoor
