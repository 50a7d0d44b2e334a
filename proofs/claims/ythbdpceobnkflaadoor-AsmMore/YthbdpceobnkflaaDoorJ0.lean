/- What a listed table of plain data holds, cell by cell: integers, bools and texts, in arrays and structs. The tables of package code as plain lists, and what the program's listed variables hold. The listed tables of layer 14: what they hold. -/
import Derived.OpenShut
import Derived.ChangeArms
import Derived.LaidLaws
import Derived.Test.YthbdpceobnkflaaDoorRows
import Derived.Below
import Derived.FnData
import Derived.WalkKit
import Derived.Stop.LaidErr
import Derived.Shelf.Vars
namespace Go.Proofs.YthbdpceobnkflaaDoor
open Go

/-- Every reading of a type's cells says what the cells are. -/
def Reads (P : Program) (t : TypeId) (f : DataW Unit → List Value) : Prop :=
  ∀ (w : World) (base : Nat) (sp : Nat → Bool) (held : Bool) (fuel : Nat) (cs : List Value) (d : DataW Unit) (p : List MemPlace),
    DataW.trod (fun _ => ()) P w base sp held fuel t cs = some (d, p) → cs = f d

def cell1 : DataW Unit → List Value
  | .lit (.int k z) => [.int k z]
  | .lit (.bool b) => [.bool b]
  | .lit (.string l) => [.string ⟨l.toArray⟩]
  | _ => []
def parts (f : DataW Unit → List Value) : DataW Unit → List Value
  | .agg l => l.flatMap f
  | _ => []

theorem reads_int {P : Program} {t : TypeId} {k : IntKind} (h : P.underlying t = some (.int k)) : Reads P t cell1 := by
  intro w base sp held fuel cs d p e
  obtain ⟨n, rfl, hx, _⟩ := DataW.trod_int h e
  obtain ⟨rfl, _⟩ := Prod.mk.inj hx
  rfl
theorem reads_string {P : Program} {t : TypeId} (h : P.underlying t = some .string) : Reads P t cell1 := by
  intro w base sp held fuel cs d p e
  obtain ⟨n, rfl, hx, _⟩ := DataW.trod_string h e
  obtain ⟨rfl, _⟩ := Prod.mk.inj hx
  simp [cell1]

/-- Pieces that follow on one another are the whole. -/
theorem pieces (f : DataW Unit → List Value) : ∀ (L : List (Nat × Nat)) (xs : List (DataW Unit × List MemPlace)) (cs : List Value) (at0 : Nat),
    xs.length = L.length → (∀ (i : Nat) x, L[i]? = some x → ∃ y, xs[i]? = some y ∧ (cs.drop x.1).take x.2 = f y.1) →
    (∀ (i : Nat) x, L[i]? = some x → x.1 = at0 + ((L.take i).map (·.2)).sum) → cs.length ≤ at0 + (L.map (·.2)).sum → cs.drop at0 = (xs.map (·.1)).flatMap f
  | [], [], cs, at0, _, _, _, hc => by
    simp at hc
    simp [List.drop_eq_nil_of_le hc]
  | [], _ :: _, _, _, hl, _, _, _ => by simp at hl
  | _ :: _, [], _, _, hl, _, _, _ => by simp at hl
  | (o, s) :: L, y :: xs, cs, at0, hl, hp, ho, hc => by
    have h0 := ho 0 (o, s) rfl
    simp at h0
    subst h0
    obtain ⟨y', hy, hv⟩ := hp 0 (o, s) rfl
    simp at hy
    subst hy
    have ih := pieces f L xs cs (o + s) (by simpa using hl) (fun i x hx => by simpa using hp (i + 1) x (by simpa using hx))
      (fun i x hx => by have := ho (i + 1) x (by simpa using hx); simp at this; rw [← List.map_take] at this; omega) (by simp at hc; omega)
    simp only [List.map_cons, List.flatMap_cons]
    rw [← ih, ← hv, ← List.drop_drop]
    exact (List.take_append_drop s _).symm

theorem reads_array {P : Program} {t e : TypeId} {n : Nat} {f : DataW Unit → List Value} (h : P.underlying t = some (.array n e)) (hc : P.cellsOf t = n * P.cellsOf e) (hf : Reads P e f) : Reads P t (parts f) := by
  intro w base sp held fuel cs d p hh
  obtain ⟨xs, m, rfl, hx, hl, hn, hi⟩ := DataW.trod_array h hh
  obtain ⟨rfl, _⟩ := Prod.mk.inj hx
  have := pieces f ((List.range n).map fun i => (i * P.cellsOf e, P.cellsOf e)) xs cs 0 (by simpa using hn)
    (fun i x hx => by
      by_cases hin : i < n
      · simp [hin] at hx
        subst hx
        have h1 := hi i hin
        have h2 : i < xs.length := by omega
        rw [List.getElem?_eq_getElem h2] at h1 ⊢
        exact ⟨_, rfl, hf w base sp held m _ _ _ h1⟩
      · simp [hin] at hx)
    (fun i x hx => by
      by_cases hin : i < n
      · simp [hin] at hx
        subst hx
        simp only [← List.map_take, List.map_map, Nat.zero_add]
        rw [show ((fun x : Nat × Nat => x.2) ∘ fun i => (i * P.cellsOf e, P.cellsOf e)) = fun _ => P.cellsOf e from rfl, List.map_const', List.sum_replicate_nat]
        simp
        rw [Nat.min_eq_left (by omega)]
      · simp [hin] at hx)
    (by
      simp only [List.map_map, Nat.zero_add]
      rw [show ((fun x : Nat × Nat => x.2) ∘ fun i => (i * P.cellsOf e, P.cellsOf e)) = fun _ => P.cellsOf e from rfl, List.map_const', List.sum_replicate_nat]
      simp
      omega)
  simpa [parts] using this

theorem reads_struct {P : Program} {t : TypeId} {fs : Array Field} {f : DataW Unit → List Value} (h : P.underlying t = some (.struct fs))
    (ho : ∀ (i : Nat) x, (fs.toList.map fun x => (x.offset, P.cellsOf x.type))[i]? = some x → x.1 = 0 + (((fs.toList.map fun x => (x.offset, P.cellsOf x.type)).take i).map (·.2)).sum)
    (hc : P.cellsOf t = ((fs.toList.map fun x => (x.offset, P.cellsOf x.type)).map (·.2)).sum) (hf : ∀ x ∈ fs.toList, Reads P x.type f) : Reads P t (parts f) := by
  intro w base sp held fuel cs d p hh
  obtain ⟨xs, m, rfl, hx, hl, hn, hi⟩ := DataW.trod_struct h hh
  obtain ⟨rfl, _⟩ := Prod.mk.inj hx
  have := pieces f (fs.toList.map fun x => (x.offset, P.cellsOf x.type)) xs cs 0 (by simpa using hn)
    (fun i x hx => by
      rw [List.getElem?_map, Option.map_eq_some_iff] at hx
      obtain ⟨fl, hfl, rfl⟩ := hx
      have h1 := hi i fl (by simpa using hfl)
      have h2 : i < xs.length := by
        have : i < fs.toList.length := by
          rcases Nat.lt_or_ge i fs.toList.length with h | h
          · exact h
          · rw [List.getElem?_eq_none h] at hfl; cases hfl
        simpa [hn] using this
      rw [List.getElem?_eq_getElem h2] at h1 ⊢
      exact ⟨_, rfl, hf fl (List.mem_of_getElem? hfl) w base sp held m _ _ _ h1⟩) ho (by omega)
  simpa [parts] using this

/-- The variable's cells, where it stands on the list. -/
theorem var_of_laid {P : Program} {W : World} {t : TypeId} {f : DataW Unit → List Value} {g : Nat} {name : String} {d : DataW Unit} (hg : P.globalNamed name = some g) (hty : (P.globals[g]?).map (·.type) = some t) (hf : Reads P t f) :
    ∀ {l : List (String × DataW Unit)} {ps : List MemPlace}, DataW.LaidVars P W l ps → (name, d) ∈ l → W.var? P name = some (f d).toArray
  | [], _, _, hm => by cases hm
  | (n, d') :: r, ps, h, hm => by
    obtain ⟨g', t', cs, fuel, p, q, hg', ht', hvar, hd, hr, _⟩ := h
    rcases List.mem_cons.1 hm with e | hm'
    · obtain ⟨rfl, rfl⟩ := Prod.mk.inj e
      obtain rfl := Option.some.inj (hg.symm.trans hg')
      obtain rfl := Option.some.inj (hty.symm.trans ht')
      rw [hvar, ← hf _ _ _ _ _ _ _ _ hd]
    · exact var_of_laid hg hty hf hr hm'
end Go.Proofs.YthbdpceobnkflaaDoor

namespace Go.Proofs.YthbdpceobnkflaaDoor
open Go Go.RowKit
def rowNmL : List (List UInt8) := [[], [73, 78, 67], [68, 69, 67], [], [76, 68, 65], [83, 84, 82], [], [], [71, 76, 79], [71, 72, 73], [80, 76, 79], [80, 72, 73], [], [83, 69, 80], [83, 69, 88], []]
def splNmL : List (List UInt8) := [[73, 68, 76], [76, 68, 78], [76, 68, 78], [76, 68, 78], [76, 68, 78], [76, 68, 78], [76, 68, 78], [76, 68, 78], [76, 68, 78], [76, 68, 78], [76, 68, 78], [76, 68, 78], [76, 68, 78], [76, 68, 78], [76, 68, 78], [76, 68, 78], [66, 82], [66, 81], [66, 90], [66, 68, 70], [66, 49], [66, 50], [66, 51], [66, 52], [83, 75, 80], [66, 78, 81], [66, 78, 90], [66, 78, 70], [66, 78, 49], [66, 78, 50], [66, 78, 51], [66, 78, 52], [73, 82, 88], [79, 85, 84], [79, 85, 84], [79, 85, 84], [79, 85, 84], [79, 85, 84], [79, 85, 84], [79, 85, 84], [78, 85, 76], [73, 78, 80], [73, 78, 80], [73, 78, 80], [73, 78, 80], [73, 78, 80], [73, 78, 80], [73, 78, 80], [82, 69, 84], [68, 73, 83], [76, 68, 88, 65], [83, 84, 88, 68], [65, 68, 67], [83, 68, 66], [83, 72, 82, 67], [83, 77, 66], [83, 65, 86], [77, 65, 82, 75], [82, 69, 81], [83, 69, 81], [65, 68, 67, 73], [83, 68, 66, 73], [83, 72, 76, 67], [83, 77, 66, 73], [76, 66, 82], [76, 66, 81], [76, 66, 90], [76, 66, 68, 70], [78, 79, 80], [76, 83, 78, 81], [76, 83, 78, 90], [76, 83, 78, 70], [76, 83, 75, 80], [76, 66, 78, 81], [76, 66, 78, 90], [76, 66, 78, 70], [76, 83, 73, 69], [76, 83, 81], [76, 83, 90], [76, 83, 68, 70], [76, 68, 88], [79, 82], [65, 78, 68], [88, 79, 82], [65, 68, 68], [83, 68], [83, 72, 82], [83, 77], [76, 68, 73], [79, 82, 73], [65, 78, 73], [88, 82, 73], [65, 68, 73], [83, 68, 73], [83, 72, 76], [83, 77, 73]]
def sprL : List Nat := [1, 0, 0, 2, 0, 0, 3, 4, 0, 0, 0, 0, 5, 0, 0, 6]
def rowFmL : List Nat := [0, 2, 2, 0, 2, 2, 0, 0, 2, 2, 2, 2, 0, 2, 2, 0]
def splFmL : List Nat := [1, 2, 2, 2, 2, 2, 2, 2, 2, 2, 2, 2, 2, 2, 2, 2, 5, 5, 5, 5, 5, 5, 5, 5, 1, 5, 5, 5, 5, 5, 5, 5, 1, 3, 3, 3, 3, 3, 3, 3, 1, 3, 3, 3, 3, 3, 3, 3, 1, 1, 1, 1, 1, 1, 1, 1, 1, 1, 1, 1, 4, 4, 1, 4, 6, 6, 6, 6, 1, 1, 1, 1, 1, 6, 6, 6, 1, 1, 1, 1, 1, 1, 1, 1, 1, 1, 1, 1, 4, 4, 4, 4, 4, 4, 1, 4]
def layL : List Nat := [0, 0, 0, 1, 0, 0, 1, 1, 15, 1, 1, 7, 2, 2, 255, 2, 2, 255, 3, 4, 65535]
def rowNm (i : Nat) : ByteArray := ⟨(rowNmL.getD i []).toArray⟩
def spr (i : Nat) : Nat := sprL.getD i 0
def rowFm (i : Nat) : Nat := rowFmL.getD i 0
def splFm (i : Nat) : Nat := splFmL.getD i 0
def lay (i : Nat) : Nat := layL.getD i 0
def splNm (i : Nat) : ByteArray := ⟨(splNmL.getD i []).toArray⟩

/-- What the six tables of names and forms hold. -/
structure Tabs (w : World) : Prop where
  rn : ∀ i : Nat, i < 16 → w.cell? ⟨1, i, none⟩ = some (.string (rowNm i))
  rf : ∀ i : Nat, i < 16 → w.cell? ⟨2, i, none⟩ = some (.int .u8 (rowFm i : Nat))
  sr : ∀ i : Nat, i < 16 → w.cell? ⟨3, i, none⟩ = some (.int .u8 (spr i : Nat))
  sn : ∀ i : Nat, i < 96 → w.cell? ⟨4, i, none⟩ = some (.string (splNm i))
  sf : ∀ i : Nat, i < 96 → w.cell? ⟨5, i, none⟩ = some (.int .u8 (splFm i : Nat))
  ly : ∀ i : Nat, i < 21 → w.cell? ⟨0, i, none⟩ = some (.int .i64 (lay i : Nat))
  size : 1 < w.heap.size ∧ 2 < w.heap.size ∧ 3 < w.heap.size ∧ 4 < w.heap.size ∧ 5 < w.heap.size ∧ 0 < w.heap.size
theorem Tabs.below {w w' : World} (h : Tabs w) (hb : Below w.heap.size w w') : Tabs w' := by
  have hs := h.size
  exact ⟨fun i hi => (hb.cell (show 1 < w.heap.size by omega)).trans (h.rn i hi), fun i hi => (hb.cell (show 2 < w.heap.size by omega)).trans (h.rf i hi),
    fun i hi => (hb.cell (show 3 < w.heap.size by omega)).trans (h.sr i hi), fun i hi => (hb.cell (show 4 < w.heap.size by omega)).trans (h.sn i hi),
    fun i hi => (hb.cell (show 5 < w.heap.size by omega)).trans (h.sf i hi), fun i hi => (hb.cell (show 0 < w.heap.size by omega)).trans (h.ly i hi), by have := hb.size; omega⟩
theorem r9 : Reads Tryd.prog 9 cell1 := reads_string Tryd.underlying9
theorem r5 : Reads Tryd.prog 5 cell1 := reads_int Tryd.underlying5
theorem r22 : Reads Tryd.prog 80 cell1 := reads_int (k := .u8) (by kernel_rfl)
theorem r3 : Reads Tryd.prog 3 cell1 := reads_int (k := .i64) (by kernel_rfl)
theorem r59 : Reads Tryd.prog 132 (parts cell1) := reads_array (n := 16) (e := 9) (by kernel_rfl) (by kernel_rfl) r9
theorem r60 : Reads Tryd.prog 133 (parts cell1) := reads_array (n := 16) (e := 80) (by kernel_rfl) (by kernel_rfl) r22
theorem r61 : Reads Tryd.prog 134 (parts cell1) := reads_array (n := 16) (e := 5) (by kernel_rfl) (by kernel_rfl) r5
theorem r62 : Reads Tryd.prog 135 (parts (parts cell1)) := reads_array (n := 6) (e := 132) (by kernel_rfl) (by kernel_rfl) r59
theorem r63 : Reads Tryd.prog 136 (parts (parts cell1)) := reads_array (n := 6) (e := 133) (by kernel_rfl) (by kernel_rfl) r60
theorem reads_struct' {P : Program} {t : TypeId} {fs : Array Field} {f : DataW Unit → List Value} (L : List (Nat × Nat)) (h : P.underlying t = some (.struct fs)) (hL : (fs.toList.map fun x => (x.offset, P.cellsOf x.type)) = L)
    (ho : (List.range L.length).all (fun i => (L[i]?.map (·.1)) == some ((L.take i).map (·.2)).sum) = true)
    (hc : P.cellsOf t = (L.map (·.2)).sum) (hf : ∀ x ∈ fs.toList, Reads P x.type f) : Reads P t (parts f) := by
  refine reads_struct h ?_ (by rw [hL]; exact hc) hf
  rw [hL]
  intro i x hx
  have hi : i < L.length := by
    rcases Nat.lt_or_ge i L.length with h | h
    · exact h
    · rw [List.getElem?_eq_none h] at hx; cases hx
  have := List.all_eq_true.1 ho i (List.mem_range.2 hi)
  rw [hx] at this
  simp at this
  simp [this]
theorem r65 : Reads Tryd.prog 118 (parts cell1) := reads_struct' [(0, 1), (1, 1), (2, 1)] Tryd.underlying118 (by kernel_rfl) (by decide) (by kernel_rfl) (by
  intro x hx
  simp at hx
  rcases hx with rfl | rfl | rfl <;> exact r3)
theorem r66 : Reads Tryd.prog 119 (parts (parts cell1)) := reads_array (n := 7) (e := 118) (by kernel_rfl) (by kernel_rfl) r65
theorem cell_of {P : Program} {W : World} {name : String} {g : Nat} {l : List Value} {i : Nat} {v : Value} (hg : P.globalNamed name = some g) (h : W.var? P name = some l.toArray) (hv : l[i]? = some v) : W.cell? ⟨g, i, none⟩ = some v := by
  rw [World.var?_cell hg h i]; simpa using hv
theorem size_of {P : Program} {W : World} {name : String} {g : Nat} {a : Array Value} (hg : P.globalNamed name = some g) (h : W.var? P name = some a) : g < W.heap.size := by
  simp only [World.var?, hg, Option.bind_some] at h
  split at h
  · rename_i e; exact (Array.getElem?_eq_some_iff.1 e).1
  · cases h

theorem at_map {α : Type} (L : List α) (f : α → Value) (d : α) (i : Nat) (h : i < L.length) : (L.map f)[i]? = some (f (L.getD i d)) := by
  simp [List.getD, h]
def asStr (l : List UInt8) : Value := .string ⟨l.toArray⟩
def asU8 (n : Nat) : Value := .int .u8 n
def asInt (n : Nat) : Value := .int .i64 n
def theLaid : List (String × DataW Unit) := [("vesper/code.splitRow", Rows.laid_vesper_code_splitRow), ("vesper/code.rowNames", Rows.laid_vesper_code_rowNames), ("vesper/code.splitNames", Rows.laid_vesper_code_splitNames), ("vesper/code.rowForms", Rows.laid_vesper_code_rowForms), ("vesper/code.splitForms", Rows.laid_vesper_code_splitForms), ("vesper/code.layouts", Rows.laid_vesper_code_layouts)] -- 1

set_option maxRecDepth 100000 in
theorem tabs_of_vars {W : World} {l : List (String × DataW Unit)} {ps : List MemPlace} (h : DataW.LaidVars Tryd.prog W l ps) (hm : ∀ x ∈ theLaid, x ∈ l) : Tabs W := by
  have g0 : Tryd.prog.globalNamed "vesper/code.rowNames" = some 1 := by kernel_rfl
  have g1 : Tryd.prog.globalNamed "vesper/code.rowForms" = some 2 := by kernel_rfl
  have g2 : Tryd.prog.globalNamed "vesper/code.splitRow" = some 3 := by kernel_rfl
  have g3 : Tryd.prog.globalNamed "vesper/code.splitNames" = some 4 := by kernel_rfl
  have g4 : Tryd.prog.globalNamed "vesper/code.splitForms" = some 5 := by kernel_rfl
  have g5 : Tryd.prog.globalNamed "vesper/code.layouts" = some 0 := by kernel_rfl
  have v0 := var_of_laid g0 (t := 132) (by kernel_rfl) r59 h (hm ("vesper/code.rowNames", Rows.laid_vesper_code_rowNames) (by simp [theLaid]))
  have v1 := var_of_laid g1 (t := 133) (by kernel_rfl) r60 h (hm ("vesper/code.rowForms", Rows.laid_vesper_code_rowForms) (by simp [theLaid]))
  have v2 := var_of_laid g2 (t := 134) (by kernel_rfl) r61 h (hm ("vesper/code.splitRow", Rows.laid_vesper_code_splitRow) (by simp [theLaid]))
  have v3 := var_of_laid g3 (t := 135) (by kernel_rfl) r62 h (hm ("vesper/code.splitNames", Rows.laid_vesper_code_splitNames) (by simp [theLaid]))
  have v4 := var_of_laid g4 (t := 136) (by kernel_rfl) r63 h (hm ("vesper/code.splitForms", Rows.laid_vesper_code_splitForms) (by simp [theLaid]))
  have v5 := var_of_laid g5 (t := 119) (by kernel_rfl) r66 h (hm ("vesper/code.layouts", Rows.laid_vesper_code_layouts) (by simp [theLaid]))
  rw [show parts cell1 Rows.laid_vesper_code_rowNames = rowNmL.map asStr by kernel_rfl] at v0
  rw [show parts cell1 Rows.laid_vesper_code_rowForms = rowFmL.map asU8 by kernel_rfl] at v1
  rw [show parts cell1 Rows.laid_vesper_code_splitRow = sprL.map asU8 by kernel_rfl] at v2
  rw [show parts (parts cell1) Rows.laid_vesper_code_splitNames = splNmL.map asStr by kernel_rfl] at v3
  rw [show parts (parts cell1) Rows.laid_vesper_code_splitForms = splFmL.map asU8 by kernel_rfl] at v4
  rw [show parts (parts cell1) Rows.laid_vesper_code_layouts = layL.map asInt by kernel_rfl] at v5
  exact ⟨fun i hi => cell_of g0 v0 (at_map _ _ [] i hi), fun i hi => cell_of g1 v1 (at_map _ _ 0 i hi), fun i hi => cell_of g2 v2 (at_map _ _ 0 i hi),
    fun i hi => cell_of g3 v3 (at_map _ _ [] i hi), fun i hi => cell_of g4 v4 (at_map _ _ 0 i hi), fun i hi => cell_of g5 v5 (at_map _ _ 0 i hi), size_of g0 v0, size_of g1 v1, size_of g2 v2, size_of g3 v3, size_of g4 v4, size_of g5 v5⟩

end Go.Proofs.YthbdpceobnkflaaDoor

namespace Go.Proofs.YthbdpceobnkflaaDoor
open Go Go.RowKit

def theLaid13 : List (String × DataW Unit) := theLaid
theorem tabs_of {W : World} (hL : laidMet Tryd.prog theLaid13 W) (_hsh : W.ShapedOpen Tryd.prog) : Tabs W := by
  obtain ⟨ps, h, _⟩ := hL
  exact tabs_of_vars h (fun x hx => hx)
/-- A world in which the listed tables stand. -/
def putCells (cs : List Value) : Obj → Obj
  | .cells _ t frozen => .cells cs.toArray t frozen
  | o => o
def laidWorld (P : Program) (os : Os) : World :=
  { World.holding P os ⟨#[], #[], []⟩ with
    heap := ((((((World.holding P os ⟨#[], #[], []⟩).heap.modify 1 (putCells (rowNmL.map asStr))).modify 2 (putCells (rowFmL.map asU8))).modify 3 (putCells (sprL.map asU8))).modify 4 (putCells (splNmL.map asStr))).modify 5 (putCells (splFmL.map asU8))).modify 0 (putCells (layL.map asInt)) }
end Go.Proofs.YthbdpceobnkflaaDoor
