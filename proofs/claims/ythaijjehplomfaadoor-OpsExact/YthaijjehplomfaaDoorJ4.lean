/- The rows of all orders, as the program makes them: where they lie. -/
import Derived.Test.YthaijjehplomfaaDoorJ3
namespace Go.Proofs.YthaijjehplomfaaDoor
open Go Go.RowKit
set_option linter.unusedVariables false
set_option maxHeartbeats 1000000
set_option maxRecDepth 20000

/-- Fields made in a row of their own. -/
def Sl (y : World) (fs : List Nat) (v : Value) : Prop := ∃ g, v = .slice (some ⟨g, 0, none⟩) fs.length fs.length ∧ Bx y g (rowL fdC fs).toArray 59
theorem Sl.below {x y : World} {fs : List Nat} {v : Value} (h : Sl x fs v) (hb : Below x.heap.size x y) : Sl y fs v := by
  obtain ⟨g, e, hg⟩ := h
  exact ⟨g, e, (hb.block g (heap_lt hg)).trans hg⟩
def act6 (b0 b1 b2 b3 b4 : Nat) (v6 v7 v8 v9 v10 v16 v17 v18 v19 v20 v21 v22 v23 v24 v25 v26 v27 v28 v29 : Value) : Act := ⟨#[.slice none 0 0, .pointer (some ⟨b0, 0, none⟩), .pointer (some ⟨b1, 0, none⟩), .pointer (some ⟨b2, 0, none⟩), .pointer (some ⟨b3, 0, none⟩), .pointer (some ⟨b4, 0, none⟩), v6, v7, v8, v9, v10, .agg (fdC 0).toArray, .agg (fdC 1).toArray, .agg (fdC 2).toArray, .agg (fdC 3).toArray, .agg (fdC 4).toArray, v16, v17, v18, v19, v20, v21, v22, v23, v24, v25, v26, v27, v28, v29, undef, undef, undef, undef, undef, undef, undef, undef, undef, undef, undef, undef, undef, undef, undef, undef, undef, undef, undef, undef, undef, undef, undef, undef, undef, undef, undef, undef, undef, undef, undef, undef, undef, undef, undef, undef, undef, undef, undef, undef, undef, undef, undef, undef, undef, undef, undef, undef, undef, undef, undef, undef, undef, undef, undef, undef, undef, undef, undef, undef, undef], []⟩
/-- What is so while the five rows of fields are made, whatever comes first. -/
def I6 (w : World) (b0 b1 b2 b3 b4 : Nat) (s : Array Bool) (a : Act) (y : World) : Prop := s.size = 19 ∧ Fm w [(b0, (fdC 0).toArray, 59), (b1, (fdC 1).toArray, 59), (b2, (fdC 2).toArray, 59), (b3, (fdC 3).toArray, 59), (b4, (fdC 4).toArray, 59)] y ∧ ∃ v6 v7 v8 v9 v10 v16 v17 v18 v19 v20 v21 v22 v23 v24 v25 v26 v27 v28 v29, a = act6 b0 b1 b2 b3 b4 v6 v7 v8 v9 v10 v16 v17 v18 v19 v20 v21 v22 v23 v24 v25 v26 v27 v28 v29
  ∧ (s.getD 0 false = true → v16 = .agg (fdC 4).toArray)
  ∧ (s.getD 1 false = true → Sl y [4] v17)
  ∧ (s.getD 2 false = true → v18 = .agg (fdC 0).toArray)
  ∧ (s.getD 3 false = true → Sl y [0] v19)
  ∧ (s.getD 4 false = true → v20 = .agg (fdC 0).toArray)
  ∧ (s.getD 5 false = true → v21 = .agg (fdC 1).toArray)
  ∧ (s.getD 6 false = true → Sl y [0, 1] v22)
  ∧ (s.getD 7 false = true → v23 = .agg (fdC 0).toArray)
  ∧ (s.getD 8 false = true → v24 = .agg (fdC 3).toArray)
  ∧ (s.getD 9 false = true → Sl y [0, 3] v25)
  ∧ (s.getD 10 false = true → v26 = .agg (fdC 0).toArray)
  ∧ (s.getD 11 false = true → v27 = .agg (fdC 1).toArray)
  ∧ (s.getD 12 false = true → v28 = .agg (fdC 2).toArray)
  ∧ (s.getD 13 false = true → Sl y [0, 1, 2] v29)
  ∧ (s.getD 14 false = true → Sl y [4] v6)
  ∧ (s.getD 15 false = true → Sl y [0] v7)
  ∧ (s.getD 16 false = true → Sl y [0, 1] v8)
  ∧ (s.getD 17 false = true → Sl y [0, 3] v9)
  ∧ (s.getD 18 false = true → Sl y [0, 1, 2] v10)
theorem fiF : ∃ i z, Tryd.prog.info? 59 = some i ∧ i.zero = some z ∧ i.size = 5 ∧ z.cells = #[.string ⟨#[]⟩, .int .i64 0, .int .i64 0, .nilFunc, .nilFunc] := by
  obtain ⟨i, h⟩ : ∃ i, Tryd.prog.info? 59 = some i := by
    rcases h : Tryd.prog.info? 59 with _ | i
    · have := rtF.i
      rw [h] at this
      cases this
    · exact ⟨i, rfl⟩
  have hz : (Tryd.prog.info? 59).bind (·.zero) = some (.agg #[.string ⟨#[]⟩, .int .i64 0, .int .i64 0, .nilFunc, .nilFunc]) := by kernel_rfl
  have hs := rtF.i
  rw [h] at hz hs
  exact ⟨i, _, h, hz, by simpa using hs, rfl⟩
theorem bs0 {P' : Act → World → Prop} {Q : Exit → Act → World → Prop} {o : Oper} {a : Act} {y : World} (ho : o.op = .buildSlice 49 1 #[(0, .tmp 16)]) (h0 : a.eval (.tmp 16) = .agg (fdC 4).toArray)
    (k : ∀ y', Below y.heap.size y y' → Sl y' [4] (.slice (some ⟨y.heap.size, 0, none⟩) 1 1) → P' (a.put o.dst (.slice (some ⟨y.heap.size, 0, none⟩) 1 1)) y') : o.wp Tryd.prog a y P' Q := by
  obtain ⟨i, z, q1, q2, q3, q4⟩ := fiF
  refine wp_buildSlice 49 59 1 _ ho (rowL fdC [4]).toArray i z Tryd.underlying49 q1 q2 (by rw [q3]; decide) (by rw [q3]; decide) ?_ (k _ (below1 y _) ⟨y.heap.size, rfl, alloc_last' y _⟩)
  have e : ((#[(0, .tmp 16)] : Array (Nat × Operand)).map fun (i, x) => (i, a.eval x)).toList = [(0, .agg (fdC 4).toArray)] := by simp [h0]
  rw [e, q3, q4]
  show _ = _
  kernel_rfl
theorem bs1 {P' : Act → World → Prop} {Q : Exit → Act → World → Prop} {o : Oper} {a : Act} {y : World} (ho : o.op = .buildSlice 49 1 #[(0, .tmp 18)]) (h0 : a.eval (.tmp 18) = .agg (fdC 0).toArray)
    (k : ∀ y', Below y.heap.size y y' → Sl y' [0] (.slice (some ⟨y.heap.size, 0, none⟩) 1 1) → P' (a.put o.dst (.slice (some ⟨y.heap.size, 0, none⟩) 1 1)) y') : o.wp Tryd.prog a y P' Q := by
  obtain ⟨i, z, q1, q2, q3, q4⟩ := fiF
  refine wp_buildSlice 49 59 1 _ ho (rowL fdC [0]).toArray i z Tryd.underlying49 q1 q2 (by rw [q3]; decide) (by rw [q3]; decide) ?_ (k _ (below1 y _) ⟨y.heap.size, rfl, alloc_last' y _⟩)
  have e : ((#[(0, .tmp 18)] : Array (Nat × Operand)).map fun (i, x) => (i, a.eval x)).toList = [(0, .agg (fdC 0).toArray)] := by simp [h0]
  rw [e, q3, q4]
  show _ = _
  kernel_rfl
theorem bs2 {P' : Act → World → Prop} {Q : Exit → Act → World → Prop} {o : Oper} {a : Act} {y : World} (ho : o.op = .buildSlice 49 2 #[(0, .tmp 20), (1, .tmp 21)]) (h0 : a.eval (.tmp 20) = .agg (fdC 0).toArray) (h1 : a.eval (.tmp 21) = .agg (fdC 1).toArray)
    (k : ∀ y', Below y.heap.size y y' → Sl y' [0, 1] (.slice (some ⟨y.heap.size, 0, none⟩) 2 2) → P' (a.put o.dst (.slice (some ⟨y.heap.size, 0, none⟩) 2 2)) y') : o.wp Tryd.prog a y P' Q := by
  obtain ⟨i, z, q1, q2, q3, q4⟩ := fiF
  refine wp_buildSlice 49 59 2 _ ho (rowL fdC [0, 1]).toArray i z Tryd.underlying49 q1 q2 (by rw [q3]; decide) (by rw [q3]; decide) ?_ (k _ (below1 y _) ⟨y.heap.size, rfl, alloc_last' y _⟩)
  have e : ((#[(0, .tmp 20), (1, .tmp 21)] : Array (Nat × Operand)).map fun (i, x) => (i, a.eval x)).toList = [(0, .agg (fdC 0).toArray), (1, .agg (fdC 1).toArray)] := by simp [h0, h1]
  rw [e, q3, q4]
  show _ = _
  kernel_rfl
theorem bs3 {P' : Act → World → Prop} {Q : Exit → Act → World → Prop} {o : Oper} {a : Act} {y : World} (ho : o.op = .buildSlice 49 2 #[(0, .tmp 23), (1, .tmp 24)]) (h0 : a.eval (.tmp 23) = .agg (fdC 0).toArray) (h1 : a.eval (.tmp 24) = .agg (fdC 3).toArray)
    (k : ∀ y', Below y.heap.size y y' → Sl y' [0, 3] (.slice (some ⟨y.heap.size, 0, none⟩) 2 2) → P' (a.put o.dst (.slice (some ⟨y.heap.size, 0, none⟩) 2 2)) y') : o.wp Tryd.prog a y P' Q := by
  obtain ⟨i, z, q1, q2, q3, q4⟩ := fiF
  refine wp_buildSlice 49 59 2 _ ho (rowL fdC [0, 3]).toArray i z Tryd.underlying49 q1 q2 (by rw [q3]; decide) (by rw [q3]; decide) ?_ (k _ (below1 y _) ⟨y.heap.size, rfl, alloc_last' y _⟩)
  have e : ((#[(0, .tmp 23), (1, .tmp 24)] : Array (Nat × Operand)).map fun (i, x) => (i, a.eval x)).toList = [(0, .agg (fdC 0).toArray), (1, .agg (fdC 3).toArray)] := by simp [h0, h1]
  rw [e, q3, q4]
  show _ = _
  kernel_rfl
theorem bs4 {P' : Act → World → Prop} {Q : Exit → Act → World → Prop} {o : Oper} {a : Act} {y : World} (ho : o.op = .buildSlice 49 3 #[(0, .tmp 26), (1, .tmp 27), (2, .tmp 28)]) (h0 : a.eval (.tmp 26) = .agg (fdC 0).toArray) (h1 : a.eval (.tmp 27) = .agg (fdC 1).toArray) (h2 : a.eval (.tmp 28) = .agg (fdC 2).toArray)
    (k : ∀ y', Below y.heap.size y y' → Sl y' [0, 1, 2] (.slice (some ⟨y.heap.size, 0, none⟩) 3 3) → P' (a.put o.dst (.slice (some ⟨y.heap.size, 0, none⟩) 3 3)) y') : o.wp Tryd.prog a y P' Q := by
  obtain ⟨i, z, q1, q2, q3, q4⟩ := fiF
  refine wp_buildSlice 49 59 3 _ ho (rowL fdC [0, 1, 2]).toArray i z Tryd.underlying49 q1 q2 (by rw [q3]; decide) (by rw [q3]; decide) ?_ (k _ (below1 y _) ⟨y.heap.size, rfl, alloc_last' y _⟩)
  have e : ((#[(0, .tmp 26), (1, .tmp 27), (2, .tmp 28)] : Array (Nat × Operand)).map fun (i, x) => (i, a.eval x)).toList = [(0, .agg (fdC 0).toArray), (1, .agg (fdC 1).toArray), (2, .agg (fdC 2).toArray)] := by simp [h0, h1, h2]
  rw [e, q3, q4]
  show _ = _
  kernel_rfl
theorem put6 (b0 b1 b2 b3 b4 : Nat) (v6 v7 v8 v9 v10 v16 v17 v18 v19 v20 v21 v22 v23 v24 v25 v26 v27 v28 v29 v : Value) : (act6 b0 b1 b2 b3 b4 v6 v7 v8 v9 v10 v16 v17 v18 v19 v20 v21 v22 v23 v24 v25 v26 v27 v28 v29).put (some 6) v = act6 b0 b1 b2 b3 b4 v v7 v8 v9 v10 v16 v17 v18 v19 v20 v21 v22 v23 v24 v25 v26 v27 v28 v29 := by kernel_rfl
theorem put7 (b0 b1 b2 b3 b4 : Nat) (v6 v7 v8 v9 v10 v16 v17 v18 v19 v20 v21 v22 v23 v24 v25 v26 v27 v28 v29 v : Value) : (act6 b0 b1 b2 b3 b4 v6 v7 v8 v9 v10 v16 v17 v18 v19 v20 v21 v22 v23 v24 v25 v26 v27 v28 v29).put (some 7) v = act6 b0 b1 b2 b3 b4 v6 v v8 v9 v10 v16 v17 v18 v19 v20 v21 v22 v23 v24 v25 v26 v27 v28 v29 := by kernel_rfl
theorem put8 (b0 b1 b2 b3 b4 : Nat) (v6 v7 v8 v9 v10 v16 v17 v18 v19 v20 v21 v22 v23 v24 v25 v26 v27 v28 v29 v : Value) : (act6 b0 b1 b2 b3 b4 v6 v7 v8 v9 v10 v16 v17 v18 v19 v20 v21 v22 v23 v24 v25 v26 v27 v28 v29).put (some 8) v = act6 b0 b1 b2 b3 b4 v6 v7 v v9 v10 v16 v17 v18 v19 v20 v21 v22 v23 v24 v25 v26 v27 v28 v29 := by kernel_rfl
theorem put9 (b0 b1 b2 b3 b4 : Nat) (v6 v7 v8 v9 v10 v16 v17 v18 v19 v20 v21 v22 v23 v24 v25 v26 v27 v28 v29 v : Value) : (act6 b0 b1 b2 b3 b4 v6 v7 v8 v9 v10 v16 v17 v18 v19 v20 v21 v22 v23 v24 v25 v26 v27 v28 v29).put (some 9) v = act6 b0 b1 b2 b3 b4 v6 v7 v8 v v10 v16 v17 v18 v19 v20 v21 v22 v23 v24 v25 v26 v27 v28 v29 := by kernel_rfl
theorem put10 (b0 b1 b2 b3 b4 : Nat) (v6 v7 v8 v9 v10 v16 v17 v18 v19 v20 v21 v22 v23 v24 v25 v26 v27 v28 v29 v : Value) : (act6 b0 b1 b2 b3 b4 v6 v7 v8 v9 v10 v16 v17 v18 v19 v20 v21 v22 v23 v24 v25 v26 v27 v28 v29).put (some 10) v = act6 b0 b1 b2 b3 b4 v6 v7 v8 v9 v v16 v17 v18 v19 v20 v21 v22 v23 v24 v25 v26 v27 v28 v29 := by kernel_rfl
theorem put16 (b0 b1 b2 b3 b4 : Nat) (v6 v7 v8 v9 v10 v16 v17 v18 v19 v20 v21 v22 v23 v24 v25 v26 v27 v28 v29 v : Value) : (act6 b0 b1 b2 b3 b4 v6 v7 v8 v9 v10 v16 v17 v18 v19 v20 v21 v22 v23 v24 v25 v26 v27 v28 v29).put (some 16) v = act6 b0 b1 b2 b3 b4 v6 v7 v8 v9 v10 v v17 v18 v19 v20 v21 v22 v23 v24 v25 v26 v27 v28 v29 := by kernel_rfl
theorem put17 (b0 b1 b2 b3 b4 : Nat) (v6 v7 v8 v9 v10 v16 v17 v18 v19 v20 v21 v22 v23 v24 v25 v26 v27 v28 v29 v : Value) : (act6 b0 b1 b2 b3 b4 v6 v7 v8 v9 v10 v16 v17 v18 v19 v20 v21 v22 v23 v24 v25 v26 v27 v28 v29).put (some 17) v = act6 b0 b1 b2 b3 b4 v6 v7 v8 v9 v10 v16 v v18 v19 v20 v21 v22 v23 v24 v25 v26 v27 v28 v29 := by kernel_rfl
theorem put18 (b0 b1 b2 b3 b4 : Nat) (v6 v7 v8 v9 v10 v16 v17 v18 v19 v20 v21 v22 v23 v24 v25 v26 v27 v28 v29 v : Value) : (act6 b0 b1 b2 b3 b4 v6 v7 v8 v9 v10 v16 v17 v18 v19 v20 v21 v22 v23 v24 v25 v26 v27 v28 v29).put (some 18) v = act6 b0 b1 b2 b3 b4 v6 v7 v8 v9 v10 v16 v17 v v19 v20 v21 v22 v23 v24 v25 v26 v27 v28 v29 := by kernel_rfl
theorem put19 (b0 b1 b2 b3 b4 : Nat) (v6 v7 v8 v9 v10 v16 v17 v18 v19 v20 v21 v22 v23 v24 v25 v26 v27 v28 v29 v : Value) : (act6 b0 b1 b2 b3 b4 v6 v7 v8 v9 v10 v16 v17 v18 v19 v20 v21 v22 v23 v24 v25 v26 v27 v28 v29).put (some 19) v = act6 b0 b1 b2 b3 b4 v6 v7 v8 v9 v10 v16 v17 v18 v v20 v21 v22 v23 v24 v25 v26 v27 v28 v29 := by kernel_rfl
theorem put20 (b0 b1 b2 b3 b4 : Nat) (v6 v7 v8 v9 v10 v16 v17 v18 v19 v20 v21 v22 v23 v24 v25 v26 v27 v28 v29 v : Value) : (act6 b0 b1 b2 b3 b4 v6 v7 v8 v9 v10 v16 v17 v18 v19 v20 v21 v22 v23 v24 v25 v26 v27 v28 v29).put (some 20) v = act6 b0 b1 b2 b3 b4 v6 v7 v8 v9 v10 v16 v17 v18 v19 v v21 v22 v23 v24 v25 v26 v27 v28 v29 := by kernel_rfl
theorem put21 (b0 b1 b2 b3 b4 : Nat) (v6 v7 v8 v9 v10 v16 v17 v18 v19 v20 v21 v22 v23 v24 v25 v26 v27 v28 v29 v : Value) : (act6 b0 b1 b2 b3 b4 v6 v7 v8 v9 v10 v16 v17 v18 v19 v20 v21 v22 v23 v24 v25 v26 v27 v28 v29).put (some 21) v = act6 b0 b1 b2 b3 b4 v6 v7 v8 v9 v10 v16 v17 v18 v19 v20 v v22 v23 v24 v25 v26 v27 v28 v29 := by kernel_rfl
theorem put22 (b0 b1 b2 b3 b4 : Nat) (v6 v7 v8 v9 v10 v16 v17 v18 v19 v20 v21 v22 v23 v24 v25 v26 v27 v28 v29 v : Value) : (act6 b0 b1 b2 b3 b4 v6 v7 v8 v9 v10 v16 v17 v18 v19 v20 v21 v22 v23 v24 v25 v26 v27 v28 v29).put (some 22) v = act6 b0 b1 b2 b3 b4 v6 v7 v8 v9 v10 v16 v17 v18 v19 v20 v21 v v23 v24 v25 v26 v27 v28 v29 := by kernel_rfl
theorem put23 (b0 b1 b2 b3 b4 : Nat) (v6 v7 v8 v9 v10 v16 v17 v18 v19 v20 v21 v22 v23 v24 v25 v26 v27 v28 v29 v : Value) : (act6 b0 b1 b2 b3 b4 v6 v7 v8 v9 v10 v16 v17 v18 v19 v20 v21 v22 v23 v24 v25 v26 v27 v28 v29).put (some 23) v = act6 b0 b1 b2 b3 b4 v6 v7 v8 v9 v10 v16 v17 v18 v19 v20 v21 v22 v v24 v25 v26 v27 v28 v29 := by kernel_rfl
theorem put24 (b0 b1 b2 b3 b4 : Nat) (v6 v7 v8 v9 v10 v16 v17 v18 v19 v20 v21 v22 v23 v24 v25 v26 v27 v28 v29 v : Value) : (act6 b0 b1 b2 b3 b4 v6 v7 v8 v9 v10 v16 v17 v18 v19 v20 v21 v22 v23 v24 v25 v26 v27 v28 v29).put (some 24) v = act6 b0 b1 b2 b3 b4 v6 v7 v8 v9 v10 v16 v17 v18 v19 v20 v21 v22 v23 v v25 v26 v27 v28 v29 := by kernel_rfl
theorem put25 (b0 b1 b2 b3 b4 : Nat) (v6 v7 v8 v9 v10 v16 v17 v18 v19 v20 v21 v22 v23 v24 v25 v26 v27 v28 v29 v : Value) : (act6 b0 b1 b2 b3 b4 v6 v7 v8 v9 v10 v16 v17 v18 v19 v20 v21 v22 v23 v24 v25 v26 v27 v28 v29).put (some 25) v = act6 b0 b1 b2 b3 b4 v6 v7 v8 v9 v10 v16 v17 v18 v19 v20 v21 v22 v23 v24 v v26 v27 v28 v29 := by kernel_rfl
theorem put26 (b0 b1 b2 b3 b4 : Nat) (v6 v7 v8 v9 v10 v16 v17 v18 v19 v20 v21 v22 v23 v24 v25 v26 v27 v28 v29 v : Value) : (act6 b0 b1 b2 b3 b4 v6 v7 v8 v9 v10 v16 v17 v18 v19 v20 v21 v22 v23 v24 v25 v26 v27 v28 v29).put (some 26) v = act6 b0 b1 b2 b3 b4 v6 v7 v8 v9 v10 v16 v17 v18 v19 v20 v21 v22 v23 v24 v25 v v27 v28 v29 := by kernel_rfl
theorem put27 (b0 b1 b2 b3 b4 : Nat) (v6 v7 v8 v9 v10 v16 v17 v18 v19 v20 v21 v22 v23 v24 v25 v26 v27 v28 v29 v : Value) : (act6 b0 b1 b2 b3 b4 v6 v7 v8 v9 v10 v16 v17 v18 v19 v20 v21 v22 v23 v24 v25 v26 v27 v28 v29).put (some 27) v = act6 b0 b1 b2 b3 b4 v6 v7 v8 v9 v10 v16 v17 v18 v19 v20 v21 v22 v23 v24 v25 v26 v v28 v29 := by kernel_rfl
theorem put28 (b0 b1 b2 b3 b4 : Nat) (v6 v7 v8 v9 v10 v16 v17 v18 v19 v20 v21 v22 v23 v24 v25 v26 v27 v28 v29 v : Value) : (act6 b0 b1 b2 b3 b4 v6 v7 v8 v9 v10 v16 v17 v18 v19 v20 v21 v22 v23 v24 v25 v26 v27 v28 v29).put (some 28) v = act6 b0 b1 b2 b3 b4 v6 v7 v8 v9 v10 v16 v17 v18 v19 v20 v21 v22 v23 v24 v25 v26 v27 v v29 := by kernel_rfl
theorem put29 (b0 b1 b2 b3 b4 : Nat) (v6 v7 v8 v9 v10 v16 v17 v18 v19 v20 v21 v22 v23 v24 v25 v26 v27 v28 v29 v : Value) : (act6 b0 b1 b2 b3 b4 v6 v7 v8 v9 v10 v16 v17 v18 v19 v20 v21 v22 v23 v24 v25 v26 v27 v28 v29).put (some 29) v = act6 b0 b1 b2 b3 b4 v6 v7 v8 v9 v10 v16 v17 v18 v19 v20 v21 v22 v23 v24 v25 v26 v27 v28 v := by kernel_rfl
theorem ev1 (b0 b1 b2 b3 b4 : Nat) (v6 v7 v8 v9 v10 v16 v17 v18 v19 v20 v21 v22 v23 v24 v25 v26 v27 v28 v29 : Value) : (act6 b0 b1 b2 b3 b4 v6 v7 v8 v9 v10 v16 v17 v18 v19 v20 v21 v22 v23 v24 v25 v26 v27 v28 v29).eval (.tmp 1) = .pointer (some ⟨b0, 0, none⟩) := by kernel_rfl
theorem ev2 (b0 b1 b2 b3 b4 : Nat) (v6 v7 v8 v9 v10 v16 v17 v18 v19 v20 v21 v22 v23 v24 v25 v26 v27 v28 v29 : Value) : (act6 b0 b1 b2 b3 b4 v6 v7 v8 v9 v10 v16 v17 v18 v19 v20 v21 v22 v23 v24 v25 v26 v27 v28 v29).eval (.tmp 2) = .pointer (some ⟨b1, 0, none⟩) := by kernel_rfl
theorem ev3 (b0 b1 b2 b3 b4 : Nat) (v6 v7 v8 v9 v10 v16 v17 v18 v19 v20 v21 v22 v23 v24 v25 v26 v27 v28 v29 : Value) : (act6 b0 b1 b2 b3 b4 v6 v7 v8 v9 v10 v16 v17 v18 v19 v20 v21 v22 v23 v24 v25 v26 v27 v28 v29).eval (.tmp 3) = .pointer (some ⟨b2, 0, none⟩) := by kernel_rfl
theorem ev4 (b0 b1 b2 b3 b4 : Nat) (v6 v7 v8 v9 v10 v16 v17 v18 v19 v20 v21 v22 v23 v24 v25 v26 v27 v28 v29 : Value) : (act6 b0 b1 b2 b3 b4 v6 v7 v8 v9 v10 v16 v17 v18 v19 v20 v21 v22 v23 v24 v25 v26 v27 v28 v29).eval (.tmp 4) = .pointer (some ⟨b3, 0, none⟩) := by kernel_rfl
theorem ev5 (b0 b1 b2 b3 b4 : Nat) (v6 v7 v8 v9 v10 v16 v17 v18 v19 v20 v21 v22 v23 v24 v25 v26 v27 v28 v29 : Value) : (act6 b0 b1 b2 b3 b4 v6 v7 v8 v9 v10 v16 v17 v18 v19 v20 v21 v22 v23 v24 v25 v26 v27 v28 v29).eval (.tmp 5) = .pointer (some ⟨b4, 0, none⟩) := by kernel_rfl
theorem ev16 (b0 b1 b2 b3 b4 : Nat) (v6 v7 v8 v9 v10 v16 v17 v18 v19 v20 v21 v22 v23 v24 v25 v26 v27 v28 v29 : Value) : (act6 b0 b1 b2 b3 b4 v6 v7 v8 v9 v10 v16 v17 v18 v19 v20 v21 v22 v23 v24 v25 v26 v27 v28 v29).eval (.tmp 16) = v16 := by kernel_rfl
theorem ev17 (b0 b1 b2 b3 b4 : Nat) (v6 v7 v8 v9 v10 v16 v17 v18 v19 v20 v21 v22 v23 v24 v25 v26 v27 v28 v29 : Value) : (act6 b0 b1 b2 b3 b4 v6 v7 v8 v9 v10 v16 v17 v18 v19 v20 v21 v22 v23 v24 v25 v26 v27 v28 v29).eval (.tmp 17) = v17 := by kernel_rfl
theorem ev18 (b0 b1 b2 b3 b4 : Nat) (v6 v7 v8 v9 v10 v16 v17 v18 v19 v20 v21 v22 v23 v24 v25 v26 v27 v28 v29 : Value) : (act6 b0 b1 b2 b3 b4 v6 v7 v8 v9 v10 v16 v17 v18 v19 v20 v21 v22 v23 v24 v25 v26 v27 v28 v29).eval (.tmp 18) = v18 := by kernel_rfl
theorem ev19 (b0 b1 b2 b3 b4 : Nat) (v6 v7 v8 v9 v10 v16 v17 v18 v19 v20 v21 v22 v23 v24 v25 v26 v27 v28 v29 : Value) : (act6 b0 b1 b2 b3 b4 v6 v7 v8 v9 v10 v16 v17 v18 v19 v20 v21 v22 v23 v24 v25 v26 v27 v28 v29).eval (.tmp 19) = v19 := by kernel_rfl
theorem ev20 (b0 b1 b2 b3 b4 : Nat) (v6 v7 v8 v9 v10 v16 v17 v18 v19 v20 v21 v22 v23 v24 v25 v26 v27 v28 v29 : Value) : (act6 b0 b1 b2 b3 b4 v6 v7 v8 v9 v10 v16 v17 v18 v19 v20 v21 v22 v23 v24 v25 v26 v27 v28 v29).eval (.tmp 20) = v20 := by kernel_rfl
theorem ev21 (b0 b1 b2 b3 b4 : Nat) (v6 v7 v8 v9 v10 v16 v17 v18 v19 v20 v21 v22 v23 v24 v25 v26 v27 v28 v29 : Value) : (act6 b0 b1 b2 b3 b4 v6 v7 v8 v9 v10 v16 v17 v18 v19 v20 v21 v22 v23 v24 v25 v26 v27 v28 v29).eval (.tmp 21) = v21 := by kernel_rfl
theorem ev22 (b0 b1 b2 b3 b4 : Nat) (v6 v7 v8 v9 v10 v16 v17 v18 v19 v20 v21 v22 v23 v24 v25 v26 v27 v28 v29 : Value) : (act6 b0 b1 b2 b3 b4 v6 v7 v8 v9 v10 v16 v17 v18 v19 v20 v21 v22 v23 v24 v25 v26 v27 v28 v29).eval (.tmp 22) = v22 := by kernel_rfl
theorem ev23 (b0 b1 b2 b3 b4 : Nat) (v6 v7 v8 v9 v10 v16 v17 v18 v19 v20 v21 v22 v23 v24 v25 v26 v27 v28 v29 : Value) : (act6 b0 b1 b2 b3 b4 v6 v7 v8 v9 v10 v16 v17 v18 v19 v20 v21 v22 v23 v24 v25 v26 v27 v28 v29).eval (.tmp 23) = v23 := by kernel_rfl
theorem ev24 (b0 b1 b2 b3 b4 : Nat) (v6 v7 v8 v9 v10 v16 v17 v18 v19 v20 v21 v22 v23 v24 v25 v26 v27 v28 v29 : Value) : (act6 b0 b1 b2 b3 b4 v6 v7 v8 v9 v10 v16 v17 v18 v19 v20 v21 v22 v23 v24 v25 v26 v27 v28 v29).eval (.tmp 24) = v24 := by kernel_rfl
theorem ev25 (b0 b1 b2 b3 b4 : Nat) (v6 v7 v8 v9 v10 v16 v17 v18 v19 v20 v21 v22 v23 v24 v25 v26 v27 v28 v29 : Value) : (act6 b0 b1 b2 b3 b4 v6 v7 v8 v9 v10 v16 v17 v18 v19 v20 v21 v22 v23 v24 v25 v26 v27 v28 v29).eval (.tmp 25) = v25 := by kernel_rfl
theorem ev26 (b0 b1 b2 b3 b4 : Nat) (v6 v7 v8 v9 v10 v16 v17 v18 v19 v20 v21 v22 v23 v24 v25 v26 v27 v28 v29 : Value) : (act6 b0 b1 b2 b3 b4 v6 v7 v8 v9 v10 v16 v17 v18 v19 v20 v21 v22 v23 v24 v25 v26 v27 v28 v29).eval (.tmp 26) = v26 := by kernel_rfl
theorem ev27 (b0 b1 b2 b3 b4 : Nat) (v6 v7 v8 v9 v10 v16 v17 v18 v19 v20 v21 v22 v23 v24 v25 v26 v27 v28 v29 : Value) : (act6 b0 b1 b2 b3 b4 v6 v7 v8 v9 v10 v16 v17 v18 v19 v20 v21 v22 v23 v24 v25 v26 v27 v28 v29).eval (.tmp 27) = v27 := by kernel_rfl
theorem ev28 (b0 b1 b2 b3 b4 : Nat) (v6 v7 v8 v9 v10 v16 v17 v18 v19 v20 v21 v22 v23 v24 v25 v26 v27 v28 v29 : Value) : (act6 b0 b1 b2 b3 b4 v6 v7 v8 v9 v10 v16 v17 v18 v19 v20 v21 v22 v23 v24 v25 v26 v27 v28 v29).eval (.tmp 28) = v28 := by kernel_rfl
theorem ev29 (b0 b1 b2 b3 b4 : Nat) (v6 v7 v8 v9 v10 v16 v17 v18 v19 v20 v21 v22 v23 v24 v25 v26 v27 v28 v29 : Value) : (act6 b0 b1 b2 b3 b4 v6 v7 v8 v9 v10 v16 v17 v18 v19 v20 v21 v22 v23 v24 v25 v26 v27 v28 v29).eval (.tmp 29) = v29 := by kernel_rfl
/-- What stands at a place of the region. -/
def WaitsFor (o : Oper) (q : Nat) : Prop := ∃ e ∈ o.after, Region.binds .any e = true ∧ e.on = q
def LdAt (ops : Array Oper) (i d t : Nat) : Prop := ∃ o : Oper, ops[i]? = some o ∧ o.guard = none ∧ o.dst = some d ∧ o.op = .load 59 (.tmp t)
def BsAt (ops : Array Oper) (i d n : Nat) (parts : Array (Nat × Operand)) (on : List Nat) : Prop := ∃ o : Oper, ops[i]? = some o ∧ o.guard = none ∧ o.dst = some d ∧ o.op = .buildSlice 49 n parts ∧ ∀ q ∈ on, WaitsFor o q
def AsAt (ops : Array Oper) (i d t q : Nat) : Prop := ∃ o : Oper, ops[i]? = some o ∧ o.guard = none ∧ o.dst = some d ∧ o.op = .assign (.tmp t) ∧ WaitsFor o q
theorem lt19 {i : Nat} (h : i < 19) : i = 0 ∨ i = 1 ∨ i = 2 ∨ i = 3 ∨ i = 4 ∨ i = 5 ∨ i = 6 ∨ i = 7 ∨ i = 8 ∨ i = 9 ∨ i = 10 ∨ i = 11 ∨ i = 12 ∨ i = 13 ∨ i = 14 ∨ i = 15 ∨ i = 16 ∨ i = 17 ∨ i = 18 := by omega

end Go.Proofs.YthaijjehplomfaaDoor
