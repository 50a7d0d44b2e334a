/- A script written as a text, by the document. -/
import Derived.Test.YthpahpfnpapoiabDoorXu
import Derived.Lib.AppendStr
namespace Go.Proofs.YthpahpfnpapoiabDoor
open Go Go.RowKit
set_option linter.unusedVariables false
set_option maxHeartbeats 2000000
set_option maxRecDepth 20000

theorem infoB : (Tryd.prog.info? 5).map (fun i => (i.zero, i.size, i.bytes)) = some (some (.int .u8 0), 1, 1) := by kernel_rfl
def byV (b : UInt8) : Value := .int .u8 (b.toNat : Int)
/-- Bytes that are owned. -/
def KB (w : World) (v : Value) (l : List UInt8) (y : World) : Prop := y.ownsRow w.heap.size 5 1 v l.length (l.map byV) ∧ Below w.heap.size w y
theorem KB.nil (w : World) : KB w (.slice none 0 0) [] w := ⟨World.ownsRow_nil _ _ _ 1, Below.refl _ _⟩
theorem KB.below {w y z : World} {v : Value} {l : List UInt8} (h : KB w v l y) (hb : Below y.heap.size y z) : KB w v l z := by
  refine ⟨⟨h.1.1, ?_⟩, h.2.trans (hb.mono h.2.size)⟩
  rcases h.1.2 with h0 | ⟨g, cap, cur, hv, hb', hg, hr⟩
  · exact .inl h0
  · exact .inr ⟨g, cap, cur, hv, hb', (hb.block g (heap_lt hg)).trans hg, hr⟩
theorem KB.str {w y w' : World} {v v' : Value} {l : List UInt8} {s : ByteArray} (h : KB w v l y) (ho : w'.ownsRow w.heap.size 5 1 v' (l.length + s.size) (l.map byV ++ Lib.strCells s)) (hg : y.grownBy w' v.ownBlock) : KB w v' (l ++ strL s) w' := by
  refine ⟨by rw [List.length_append, List.map_append, strL_len]; exact ho, Below.grown h.2 hg h.2.size (fun q hq => (h.1.lt q hq).1)⟩
theorem KB.one {w y w' : World} {v v' : Value} {l : List UInt8} {b : UInt8} {o : Obj} (h : KB w v l y) (ho : w'.ownsRow w.heap.size 5 1 v' (l.length + 1) (l.map byV ++ [byV b])) (hg : (y.alloc o).grownBy w' v.ownBlock) : KB w v' (l ++ [b]) w' := by
  refine ⟨by rw [List.length_append, List.map_append]; exact ho, Below.grown (h.2.alloc h.2.size o) hg (by have := h.2.size; simp; omega) (fun q hq => ((h.1.alloc o).lt q hq).1)⟩
theorem one_byt (x : World) (v : Value) : ∀ (j : Nat) (u : Value), [v][j]? = some u → (x.alloc (.cells #[v] 5)).cell? ((⟨x.heap.size, 0, none⟩ : Addr).add j) = some u := fun j u hu => by
  cases j with
  | zero => simp at hu; subst hu; unfold World.cell? World.alloc Addr.add; simp
  | succ j => simp at hu
theorem KB.open {w y : World} {v : Value} {l : List UInt8} (h : KB w v l y) : (∃ sp cap, v = .slice sp l.length cap) ∧ (convert 56 9 v).run Tryd.prog y = .ok (.string ⟨l.toArray⟩) y := by
  rcases h.1.2 with ⟨h0, h1⟩ | ⟨g, cap, cur, hv, hb, hg, hr⟩
  · have : l = [] := by cases l with | nil => rfl | cons a b => simp at h1
    subst this
    subst h0
    exact ⟨⟨none, 0, rfl⟩, by kernel_rfl⟩
  · subst hv
    refine ⟨⟨_, cap, rfl⟩, ?_⟩
    have hc := h.1.cells (g := g) rfl
    have h2 := run_convert_bytes_back (P := Tryd.prog) y 56 9 5 ⟨g, 0, none⟩ cap l Tryd.underlying56 Tryd.underlying5 Tryd.underlying9 (fun j hj => by
      rw [hc j (byV l[j]) (by simp [hj])]
      rfl)
    exact h2
theorem inM_mem {M : Int} : ∀ {l : List Sn}, InM M l → ∀ {s : Sn}, s ∈ l → 1 ≤ s.c ∧ s.c ≤ M
  | [], _, s, hs => by simp at hs
  | a :: l, h, s, hs => by
    rcases List.mem_cons.1 hs with rfl | hs
    · exact h.1
    · exact inM_mem h.2 hs
theorem line_len {s : Sn} (g : Good s) : (lineL s).length ≤ 100 := by
  have h := (span_line g).1
  unfold spanOf at h
  split at h
  · cases h
  · omega
def printE (l : List Sn) : Int := if checkS l ≠ 0 then checkS l else if 65536 < (printL l).length then 2 else 0
def printB (l : List Sn) : ByteArray := if printE l = 0 then ⟨(printL l).toArray⟩ else ⟨#[]⟩
end Go.Proofs.YthpahpfnpapoiabDoor
