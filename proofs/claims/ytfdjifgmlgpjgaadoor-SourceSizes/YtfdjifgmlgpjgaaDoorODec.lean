/- code.Decode: what it returns of every row of bytes. -/
import Derived.Test.YtfdjifgmlgpjgaaDoorOFirst
namespace Go.Proofs.YtfdjifgmlgpjgaaDoor
open Go.RowKit
set_option linter.unusedVariables false
set_option maxHeartbeats 400000

theorem idxS {P : Program} {t e : TypeId} {s g off len cap : Nat} (ht : P.underlying t = some (.slice e)) (hs : (P.info? e).map (·.size) = some s) (k : IntKind) (i : Nat) (w : World) (h : i < len) :
   (Instr.indexAt t (.slice (some ⟨g, off, none⟩) len cap) (.int k (i : Int))).run P w = .ok (.pointer (some ⟨g, off + i * s, none⟩)) w := by
  have e2 : P.elem t = e := by unfold Program.elem; rw [ht]
  rw [run_indexAt_slice _ _ _ _ _ _ _ (by rw [e2, ht]), e2, if_pos ⟨by omega, by omega⟩]
  obtain ⟨inf, hi, rfl⟩ := Option.map_eq_some_iff.1 hs
  have e3 : P.cellsOf e = inf.size := by unfold Program.cellsOf; rw [hi]; rfl
  rw [run_sizeOf _ hi, e3]
  have e4 : (⟨g, off, none⟩ : Addr).add (i * inf.size) = ⟨g, off + i * inf.size, none⟩ := by
    unfold Addr.add
    split
    · rename_i h0; rw [h0]; rfl
    · rfl
  simp [e4]
theorem own_size {v : World} {g j : Nat} {x : Value} (h : v.cell? ⟨g, j, none⟩ = some x) : g < v.heap.size := by
  rcases Nat.lt_or_ge g v.heap.size with h' | h'
  · exact h'
  · simp [World.cell?, Array.getElem?_eq_none h'] at h

theorem quiet2 {P : Program} {f : FuncId} {args : Array Value} {w : World} {k n : Nat} {v : Value} (h : Calls P f args (w.drewN (k + n)) fun e w' => e = .returned v ∧ w' = w.drewN (k + n)) : Calls P f args (w.drewN (k + n)) fun e w'' => e = .returned v ∧ ∃ m, w'' = w.drewN (k + m) :=
  h.mono fun _ _ ⟨he, hm⟩ => ⟨he, n, hm⟩

def instr0 : Value := .agg #[.string ⟨#[]⟩, .int .i64 0]
end Go.Proofs.YtfdjifgmlgpjgaaDoor
