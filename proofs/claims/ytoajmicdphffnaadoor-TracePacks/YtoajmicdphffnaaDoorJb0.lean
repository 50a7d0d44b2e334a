/- The statement on Pack: the walk. -/
import Derived.Test.YtoajmicdphffnaaDoorJa
import Derived.Test.YtoajmicdphffnaaDoorKw
namespace Go.Proofs.YtoajmicdphffnaaDoor
open Go Go.RowKit
set_option linter.unusedVariables false
set_option maxHeartbeats 2000000
set_option maxRecDepth 20000

theorem KB.owb {w y z : World} {v : Value} {l : List UInt8} (h : KB y v l z) (hb : w.heap.size ≤ y.heap.size) : OwnB w.heap.size z v l := by
  refine ⟨h.1.1, ?_⟩
  rcases h.1.2 with h0 | ⟨g, cap, cur, hv, hb', hg, hr⟩
  · exact .inl h0
  · exact .inr ⟨g, cap, cur, hv, Nat.le_trans hb hb', hg, hr⟩
theorem pack_len (l : List Rc) : (packB l).length ≤ 20971528 := by
  have key : ∀ (l : List Rc) (n : Int), (packGo l n).length ≤ 5 * l.length := by
    intro l
    induction l with
    | nil => intro n; simp [packGo]
    | cons r l ih =>
      intro n
      have := ih ((r.ad + 1) % 65536)
      have h5 : (bytesR r n).length ≤ 5 := by unfold bytesR; split <;> simp
      simp only [packGo, List.length_append, List.length_cons]
      omega
  unfold packB
  split
  · rename_i h
    have := (check_ok h).1
    have := key l 0
    unfold packR
    simp only [List.length_append, begP, List.length_cons, List.length_nil]
    omega
  · simp
end Go.Proofs.YtoajmicdphffnaaDoor
