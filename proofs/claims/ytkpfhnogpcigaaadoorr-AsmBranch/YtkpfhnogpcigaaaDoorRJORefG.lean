/- The document's answer: a number in so many digits, what a digit says. -/
import Derived.Test.YtkpfhnogpcigaaaDoorRJORefE
import Derived.Test.YtkpfhnogpcigaaaDoorRJHex
import Derived.OwnWalk
namespace Go.Proofs.YtkpfhnogpcigaaaDoorR
open Go.RowKit
set_option linter.unusedVariables false
set_option maxHeartbeats 1000000
set_option maxRecDepth 20000

def valI (c : Int) : Int := match digV c with
  | none => -1
  | some v => v
theorem rows_set {cur : Array Value} {j : Nat} {u : Value} {D k : Nat} {f : Nat → Value} (hk : k = j + 1) (hj : j < cur.size) (h : ∀ i, k ≤ i → i < D → cur[i]? = some (f i)) (hu : u = f j) : ∀ i, j ≤ i → i < D → (cur.setIfInBounds j u)[i]? = some (f i) := fun i h1 h2 => by
  by_cases e : i = j
  · subst e; rw [hu]; simp [hj]
  · rw [Array.getElem?_setIfInBounds_ne (by omega)]; exact h i (by omega) h2

end Go.Proofs.YtkpfhnogpcigaaaDoorR
/- The document's answer: Encode, Decode and Print, whole. -/
namespace Go.Proofs.YtkpfhnogpcigaaaDoorR
open Go.RowKit
set_option linter.unusedVariables false
set_option maxHeartbeats 1000000
set_option maxRecDepth 20000

theorem mayB_no {n : Nat} {A : Int} (h : ¬ may n A) : mayB n A = false := by
  rcases e : mayB n A with _ | _
  · rfl
  · exact absurd ((mayB_iff n A).1 e) h
theorem rdec_less (w : World) (g off len cap n : Nat) (h : n < 256) (c0 : w.cell? ⟨g, off, none⟩ = some (.int .u8 n)) (hlen : 1 ≤ len) (hsh : len < by1 n) :
    Calls Tryd.prog 60 #[.slice (some ⟨g, off, none⟩) len cap] w fun e w' => e = .returned (.tuple #[instr0, .int .i64 0, .int .i64 22]) ∧ Below w.heap.size w w' := by
  have hf := fm_le n h
  exact rdec_short w g off len cap n (fm n) (by1 n) (fun v => rform_any n v h) (fun v => rbytes_any (fm n) v hf.1 hf.2) c0 (own_size c0) hlen hsh
theorem rdec_row (w : World) (g off len cap n p q : Nat) (h : n < 256) (hp : p < 256) (hq : q < 256) (c0 : w.cell? ⟨g, off, none⟩ = some (.int .u8 n)) (c1 : 2 ≤ by1 n → w.cell? ⟨g, off + 1, none⟩ = some (.int .u8 p)) (c2 : 3 ≤ by1 n → w.cell? ⟨g, off + 2, none⟩ = some (.int .u8 q)) (hlen : by1 n ≤ len) :
    Calls Tryd.prog 60 #[.slice (some ⟨g, off, none⟩) len cap] w fun e w' => e = .returned (.tuple #[.agg #[.string (nm n), .int .i64 (argOf n p q)], .int .i64 (by1 n : Nat), .int .i64 0]) ∧ Below w.heap.size w w' := by
  have hg := own_size c0
  have hf := fm_le n h
  have hy := by1_eq n h
  have hF := fun v => rform_any n v h
  have hB := fun v => rbytes_any (fm n) v hf.1 hf.2
  have hN := fun v => rname_any n v h
  have hz := held_lt n (fm n)
  have hd : fm n = 1 ∨ fm n = 2 ∨ fm n = 3 ∨ fm n = 4 ∨ fm n = 5 ∨ fm n = 6 := by omega
  unfold argOf
  rcases hd with e | e | e | e | e | e
  all_goals rw [e] at hF hB hy hz ⊢
  all_goals simp at hy
  all_goals rw [hy] at c1 c2 hlen ⊢
  · have hc : held n 1 = 0 := hz.2.2.2.2 (by decide) (by decide)
    rw [hc]
    exact rdec_1 w g off len cap n h _ hF hB hN c0 hg hlen
  · have hc : (held n 2 : Int) = (n : Int) % 16 := by have := hz.2.2.1 rfl; omega
    simp only [if_true]
    rw [hc]
    exact rdec_2 w g off len cap n h _ hF hB hN c0 hg hlen
  · have hc : (held n 3 : Int) = (n : Int) % 8 := by have := hz.2.2.2.1 rfl; omega
    simp only [if_true]
    rw [hc]
    exact rdec_3 w g off len cap n h _ hF hB hN c0 hg hlen
  · exact rdec_4 w g off len cap n h _ hF hB hN c0 hg p hp (c1 (by omega)) hlen
  · exact rdec_5 w g off len cap n h _ hF hB hN c0 hg p hp (c1 (by omega)) hlen
  · have hc : (p : Int) * 256 + q = 256 * (p : Int) + q := by omega
    simp
    rw [hc]
    exact rdec_6 w g off len cap n h _ hF hB hN c0 hg p q hp hq (c1 (by omega)) (c2 (by omega)) hlen

end Go.Proofs.YtkpfhnogpcigaaaDoorR
