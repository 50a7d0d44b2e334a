/- The document's writing of bytes: the walk. -/
import Derived.Test.YtdfjfacilbahkabDoorUe
namespace Go.Proofs.YtdfjfacilbahkabDoor
open Go Go.RowKit
set_option linter.unusedVariables false
set_option maxHeartbeats 2000000
set_option maxRecDepth 20000

theorem fill2 (p : Int × Int) : Instr.fill (fun i => some (i * 2, 2)) ((Array.range (1 * 2)).map ((Value.agg #[.int .i64 0, .int .i64 0]).cells[· % (Value.agg #[.int .i64 0, .int .i64 0]).cells.size]!)) [(0, .agg (c2 p).toArray)] = some (c2 p).toArray := by kernel_rfl
theorem at_bsWa {ops : Array Oper} {rest : List Oper} {o : Oper} {a : Act} {w : World} {Q : Exit → Act → World → Prop} (p : Int × Int) (x : Operand) (hgd : o.guard = none) (ho : o.op = .buildSlice 25 1 #[(0, x)]) (hx : a.eval x = .agg (c2 p).toArray)
    (h : wpList Tryd.prog ops Q rest (a.put o.dst (.slice (some ⟨w.heap.size, 0, none⟩) 1 1)) (w.alloc (.cells (c2 p).toArray 30))) : wpList Tryd.prog ops Q (o :: rest) a w := by
  obtain ⟨i, hi, e⟩ := Option.map_eq_some_iff.1 infoWa
  injection e with hz0 e2
  injection e2 with hz1 hz2
  refine wpList_buildSlice hgd 25 30 1 #[(0, x)] ho (c2 p).toArray i _ Tryd.underlying25 hi hz0 (by rw [hz1]; decide) (by rw [hz1]; decide) ?_ h
  rw [hz1]
  have e : (#[(0, x)].map fun (i, x) => (i, a.eval x)).toList = [(0, .agg (c2 p).toArray)] := by simp [hx]
  rw [e]
  exact fill2 p
abbrev LB (x : World) (sp : Option Addr) (l : List UInt8) : Prop := LiesL 1 cB x sp l
theorem lb_at {x : World} {sp : Option Addr} {l : List UInt8} (h : LB x sp l) (j : Nat) (z : UInt8) (hj : l[j]? = some z) : ∃ g o, sp = some ⟨g, o, none⟩ ∧ x.cell? ⟨g, o + j, none⟩ = some (.int .u8 (z.toNat : Int)) := by
  obtain ⟨g, o, e, k⟩ := h j z hj
  refine ⟨g, o, e, ?_⟩
  have := k 0 _ rfl
  rwa [Nat.mul_one, Nat.add_zero] at this
theorem idxB (g o n cap k : Nat) (h : k < n) (v : World) : (Instr.indexAt 22 (.slice (some ⟨g, o, none⟩) n cap) (.int .i64 (k : Int))).run Tryd.prog v = .ok (.pointer (some ⟨g, o + k, none⟩)) v := by
  have := idxP (g := g) (off := o) (len := n) (cap := cap) Tryd.underlying22 (s := 1) (by kernel_rfl) .i64 k v h
  rw [Nat.mul_one] at this
  exact this
/-- What is written, and the error. -/
def writeW (b : List UInt8) (m : Int) : List (Int × Int) × Int := if 16384 < b.length then ([], 2) else if m < 0 ∨ 16384 < m then ([], 1) else (writeL b m.toNat, 0)
theorem bitsN_snoc (k : Nat) : ∀ N, bitsN (k + 1) N = bitsN k N ++ [((N / 2 ^ k % 2 : Nat) : Int)] := by
  induction k with
  | zero => intro N; simp [bitsN]
  | succ k ih =>
    intro N
    show ((N % 2 : Nat) : Int) :: bitsN (k + 1) (N / 2) = (((N % 2 : Nat) : Int) :: bitsN k (N / 2)) ++ _
    rw [ih, Nat.div_div_eq_div_mul, Nat.pow_succ, Nat.mul_comm 2]
    rfl
theorem sumI_app (a b : List Int) : sumI (a ++ b) = sumI a + sumI b := by
  induction a with
  | nil => simp [sumI]
  | cons x a ih => simp only [List.cons_append, sumI, ih]; omega
theorem sumI_bits (k N : Nat) : 0 ≤ sumI (bitsN k N) ∧ sumI (bitsN k N) ≤ k := by
  induction k with
  | zero => simp [bitsN, sumI]
  | succ k ih =>
    rw [bitsN_snoc, sumI_app]
    simp only [sumI]
    have := Nat.mod_two_eq_zero_or_one (N / 2 ^ k)
    omega
end Go.Proofs.YtdfjfacilbahkabDoor
