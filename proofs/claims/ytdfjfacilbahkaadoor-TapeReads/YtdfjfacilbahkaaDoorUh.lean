/- Waves as spans, by the document: the walk. -/
import Derived.Test.YtdfjfacilbahkaaDoorUf
import Derived.Test.YtdfjfacilbahkaaDoorLc
import Derived.Test.YtdfjfacilbahkaaDoorXf
namespace Go.Proofs.YtdfjfacilbahkaaDoor
open Go Go.RowKit
set_option linter.unusedVariables false
set_option maxHeartbeats 4000000
set_option maxRecDepth 20000

def cS (s : Sn) : List Value := (spC s).toList
theorem kSpan : KdL 38 37 10 24 cS := by
  obtain ⟨i, hi, e⟩ := Option.map_eq_some_iff.1 infoS
  injection e with e1 e2
  injection e2 with e2 e3
  exact ⟨Tryd.underlying38, ⟨i, _, hi, e1, e2, e3, rfl⟩, fun _ => rfl, fun s v hv => by
    have := spC_one s
    rw [Array.all_eq_true_iff_forall_mem] at this
    exact this v (by simpa [cS] using hv), by decide, by decide⟩
/-- A wave that spans can tell. -/
def okW (p : Int × Int) : Bool := !(decide (p.1 < 1) || decide (1048576 < p.1) || decide (p.2 < 1) || decide (1048576 < p.2))
def tOn (a : At) : At := ⟨a.Ke, true, a.Fl, a.DI, a.DO, a.In, a.Cl, a.Wa, a.Bu⟩
def tOff (a : At) : At := ⟨a.Ke, false, a.Fl, a.DI, a.DO, a.In, a.Cl, a.Wa, a.Bu⟩
def spanL (l : List (Int × Int)) (a : At) : List Sn := l.flatMap fun p => [⟨p.1, tOn a⟩, ⟨p.2, tOff a⟩]
def spansW (l : List (Int × Int)) (a : At) : List Sn × Int := if l.all okW = false then ([], 1) else if 2048 < l.length then ([], 2) else if checkS (spanL l a) = 0 then (spanL l a, 0) else ([], checkS (spanL l a))
theorem spanL_len (l : List (Int × Int)) (a : At) : (spanL l a).length = 2 * l.length := by
  induction l with
  | nil => rfl
  | cons p l ih => simp only [spanL, List.flatMap_cons, List.length_append, List.length_cons, List.length_nil] at ih ⊢; omega
theorem spanL_snoc (l : List (Int × Int)) (a : At) (j : Nat) (p : Int × Int) (h : l[j]? = some p) : spanL (l.take (j + 1)) a = spanL (l.take j) a ++ [⟨p.1, tOn a⟩, ⟨p.2, tOff a⟩] := by
  unfold spanL
  rw [List.take_add_one, h]
  simp
theorem zeroVSp (w : World) : (zeroValue 37).run Tryd.prog w = .ok (.agg (spC ⟨0, ⟨0, false, false, false, false, false, false, false, 0⟩⟩)) w := by kernel_rfl
theorem fillS2 (s u : Sn) : Instr.fill (fun i => some (i * 10, 10)) ((Array.range (2 * 10)).map ((Value.agg (spC ⟨0, ⟨0, false, false, false, false, false, false, false, 0⟩⟩)).cells[· % (Value.agg (spC ⟨0, ⟨0, false, false, false, false, false, false, false, 0⟩⟩)).cells.size]!)) [(0, .agg (spC s)), (1, .agg (spC u))] = some (rowL cS [s, u]).toArray := by kernel_rfl
theorem at_bsS2 {ops : Array Oper} {rest : List Oper} {o : Oper} {a : Act} {w : World} {Q : Exit → Act → World → Prop} (s u : Sn) (x y : Operand) (hgd : o.guard = none) (ho : o.op = .buildSlice 38 2 #[(0, x), (1, y)]) (hx : a.eval x = .agg (spC s)) (hy : a.eval y = .agg (spC u))
    (h : wpList Tryd.prog ops Q rest (a.put o.dst (.slice (some ⟨w.heap.size, 0, none⟩) 2 2)) (w.alloc (.cells (rowL cS [s, u]).toArray 37))) : wpList Tryd.prog ops Q (o :: rest) a w := by
  obtain ⟨i, hi, e⟩ := Option.map_eq_some_iff.1 infoS
  injection e with hz0 e2
  injection e2 with hz1 hz2
  refine wpList_buildSlice hgd 38 37 2 #[(0, x), (1, y)] ho (rowL cS [s, u]).toArray i _ Tryd.underlying38 hi hz0 (by rw [hz1]; decide) (by rw [hz1]; decide) ?_ h
  rw [hz1]
  have e : (#[(0, x), (1, y)].map fun (i, x) => (i, a.eval x)).toList = [(0, .agg (spC s)), (1, .agg (spC u))] := by simp [hx, hy]
  rw [e]
  exact fillS2 s u
end Go.Proofs.YtdfjfacilbahkaaDoor
