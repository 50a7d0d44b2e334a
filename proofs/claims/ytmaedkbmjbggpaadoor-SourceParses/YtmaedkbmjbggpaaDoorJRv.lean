/- What recovers: a deferred literal whose first operation asks for the panic, then as ever. -/
import Derived.Test.YtmaedkbmjbggpaaDoorProg
import Derived.Tactics
import Derived.Tactics2
import Derived.Defers
import Derived.Recover
import Derived.WalkKit
import Derived.WalkSmall
import Derived.Below
namespace Go.Proofs.YtmaedkbmjbggpaaDoor
open Go Go.RowKit
set_option linter.unusedVariables false
set_option maxHeartbeats 1000000
section
variable {P : Program} {Q : Exit → Act → List Frame → World → Prop} {a : Act} {cs cs' : List Frame} {w : World}
theorem wpS_rec {id : Nat} {ops : Array Oper} {y : Code} {o : Oper} {rest : List Oper} {v : Value} (hops : ops.toList = o :: rest) (hw : Region.wanted o (yielded ops a.tmps) = true) (hr : (execOp a.eval o).run P w = .ok .recover w)
    (hrec : (recoverD cs = some (v, cs')) ∨ (recoverD cs = none ∧ v = .nilIface ∧ cs' = cs))
    (h : wpList P ops (Exit.then (y.wp P fun e a' w' => Q e a' cs' w') fun e a' w' => Q e a' cs' w') rest (a.put o.dst v) w) : (Code.seq (.region id ops false) y).wpS P Q a cs w := by
  apply wpS_seq
  intro b k hb hro
  have ho : ops[0]? = some o := by rw [← Array.getElem?_toList, hops]; rfl
  have hsz : ops.size = rest.length + 1 := by rw [← Array.length_toList, hops]; rfl
  have hlist : wpOps P ops (Exit.then (y.wp P fun e a' w' => Q e a' cs' w') fun e a' w' => Q e a' cs' w') (List.range' 1 rest.length) = wpList P ops (Exit.then (y.wp P fun e a' w' => Q e a' cs' w') fun e a' w' => Q e a' cs' w') rest := wpOps_eq_wpList rest 1 fun j => by
    rw [← Array.getElem?_toList, hops, Nat.add_comm 1 j, List.getElem?_cons_succ]
  rw [← hlist] at h
  have hrange : List.range ops.size = 0 :: List.range' 1 rest.length := by rw [hsz, List.range_eq_range', List.range'_succ]
  have hg := stepG_op (P := P) (b := b) (k := k) (cs := cs) (w := w) (rest := List.range' 1 rest.length) ho hw
  have hfin : ∀ v, (b.at a (.inRegion ops (0 :: List.range' 1 rest.length) :: k)).finish v = b.at (a.put o.dst v) (.inRegion ops (List.range' 1 rest.length) :: k) := by
    intro v; rw [Frame.finish_at, ho]; rfl
  have hk : (b.at a (.inRegion ops (0 :: List.range' 1 rest.length) :: k)).kind = .deferred := hb
  have htr := tryRecover_deferred hk cs
  obtain ⟨e, a', w', hq, harr⟩ := wp_ops _ _ _ h b k cs'
  refine ⟨e, a', cs', w', ?_, .of_steps (.head step_region (.one (step_lone_go ?_))) harr⟩
  · cases e <;> first | exact wpS_of_wp hq | exact hq
  · rw [hrange, hg, ← hfin]
    simp only [Frame.at] at htr ⊢
    rcases hrec with hrec | ⟨hrec, rfl, rfl⟩
    · simp [stepG.apply, hr, htr, hrec]
    · simp [stepG.apply, hr, htr, hrec]
end
end Go.Proofs.YtmaedkbmjbggpaaDoor
