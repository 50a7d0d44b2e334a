/- A map from strings to functions: what it holds, by a function; looked into and written. -/
import Derived.Test.YtfdikiafbfljaaaDoorGn
import Derived.Carry
import Derived.MapKept
namespace Go.Proofs.YtfdikiafbfljaaaDoor
open Go Go.RowKit Go.MapKept
set_option linter.unusedVariables false
set_option maxHeartbeats 1000000
set_option maxRecDepth 20000

section
variable {P : Program} {mt kt et : TypeId}
/-- A block is a map that holds what F says. -/
def MapF (w : World) (g : Nat) (F : ByteArray → Option Value) : Prop := ∃ es clock, w.heap[g]? = some (.map es clock) ∧
  (∀ (i : Nat) (e : MapEntry), es[i]? = some e → ∃ s, e.key = .string s ∧ F s = some e.val) ∧
  (∀ s v, F s = some v → ∃ (i : Nat) (e : MapEntry), es[i]? = some e ∧ e.key = .string s) ∧
  (∀ (i j : Nat) (e e' : MapEntry), es[i]? = some e → es[j]? = some e' → e.key = e'.key → i = j)
theorem MapF.new (w : World) : MapF (w.alloc (.map #[] 0)) w.heap.size (fun _ => none) :=
  ⟨#[], 0, (MapKept.heap_alloc w _).1, fun i e h => by simp at h, fun s v h => (by cases h), fun i j e e' h => by simp at h⟩
theorem MapF.keep {w y : World} {g : Nat} {F : ByteArray → Option Value} (h : MapF w g F) (hk : y.heap[g]? = w.heap[g]?) : MapF y g F := by
  obtain ⟨es, clock, hb, h1⟩ := h
  exact ⟨es, clock, hk.trans hb, h1⟩
theorem MapF.lt {w : World} {g : Nat} {F : ByteArray → Option Value} (h : MapF w g F) : g < w.heap.size := by
  obtain ⟨es, clock, hb, _⟩ := h
  exact heap_lt hb
theorem MapF.block {w : World} {g : Nat} {F : ByteArray → Option Value} (h : MapF w g F) : ∃ es clock, w.heap[g]? = some (.map es clock) := by
  obtain ⟨es, clock, hb, _⟩ := h
  exact ⟨es, clock, hb⟩
theorem keyS (s : ByteArray) : IsKey .string (.string s) := trivial
theorem MapF.look {w : World} {g : Nat} {F : ByteArray → Option Value} (h : MapF w g F) (hm : P.underlying mt = some (.map kt et)) (hk : P.underlying kt = some .string) (s : ByteArray) (z : Value) (hz : (zeroValue et).run P w = .ok z w) :
    (Instr.lookup mt (.map (some g)) (.string s) true).run P w = .ok (.tuple #[(F s).getD z, .bool (F s).isSome]) w := by
  obtain ⟨es, clock, hb, h1, h2, h3⟩ := h
  have hks : ∀ x ∈ es.toList, IsKey .string x.key := fun x hx => by
    obtain ⟨i, hi, e⟩ := List.getElem_of_mem hx
    obtain ⟨t, et', _⟩ := h1 i x (by rw [← Array.getElem?_toList, List.getElem?_eq_getElem hi, e])
    rw [et']
    trivial
  rcases findNow_spec (d := .string) (k := .string s) trivial es.toList 0 hks with ⟨f1, f2⟩ | ⟨j, e0, f1, f2, f3⟩
  · have hF : F s = none := by
      rcases e : F s with _ | v
      · rfl
      · obtain ⟨i, e', he, hke⟩ := h2 s v e
        rw [← Array.getElem?_toList] at he
        exact absurd hke (f2 e' (List.mem_of_getElem? he))
    rw [hF]
    simp [Instr.lookup, run_underlying hm, MapKept.run_getObj_map hb, MapKept.run_checkKey hk (keyS s), MapKept.run_findKey hk f1, hz, Result.andThen]
  · rw [Array.getElem?_toList] at f2
    obtain ⟨t, ht, hF⟩ := h1 j e0 f2
    rw [f3] at ht
    injection ht with ht
    subst ht
    rw [hF]
    simp [Instr.lookup, run_underlying hm, MapKept.run_getObj_map hb, MapKept.run_checkKey hk (keyS s), MapKept.run_findKey hk f1, Result.andThen]
/-- A value at a key. -/
def putF (F : ByteArray → Option Value) (s : ByteArray) (v : Value) : ByteArray → Option Value := fun t => if t = s then some v else F t
theorem MapF.put {w : World} {g : Nat} {F : ByteArray → Option Value} (h : MapF w g F) (hm : P.underlying mt = some (.map kt et)) (hk : P.underlying kt = some .string) (s : ByteArray) (v : Value) :
    ∃ w', (Instr.mapUpdate mt (.map (some g)) (.string s) v).run P w = .ok () w' ∧ MapF w' g (putF F s v) ∧ (∀ q, q ≠ g → w'.heap[q]? = w.heap[q]?) ∧ ∀ B, B ≤ g → Below B w w' := by
  obtain ⟨es, clock, hb, h1, h2, h3⟩ := h
  have hks : ∀ x ∈ es.toList, IsKey .string x.key := fun x hx => by
    obtain ⟨i, hi, e⟩ := List.getElem_of_mem hx
    obtain ⟨t, et', _⟩ := h1 i x (by rw [← Array.getElem?_toList, List.getElem?_eq_getElem hi, e])
    rw [et']
    trivial
  have bel : ∀ (o : Obj) (B : Nat), B ≤ g → Below B w { w with heap := w.heap.setIfInBounds g o } := fun o B hB =>
    ⟨rfl, rfl, rfl, by simp, fun q hq => by simp [show g ≠ q by omega]⟩
  rcases findNow_spec (d := .string) (k := .string s) trivial es.toList 0 hks with ⟨f1, f2⟩ | ⟨j, e0, f1, f2, f3⟩
  · refine ⟨{ w with heap := w.heap.setIfInBounds g (.map (es.push { key := .string s, val := v, born := clock }) (clock + 1)) }, ?_, ⟨_, _, (heap_set hb).1, ?_, ?_, ?_⟩, (heap_set hb).2, bel _⟩
    · simp [Instr.mapUpdate, run_underlying hm, MapKept.run_getObj_map hb, MapKept.run_checkKey hk (keyS s), MapKept.run_findKey hk f1, MapKept.run_setObj_map _ hb, Result.andThen]
    · intro i e he
      rw [Array.getElem?_push] at he
      split at he
      · injection he with he
        subst he
        exact ⟨s, rfl, if_pos rfl⟩
      · obtain ⟨t, ht, hF⟩ := h1 i e he
        refine ⟨t, ht, ?_⟩
        have hne : t ≠ s := fun e' => f2 e (List.mem_of_getElem? (by rw [Array.getElem?_toList]; exact he)) (by rw [ht, e'])
        exact (if_neg hne).trans hF
    · intro t u ht
      unfold putF at ht
      split at ht
      · rename_i e
        subst e
        exact ⟨es.size, { key := .string t, val := v, born := clock }, by simp, rfl⟩
      · obtain ⟨i, e, he, hke⟩ := h2 t u ht
        refine ⟨i, e, ?_, hke⟩
        rw [Array.getElem?_push, if_neg (by have := (Array.getElem?_eq_some_iff.1 he).1; omega)]
        exact he
    · intro i i' e e' he he' hke
      rw [Array.getElem?_push] at he he'
      split at he <;> split at he'
      · omega
      · injection he with he
        subst he
        exact absurd hke.symm (f2 e' (List.mem_of_getElem? (by rw [Array.getElem?_toList]; exact he')))
      · injection he' with he'
        subst he'
        exact absurd hke (f2 e (List.mem_of_getElem? (by rw [Array.getElem?_toList]; exact he)))
      · exact h3 i i' e e' he he' hke
  · rw [Array.getElem?_toList] at f2
    have f2' : es.toList[j]? = some e0 := by rw [Array.getElem?_toList]; exact f2
    refine ⟨{ w with heap := w.heap.setIfInBounds g (.map (es.modify j fun e => { e with key := .string s, val := v }) clock) }, ?_, ⟨_, _, (heap_set hb).1, ?_, ?_, ?_⟩, (heap_set hb).2, bel _⟩
    · simp [Instr.mapUpdate, run_underlying hm, MapKept.run_getObj_map hb, MapKept.run_checkKey hk (keyS s), MapKept.run_findKey hk f1, f2, f3, MapKept.run_keyThatStays (keyS s), MapKept.run_setObj_map _ hb, Result.andThen]
    · intro i e he
      rw [Array.getElem?_modify] at he
      split at he
      · rename_i ej
        subst ej
        rw [f2] at he
        simp at he
        subst he
        exact ⟨s, rfl, if_pos rfl⟩
      · rename_i ej
        obtain ⟨t, ht, hF⟩ := h1 i e he
        refine ⟨t, ht, ?_⟩
        have hne : t ≠ s := fun e' => ej (h3 j i e0 e f2 he (by rw [f3, ht, e']))
        exact (if_neg hne).trans hF
    · intro t u ht
      unfold putF at ht
      split at ht
      · rename_i e
        subst e
        exact ⟨j, _, by rw [Array.getElem?_modify, if_pos rfl, f2]; rfl, rfl⟩
      · rename_i hne
        obtain ⟨i, e, he, hke⟩ := h2 t u ht
        have hij : j ≠ i := fun e' => by
          subst e'
          rw [f2] at he
          injection he with he
          subst he
          rw [f3] at hke
          injection hke with hke
          exact hne hke.symm
        exact ⟨i, e, by rw [Array.getElem?_modify, if_neg hij]; exact he, hke⟩
    · intro i i' e e' he he' hke
      rw [Array.getElem?_modify] at he he'
      have back : ∀ (i : Nat) (e : MapEntry), (if j = i then Option.map (fun e : MapEntry => { e with key := .string s, val := v }) es[i]? else es[i]?) = some e → ∃ x, es[i]? = some x ∧ x.key = e.key := by
        intro i e he
        split at he
        · rename_i ej
          subst ej
          rw [f2] at he
          simp at he
          subst he
          exact ⟨e0, f2, f3⟩
        · exact ⟨e, he, rfl⟩
      obtain ⟨x, hx, ex⟩ := back i e he
      obtain ⟨x', hx', ex'⟩ := back i' e' he'
      exact h3 i i' x x' hx hx' (by rw [ex, ex', hke])
/-- A write into a map, at the operation. -/
theorem at_put {ops : Array Oper} {rest : List Oper} {o : Oper} {a : Act} {w : World} {Q : Exit → Act → World → Prop} (hg : o.guard = none) (m x v : Operand) (ho : o.op = .mapUpdate mt m x v ∨ o.op = .insert mt m x v) (hm : P.underlying mt = some (.map kt et)) (hk : P.underlying kt = some .string)
    (g : Nat) (F : ByteArray → Option Value) (s : ByteArray) (u : Value) (hF : MapF w g F) (em : a.eval m = .map (some g)) (ex : a.eval x = .string s) (ev : a.eval v = u)
    (k : ∀ w', Hid (MapF w' g (putF F s u) ∧ (∀ q, q ≠ g → w'.heap[q]? = w.heap[q]?) ∧ ∀ B, B ≤ g → Below B w w') → wpList P ops Q rest (a.put o.dst undef) w') : wpList P ops Q (o :: rest) a w := by
  refine wpList_plain hg fun K' hK' => ?_
  obtain ⟨w', hrun, r1⟩ := hF.put hm hk s u
  unfold Oper.wp
  rcases ho with ho | ho
  · simp [execOp, ho, em, ex, ev, hrun, Result.andThen]
    exact hK' _ _ (k w' r1)
  · simp [execOp, ho, em, ex, ev, hrun, Result.andThen]
    exact hK' _ _ (k w' r1)
end
end Go.Proofs.YtfdikiafbfljaaaDoor
