/- A map from strings to functions: what it holds, by a function; looked into and written. Rows of values of any kind: an append of several. What a program has so far: its bytes, labels and uses in memory; data taken up. -/
import Derived.Test.YthaijjehplomfaaDoorJ1
import Derived.Carry
import Derived.MapKept
import Derived.Test.YthaijjehplomfaaDoorJ2
import Derived.Test.YthaijjehplomfaaDoorJ15
import Derived.Test.YthaijjehplomfaaDoorJ14
namespace Go.Proofs.YthaijjehplomfaaDoor
open Go Go.RowKit Go.MapKept
set_option linter.unusedVariables false
set_option maxHeartbeats 1000000
set_option maxRecDepth 20000

section
variable {P : Program} {mt kt et : TypeId}
/-- A block is a map that holds what F says. -/
def MapF (w : World) (g : Nat) (F : ByteArray → Option Value) : Prop := ∃ es clock, w.heap[g]? = some (.map es clock) ∧
  (∀ (i : Nat) (e : MapEntry), es[i]? = some e → ∃ s, e.key = .string s ∧ F s = some e.val) ∧
  (∀ s v, F s = some v → ∃ (i : Nat) (e : MapEntry), es[i]? = some e ∧ e.key = .string s) ∧
  (∀ (i j : Nat) (e e' : MapEntry), es[i]? = some e → es[j]? = some e' → e.key = e'.key → i = j)
theorem MapF.new (w : World) : MapF (w.alloc (.map #[] 0)) w.heap.size (fun _ => none) :=
  ⟨#[], 0, (MapKept.heap_alloc w _).1, fun i e h => by simp at h, fun s v h => (by cases h), fun i j e e' h => by simp at h⟩
theorem MapF.keep {w y : World} {g : Nat} {F : ByteArray → Option Value} (h : MapF w g F) (hk : y.heap[g]? = w.heap[g]?) : MapF y g F := by
  obtain ⟨es, clock, hb, h1⟩ := h
  exact ⟨es, clock, hk.trans hb, h1⟩
theorem MapF.lt {w : World} {g : Nat} {F : ByteArray → Option Value} (h : MapF w g F) : g < w.heap.size := by
  obtain ⟨es, clock, hb, _⟩ := h
  exact heap_lt hb
theorem MapF.block {w : World} {g : Nat} {F : ByteArray → Option Value} (h : MapF w g F) : ∃ es clock, w.heap[g]? = some (.map es clock) := by
  obtain ⟨es, clock, hb, _⟩ := h
  exact ⟨es, clock, hb⟩
theorem keyS (s : ByteArray) : IsKey .string (.string s) := trivial
theorem MapF.look {w : World} {g : Nat} {F : ByteArray → Option Value} (h : MapF w g F) (hm : P.underlying mt = some (.map kt et)) (hk : P.underlying kt = some .string) (s : ByteArray) (z : Value) (hz : (zeroValue et).run P w = .ok z w) :
    (Instr.lookup mt (.map (some g)) (.string s) true).run P w = .ok (.tuple #[(F s).getD z, .bool (F s).isSome]) w := by
  obtain ⟨es, clock, hb, h1, h2, h3⟩ := h
  have hks : ∀ x ∈ es.toList, IsKey .string x.key := fun x hx => by
    obtain ⟨i, hi, e⟩ := List.getElem_of_mem hx
    obtain ⟨t, et', _⟩ := h1 i x (by rw [← Array.getElem?_toList, List.getElem?_eq_getElem hi, e])
    rw [et']
    trivial
  rcases findNow_spec (d := .string) (k := .string s) trivial es.toList 0 hks with ⟨f1, f2⟩ | ⟨j, e0, f1, f2, f3⟩
  · have hF : F s = none := by
      rcases e : F s with _ | v
      · rfl
      · obtain ⟨i, e', he, hke⟩ := h2 s v e
        rw [← Array.getElem?_toList] at he
        exact absurd hke (f2 e' (List.mem_of_getElem? he))
    rw [hF]
    simp [Instr.lookup, run_underlying hm, MapKept.run_getObj_map hb, MapKept.run_checkKey hk (keyS s), MapKept.run_findKey hk f1, hz, Result.andThen]
  · rw [Array.getElem?_toList] at f2
    obtain ⟨t, ht, hF⟩ := h1 j e0 f2
    rw [f3] at ht
    injection ht with ht
    subst ht
    rw [hF]
    simp [Instr.lookup, run_underlying hm, MapKept.run_getObj_map hb, MapKept.run_checkKey hk (keyS s), MapKept.run_findKey hk f1, Result.andThen]
/-- A value at a key. -/
def putF (F : ByteArray → Option Value) (s : ByteArray) (v : Value) : ByteArray → Option Value := fun t => if t = s then some v else F t
theorem MapF.put {w : World} {g : Nat} {F : ByteArray → Option Value} (h : MapF w g F) (hm : P.underlying mt = some (.map kt et)) (hk : P.underlying kt = some .string) (s : ByteArray) (v : Value) :
    ∃ w', (Instr.mapUpdate mt (.map (some g)) (.string s) v).run P w = .ok () w' ∧ MapF w' g (putF F s v) ∧ (∀ q, q ≠ g → w'.heap[q]? = w.heap[q]?) ∧ ∀ B, B ≤ g → Below B w w' := by
  obtain ⟨es, clock, hb, h1, h2, h3⟩ := h
  have hks : ∀ x ∈ es.toList, IsKey .string x.key := fun x hx => by
    obtain ⟨i, hi, e⟩ := List.getElem_of_mem hx
    obtain ⟨t, et', _⟩ := h1 i x (by rw [← Array.getElem?_toList, List.getElem?_eq_getElem hi, e])
    rw [et']
    trivial
  have bel : ∀ (o : Obj) (B : Nat), B ≤ g → Below B w { w with heap := w.heap.setIfInBounds g o } := fun o B hB =>
    ⟨rfl, rfl, rfl, by simp, fun q hq => by simp [show g ≠ q by omega]⟩
  rcases findNow_spec (d := .string) (k := .string s) trivial es.toList 0 hks with ⟨f1, f2⟩ | ⟨j, e0, f1, f2, f3⟩
  · refine ⟨{ w with heap := w.heap.setIfInBounds g (.map (es.push { key := .string s, val := v, born := clock }) (clock + 1)) }, ?_, ⟨_, _, (heap_set hb).1, ?_, ?_, ?_⟩, (heap_set hb).2, bel _⟩
    · simp [Instr.mapUpdate, run_underlying hm, MapKept.run_getObj_map hb, MapKept.run_checkKey hk (keyS s), MapKept.run_findKey hk f1, MapKept.run_setObj_map _ hb, Result.andThen]
    · intro i e he
      rw [Array.getElem?_push] at he
      split at he
      · injection he with he
        subst he
        exact ⟨s, rfl, if_pos rfl⟩
      · obtain ⟨t, ht, hF⟩ := h1 i e he
        refine ⟨t, ht, ?_⟩
        have hne : t ≠ s := fun e' => f2 e (List.mem_of_getElem? (by rw [Array.getElem?_toList]; exact he)) (by rw [ht, e'])
        exact (if_neg hne).trans hF
    · intro t u ht
      unfold putF at ht
      split at ht
      · rename_i e
        subst e
        exact ⟨es.size, { key := .string t, val := v, born := clock }, by simp, rfl⟩
      · obtain ⟨i, e, he, hke⟩ := h2 t u ht
        refine ⟨i, e, ?_, hke⟩
        rw [Array.getElem?_push, if_neg (by have := (Array.getElem?_eq_some_iff.1 he).1; omega)]
        exact he
    · intro i i' e e' he he' hke
      rw [Array.getElem?_push] at he he'
      split at he <;> split at he'
      · omega
      · injection he with he
        subst he
        exact absurd hke.symm (f2 e' (List.mem_of_getElem? (by rw [Array.getElem?_toList]; exact he')))
      · injection he' with he'
        subst he'
        exact absurd hke (f2 e (List.mem_of_getElem? (by rw [Array.getElem?_toList]; exact he)))
      · exact h3 i i' e e' he he' hke
  · rw [Array.getElem?_toList] at f2
    have f2' : es.toList[j]? = some e0 := by rw [Array.getElem?_toList]; exact f2
    refine ⟨{ w with heap := w.heap.setIfInBounds g (.map (es.modify j fun e => { e with key := .string s, val := v }) clock) }, ?_, ⟨_, _, (heap_set hb).1, ?_, ?_, ?_⟩, (heap_set hb).2, bel _⟩
    · simp [Instr.mapUpdate, run_underlying hm, MapKept.run_getObj_map hb, MapKept.run_checkKey hk (keyS s), MapKept.run_findKey hk f1, f2, f3, MapKept.run_keyThatStays (keyS s), MapKept.run_setObj_map _ hb, Result.andThen]
    · intro i e he
      rw [Array.getElem?_modify] at he
      split at he
      · rename_i ej
        subst ej
        rw [f2] at he
        simp at he
        subst he
        exact ⟨s, rfl, if_pos rfl⟩
      · rename_i ej
        obtain ⟨t, ht, hF⟩ := h1 i e he
        refine ⟨t, ht, ?_⟩
        have hne : t ≠ s := fun e' => ej (h3 j i e0 e f2 he (by rw [f3, ht, e']))
        exact (if_neg hne).trans hF
    · intro t u ht
      unfold putF at ht
      split at ht
      · rename_i e
        subst e
        exact ⟨j, _, by rw [Array.getElem?_modify, if_pos rfl, f2]; rfl, rfl⟩
      · rename_i hne
        obtain ⟨i, e, he, hke⟩ := h2 t u ht
        have hij : j ≠ i := fun e' => by
          subst e'
          rw [f2] at he
          injection he with he
          subst he
          rw [f3] at hke
          injection hke with hke
          exact hne hke.symm
        exact ⟨i, e, by rw [Array.getElem?_modify, if_neg hij]; exact he, hke⟩
    · intro i i' e e' he he' hke
      rw [Array.getElem?_modify] at he he'
      have back : ∀ (i : Nat) (e : MapEntry), (if j = i then Option.map (fun e : MapEntry => { e with key := .string s, val := v }) es[i]? else es[i]?) = some e → ∃ x, es[i]? = some x ∧ x.key = e.key := by
        intro i e he
        split at he
        · rename_i ej
          subst ej
          rw [f2] at he
          simp at he
          subst he
          exact ⟨e0, f2, f3⟩
        · exact ⟨e, he, rfl⟩
      obtain ⟨x, hx, ex⟩ := back i e he
      obtain ⟨x', hx', ex'⟩ := back i' e' he'
      exact h3 i i' x x' hx hx' (by rw [ex, ex', hke])
/-- A write into a map, at the operation. -/
theorem at_put {ops : Array Oper} {rest : List Oper} {o : Oper} {a : Act} {w : World} {Q : Exit → Act → World → Prop} (hg : o.guard = none) (m x v : Operand) (ho : o.op = .mapUpdate mt m x v ∨ o.op = .insert mt m x v) (hm : P.underlying mt = some (.map kt et)) (hk : P.underlying kt = some .string)
    (g : Nat) (F : ByteArray → Option Value) (s : ByteArray) (u : Value) (hF : MapF w g F) (em : a.eval m = .map (some g)) (ex : a.eval x = .string s) (ev : a.eval v = u)
    (k : ∀ w', Hid (MapF w' g (putF F s u) ∧ (∀ q, q ≠ g → w'.heap[q]? = w.heap[q]?) ∧ ∀ B, B ≤ g → Below B w w') → wpList P ops Q rest (a.put o.dst undef) w') : wpList P ops Q (o :: rest) a w := by
  refine wpList_plain hg fun K' hK' => ?_
  obtain ⟨w', hrun, r1⟩ := hF.put hm hk s u
  unfold Oper.wp
  rcases ho with ho | ho
  · simp [execOp, ho, em, ex, ev, hrun, Result.andThen]
    exact hK' _ _ (k w' r1)
  · simp [execOp, ho, em, ex, ev, hrun, Result.andThen]
    exact hK' _ _ (k w' r1)
end
end Go.Proofs.YthaijjehplomfaaDoor

namespace Go.Proofs.YthaijjehplomfaaDoor
open Go Go.RowKit
set_option linter.unusedVariables false
set_option maxHeartbeats 400000
set_option maxRecDepth 20000

section
variable {α : Type} {T t : TypeId} {s bts : Nat} {c : α → List Value}
/-- What an append of several values leaves. -/
structure AppNL (t : TypeId) (s : Nat) (c : α → List Value) (B : Nat) (v : Value) (l us : List α) (v' : Value) (w w' : World) : Prop where
  own : OwnL t s c B w' v' (l ++ us)
  new : ∀ g, v'.ownBlock = some g → v.ownBlock = some g ∨ w.heap.size ≤ g
  cu : CuL B (fun g j => v.ownBlock = some g ∧ l.length * s ≤ j) w w'
theorem AppNL.grew {B : Nat} {v : Value} {l us : List α} {v' : Value} {w w' : World} (hB : B ≤ w.heap.size) (h1 : w'.ownsRow w.heap.size t s v' (l.length + us.length) (rowL c l ++ rowL c us)) (h2 : w.grownBy w' none) : AppNL t s c B v l us v' w w' := by
  have ho : OwnL t s c w.heap.size w' v' (l ++ us) := by
    unfold OwnL
    rw [rowL_app, List.length_append]
    exact h1
  exact ⟨ho.weak hB, fun g hg => .inr (ho.lt g hg).1, CuL.of_below ⟨h2.os, h2.tape, h2.output, h2.size, fun k hk => h2.block k hk (by simp)⟩ hB⟩
/-- The cells of a row that lies. -/
theorem LiesL.cells (hc : ∀ x, (c x).length = s) (hs : 0 < s) {x : World} {g o : Nat} {l : List α} (h : LiesL s c x (some ⟨g, o, none⟩) l) (j : Nat) (u : Value) (hj : (rowL c l)[j]? = some u) : x.cell? ⟨g, o + j, none⟩ = some u := by
  have hlt : j < l.length * s := by
    have := (List.getElem?_eq_some_iff.1 hj).1
    rwa [rowL_len hc] at this
  have hd : j / s < l.length := (Nat.div_lt_iff_lt_mul hs).2 hlt
  have hm : j % s < s := Nat.mod_lt _ hs
  have e : j / s * s + j % s = j := by rw [Nat.mul_comm]; exact Nat.div_add_mod j s
  have ha : l[j / s]? = some l[j / s] := List.getElem?_eq_getElem hd
  obtain ⟨gb, ob, e1, k⟩ := h _ _ ha
  cases e1
  have := k (j % s) u (by rw [← rowL_at hc l (j / s) (j % s) _ ha hm, e]; exact hj)
  rwa [Nat.add_assoc, e] at this
theorem at_appNL (K : KdL T t s bts c) {ops : Array Oper} {rest : List Oper} {o : Oper} {a : Act} {w : World} {Q : Exit → Act → World → Prop} (hgd : o.guard = none) (sl x : Operand)
    (ho : o.op = .call { callee := .builtin .append, args := #[sl, x], argTypes := #[T, T] }) (B : Nat) (v : Value) (l : List α) (hs : a.eval sl = v) (hown : OwnL t s c B w v l)
    (g0 o0 m cm : Nat) (us : List α) (hm : us.length = m) (hx : a.eval x = .slice (some ⟨g0, o0, none⟩) m cm) (hu : LiesL s c w (some ⟨g0, o0, none⟩) us) (hm0 : 0 < m) (hn : l.length + m ≤ 100000000000) (hB : B ≤ w.heap.size)
    (k : ∀ v' w', Hid (AppNL t s c B v l us v' w w') → wpList Tryd.prog ops Q rest (a.put o.dst v') w') : wpList Tryd.prog ops Q (o :: rest) a w := by
  subst hm
  obtain ⟨i, z, hi, hz0, hz1, hz2, hz3⟩ := K.i
  have hc : ∀ j u', (rowL c us)[j]? = some u' → w.cell? ((⟨g0, o0, none⟩ : Addr).add j) = some u' := fun j u' h => by
    rw [Addr.add_lit]
    exact hu.cells K.len K.s0 j u' h
  have hnews : ∀ y ∈ rowL c us, y.oneCell' = true := rowL_cell K.one us
  have b1 : l.length + us.length ≤ maxLen := by unfold maxLen; omega
  have b2 : (l.length + us.length) * bts ≤ 140737488355328 := Nat.le_trans (Nat.mul_le_mul hn K.b0) (by decide)
  have hul : (rowL c us).length = us.length * s := rowL_len K.len us
  have hown' := hown
  obtain ⟨hl, hor⟩ := hown
  have hlen := rowL_len K.len l
  rcases hor with ⟨rfl, hn0⟩ | ⟨g, cap, cur, rfl, hbg, hg, hnc, hcm, hcs, htake⟩
  · have hl0 : l = [] := List.eq_nil_of_length_eq_zero hn0
    subst hl0
    refine wpList_append_grows w hgd sl x T ho t i z s bts K.u hi hz0 hz1 hz2 hz3 K.s0 none 0 0 [] hs (fun _ => ⟨rfl, rfl⟩) (by simp) (fun b hb => by cases hb) ⟨g0, o0, none⟩ us.length cm (rowL c us) hx hul hc hnews (by omega) b1 b2 ?_
    intro v' w' r1 r2
    exact k v' w' (AppNL.grew hB r1 r2)
  · by_cases hr : l.length + us.length ≤ cap
    · have hfit : l.length * s + us.length * s ≤ cur.size := by
        rw [hcs, ← Nat.add_mul]
        exact Nat.mul_le_mul_right s hr
      refine wpList_append_arg w hgd sl x T ho t i z s bts K.u hi hz0 hz1 hz2 hz3 K.s0 g 0 l.length cap (rowL c l) hs hl ?_ ⟨g0, o0, none⟩ us.length cm (rowL c us) hx hul hc hnews ?_ b1 b2 ?_ (fun h => absurd hr (by omega))
      · intro j u' hj
        have := World.ownsRow.cells (g := g) hown' rfl j u' hj
        rwa [Addr.add_lit] at this
      · intro _ j hj
        rw [hul] at hj
        refine ⟨?_, frozen_heap hg _⟩
        rw [cell_heap hg, Array.getElem?_eq_getElem (by omega)]
        rfl
      · intro _
        refine k _ _ ?_
        have e0 : 0 + l.length * s = l.length * s := by omega
        rw [e0]
        refine ⟨⟨by rw [rowL_len K.len], .inr ⟨g, cap, _, by rw [List.length_append], hbg, heapL_setCells g _ _ _ w cur hg (by rw [hul]; omega), by rw [List.length_append]; exact hr, hcm, ?_, ?_⟩⟩, fun g' h => .inl h, ?_⟩
        · have := length_splice cur.toList (l.length * s) (rowL c us) (by rw [hul, Array.length_toList]; omega)
          rw [List.size_toArray, this, Array.length_toList, hcs]
        · rw [rowL_app, List.length_append]
          unfold splice
          rw [← List.append_assoc, htake, List.take_append_of_le_length (by rw [List.length_append, hlen, hul, Nat.add_mul]; omega)]
          exact List.take_of_length_le (by rw [List.length_append, hlen, hul, Nat.add_mul]; omega)
        · exact (setCellsL_cu B g _ hbg _ w).mono fun g' j _ hF => ⟨by rw [hF.1]; rfl, hF.2.1⟩
    · have hcells := World.ownsRow.cells (g := g) hown' rfl
      refine wpList_append_grows w hgd sl x T ho t i z s bts K.u hi hz0 hz1 hz2 hz3 K.s0 (some ⟨g, 0, none⟩) l.length cap (rowL c l) hs (fun h => by cases h) hl (fun b hb => by cases hb; exact hcells) ⟨g0, o0, none⟩ us.length cm (rowL c us) hx hul hc hnews (by omega) b1 b2 ?_
      intro v' w' r1 r2
      exact k v' w' (AppNL.grew hB r1 r2)
end
end Go.Proofs.YthaijjehplomfaaDoor

namespace Go.Proofs.YthaijjehplomfaaDoor
open Go Go.RowKit
set_option linter.unusedVariables false
set_option maxHeartbeats 1000000
set_option maxRecDepth 20000

def byV (b : UInt8) : Value := .int .u8 (b.toNat : Int)
def cU (b : UInt8) : List Value := [byV b]
theorem info_parts {P : Program} {t : TypeId} {z : Option Value} {s b : Nat} (h : (P.info? t).map (fun i => (i.zero, i.size, i.bytes)) = some (z, s, b)) : ∃ i, P.info? t = some i ∧ i.zero = z ∧ i.size = s ∧ i.bytes = b := by
  obtain ⟨i, h1, h2⟩ := Option.map_eq_some_iff.1 h
  simp at h2
  exact ⟨i, h1, h2.1, h2.2.1, h2.2.2⟩
theorem infoU : (Tryd.prog.info? 5).map (fun i => (i.zero, i.size, i.bytes)) = some (some (.int .u8 0), 1, 1) := by kernel_rfl
theorem kU : KdL (α := UInt8) 45 5 1 1 cU := by
  obtain ⟨i, hi, hz0, hz1, hz2⟩ := info_parts infoU
  exact ⟨Tryd.underlying45, ⟨i, _, hi, hz0, hz1, hz2, rfl⟩, fun _ => rfl, fun x v hv => by simp [cU, byV] at hv; subst hv; rfl, by decide, by decide⟩
/-- An order that names a label: its line, its place, the order, the label. -/
structure Us where
  ln : Nat
  pl : Nat
  o : Od
  lb : ByteArray
def usC (u : Us) : List Value := [.int .i64 (u.ln : Int), .int .i64 (u.pl : Int), .int .u8 u.o.op, .int .u8 u.o.x, .int .u8 u.o.y, .int .u8 u.o.n, .int .u8 u.o.b, .int .u16 u.o.a, .string u.lb]
/-- What a program has so far. -/
structure Pg (w : World) (P g : Nat) (vb vu : Value) (bs : List UInt8) (F : ByteArray → Option Nat) (us : List Us) (y : World) : Prop where
  box : Bx y P #[vb, .map (some g), vu] 77
  bs : OwnL 5 1 cU w.heap.size y vb bs
  mp : MapF y g (fun s => (F s).map fun a => .int .u16 (a : Int))
  us : OwnL 108 9 usC w.heap.size y vu us
  geP : w.heap.size ≤ P
  geg : w.heap.size ≤ g
  low : Below w.heap.size w y
/-- What is left alone. -/
def isRec : Obj → Bool
  | .loop _ => true
  | .deferred _ => true
  | _ => false
structure Kp (y y' : World) : Prop where
  sz : y.heap.size ≤ y'.heap.size
  rc : ∀ (q : Nat) (o : Obj), y.heap[q]? = some o → isRec o = true → y'.heap[q]? = some o
  ty : ∀ q cs t, Bx y q cs t → t ≠ 5 → t ≠ 108 → t ≠ 77 → Bx y' q cs t
theorem Kp.refl (y : World) : Kp y y := ⟨Nat.le_refl _, fun _ _ h _ => h, fun _ _ _ h _ _ _ => h⟩
theorem Kp.trans {x y z : World} (h : Kp x y) (k : Kp y z) : Kp x z := ⟨Nat.le_trans h.sz k.sz, fun q o hx hr => k.rc q o (h.rc q o hx hr) hr, fun q cs t hx a b c => k.ty q cs t (h.ty q cs t hx a b c) a b c⟩
theorem Kp.of_below {y z : World} (h : Below y.heap.size y z) : Kp y z := ⟨h.size, fun q o hx _ => (h.block q (Array.getElem?_eq_some_iff.1 hx).1).trans hx, fun q cs t hx _ _ _ => (h.block q (heap_lt hx)).trans hx⟩
theorem Pg.below {w : World} {P g : Nat} {vb vu : Value} {bs : List UInt8} {F : ByteArray → Option Nat} {us : List Us} {y z : World} (h : Pg w P g vb vu bs F us y) (hb : Below y.heap.size y z) : Pg w P g vb vu bs F us z :=
  ⟨(hb.block P (heap_lt h.box)).trans h.box, h.bs.below hb, h.mp.keep (hb.block g h.mp.lt), h.us.below hb, h.geP, h.geg, h.low.trans (hb.mono h.low.size)⟩
theorem map_ne {y : World} {g b t : Nat} {F : ByteArray → Option Value} {cs : Array Value} (h : MapF y g F) (hx : Bx y b cs t) : g ≠ b := fun e => by
  obtain ⟨es, ck, hm⟩ := h.block
  subst e
  unfold Bx at hx
  rw [hm] at hx
  cases hx
theorem rec_ne {y : World} {q b t : Nat} {o : Obj} {cs : Array Value} (ho : y.heap[q]? = some o) (hr : isRec o = true) (hx : Bx y b cs t) : q ≠ b := fun e => by
  subst e
  unfold Bx at hx
  rw [hx] at ho
  cases ho
  cases hr
theorem rec_nm {y : World} {q g : Nat} {o : Obj} {F : ByteArray → Option Value} (ho : y.heap[q]? = some o) (hr : isRec o = true) (h : MapF y g F) : q ≠ g := fun e => by
  obtain ⟨es, ck, hm⟩ := h.block
  subst e
  rw [hm] at ho
  cases ho
  cases hr
/-- Bytes put behind, the box not yet written. -/
theorem Pg.app {w : World} {P g : Nat} {vb vu : Value} {bs : List UInt8} {F : ByteArray → Option Nat} {us : List Us} {y z : World} {v' : Value} {us' : List UInt8} (h : Pg w P g vb vu bs F us y) (A : AppNL 5 1 cU w.heap.size vb bs us' v' y z) :
    Bx z P #[vb, .map (some g), vu] 77 ∧ OwnL 5 1 cU w.heap.size z v' (bs ++ us') ∧ MapF z g (fun s => (F s).map fun a => .int .u16 (a : Int)) ∧ OwnL 108 9 usC w.heap.size z vu us ∧ Below w.heap.size w z ∧ Kp y z := by
  have off : ∀ q cs t, Bx y q cs t → t ≠ 5 → z.heap[q]? = y.heap[q]? := fun q cs t hx ht => A.cu.blk q (heap_lt hx) fun j hF => by
    obtain ⟨cs', hx'⟩ := h.bs.ty q hF.1
    exact Bx.unlike hx hx' ht rfl
  refine ⟨(off P _ _ h.box (by decide)).trans h.box, A.own, h.mp.keep (A.cu.blk g h.mp.lt fun j hF => ?_), h.us.keepB fun q e => ?_, h.low.trans A.cu.low, A.cu.low.size |> fun _ => ⟨?_, fun q o hx hr => ?_, fun q cs t hx a _ _ => (off q cs t hx a).trans hx⟩⟩
  · obtain ⟨cs', hx'⟩ := h.bs.ty g hF.1
    exact map_ne h.mp hx' rfl
  · obtain ⟨cs, hx⟩ := h.us.ty q e
    exact off q cs _ hx (by decide)
  · exact A.cu.low.size
  · refine (A.cu.blk q (Array.getElem?_eq_some_iff.1 hx).1 fun j hF => ?_).trans hx
    obtain ⟨cs', hx'⟩ := h.bs.ty q hF.1
    exact rec_ne hx hr hx' rfl
/-- The box written. -/
theorem Pg.put {w : World} {P g : Nat} {vb vu vb' : Value} {bs : List UInt8} {F : ByteArray → Option Nat} {us : List Us} {z x : World} (hbox : Bx z P #[vb, .map (some g), vu] 77) (hb : OwnL 5 1 cU w.heap.size z vb' bs) (hm : MapF z g (fun s => (F s).map fun a => .int .u16 (a : Int))) (hu : OwnL 108 9 usC w.heap.size z vu us) (gP : w.heap.size ≤ P) (gg : w.heap.size ≤ g) (low : Below w.heap.size w z)
    (hx : x = z.setCell ⟨P, 0, none⟩ vb') : Pg w P g vb' vu bs F us x ∧ Kp z x := by
  subst hx
  have oth : ∀ q, q ≠ P → (z.setCell ⟨P, 0, none⟩ vb').heap[q]? = z.heap[q]? := fun q hq => heap_setCell_other z ⟨P, 0, none⟩ q vb' hq
  refine ⟨⟨heap_setCell_same z P 0 _ _ vb' hbox, hb.keepB fun q e => oth q fun e' => ?_, hm.keep (oth g (map_ne hm hbox)), hu.keepB fun q e => oth q fun e' => ?_, gP, gg, low.trans ((Below.refl _ z).setCell (p := ⟨P, 0, none⟩) gP vb')⟩, by simp, fun q o hx hr => (oth q (rec_ne hx hr hbox)).trans hx, fun q cs t hx _ _ hp => (oth q (Bx.unlike hx hbox hp)).trans hx⟩
  · obtain ⟨cs, hx⟩ := hb.ty q e
    subst e'
    exact Bx.unlike hx hbox (by decide) rfl
  · obtain ⟨cs, hx⟩ := hu.ty q e
    subst e'
    exact Bx.unlike hx hbox (by decide) rfl
/-- Words in a row of strings, from some place on. -/
def WdsAt (y : World) (gw ow : Nat) (ws : List ByteArray) : Prop := ∃ cs, Bx y gw cs 9 ∧ ∀ j s, ws[j]? = some s → cs[ow + j]? = some (.string s)
theorem WdsAt.kp {y z : World} {gw ow : Nat} {ws : List ByteArray} (h : WdsAt y gw ow ws) (k : Kp y z) : WdsAt z gw ow ws := by
  obtain ⟨cs, hx, hc⟩ := h
  exact ⟨cs, k.ty _ _ _ hx (by decide) (by decide) (by decide), hc⟩
theorem WdsAt.cell {y : World} {gw ow : Nat} {ws : List ByteArray} (h : WdsAt y gw ow ws) (j : Nat) (s : ByteArray) (hj : ws[j]? = some s) : y.cell? ⟨gw, ow + j, none⟩ = some (.string s) := by
  obtain ⟨cs, hx, hc⟩ := h
  exact hx.c _ _ (hc j s hj)
theorem WdsAt.lies {y : World} {gw ow : Nat} {ws : List ByteArray} (h : WdsAt y gw ow ws) : LiesL 1 strC y (some ⟨gw, ow, none⟩) ws := fun j s hj => ⟨gw, ow, rfl, fun i v hv => by
  have hi : i < 1 := (List.getElem?_eq_some_iff.1 hv).1
  have e : i = 0 := by omega
  subst e
  have ev : v = .string s := by simpa [strC] using hv.symm
  subst ev
  have := h.cell j s hj
  rw [Nat.mul_one, Nat.add_zero]
  exact this⟩
/-- The bytes that words tell. -/
def datW : List ByteArray → Option (List UInt8)
  | [] => some []
  | s :: ws => match numK s.data.toList 2 with | none => none | some v => (datW ws).map (UInt8.ofNat v :: ·)
def TdE (w : World) (P g : Nat) (vu : Value) (bs : List UInt8) (F : ByteArray → Option Nat) (us : List Us) (y : World) (ws : List ByteArray) (e : Ending) (z : World) : Prop :=
  (∃ vb' d, e = .returned (.bool true) ∧ datW ws = some d ∧ ws ≠ [] ∧ Pg w P g vb' vu (bs ++ d) F us z ∧ Kp y z) ∨ (e = .returned (.bool false) ∧ (datW ws = none ∨ ws = []) ∧ Below w.heap.size w z ∧ Kp y z)
end Go.Proofs.YthaijjehplomfaaDoor
