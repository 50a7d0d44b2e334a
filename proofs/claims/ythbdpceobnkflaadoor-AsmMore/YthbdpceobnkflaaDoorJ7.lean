/- An item of data as it is written, by the document. A source written as a text, by the document. A source that is laid and filled: by plain mathematics. Rows of bytes as they lie in memory. Rows of values of any kind: an append of several. Rows of values of any kind: a copy onto a row of one's own; rows lent with a mark behind them. Objects: their blocks, marks and labels in memory, and which blocks may be. Labels: which stands ahead of which. A map from strings to functions: what it holds, by a function; looked into and written. Labels that may be: by plain mathematics, and the program's look. -/
import Derived.Test.YthbdpceobnkflaaDoorJ5
import Derived.Test.YthbdpceobnkflaaDoorJ6
import Derived.Test.YthbdpceobnkflaaDoorJ2
import Derived.Test.YthbdpceobnkflaaDoorJ4
import Derived.Test.YthbdpceobnkflaaDoorRows
import Derived.Deep.MidRow
import Derived.BigQuiet
import Derived.Test.YthbdpceobnkflaaDoorJ1
import Derived.Carry
import Derived.MapKept
namespace Go.Proofs.YthbdpceobnkflaaDoor
open Go Go.RowKit
set_option linter.unusedVariables false
set_option maxHeartbeats 3000000
set_option maxRecDepth 20000

/-- Bytes that lie in a row. -/
def LB8 (x : World) (sp : Option Addr) (l : List UInt8) : Prop := ∀ j b, l[j]? = some b → ∃ g o, sp = some ⟨g, o, none⟩ ∧ x.cell? ⟨g, o + j, none⟩ = some (byV b)
theorem LB8.below {x y : World} {sp : Option Addr} {l : List UInt8} (h : LB8 x sp l) (hb : Below x.heap.size x y) : LB8 y sp l := fun j b hj => by
  obtain ⟨g, o, e, c⟩ := h j b hj
  exact ⟨g, o, e, (hb.cell (p := ⟨g, o + j, none⟩) (World.block_lt_of_cell? x _ c)).trans c⟩
end Go.Proofs.YthbdpceobnkflaaDoor

namespace Go.Proofs.YthbdpceobnkflaaDoor
open Go Go.RowKit
set_option linter.unusedVariables false
set_option maxHeartbeats 2000000
set_option maxRecDepth 20000

/-- An item with its bytes. -/
abbrev Itm := Ri × List UInt8
/-- Items whose bytes lie where they say. -/
def Good (w : World) (x : Itm) : Prop := LB8 w x.1.sp x.2 ∧ x.2.length = x.1.m ∧ x.1.a ≤ 9223372036854775807
end Go.Proofs.YthbdpceobnkflaaDoor

namespace Go.Proofs.YthbdpceobnkflaaDoor
open Go Go.RowKit
set_option linter.unusedVariables false
set_option maxHeartbeats 1000000
set_option maxRecDepth 20000

/-- Where the laying has come to: the place, what lies at each address (0 nothing, 1 code, 2 data), the labels. -/
structure Sh where
  p : Nat
  U : List UInt8
  N : List (ByteArray × Nat)
def sh0 : Sh := ⟨0, List.replicate 65536 0, []⟩
def lookN : List (ByteArray × Nat) → ByteArray → Option Nat
  | [], _ => none
  | x :: r, s => if s = x.1 then some x.2 else lookN r s
def szN (r : Ri) : Nat := (sizeI r).toNat
def useI (r : Ri) : UInt8 := if r.k = 2 then 1 else 2
/-- So many addresses taken up. -/
def clE (s : Sh) (n : Nat) : Int := if 65536 < s.p + n then 143 else if ((s.U.drop s.p).take n).any (fun u => decide (u ≠ 0)) then 144 else 0
def clS (s : Sh) (n : Nat) (u : UInt8) : Sh := ⟨s.p + n, splice s.U s.p (List.replicate n u), s.N⟩
/-- The place called so. -/
def nmE (s : Sh) (n : ByteArray) : Int := if 65535 < s.p then 143 else if (lookN s.N n).isSome then 140 else 0
def nmS (s : Sh) (n : ByteArray) : Sh := ⟨s.p, s.U, (n, s.p) :: s.N⟩
/-- One item: why it can't be laid; what stands behind it. -/
def stE (s : Sh) (r : Ri) : Int := if r.k = 1 then nmE s r.n else if r.k = 4 then 0 else clE s (szN r)
def stS (s : Sh) (r : Ri) : Sh := if r.k = 1 then nmS s r.n else if r.k = 4 then ⟨r.a.toNat, s.U, s.N⟩ else clS s (szN r) (useI r)
def layE : Sh → List Ri → Nat → Option (Int × Nat)
  | _, [], _ => none
  | s, r :: l, i => if stE s r = 0 then layE (stS s r) l (i + 1) else some (stE s r, i)
def layS : Sh → List Ri → Sh
  | s, [] => s
  | s, r :: l => layS (stS s r) l
def plcs : Sh → List Ri → List Nat
  | _, [] => []
  | s, r :: l => s.p :: plcs (stS s r) l
structure Sh.Ok (s : Sh) : Prop where
  p : s.p ≤ 65536
  u : s.U.length = 65536
  n : ∀ x ∈ s.N, x.2 ≤ 65535
theorem sh0_ok : sh0.Ok := ⟨Nat.zero_le _, List.length_replicate, fun x hx => by cases hx⟩
theorem clE_cases (s : Sh) (n : Nat) : clE s n = 143 ∨ clE s n = 144 ∨ (clE s n = 0 ∧ s.p + n ≤ 65536 ∧ ((s.U.drop s.p).take n).any (fun u => decide (u ≠ 0)) = false) := by
  unfold clE
  split
  · exact .inl rfl
  · rename_i h
    rcases hb : ((s.U.drop s.p).take n).any (fun u => decide (u ≠ 0)) with _ | _
    · exact .inr (.inr ⟨by simp, by omega, rfl⟩)
    · exact .inr (.inl (by simp))
theorem clE_zero {s : Sh} {n : Nat} (h : clE s n = 0) : s.p + n ≤ 65536 ∧ ((s.U.drop s.p).take n).any (fun u => decide (u ≠ 0)) = false := by
  rcases clE_cases s n with e | e | ⟨_, e⟩
  · rw [e] at h; omega
  · rw [e] at h; omega
  · exact e
theorem nmE_zero {s : Sh} {n : ByteArray} (h : nmE s n = 0) : s.p ≤ 65535 ∧ lookN s.N n = none := by
  unfold nmE at h
  split at h
  · omega
  · rename_i h1
    split at h
    · omega
    · rename_i h2
      refine ⟨by omega, ?_⟩
      rcases e : lookN s.N n with _ | _
      · rfl
      · rw [e] at h2; simp at h2
theorem Sh.Ok.cl {s : Sh} (h : s.Ok) {n : Nat} (u : UInt8) (he : clE s n = 0) : (clS s n u).Ok := by
  have hz := (clE_zero he).1
  refine ⟨hz, ?_, h.n⟩
  show (splice s.U s.p (List.replicate n u)).length = 65536
  rw [length_splice _ _ _ (by rw [List.length_replicate, h.u]; exact hz), h.u]
theorem Sh.Ok.nm {s : Sh} (h : s.Ok) {n : ByteArray} (he : nmE s n = 0) : (nmS s n).Ok := by
  refine ⟨h.p, h.u, fun x hx => ?_⟩
  rcases List.mem_cons.1 hx with rfl | hx
  · exact (nmE_zero he).1
  · exact h.n x hx
theorem may_at {r : Ri} (h : mayI r = true) (hk : r.k = 4) : 0 ≤ r.a ∧ r.a ≤ 65535 := by
  rw [may4 hk] at h
  simp at h
  exact h.1
theorem Sh.Ok.st {s : Sh} (h : s.Ok) {r : Ri} (hm : mayI r = true) (he : stE s r = 0) : (stS s r).Ok := by
  unfold stE at he
  unfold stS
  split
  · rename_i hk
    rw [if_pos hk] at he
    exact h.nm he
  · rename_i hk
    rw [if_neg hk] at he
    split
    · rename_i hk4
      have := may_at hm hk4
      exact ⟨by show r.a.toNat ≤ 65536; omega, h.u, h.n⟩
    · rename_i hk4
      rw [if_neg hk4] at he
      exact h.cl _ he
theorem look_le {N : List (ByteArray × Nat)} (h : ∀ x ∈ N, x.2 ≤ 65535) {s : ByteArray} {t : Nat} (e : lookN N s = some t) : t ≤ 65535 := by
  induction N with
  | nil => simp [lookN] at e
  | cons x r ih =>
    unfold lookN at e
    split at e
    · simp at e; subst e; exact h x (by simp)
    · exact ih (fun y hy => h y (by simp [hy])) e
/-- Which items ask for a label, and what is wrong with what they ask for. -/
def asksI (r : Ri) : Bool := decide (r.k = 5) || (decide (r.k = 2) && decide (r.p ≠ 0))
def fmS (s : ByteArray) : Nat := match opOf s with | some n => fm n | none => 0
def flE (N : List (ByteArray × Nat)) (p : Nat) (r : Ri) : Int := if asksI r then (match lookN N r.l with | none => 141 | some t => if r.k = 2 ∧ fmS r.n = 5 ∧ t / 256 ≠ (p + 1) / 256 then 142 else 0) else 0
def opndI (r : Ri) (t : Nat) : Nat := if r.p = 2 then t / 256 else if r.p = 3 ∨ fmS r.n = 5 then t % 256 else t
def encL (s : ByteArray) (A : Int) : List UInt8 := match opOf s with | some n => (encB n A).map fun z => UInt8.ofNat z.toNat | none => []
def tgtN (N : List (ByteArray × Nat)) (r : Ri) : Nat := if asksI r then (lookN N r.l).getD 0 else 0
/-- The bytes of an item. -/
def flB (N : List (ByteArray × Nat)) (x : Itm) : List UInt8 := if x.1.k = 3 then x.2 else if x.1.k = 5 then [UInt8.ofNat (tgtN N x.1 / 256), UInt8.ofNat (tgtN N x.1)] else if x.1.k = 2 then encL x.1.n (if x.1.p = 0 then x.1.a else (opndI x.1 (tgtN N x.1) : Nat)) else []
def filE (N : List (ByteArray × Nat)) : List (Itm × Nat) → Nat → Option (Int × Nat)
  | [], _ => none
  | x :: l, i => if flE N x.2 x.1.1 = 0 then filE N l (i + 1) else some (flE N x.2 x.1.1, i)
def filM (N : List (ByteArray × Nat)) : List UInt8 → List (Itm × Nat) → List UInt8
  | M, [] => M
  | M, x :: l => filM N (splice M x.2 (flB N x.1)) l
end Go.Proofs.YthbdpceobnkflaaDoor

namespace Go.Proofs.YthbdpceobnkflaaDoor
open Go Go.RowKit
set_option linter.unusedVariables false
set_option maxHeartbeats 1000000
set_option maxRecDepth 20000

def cU (b : UInt8) : List Value := [byV b]
theorem kU : KdL (α := UInt8) 33 5 1 1 cU := by
  obtain ⟨i, hi, hz0, hz1, hz2⟩ := info_parts infoB
  exact ⟨Tryd.underlying33, ⟨i, _, hi, hz0, hz1, hz2, rfl⟩, fun _ => rfl, fun x v hv => by simp [cU, byV] at hv; subst hv; rfl, by decide, by decide⟩
def rU (l : List UInt8) : Array Value := (l.map byV).toArray
theorem made_u8 (n : Nat) : madeCells #[.int .u8 0] (n * 1) = rU (List.replicate n 0) := by
  apply Array.ext_getElem?
  intro i
  unfold madeCells rU
  by_cases h : i < n
  · simp [h, byV, Nat.mod_one]
  · simp [h]
theorem rU_set (l : List UInt8) (k : Nat) (b : UInt8) : (rU l).setIfInBounds k (byV b) = rU (l.set k b) := by unfold rU; simp [List.map_set]
end Go.Proofs.YthbdpceobnkflaaDoor

namespace Go.Proofs.YthbdpceobnkflaaDoor
open Go Go.RowKit
set_option linter.unusedVariables false
set_option maxHeartbeats 400000
set_option maxRecDepth 20000

section
variable {α : Type} {T t : TypeId} {s bts : Nat} {c : α → List Value}
/-- What an append of several values leaves. -/
structure AppNL (t : TypeId) (s : Nat) (c : α → List Value) (B : Nat) (v : Value) (l us : List α) (v' : Value) (w w' : World) : Prop where
  own : OwnL t s c B w' v' (l ++ us)
  new : ∀ g, v'.ownBlock = some g → v.ownBlock = some g ∨ w.heap.size ≤ g
  cu : CuL B (fun g j => v.ownBlock = some g ∧ l.length * s ≤ j) w w'
theorem AppNL.grew {B : Nat} {v : Value} {l us : List α} {v' : Value} {w w' : World} (hB : B ≤ w.heap.size) (h1 : w'.ownsRow w.heap.size t s v' (l.length + us.length) (rowL c l ++ rowL c us)) (h2 : w.grownBy w' none) : AppNL t s c B v l us v' w w' := by
  have ho : OwnL t s c w.heap.size w' v' (l ++ us) := by
    unfold OwnL
    rw [rowL_app, List.length_append]
    exact h1
  exact ⟨ho.weak hB, fun g hg => .inr (ho.lt g hg).1, CuL.of_below ⟨h2.os, h2.tape, h2.output, h2.size, fun k hk => h2.block k hk (by simp)⟩ hB⟩
/-- The cells of a row that lies. -/
theorem LiesL.cells (hc : ∀ x, (c x).length = s) (hs : 0 < s) {x : World} {g o : Nat} {l : List α} (h : LiesL s c x (some ⟨g, o, none⟩) l) (j : Nat) (u : Value) (hj : (rowL c l)[j]? = some u) : x.cell? ⟨g, o + j, none⟩ = some u := by
  have hlt : j < l.length * s := by
    have := (List.getElem?_eq_some_iff.1 hj).1
    rwa [rowL_len hc] at this
  have hd : j / s < l.length := (Nat.div_lt_iff_lt_mul hs).2 hlt
  have hm : j % s < s := Nat.mod_lt _ hs
  have e : j / s * s + j % s = j := by rw [Nat.mul_comm]; exact Nat.div_add_mod j s
  have ha : l[j / s]? = some l[j / s] := List.getElem?_eq_getElem hd
  obtain ⟨gb, ob, e1, k⟩ := h _ _ ha
  cases e1
  have := k (j % s) u (by rw [← rowL_at hc l (j / s) (j % s) _ ha hm, e]; exact hj)
  rwa [Nat.add_assoc, e] at this
theorem at_appNL (K : KdL T t s bts c) {ops : Array Oper} {rest : List Oper} {o : Oper} {a : Act} {w : World} {Q : Exit → Act → World → Prop} (hgd : o.guard = none) (sl x : Operand)
    (ho : o.op = .call { callee := .builtin .append, args := #[sl, x], argTypes := #[T, T] }) (B : Nat) (v : Value) (l : List α) (hs : a.eval sl = v) (hown : OwnL t s c B w v l)
    (g0 o0 m cm : Nat) (us : List α) (hm : us.length = m) (hx : a.eval x = .slice (some ⟨g0, o0, none⟩) m cm) (hu : LiesL s c w (some ⟨g0, o0, none⟩) us) (hm0 : 0 < m) (hn : l.length + m ≤ 100000000000) (hB : B ≤ w.heap.size)
    (k : ∀ v' w', Hid (AppNL t s c B v l us v' w w') → wpList Tryd.prog ops Q rest (a.put o.dst v') w') : wpList Tryd.prog ops Q (o :: rest) a w := by
  subst hm
  obtain ⟨i, z, hi, hz0, hz1, hz2, hz3⟩ := K.i
  have hc : ∀ j u', (rowL c us)[j]? = some u' → w.cell? ((⟨g0, o0, none⟩ : Addr).add j) = some u' := fun j u' h => by
    rw [Addr.add_lit]
    exact hu.cells K.len K.s0 j u' h
  have hnews : ∀ y ∈ rowL c us, y.oneCell' = true := rowL_cell K.one us
  have b1 : l.length + us.length ≤ maxLen := by unfold maxLen; omega
  have b2 : (l.length + us.length) * bts ≤ 140737488355328 := Nat.le_trans (Nat.mul_le_mul hn K.b0) (by decide)
  have hul : (rowL c us).length = us.length * s := rowL_len K.len us
  have hown' := hown
  obtain ⟨hl, hor⟩ := hown
  have hlen := rowL_len K.len l
  rcases hor with ⟨rfl, hn0⟩ | ⟨g, cap, cur, rfl, hbg, hg, hnc, hcm, hcs, htake⟩
  · have hl0 : l = [] := List.eq_nil_of_length_eq_zero hn0
    subst hl0
    refine wpList_append_grows w hgd sl x T ho t i z s bts K.u hi hz0 hz1 hz2 hz3 K.s0 none 0 0 [] hs (fun _ => ⟨rfl, rfl⟩) (by simp) (fun b hb => by cases hb) ⟨g0, o0, none⟩ us.length cm (rowL c us) hx hul hc hnews (by omega) b1 b2 ?_
    intro v' w' r1 r2
    exact k v' w' (AppNL.grew hB r1 r2)
  · by_cases hr : l.length + us.length ≤ cap
    · have hfit : l.length * s + us.length * s ≤ cur.size := by
        rw [hcs, ← Nat.add_mul]
        exact Nat.mul_le_mul_right s hr
      refine wpList_append_arg w hgd sl x T ho t i z s bts K.u hi hz0 hz1 hz2 hz3 K.s0 g 0 l.length cap (rowL c l) hs hl ?_ ⟨g0, o0, none⟩ us.length cm (rowL c us) hx hul hc hnews ?_ b1 b2 ?_ (fun h => absurd hr (by omega))
      · intro j u' hj
        have := World.ownsRow.cells (g := g) hown' rfl j u' hj
        rwa [Addr.add_lit] at this
      · intro _ j hj
        rw [hul] at hj
        refine ⟨?_, frozen_heap hg _⟩
        rw [cell_heap hg, Array.getElem?_eq_getElem (by omega)]
        rfl
      · intro _
        refine k _ _ ?_
        have e0 : 0 + l.length * s = l.length * s := by omega
        rw [e0]
        refine ⟨⟨by rw [rowL_len K.len], .inr ⟨g, cap, _, by rw [List.length_append], hbg, heapL_setCells g _ _ _ w cur hg (by rw [hul]; omega), by rw [List.length_append]; exact hr, hcm, ?_, ?_⟩⟩, fun g' h => .inl h, ?_⟩
        · have := length_splice cur.toList (l.length * s) (rowL c us) (by rw [hul, Array.length_toList]; omega)
          rw [List.size_toArray, this, Array.length_toList, hcs]
        · rw [rowL_app, List.length_append]
          unfold splice
          rw [← List.append_assoc, htake, List.take_append_of_le_length (by rw [List.length_append, hlen, hul, Nat.add_mul]; omega)]
          exact List.take_of_length_le (by rw [List.length_append, hlen, hul, Nat.add_mul]; omega)
        · exact (setCellsL_cu B g _ hbg _ w).mono fun g' j _ hF => ⟨by rw [hF.1]; rfl, hF.2.1⟩
    · have hcells := World.ownsRow.cells (g := g) hown' rfl
      refine wpList_append_grows w hgd sl x T ho t i z s bts K.u hi hz0 hz1 hz2 hz3 K.s0 (some ⟨g, 0, none⟩) l.length cap (rowL c l) hs (fun h => by cases h) hl (fun b hb => by cases hb; exact hcells) ⟨g0, o0, none⟩ us.length cm (rowL c us) hx hul hc hnews (by omega) b1 b2 ?_
      intro v' w' r1 r2
      exact k v' w' (AppNL.grew hB r1 r2)
end
end Go.Proofs.YthbdpceobnkflaaDoor

namespace Go.Proofs.YthbdpceobnkflaaDoor
open Go Go.RowKit
set_option linter.unusedVariables false
set_option maxHeartbeats 400000
set_option maxRecDepth 20000

section
variable {α : Type} {T t : TypeId} {s bts : Nat} {c : α → List Value}
theorem bxL_range (hc : ∀ x, (c x).length = s) {y : World} {g : Nat} {r : List α} (h : Bx y g (rowL c r).toArray t) (j : Nat) (a : α) (hj : r[j]? = some a) : y.rangeAt g (0 + j * s) (c a) := fun i v hv => by
  have hi : i < s := by have := (List.getElem?_eq_some_iff.1 hv).1; rw [hc] at this; exact this
  rw [Nat.zero_add]
  exact h.c (j * s + i) v (by rw [List.getElem?_toArray, rowL_at hc r j i a hj hi]; exact hv)
end
theorem one_bxL (z : World) (cs : Array Value) (t : TypeId) : Bx (z.alloc (.cells cs t)) z.heap.size cs t := alloc_last' z _
/-- Rows that were just made lie. -/
theorem lies_new {α : Type} {c : α → List Value} {s : Nat} (hc : ∀ x, (c x).length = s) (w : World) (t : TypeId) (us : List α) : LiesL s c (w.alloc (.cells (rowL c us).toArray t)) (some ⟨w.heap.size, 0, none⟩) us := fun j a hj => by
  refine ⟨w.heap.size, 0, rfl, fun i v hv => ?_⟩
  have hi : i < s := by have := (List.getElem?_eq_some_iff.1 hv).1; rw [hc] at this; exact this
  have := (one_bxL w (rowL c us).toArray t).c (j * s + i) v (by simpa using (by rw [rowL_at hc us j i a hj hi]; exact hv : (rowL c us)[j * s + i]? = some v))
  rw [Nat.zero_add]
  exact this
end Go.Proofs.YthbdpceobnkflaaDoor

namespace Go.Proofs.YthbdpceobnkflaaDoor
open Go Go.RowKit
set_option linter.unusedVariables false
set_option maxHeartbeats 1000000
set_option maxRecDepth 20000

theorem of_below {w x y : World} (h : Below w.heap.size w x) (k : Below x.heap.size x y) : Below w.heap.size w y := h.trans (k.mono h.size)
/-- A block as it lies in memory. -/
structure Bk where
  a : Int
  sp : Option Addr
  m : Nat
  cap : Nat
structure Mk where
  a : Int
  n : Int
  c : Bool
structure La where
  n : ByteArray
  a : Int
def k2 (b : Bk) : Array Value := #[.int .i64 b.a, .slice b.sp b.m b.cap]
def k3 (m : Mk) : Array Value := #[.int .i64 m.a, .int .i64 m.n, .bool m.c]
def kl (l : La) : Array Value := #[.string l.n, .int .i64 l.a]
def cK (b : Bk) : List Value := (k2 b).toList
def cM (m : Mk) : List Value := (k3 m).toList
def cLa (l : La) : List Value := (kl l).toList
def zK : Bk := ⟨0, none, 0, 0⟩
def zM : Mk := ⟨0, 0, false⟩
def zL : La := ⟨⟨#[]⟩, 0⟩
theorem infoK : (Tryd.prog.info? 46).map (fun i => (i.zero, i.size, i.bytes)) = some (some (.agg (k2 zK)), 2, 32) := by kernel_rfl
theorem infoM : (Tryd.prog.info? 89).map (fun i => (i.zero, i.size, i.bytes)) = some (some (.agg (k3 zM)), 3, 24) := by kernel_rfl
theorem infoLa : (Tryd.prog.info? 52).map (fun i => (i.zero, i.size, i.bytes)) = some (some (.agg (kl zL)), 2, 24) := by kernel_rfl
theorem kBk : KdL (α := Bk) 25 46 2 32 cK := by
  obtain ⟨i, hi, hz0, hz1, hz2⟩ := info_parts infoK
  exact ⟨Tryd.underlying25, ⟨i, _, hi, hz0, hz1, hz2, rfl⟩, fun x => rfl, fun x v hv => by simp [cK, k2] at hv; rcases hv with rfl | rfl <;> rfl, by decide, by decide⟩
theorem kMk : KdL (α := Mk) 26 89 3 24 cM := by
  obtain ⟨i, hi, hz0, hz1, hz2⟩ := info_parts infoM
  exact ⟨Tryd.underlying26, ⟨i, _, hi, hz0, hz1, hz2, rfl⟩, fun x => rfl, fun x v hv => by simp [cM, k3] at hv; rcases hv with rfl | rfl | rfl <;> rfl, by decide, by decide⟩
theorem kLa : KdL (α := La) 27 52 2 24 cLa := by
  obtain ⟨i, hi, hz0, hz1, hz2⟩ := info_parts infoLa
  exact ⟨Tryd.underlying27, ⟨i, _, hi, hz0, hz1, hz2, rfl⟩, fun x => rfl, fun x v hv => by simp [cLa, kl] at hv; rcases hv with rfl | rfl <;> rfl, by decide, by decide⟩
theorem rtM : Rt Tryd.prog 89 3 := ⟨⟨_, Tryd.underlying89, rfl⟩, by kernel_rfl⟩
theorem rtLa : Rt Tryd.prog 52 2 := ⟨⟨_, Tryd.underlying52, rfl⟩, by kernel_rfl⟩
theorem rtO : Rt Tryd.prog 29 3 := ⟨⟨_, Tryd.underlying29, rfl⟩, by kernel_rfl⟩
theorem oneM (b : Mk) : (k3 b).all (·.oneCell') = true := by simp [k3, Value.oneCell']
theorem oneLa (b : La) : (kl b).all (·.oneCell') = true := by simp [kl, Value.oneCell']
/-- A block with its bytes. -/
abbrev Bb := Bk × List UInt8
/-- An object as it lies in memory. -/
structure Oo where
  bp : Option Addr
  bc : Nat
  B : List Bb
  mp : Option Addr
  mc : Nat
  M : List Mk
  lp : Option Addr
  lc : Nat
  L : List La
def oC (o : Oo) : Array Value := #[.slice o.bp o.B.length o.bc, .slice o.mp o.M.length o.mc, .slice o.lp o.L.length o.lc]
def inI (x : Int) : Prop := -9223372036854775808 ≤ x ∧ x ≤ 9223372036854775807
structure Lo (w : World) (o : Oo) : Prop where
  b : LiesL 2 cK w o.bp (o.B.map (·.1))
  m : LiesL 3 cM w o.mp o.M
  l : LiesL 2 cLa w o.lp o.L
  g : ∀ x ∈ o.B, LB8 w x.1.sp x.2 ∧ x.2.length = x.1.m
  ib : ∀ x ∈ o.B, inI x.1.a ∧ x.1.m ≤ 2147483647
  im : ∀ x ∈ o.M, inI x.a ∧ inI x.n
  il : ∀ x ∈ o.L, inI x.a ∧ x.n.size ≤ 9223372036854775807
  n : o.B.length ≤ 2147483647 ∧ o.M.length ≤ 2147483647 ∧ o.L.length ≤ 2147483647
theorem Lo.below {w y : World} {o : Oo} (h : Lo w o) (hb : Below w.heap.size w y) : Lo y o := ⟨h.b.below hb, h.m.below hb, h.l.below hb, fun x hx => ⟨(h.g x hx).1.below hb, (h.g x hx).2⟩, h.ib, h.im, h.il, h.n⟩
end Go.Proofs.YthbdpceobnkflaaDoor

namespace Go.Proofs.YthbdpceobnkflaaDoor
open Go Go.RowKit
set_option linter.unusedVariables false
set_option maxHeartbeats 1000000
set_option maxRecDepth 20000

def sLt (a b : ByteArray) : Bool := Op.bytesLess a.toList b.toList
/-- Does a label stand ahead of another one? -/
def befL (a b : La) : Bool := decide (a.a < b.a) || (decide (a.a = b.a) && sLt a.n b.n)
def cmpI (a b : Int) : Int := if a < b then -1 else if b < a then 1 else 0
def cmpS (a b : ByteArray) : Int := if sLt a b then -1 else if a = b then 0 else 1
def ordL (a b : La) : Int := if cmpI a.a b.a ≠ 0 then cmpI a.a b.a else cmpS a.n b.n
theorem nanI (x : Int) (w : World) : Calls Tryd.prog 65 #[.int .i64 x] w fun e w' => e = .returned (.bool false) ∧ w' = w := by
  have q : (x != x) = false := by simp
  go_enter Tryd.func65, Tryd.ntmps65
  go_wp2
  try (go_quiet (fail); go_wp2)
  go_ret
  exact ⟨rfl, rfl⟩
theorem nanS (x : ByteArray) (w : World) : Calls Tryd.prog 66 #[.string x] w fun e w' => e = .returned (.bool false) ∧ w' = w := by
  have q : (x.toList != x.toList) = false := by simp
  go_enter Tryd.func66, Tryd.ntmps66
  go_wp2
  try (go_quiet (fail); go_wp2)
  go_ret
  exact ⟨rfl, rfl⟩
theorem cmpI_any (a b : Int) (w : World) : Calls Tryd.prog 56 #[.int .i64 a, .int .i64 b] w fun e w' => e = .returned (.int .i64 (cmpI a b)) ∧ w' = w := by
  have hN := fun x v => nanI x v
  by_cases h1 : a < b
  · have fin : Hid (cmpI a b = -1) := by show _ = _; unfold cmpI; rw [if_pos h1]
    go_enter Tryd.func56, Tryd.ntmps56
    go_wp2_with (go_at_call 65; refine (hN _ _).mono ?_; rintro e y ⟨rfl, rfl⟩)
    go_ret
    rw [fin.out]
    exact ⟨rfl, rfl⟩
  · by_cases h2 : b < a
    · have fin : Hid (cmpI a b = 1) := by show _ = _; unfold cmpI; rw [if_neg h1, if_pos h2]
      go_enter Tryd.func56, Tryd.ntmps56
      go_wp2_with (go_at_call 65; refine (hN _ _).mono ?_; rintro e y ⟨rfl, rfl⟩)
      go_ret
      rw [fin.out]
      exact ⟨rfl, rfl⟩
    · have fin : Hid (cmpI a b = 0) := by show _ = _; unfold cmpI; rw [if_neg h1, if_neg h2]
      go_enter Tryd.func56, Tryd.ntmps56
      go_wp2_with (go_at_call 65; refine (hN _ _).mono ?_; rintro e y ⟨rfl, rfl⟩)
      go_ret
      rw [fin.out]
      exact ⟨rfl, rfl⟩
theorem cmpS_any (a b : ByteArray) (w : World) : Calls Tryd.prog 57 #[.string a, .string b] w fun e w' => e = .returned (.int .i64 (cmpS a b)) ∧ w' = w := by
  have hN := fun x v => nanS x v
  by_cases h1 : sLt a b = true
  · have q1 : Op.bytesLess a.toList b.toList = true := h1
    have fin : Hid (cmpS a b = -1) := by show _ = _; unfold cmpS; rw [if_pos h1]
    clear h1
    go_enter Tryd.func57, Tryd.ntmps57
    go_wp2_with (go_at_call 66; refine (hN _ _).mono ?_; rintro e y ⟨rfl, rfl⟩)
    go_ret
    rw [fin.out]
    exact ⟨rfl, rfl⟩
  · have q1 : Op.bytesLess a.toList b.toList = false := by unfold sLt at h1; simpa using h1
    by_cases h2 : a = b
    · have q2 : (a.toList == b.toList) = true := str_eq h2
      have fin : Hid (cmpS a b = 0) := by show _ = _; unfold cmpS; rw [if_neg h1, if_pos h2]
      replace h2 : Hid _ := h2
      clear h1
      go_enter Tryd.func57, Tryd.ntmps57
      go_wp2_with (go_at_call 66; refine (hN _ _).mono ?_; rintro e y ⟨rfl, rfl⟩)
      go_ret
      rw [fin.out]
      exact ⟨rfl, rfl⟩
    · have q2 : (a.toList == b.toList) = false := str_ne h2
      have fin : Hid (cmpS a b = 1) := by show _ = _; unfold cmpS; rw [if_neg h1, if_neg h2]
      replace h2 : Hid _ := h2
      clear h1
      go_enter Tryd.func57, Tryd.ntmps57
      go_wp2_with (go_at_call 66; refine (hN _ _).mono ?_; rintro e y ⟨rfl, rfl⟩)
      go_ret
      rw [fin.out]
      exact ⟨rfl, rfl⟩
theorem cmpOr_any (a b : Int) (g : Nat) (w : World) (h0 : w.cell? ⟨g, 0, none⟩ = some (.int .i64 a)) (h1 : w.cell? ⟨g, 1, none⟩ = some (.int .i64 b)) : Calls Tryd.prog 55 #[.slice (some ⟨g, 0, none⟩) 2 2] w fun e w' => e = .returned (.int .i64 (if a ≠ 0 then a else b)) ∧ w' = w := by
  have i0 : ∀ w, (Instr.indexAt 143 (.slice (some ⟨g, 0, none⟩) 2 2) (.int .i64 0)).run Tryd.prog w = .ok (.pointer (some ⟨g, 0, none⟩)) w := fun w => by
    have := idxP (P := Tryd.prog) (g := g) (off := 0) (len := 2) (cap := 2) Tryd.underlying143 (s := 1) (by kernel_rfl) .i64 0 w (by omega)
    exact this
  have i1 : ∀ w, (Instr.indexAt 143 (.slice (some ⟨g, 0, none⟩) 2 2) (.int .i64 1)).run Tryd.prog w = .ok (.pointer (some ⟨g, 1, none⟩)) w := fun w => by
    have := idxP (P := Tryd.prog) (g := g) (off := 0) (len := 2) (cap := 2) Tryd.underlying143 (s := 1) (by kernel_rfl) .i64 1 w (by omega)
    exact this
  by_cases ha : a = 0
  · subst ha
    rw [if_neg (by simp)]
    by_cases hb : b = 0
    · subst hb
      go_enter Tryd.func55, Tryd.ntmps55
      go_wp2
      refine wp_loop_rounds 3 ?_
      rw [rounds_succ]; go_wp2
      rw [rounds_succ]; go_wp2
      rw [rounds_succ]; go_wp2
      go_ret
      exact ⟨rfl, rfl⟩
    · have qb : (b != 0) = true := by rw [bne_iff_ne]; exact hb
      replace hb : Hid _ := hb
      go_enter Tryd.func55, Tryd.ntmps55
      go_wp2
      refine wp_loop_rounds 2 ?_
      rw [rounds_succ]; go_wp2
      rw [rounds_succ]; go_wp2
      go_ret
      exact ⟨rfl, rfl⟩
  · have qa : (a != 0) = true := by rw [bne_iff_ne]; exact ha
    rw [if_pos ha]
    replace ha : Hid _ := ha
    go_enter Tryd.func55, Tryd.ntmps55
    go_wp2
    refine wp_loop_rounds 1 ?_
    rw [rounds_succ]; go_wp2
    go_ret
    exact ⟨rfl, rfl⟩
theorem calls_same {f : FuncId} {args : Array Value} {v : Value} {u : World} {C : World → Prop} (h : Calls Tryd.prog f args u fun e w' => e = .returned v ∧ w' = u) (hC : C u) : Calls Tryd.prog f args u fun e w' => e = .returned v ∧ C w' := h.mono fun e w' k => ⟨k.1, by rw [k.2]; exact hC⟩
end Go.Proofs.YthbdpceobnkflaaDoor

namespace Go.Proofs.YthbdpceobnkflaaDoor
open Go Go.RowKit Go.MapKept
set_option linter.unusedVariables false
set_option maxHeartbeats 1000000
set_option maxRecDepth 20000

section
variable {P : Program} {mt kt et : TypeId}
/-- A block is a map that holds what F says. -/
def MapF (w : World) (g : Nat) (F : ByteArray → Option Value) : Prop := ∃ es clock, w.heap[g]? = some (.map es clock) ∧
  (∀ (i : Nat) (e : MapEntry), es[i]? = some e → ∃ s, e.key = .string s ∧ F s = some e.val) ∧
  (∀ s v, F s = some v → ∃ (i : Nat) (e : MapEntry), es[i]? = some e ∧ e.key = .string s) ∧
  (∀ (i j : Nat) (e e' : MapEntry), es[i]? = some e → es[j]? = some e' → e.key = e'.key → i = j)
theorem keyS (s : ByteArray) : IsKey .string (.string s) := trivial
theorem MapF.look {w : World} {g : Nat} {F : ByteArray → Option Value} (h : MapF w g F) (hm : P.underlying mt = some (.map kt et)) (hk : P.underlying kt = some .string) (s : ByteArray) (z : Value) (hz : (zeroValue et).run P w = .ok z w) :
    (Instr.lookup mt (.map (some g)) (.string s) true).run P w = .ok (.tuple #[(F s).getD z, .bool (F s).isSome]) w := by
  obtain ⟨es, clock, hb, h1, h2, h3⟩ := h
  have hks : ∀ x ∈ es.toList, IsKey .string x.key := fun x hx => by
    obtain ⟨i, hi, e⟩ := List.getElem_of_mem hx
    obtain ⟨t, et', _⟩ := h1 i x (by rw [← Array.getElem?_toList, List.getElem?_eq_getElem hi, e])
    rw [et']
    trivial
  rcases findNow_spec (d := .string) (k := .string s) trivial es.toList 0 hks with ⟨f1, f2⟩ | ⟨j, e0, f1, f2, f3⟩
  · have hF : F s = none := by
      rcases e : F s with _ | v
      · rfl
      · obtain ⟨i, e', he, hke⟩ := h2 s v e
        rw [← Array.getElem?_toList] at he
        exact absurd hke (f2 e' (List.mem_of_getElem? he))
    rw [hF]
    simp [Instr.lookup, run_underlying hm, MapKept.run_getObj_map hb, MapKept.run_checkKey hk (keyS s), MapKept.run_findKey hk f1, hz, Result.andThen]
  · rw [Array.getElem?_toList] at f2
    obtain ⟨t, ht, hF⟩ := h1 j e0 f2
    rw [f3] at ht
    injection ht with ht
    subst ht
    rw [hF]
    simp [Instr.lookup, run_underlying hm, MapKept.run_getObj_map hb, MapKept.run_checkKey hk (keyS s), MapKept.run_findKey hk f1, Result.andThen]
end
end Go.Proofs.YthbdpceobnkflaaDoor

namespace Go.Proofs.YthbdpceobnkflaaDoor
open Go Go.RowKit
set_option linter.unusedVariables false
set_option maxHeartbeats 3000000
set_option maxRecDepth 20000

theorem mapUL : Tryd.prog.underlying 68 = some (.map 9 3) := by kernel_rfl
theorem strUL : Tryd.prog.underlying 9 = some .string := by kernel_rfl
end Go.Proofs.YthbdpceobnkflaaDoor
