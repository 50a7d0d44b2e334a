/- Rows of values of any kind: an append of several. Rows of values of any kind: a copy onto a row of one's own; rows lent with a mark behind them. Objects: their blocks, marks and labels in memory, and which blocks may be. Labels: which stands ahead of which. -/
import Derived.Test.YthbdpceobnkflaaDoorJ6
import Derived.Test.YthbdpceobnkflaaDoorJ8
import Derived.BigQuiet
namespace Go.Proofs.YthbdpceobnkflaaDoor
open Go Go.RowKit
set_option linter.unusedVariables false
set_option maxHeartbeats 400000
set_option maxRecDepth 20000

section
variable {α : Type} {T t : TypeId} {s bts : Nat} {c : α → List Value}
/-- What an append of several values leaves. -/
structure AppNL (t : TypeId) (s : Nat) (c : α → List Value) (B : Nat) (v : Value) (l us : List α) (v' : Value) (w w' : World) : Prop where
  own : OwnL t s c B w' v' (l ++ us)
  new : ∀ g, v'.ownBlock = some g → v.ownBlock = some g ∨ w.heap.size ≤ g
  cu : CuL B (fun g j => v.ownBlock = some g ∧ l.length * s ≤ j) w w'
theorem AppNL.grew {B : Nat} {v : Value} {l us : List α} {v' : Value} {w w' : World} (hB : B ≤ w.heap.size) (h1 : w'.ownsRow w.heap.size t s v' (l.length + us.length) (rowL c l ++ rowL c us)) (h2 : w.grownBy w' none) : AppNL t s c B v l us v' w w' := by
  have ho : OwnL t s c w.heap.size w' v' (l ++ us) := by
    unfold OwnL
    rw [rowL_app, List.length_append]
    exact h1
  exact ⟨ho.weak hB, fun g hg => .inr (ho.lt g hg).1, CuL.of_below ⟨h2.os, h2.tape, h2.output, h2.size, fun k hk => h2.block k hk (by simp)⟩ hB⟩
/-- The cells of a row that lies. -/
theorem LiesL.cells (hc : ∀ x, (c x).length = s) (hs : 0 < s) {x : World} {g o : Nat} {l : List α} (h : LiesL s c x (some ⟨g, o, none⟩) l) (j : Nat) (u : Value) (hj : (rowL c l)[j]? = some u) : x.cell? ⟨g, o + j, none⟩ = some u := by
  have hlt : j < l.length * s := by
    have := (List.getElem?_eq_some_iff.1 hj).1
    rwa [rowL_len hc] at this
  have hd : j / s < l.length := (Nat.div_lt_iff_lt_mul hs).2 hlt
  have hm : j % s < s := Nat.mod_lt _ hs
  have e : j / s * s + j % s = j := by rw [Nat.mul_comm]; exact Nat.div_add_mod j s
  have ha : l[j / s]? = some l[j / s] := List.getElem?_eq_getElem hd
  obtain ⟨gb, ob, e1, k⟩ := h _ _ ha
  cases e1
  have := k (j % s) u (by rw [← rowL_at hc l (j / s) (j % s) _ ha hm, e]; exact hj)
  rwa [Nat.add_assoc, e] at this
theorem at_appNL (K : KdL T t s bts c) {ops : Array Oper} {rest : List Oper} {o : Oper} {a : Act} {w : World} {Q : Exit → Act → World → Prop} (hgd : o.guard = none) (sl x : Operand)
    (ho : o.op = .call { callee := .builtin .append, args := #[sl, x], argTypes := #[T, T] }) (B : Nat) (v : Value) (l : List α) (hs : a.eval sl = v) (hown : OwnL t s c B w v l)
    (g0 o0 m cm : Nat) (us : List α) (hm : us.length = m) (hx : a.eval x = .slice (some ⟨g0, o0, none⟩) m cm) (hu : LiesL s c w (some ⟨g0, o0, none⟩) us) (hm0 : 0 < m) (hn : l.length + m ≤ 100000000000) (hB : B ≤ w.heap.size)
    (k : ∀ v' w', Hid (AppNL t s c B v l us v' w w') → wpList Tryd.prog ops Q rest (a.put o.dst v') w') : wpList Tryd.prog ops Q (o :: rest) a w := by
  subst hm
  obtain ⟨i, z, hi, hz0, hz1, hz2, hz3⟩ := K.i
  have hc : ∀ j u', (rowL c us)[j]? = some u' → w.cell? ((⟨g0, o0, none⟩ : Addr).add j) = some u' := fun j u' h => by
    rw [Addr.add_lit]
    exact hu.cells K.len K.s0 j u' h
  have hnews : ∀ y ∈ rowL c us, y.oneCell' = true := rowL_cell K.one us
  have b1 : l.length + us.length ≤ maxLen := by unfold maxLen; omega
  have b2 : (l.length + us.length) * bts ≤ 140737488355328 := Nat.le_trans (Nat.mul_le_mul hn K.b0) (by decide)
  have hul : (rowL c us).length = us.length * s := rowL_len K.len us
  have hown' := hown
  obtain ⟨hl, hor⟩ := hown
  have hlen := rowL_len K.len l
  rcases hor with ⟨rfl, hn0⟩ | ⟨g, cap, cur, rfl, hbg, hg, hnc, hcm, hcs, htake⟩
  · have hl0 : l = [] := List.eq_nil_of_length_eq_zero hn0
    subst hl0
    refine wpList_append_grows w hgd sl x T ho t i z s bts K.u hi hz0 hz1 hz2 hz3 K.s0 none 0 0 [] hs (fun _ => ⟨rfl, rfl⟩) (by simp) (fun b hb => by cases hb) ⟨g0, o0, none⟩ us.length cm (rowL c us) hx hul hc hnews (by omega) b1 b2 ?_
    intro v' w' r1 r2
    exact k v' w' (AppNL.grew hB r1 r2)
  · by_cases hr : l.length + us.length ≤ cap
    · have hfit : l.length * s + us.length * s ≤ cur.size := by
        rw [hcs, ← Nat.add_mul]
        exact Nat.mul_le_mul_right s hr
      refine wpList_append_arg w hgd sl x T ho t i z s bts K.u hi hz0 hz1 hz2 hz3 K.s0 g 0 l.length cap (rowL c l) hs hl ?_ ⟨g0, o0, none⟩ us.length cm (rowL c us) hx hul hc hnews ?_ b1 b2 ?_ (fun h => absurd hr (by omega))
      · intro j u' hj
        have := World.ownsRow.cells (g := g) hown' rfl j u' hj
        rwa [Addr.add_lit] at this
      · intro _ j hj
        rw [hul] at hj
        refine ⟨?_, frozen_heap hg _⟩
        rw [cell_heap hg, Array.getElem?_eq_getElem (by omega)]
        rfl
      · intro _
        refine k _ _ ?_
        have e0 : 0 + l.length * s = l.length * s := by omega
        rw [e0]
        refine ⟨⟨by rw [rowL_len K.len], .inr ⟨g, cap, _, by rw [List.length_append], hbg, heapL_setCells g _ _ _ w cur hg (by rw [hul]; omega), by rw [List.length_append]; exact hr, hcm, ?_, ?_⟩⟩, fun g' h => .inl h, ?_⟩
        · have := length_splice cur.toList (l.length * s) (rowL c us) (by rw [hul, Array.length_toList]; omega)
          rw [List.size_toArray, this, Array.length_toList, hcs]
        · rw [rowL_app, List.length_append]
          unfold splice
          rw [← List.append_assoc, htake, List.take_append_of_le_length (by rw [List.length_append, hlen, hul, Nat.add_mul]; omega)]
          exact List.take_of_length_le (by rw [List.length_append, hlen, hul, Nat.add_mul]; omega)
        · exact (setCellsL_cu B g _ hbg _ w).mono fun g' j _ hF => ⟨by rw [hF.1]; rfl, hF.2.1⟩
    · have hcells := World.ownsRow.cells (g := g) hown' rfl
      refine wpList_append_grows w hgd sl x T ho t i z s bts K.u hi hz0 hz1 hz2 hz3 K.s0 (some ⟨g, 0, none⟩) l.length cap (rowL c l) hs (fun h => by cases h) hl (fun b hb => by cases hb; exact hcells) ⟨g0, o0, none⟩ us.length cm (rowL c us) hx hul hc hnews (by omega) b1 b2 ?_
      intro v' w' r1 r2
      exact k v' w' (AppNL.grew hB r1 r2)
end
end Go.Proofs.YthbdpceobnkflaaDoor

namespace Go.Proofs.YthbdpceobnkflaaDoor
open Go Go.RowKit
set_option linter.unusedVariables false
set_option maxHeartbeats 400000
set_option maxRecDepth 20000

section
variable {α : Type} {T t : TypeId} {s bts : Nat} {c : α → List Value}
theorem bxL_range (hc : ∀ x, (c x).length = s) {y : World} {g : Nat} {r : List α} (h : Bx y g (rowL c r).toArray t) (j : Nat) (a : α) (hj : r[j]? = some a) : y.rangeAt g (0 + j * s) (c a) := fun i v hv => by
  have hi : i < s := by have := (List.getElem?_eq_some_iff.1 hv).1; rw [hc] at this; exact this
  rw [Nat.zero_add]
  exact h.c (j * s + i) v (by rw [List.getElem?_toArray, rowL_at hc r j i a hj hi]; exact hv)
end
theorem one_bxL (z : World) (cs : Array Value) (t : TypeId) : Bx (z.alloc (.cells cs t)) z.heap.size cs t := alloc_last' z _
/-- Rows that were just made lie. -/
theorem lies_new {α : Type} {c : α → List Value} {s : Nat} (hc : ∀ x, (c x).length = s) (w : World) (t : TypeId) (us : List α) : LiesL s c (w.alloc (.cells (rowL c us).toArray t)) (some ⟨w.heap.size, 0, none⟩) us := fun j a hj => by
  refine ⟨w.heap.size, 0, rfl, fun i v hv => ?_⟩
  have hi : i < s := by have := (List.getElem?_eq_some_iff.1 hv).1; rw [hc] at this; exact this
  have := (one_bxL w (rowL c us).toArray t).c (j * s + i) v (by simpa using (by rw [rowL_at hc us j i a hj hi]; exact hv : (rowL c us)[j * s + i]? = some v))
  rw [Nat.zero_add]
  exact this
end Go.Proofs.YthbdpceobnkflaaDoor

namespace Go.Proofs.YthbdpceobnkflaaDoor
open Go Go.RowKit
set_option linter.unusedVariables false
set_option maxHeartbeats 1000000
set_option maxRecDepth 20000

theorem of_below {w x y : World} (h : Below w.heap.size w x) (k : Below x.heap.size x y) : Below w.heap.size w y := h.trans (k.mono h.size)
/-- A block as it lies in memory. -/
structure Bk where
  a : Int
  sp : Option Addr
  m : Nat
  cap : Nat
structure Mk where
  a : Int
  n : Int
  c : Bool
structure La where
  n : ByteArray
  a : Int
def k2 (b : Bk) : Array Value := #[.int .i64 b.a, .slice b.sp b.m b.cap]
def k3 (m : Mk) : Array Value := #[.int .i64 m.a, .int .i64 m.n, .bool m.c]
def kl (l : La) : Array Value := #[.string l.n, .int .i64 l.a]
def cK (b : Bk) : List Value := (k2 b).toList
def cM (m : Mk) : List Value := (k3 m).toList
def cLa (l : La) : List Value := (kl l).toList
def zK : Bk := ⟨0, none, 0, 0⟩
def zM : Mk := ⟨0, 0, false⟩
def zL : La := ⟨⟨#[]⟩, 0⟩
theorem infoK : (Tryd.prog.info? 46).map (fun i => (i.zero, i.size, i.bytes)) = some (some (.agg (k2 zK)), 2, 32) := by kernel_rfl
theorem infoM : (Tryd.prog.info? 89).map (fun i => (i.zero, i.size, i.bytes)) = some (some (.agg (k3 zM)), 3, 24) := by kernel_rfl
theorem infoLa : (Tryd.prog.info? 52).map (fun i => (i.zero, i.size, i.bytes)) = some (some (.agg (kl zL)), 2, 24) := by kernel_rfl
theorem kBk : KdL (α := Bk) 25 46 2 32 cK := by
  obtain ⟨i, hi, hz0, hz1, hz2⟩ := info_parts infoK
  exact ⟨Tryd.underlying25, ⟨i, _, hi, hz0, hz1, hz2, rfl⟩, fun x => rfl, fun x v hv => by simp [cK, k2] at hv; rcases hv with rfl | rfl <;> rfl, by decide, by decide⟩
theorem kMk : KdL (α := Mk) 26 89 3 24 cM := by
  obtain ⟨i, hi, hz0, hz1, hz2⟩ := info_parts infoM
  exact ⟨Tryd.underlying26, ⟨i, _, hi, hz0, hz1, hz2, rfl⟩, fun x => rfl, fun x v hv => by simp [cM, k3] at hv; rcases hv with rfl | rfl | rfl <;> rfl, by decide, by decide⟩
theorem kLa : KdL (α := La) 27 52 2 24 cLa := by
  obtain ⟨i, hi, hz0, hz1, hz2⟩ := info_parts infoLa
  exact ⟨Tryd.underlying27, ⟨i, _, hi, hz0, hz1, hz2, rfl⟩, fun x => rfl, fun x v hv => by simp [cLa, kl] at hv; rcases hv with rfl | rfl <;> rfl, by decide, by decide⟩
theorem rtK : Rt Tryd.prog 46 2 := ⟨⟨_, Tryd.underlying46, rfl⟩, by kernel_rfl⟩
theorem rtM : Rt Tryd.prog 89 3 := ⟨⟨_, Tryd.underlying89, rfl⟩, by kernel_rfl⟩
theorem rtLa : Rt Tryd.prog 52 2 := ⟨⟨_, Tryd.underlying52, rfl⟩, by kernel_rfl⟩
theorem rtO : Rt Tryd.prog 29 3 := ⟨⟨_, Tryd.underlying29, rfl⟩, by kernel_rfl⟩
theorem oneK (b : Bk) : (k2 b).all (·.oneCell') = true := by simp [k2, Value.oneCell']
theorem oneM (b : Mk) : (k3 b).all (·.oneCell') = true := by simp [k3, Value.oneCell']
theorem oneLa (b : La) : (kl b).all (·.oneCell') = true := by simp [kl, Value.oneCell']
/-- A block with its bytes. -/
abbrev Bb := Bk × List UInt8
/-- An object as it lies in memory. -/
structure Oo where
  bp : Option Addr
  bc : Nat
  B : List Bb
  mp : Option Addr
  mc : Nat
  M : List Mk
  lp : Option Addr
  lc : Nat
  L : List La
def oC (o : Oo) : Array Value := #[.slice o.bp o.B.length o.bc, .slice o.mp o.M.length o.mc, .slice o.lp o.L.length o.lc]
def inI (x : Int) : Prop := -9223372036854775808 ≤ x ∧ x ≤ 9223372036854775807
structure Lo (w : World) (o : Oo) : Prop where
  b : LiesL 2 cK w o.bp (o.B.map (·.1))
  m : LiesL 3 cM w o.mp o.M
  l : LiesL 2 cLa w o.lp o.L
  g : ∀ x ∈ o.B, LB8 w x.1.sp x.2 ∧ x.2.length = x.1.m
  ib : ∀ x ∈ o.B, inI x.1.a ∧ x.1.m ≤ 2147483647
  im : ∀ x ∈ o.M, inI x.a ∧ inI x.n
  il : ∀ x ∈ o.L, inI x.a ∧ x.n.size ≤ 9223372036854775807
  n : o.B.length ≤ 2147483647 ∧ o.M.length ≤ 2147483647 ∧ o.L.length ≤ 2147483647
theorem Lo.below {w y : World} {o : Oo} (h : Lo w o) (hb : Below w.heap.size w y) : Lo y o := ⟨h.b.below hb, h.m.below hb, h.l.below hb, fun x hx => ⟨(h.g x hx).1.below hb, (h.g x hx).2⟩, h.ib, h.im, h.il, h.n⟩
/-- Blocks, from an address on. -/
def blkOk : Int → List Bk → Bool
  | _, [] => true
  | p, b :: r => decide (p ≤ b.a ∧ 1 ≤ (b.m : Int) ∧ (b.m : Int) ≤ 65536 - b.a) && blkOk (b.a + b.m + 1) r
theorem behind_any (w : World) (b : Bk) (hi : 0 ≤ b.a ∧ b.a ≤ 65536) (hm : b.m ≤ 65536) : Calls Tryd.prog 26 #[.agg (k2 b)] w fun e w' => e = .returned (.int .i64 (b.a + b.m)) ∧ Below w.heap.size w w' := by
  have K1 : Hid (Fm w [(w.heap.size, k2 b, 46)] (w.alloc (.cells (k2 b) 46))) := Fm.one w _ _
  have d0 := (K1.out.bx 0 _ _ _ rfl).c 0 (.int .i64 b.a) rfl
  have d1 := (K1.out.bx 0 _ _ _ rfl).c 1 (.slice b.sp b.m b.cap) rfl
  have h0 := hi.1
  have h1 := hi.2
  have h2 : (b.m : Int) ≤ 65536 := by omega
  clear hi hm
  go_enter Tryd.func26, Tryd.ntmps26
  go_wp2
  go_ret
  exact ⟨rfl, K1.out.low⟩
theorem blocks_any (w : World) (sp : Option Addr) (cap : Nat) (l : List Bk) (hl : Hid (LiesL 2 cK w sp l)) (hi : Hid (∀ b ∈ l, inI b.a ∧ b.m ≤ 2147483647)) (hn : l.length ≤ 2147483647) :
    Calls Tryd.prog 27 #[.slice sp l.length cap] w fun e w' => e = .returned (.bool (blkOk 0 l)) ∧ Hid (Below w.heap.size w w') := by
  obtain ⟨n, hn'⟩ : ∃ n, l.length = n := ⟨_, rfl⟩
  have hnn : Hid (l.length = n) := hn'
  rw [hn'] at hn ⊢
  have ni : (n : Int) ≤ 2147483647 := by omega
  obtain ⟨R, hR⟩ : ∃ R, blkOk 0 l = R := ⟨_, rfl⟩
  have hR' : Hid (blkOk 0 l = R) := hR
  rw [hR]
  have hB := fun v b h1 h2 => behind_any v b h1 h2
  clear hn hn' hR
  go_enter Tryd.func27, Tryd.ntmps27
  go_wp2
  go_loopw [3, 8] (fun p t wz => ∃ (i : Nat) (P : Int) (y : World), y = wz ∧ p = .int .i64 P ∧ t = .int .i64 (i : Int) ∧ Hid (i ≤ n ∧ blkOk P (l.drop i) = R ∧ 0 ≤ P ∧ P ≤ 65537) ∧ Hid (Below w.heap.size w y)) (fun _ t _ => (n - intOf t).toNat)
  case atStart => exact ⟨0, 0, _, rfl, rfl, rfl, ⟨Nat.zero_le _, hR'.out, by decide, by decide⟩, Below.refl _ _⟩
  case round =>
    obtain ⟨i, P, y, rfl, rfl, rfl, J, K⟩ := hrel
    by_cases hlt : i < n
    · obtain ⟨b, hb⟩ : ∃ b, l[i]? = some b := ⟨_, List.getElem?_eq_getElem (by rw [hnn.out]; exact hlt)⟩
      obtain ⟨g, o, rfl, hc⟩ := hl.out i b hb
      have hc' : Hid (y.rangeAt g (o + i * 2) (k2 b).toList) := range_keep hc K.out
      obtain ⟨hia, hib⟩ := hi.out b (List.mem_of_getElem? hb)
      have hd : Hid (l.drop i = b :: l.drop (i + 1)) := by
        show _ = _
        obtain ⟨h, e⟩ := List.getElem?_eq_some_iff.1 hb
        rw [List.drop_eq_getElem_cons h, e]
      have hO : Hid (blkOk P (l.drop i) = (decide (P ≤ b.a ∧ 1 ≤ (b.m : Int) ∧ (b.m : Int) ≤ 65536 - b.a) && blkOk (b.a + b.m + 1) (l.drop (i + 1)))) := by show _ = _; rw [hd.out]; rfl
      have ij := fun w => idxP (P := Tryd.prog) (g := g) (off := o) (len := n) (cap := cap) Tryd.underlying25 (s := 2) (by kernel_rfl) .i64 i w hlt
      have hii : (i : Int) < n := by omega
      have hlt' : Hid (i < n) := hlt
      have p0 := J.out.2.2.1
      have p1 := J.out.2.2.2
      have mi : (b.m : Int) ≤ 2147483647 := by omega
      have a0 := hia.1
      have a1 := hia.2

      by_cases c : P ≤ b.a ∧ 1 ≤ (b.m : Int) ∧ (b.m : Int) ≤ 65536 - b.a
      · obtain ⟨c1, c2, c3⟩ := c
        have hJ : Hid (blkOk (b.a + b.m + 1) (l.drop (i + 1)) = R) := by
          have h1 := hO.out
          rw [J.out.2.1, decide_eq_true ⟨c1, c2, c3⟩, Bool.true_and] at h1
          exact h1.symm
        have q1 : ¬ b.a < P := by omega
        have q2 : ¬ (b.m : Int) < 1 := by omega
        have q3 : ¬ 65536 - b.a < (b.m : Int) := by omega
        have hBc : Hid (∀ v, Calls Tryd.prog 26 #[.agg (k2 b)] v fun e w' => e = .returned (.int .i64 (b.a + b.m)) ∧ Below v.heap.size v w') := fun v => hB v b ⟨by omega, by omega⟩ (by omega)
        clear hlt hb hc hia hib hd hO hB
        go_wp2_with (first
          | ((with_reducible refine at_loadm rtK g (o + i * 2) (k2 b) ?_ ?_ (.tmp 10) ?_ ?_ ?_ ?_); exact hc'.out; rfl; kernel_rfl; rfl; rfl)
          | ((with_reducible refine gen_world (y.alloc (.cells #[.int .i64 0, .slice none 0 0] 46)) (Fm y [(y.heap.size, k2 zK, 46)]) ?_ ?_); exact Fm.one y _ _; intro y1 K1)
          | ((with_reducible refine at_st rtK y.heap.size (k2 zK) (k2 b) ?_ ?_ ?_ ?_ (.tmp 5) (.tmp 11) ?_ ?_ ?_ ?_ ?_); exact K1.out.bx 0 _ _ _ rfl; rfl; rfl; exact oneK _; rfl; rfl; rfl; rfl; intro y2 hw2; have K2 : Hid (Fm y [(y.heap.size, k2 b, 46)] y2) := K1.out.put 0 _ _ _ _ rfl hw2.out; clear hw2; have d0 := (K2.out.bx 0 _ _ _ rfl).c 0 (.int .i64 b.a) rfl; have d1 := (K2.out.bx 0 _ _ _ rfl).c 1 (.slice b.sp b.m b.cap) rfl)
          | ((with_reducible refine at_load rtK y.heap.size (k2 b) ?_ ?_ (.tmp 5) ?_ ?_ ?_ ?_); exact K2.out.bx 0 _ _ _ rfl; rfl; rfl; rfl; rfl)
          | (go_at_call 26; refine (hBc.out y2).mono ?_; rintro e y3 ⟨rfl, H3⟩; have K3 : Hid (Below w.heap.size w y3) := of_below (of_below K.out K2.out.low) H3; clear H3 d0 d1))
        go_roundw
        case rel => exact ⟨i + 1, b.a + b.m + 1, _, rfl, by first | rfl | simp, by simp, ⟨hlt'.out, hJ.out, by omega, by omega⟩, K3⟩
        case measure => have := hlt'.out; simp [intOf]; omega
      · have fin : Hid (R = false) := by
          have h1 := hO.out
          rw [J.out.2.1, decide_eq_false c, Bool.false_and] at h1
          exact h1
        have q : (b.a < P) ∨ (¬ b.a < P ∧ (b.m : Int) < 1) ∨ (¬ b.a < P ∧ ¬ (b.m : Int) < 1 ∧ 65536 - b.a < (b.m : Int)) := by omega
        clear hlt hb hc hia hib hd hO hB c
        rcases q with q1 | ⟨q1, q2⟩ | ⟨q1, q2, q3⟩
        all_goals
          go_wp2_with (first
            | ((with_reducible refine at_loadm rtK g (o + i * 2) (k2 b) ?_ ?_ (.tmp 10) ?_ ?_ ?_ ?_); exact hc'.out; rfl; kernel_rfl; rfl; rfl)
            | ((with_reducible refine gen_world (y.alloc (.cells #[.int .i64 0, .slice none 0 0] 46)) (Fm y [(y.heap.size, k2 zK, 46)]) ?_ ?_); exact Fm.one y _ _; intro y1 K1)
            | ((with_reducible refine at_st rtK y.heap.size (k2 zK) (k2 b) ?_ ?_ ?_ ?_ (.tmp 5) (.tmp 11) ?_ ?_ ?_ ?_ ?_); exact K1.out.bx 0 _ _ _ rfl; rfl; rfl; exact oneK _; rfl; rfl; rfl; rfl; intro y2 hw2; have K2 : Hid (Fm y [(y.heap.size, k2 b, 46)] y2) := K1.out.put 0 _ _ _ _ rfl hw2.out; clear hw2; have d0 := (K2.out.bx 0 _ _ _ rfl).c 0 (.int .i64 b.a) rfl; have d1 := (K2.out.bx 0 _ _ _ rfl).c 1 (.slice b.sp b.m b.cap) rfl))
          go_ret
          rw [fin.out]
          exact ⟨rfl, of_below K.out K2.out.low⟩
    · have hie : i = n := by have := J.out.1; omega
      subst hie
      have fin : Hid (R = true) := by
        have h1 := J.out.2.1
        rw [List.drop_eq_nil_of_le (by rw [hnn.out]; exact Nat.le_refl _)] at h1
        exact h1.symm
      clear hlt
      go_wp2
      go_ret
      rw [fin.out]
      exact ⟨rfl, K⟩
end Go.Proofs.YthbdpceobnkflaaDoor

namespace Go.Proofs.YthbdpceobnkflaaDoor
open Go Go.RowKit
set_option linter.unusedVariables false
set_option maxHeartbeats 1000000
set_option maxRecDepth 20000

def sLt (a b : ByteArray) : Bool := Op.bytesLess a.toList b.toList
/-- Does a label stand ahead of another one? -/
def befL (a b : La) : Bool := decide (a.a < b.a) || (decide (a.a = b.a) && sLt a.n b.n)
def cmpI (a b : Int) : Int := if a < b then -1 else if b < a then 1 else 0
def cmpS (a b : ByteArray) : Int := if sLt a b then -1 else if a = b then 0 else 1
def ordL (a b : La) : Int := if cmpI a.a b.a ≠ 0 then cmpI a.a b.a else cmpS a.n b.n
theorem nanI (x : Int) (w : World) : Calls Tryd.prog 65 #[.int .i64 x] w fun e w' => e = .returned (.bool false) ∧ w' = w := by
  have q : (x != x) = false := by simp
  go_enter Tryd.func65, Tryd.ntmps65
  go_wp2
  try (go_quiet (fail); go_wp2)
  go_ret
  exact ⟨rfl, rfl⟩
theorem nanS (x : ByteArray) (w : World) : Calls Tryd.prog 66 #[.string x] w fun e w' => e = .returned (.bool false) ∧ w' = w := by
  have q : (x.toList != x.toList) = false := by simp
  go_enter Tryd.func66, Tryd.ntmps66
  go_wp2
  try (go_quiet (fail); go_wp2)
  go_ret
  exact ⟨rfl, rfl⟩
theorem cmpI_any (a b : Int) (w : World) : Calls Tryd.prog 56 #[.int .i64 a, .int .i64 b] w fun e w' => e = .returned (.int .i64 (cmpI a b)) ∧ w' = w := by
  have hN := fun x v => nanI x v
  by_cases h1 : a < b
  · have fin : Hid (cmpI a b = -1) := by show _ = _; unfold cmpI; rw [if_pos h1]
    go_enter Tryd.func56, Tryd.ntmps56
    go_wp2_with (go_at_call 65; refine (hN _ _).mono ?_; rintro e y ⟨rfl, rfl⟩)
    go_ret
    rw [fin.out]
    exact ⟨rfl, rfl⟩
  · by_cases h2 : b < a
    · have fin : Hid (cmpI a b = 1) := by show _ = _; unfold cmpI; rw [if_neg h1, if_pos h2]
      go_enter Tryd.func56, Tryd.ntmps56
      go_wp2_with (go_at_call 65; refine (hN _ _).mono ?_; rintro e y ⟨rfl, rfl⟩)
      go_ret
      rw [fin.out]
      exact ⟨rfl, rfl⟩
    · have fin : Hid (cmpI a b = 0) := by show _ = _; unfold cmpI; rw [if_neg h1, if_neg h2]
      go_enter Tryd.func56, Tryd.ntmps56
      go_wp2_with (go_at_call 65; refine (hN _ _).mono ?_; rintro e y ⟨rfl, rfl⟩)
      go_ret
      rw [fin.out]
      exact ⟨rfl, rfl⟩
theorem cmpS_any (a b : ByteArray) (w : World) : Calls Tryd.prog 57 #[.string a, .string b] w fun e w' => e = .returned (.int .i64 (cmpS a b)) ∧ w' = w := by
  have hN := fun x v => nanS x v
  by_cases h1 : sLt a b = true
  · have q1 : Op.bytesLess a.toList b.toList = true := h1
    have fin : Hid (cmpS a b = -1) := by show _ = _; unfold cmpS; rw [if_pos h1]
    clear h1
    go_enter Tryd.func57, Tryd.ntmps57
    go_wp2_with (go_at_call 66; refine (hN _ _).mono ?_; rintro e y ⟨rfl, rfl⟩)
    go_ret
    rw [fin.out]
    exact ⟨rfl, rfl⟩
  · have q1 : Op.bytesLess a.toList b.toList = false := by unfold sLt at h1; simpa using h1
    by_cases h2 : a = b
    · have q2 : (a.toList == b.toList) = true := str_eq h2
      have fin : Hid (cmpS a b = 0) := by show _ = _; unfold cmpS; rw [if_neg h1, if_pos h2]
      replace h2 : Hid _ := h2
      clear h1
      go_enter Tryd.func57, Tryd.ntmps57
      go_wp2_with (go_at_call 66; refine (hN _ _).mono ?_; rintro e y ⟨rfl, rfl⟩)
      go_ret
      rw [fin.out]
      exact ⟨rfl, rfl⟩
    · have q2 : (a.toList == b.toList) = false := str_ne h2
      have fin : Hid (cmpS a b = 1) := by show _ = _; unfold cmpS; rw [if_neg h1, if_neg h2]
      replace h2 : Hid _ := h2
      clear h1
      go_enter Tryd.func57, Tryd.ntmps57
      go_wp2_with (go_at_call 66; refine (hN _ _).mono ?_; rintro e y ⟨rfl, rfl⟩)
      go_ret
      rw [fin.out]
      exact ⟨rfl, rfl⟩
theorem cmpOr_any (a b : Int) (g : Nat) (w : World) (h0 : w.cell? ⟨g, 0, none⟩ = some (.int .i64 a)) (h1 : w.cell? ⟨g, 1, none⟩ = some (.int .i64 b)) : Calls Tryd.prog 55 #[.slice (some ⟨g, 0, none⟩) 2 2] w fun e w' => e = .returned (.int .i64 (if a ≠ 0 then a else b)) ∧ w' = w := by
  have i0 : ∀ w, (Instr.indexAt 143 (.slice (some ⟨g, 0, none⟩) 2 2) (.int .i64 0)).run Tryd.prog w = .ok (.pointer (some ⟨g, 0, none⟩)) w := fun w => by
    have := idxP (P := Tryd.prog) (g := g) (off := 0) (len := 2) (cap := 2) Tryd.underlying143 (s := 1) (by kernel_rfl) .i64 0 w (by omega)
    exact this
  have i1 : ∀ w, (Instr.indexAt 143 (.slice (some ⟨g, 0, none⟩) 2 2) (.int .i64 1)).run Tryd.prog w = .ok (.pointer (some ⟨g, 1, none⟩)) w := fun w => by
    have := idxP (P := Tryd.prog) (g := g) (off := 0) (len := 2) (cap := 2) Tryd.underlying143 (s := 1) (by kernel_rfl) .i64 1 w (by omega)
    exact this
  by_cases ha : a = 0
  · subst ha
    rw [if_neg (by simp)]
    by_cases hb : b = 0
    · subst hb
      go_enter Tryd.func55, Tryd.ntmps55
      go_wp2
      refine wp_loop_rounds 3 ?_
      rw [rounds_succ]; go_wp2
      rw [rounds_succ]; go_wp2
      rw [rounds_succ]; go_wp2
      go_ret
      exact ⟨rfl, rfl⟩
    · have qb : (b != 0) = true := by rw [bne_iff_ne]; exact hb
      replace hb : Hid _ := hb
      go_enter Tryd.func55, Tryd.ntmps55
      go_wp2
      refine wp_loop_rounds 2 ?_
      rw [rounds_succ]; go_wp2
      rw [rounds_succ]; go_wp2
      go_ret
      exact ⟨rfl, rfl⟩
  · have qa : (a != 0) = true := by rw [bne_iff_ne]; exact ha
    rw [if_pos ha]
    replace ha : Hid _ := ha
    go_enter Tryd.func55, Tryd.ntmps55
    go_wp2
    refine wp_loop_rounds 1 ?_
    rw [rounds_succ]; go_wp2
    go_ret
    exact ⟨rfl, rfl⟩
theorem calls_same {f : FuncId} {args : Array Value} {v : Value} {u : World} {C : World → Prop} (h : Calls Tryd.prog f args u fun e w' => e = .returned v ∧ w' = u) (hC : C u) : Calls Tryd.prog f args u fun e w' => e = .returned v ∧ C w' := h.mono fun e w' k => ⟨k.1, by rw [k.2]; exact hC⟩
theorem order_any (w : World) (a b : La) (ha : inI a.a) (hb : inI b.a) : Calls Tryd.prog 40 #[.agg (kl a), .agg (kl b)] w fun e w' => e = .returned (.int .i64 (ordL a b)) ∧ Below w.heap.size w w' := by
  have K1 : Hid (Fm w [(w.heap.size, kl a, 52), (w.heap.size + 1, kl b, 52)] ((w.alloc (.cells (kl a) 52)).alloc (.cells (kl b) 52))) := Fm.two w _ _ _ _
  have hcl : Hid (∀ y, Fm w [(w.heap.size, kl a, 52), (w.heap.size + 1, kl b, 52)] y → y.cell? ⟨w.heap.size, 0, none⟩ = some (.string a.n) ∧ y.cell? ⟨w.heap.size, 1, none⟩ = some (.int .i64 a.a) ∧ y.cell? ⟨w.heap.size + 1, 0, none⟩ = some (.string b.n) ∧ y.cell? ⟨w.heap.size + 1, 1, none⟩ = some (.int .i64 b.a)) := fun y hy => ⟨(hy.bx 0 _ _ _ rfl).c 0 (.string a.n) rfl, (hy.bx 0 _ _ _ rfl).c 1 (.int .i64 a.a) rfl, (hy.bx 1 _ _ _ rfl).c 0 (.string b.n) rfl, (hy.bx 1 _ _ _ rfl).c 1 (.int .i64 b.a) rfl⟩
  have hI := fun v => cmpI_any a.a b.a v
  have hS := fun v => cmpS_any a.n b.n v
  have hO : Hid (∀ v g, v.cell? ⟨g, 0, none⟩ = some (.int .i64 (cmpI a.a b.a)) → v.cell? ⟨g, 1, none⟩ = some (.int .i64 (cmpS a.n b.n)) → Calls Tryd.prog 55 #[.slice (some ⟨g, 0, none⟩) 2 2] v fun e w' => e = .returned (.int .i64 (ordL a b)) ∧ w' = v) := fun v g h1 h2 => cmpOr_any _ _ g v h1 h2
  replace hI : Hid _ := hI
  replace hS : Hid _ := hS
  go_enter Tryd.func40, Tryd.ntmps40
  go_wp2
  refine region_class_tail 10 (Fm w [(w.heap.size, kl a, 52), (w.heap.size + 1, kl b, 52)]) (by kernel_rfl) (by kernel_rfl) (K1.out.below (below_drew (Below.refl _ _))) ?_
  simp only [List.take_succ_cons, List.take_zero, List.drop_succ_cons, List.drop_zero]
  with_reducible refine quiet_one (.pointer (some ⟨w.heap.size, 1, none⟩)) ?_ ?_ ?_
  · kernel_rfl
  · intro u hy
    go_simp
  with_reducible refine quiet_one (.int .i64 a.a) ?_ ?_ ?_
  · kernel_rfl
  · intro u hy
    have t := (hcl.out u hy).2.1
    go_simp
  with_reducible refine quiet_one (.pointer (some ⟨w.heap.size + 1, 1, none⟩)) ?_ ?_ ?_
  · kernel_rfl
  · intro u hy
    go_simp
  with_reducible refine quiet_one (.int .i64 b.a) ?_ ?_ ?_
  · kernel_rfl
  · intro u hy
    have t := (hcl.out u hy).2.2.2
    go_simp
  with_reducible refine quiet_one (.int .i64 (cmpI a.a b.a)) ?_ ?_ ?_
  · kernel_rfl
  · intro u hy
    have d := calls_same (C := Fm w [(w.heap.size, kl a, 52), (w.heap.size + 1, kl b, 52)]) (hI.out u) hy
    go_simp
    all_goals exact d
  with_reducible refine quiet_one (.pointer (some ⟨w.heap.size, 0, none⟩)) ?_ ?_ ?_
  · kernel_rfl
  · intro u hy
    go_simp
  with_reducible refine quiet_one (.string a.n) ?_ ?_ ?_
  · kernel_rfl
  · intro u hy
    have t := (hcl.out u hy).1
    go_simp
  with_reducible refine quiet_one (.pointer (some ⟨w.heap.size + 1, 0, none⟩)) ?_ ?_ ?_
  · kernel_rfl
  · intro u hy
    go_simp
  with_reducible refine quiet_one (.string b.n) ?_ ?_ ?_
  · kernel_rfl
  · intro u hy
    have t := (hcl.out u hy).2.2.1
    go_simp
  with_reducible refine quiet_one (.int .i64 (cmpS a.n b.n)) ?_ ?_ ?_
  · kernel_rfl
  · intro u hy
    have d := calls_same (C := Fm w [(w.heap.size, kl a, 52), (w.heap.size + 1, kl b, 52)]) (hS.out u) hy
    go_simp
    all_goals exact d
  refine wpQuiet_nil ?_
  intro z0 Z0
  replace Z0 : Hid _ := Z0
  go_simp
  have F3 : Hid (Fm w [(w.heap.size, kl a, 52), (w.heap.size + 1, kl b, 52), (z0.heap.size, #[.int .i64 (cmpI a.a b.a), .int .i64 (cmpS a.n b.n)], 3)] (z0.alloc (.cells #[.int .i64 (cmpI a.a b.a), .int .i64 (cmpS a.n b.n)] 3))) := Z0.out.new _ _
  go_wp2_with (go_at_call 55; refine (hO.out _ z0.heap.size ((F3.out.bx 2 _ _ _ rfl).c 0 _ rfl) ((F3.out.bx 2 _ _ _ rfl).c 1 _ rfl)).mono ?_; rintro e y ⟨rfl, rfl⟩)
  go_ret
  exact ⟨rfl, F3.out.low⟩
end Go.Proofs.YthbdpceobnkflaaDoor
