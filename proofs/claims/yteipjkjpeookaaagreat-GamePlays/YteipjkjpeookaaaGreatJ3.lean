/- Each place of so many rows, handed to whatever function. Rows of values of any kind: an append of several. Rows of values of any kind: a copy onto a row of one's own; rows lent with a mark behind them. Rows laid on a page: what is done with each dot, and the whole. -/
import Derived.Test.YteipjkjpeookaaaGreatJ2
import Derived.Shelf.Abstract
namespace Go.Proofs.YteipjkjpeookaaaGreat
open Go Go.RowKit Go.Shelf
set_option linter.unusedVariables false
set_option maxHeartbeats 1000000
set_option maxRecDepth 20000

theorem each_any (W0 : World) (wide high : Nat) (hw : wide ≤ 64) (hh : high ≤ 32) (cb : Nat) (lb : Array Value) (ecb : ∀ args w, (callFunc cb args).run Tryz.prog w = .ok (.enter cb args) w)
    (I : Nat → World → Prop) (hcb : Hid (∀ (i j : Nat) (W : World), i < wide → j < high → I (wide * j + i) W → Calls Tryz.prog cb (#[.int .i64 (i : Int), .int .i64 (j : Int)] ++ lb) W fun e W' => e = .returned (.tuple #[]) ∧ I (wide * j + i + 1) W'))
    (h0 : Hid (I 0 W0)) :
    Calls Tryz.prog 99 #[.int .i64 (wide : Int), .int .i64 (high : Int), .func (.func cb) #[] lb] W0 fun e W' => e = .returned (.tuple #[]) ∧ Hid (I (wide * high) W') := by
  have hwi : (wide : Int) ≤ 64 := by omega
  have hhi : (high : Int) ≤ 32 := by omega
  have hw' : Hid (wide ≤ 64) := hw
  have hh' : Hid (high ≤ 32) := hh
  clear hw hh
  go_enter Tryz.func99, Tryz.ntmps99
  go_wp2
  go_loopw [9] (fun t wz => ∃ (j : Nat) (y : World), y = wz ∧ t = .int .i64 (j : Int) ∧ j ≤ high ∧ Hid (I (wide * j) y)) (fun t _ => (high - intOf t).toNat)
  case atStart => exact ⟨0, W0, rfl, rfl, Nat.zero_le _, h0⟩
  case round =>
    obtain ⟨j, y, rfl, rfl, hj, K⟩ := hrel
    by_cases hlt : j < high
    · have hji : (j : Int) < high := by omega
      have hlt' : Hid (j < high) := hlt
      clear hj hlt
      go_wp2
      go_loopw [13] (fun t wz => ∃ (i : Nat) (z : World), z = wz ∧ t = .int .i64 (i : Int) ∧ i ≤ wide ∧ Hid (I (wide * j + i) z)) (fun t _ => (wide - intOf t).toNat)
      case atStart => exact ⟨0, y, rfl, rfl, Nat.zero_le _, K⟩
      case round =>
        obtain ⟨i, z, rfl, rfl, hi, L⟩ := hrel
        by_cases hit : i < wide
        · have hii : (i : Int) < wide := by omega
          have hcall := hcb.out i j z hit hlt'.out L.out
          have hit' : Hid (i < wide) := hit
          clear hi hit
          go_wp2_with (go_at_fn cb; refine hcall.mono ?_; rintro e z2 ⟨rfl, L2⟩)
          go_roundw
          case rel => exact ⟨i + 1, z2, rfl, by simp, hit'.out, L2⟩
          case measure => have := hit'.out; simp [intOf]; omega
        · have hie : i = wide := by omega
          subst hie
          clear hi hit
          go_wp2
          go_roundw
          case rel => exact ⟨j + 1, z, rfl, by simp, hlt'.out, by rw [Nat.mul_succ]; exact L⟩
          case measure => have := hlt'.out; simp [intOf]; omega
    · have hje : j = high := by omega
      subst hje
      clear hj hlt
      go_wp2
      go_end0
      exact ⟨rfl, K⟩
end Go.Proofs.YteipjkjpeookaaaGreat

namespace Go.Proofs.YteipjkjpeookaaaGreat
open Go Go.RowKit
set_option linter.unusedVariables false
set_option maxHeartbeats 400000
set_option maxRecDepth 20000

section
variable {α : Type} {T t : TypeId} {s bts : Nat} {c : α → List Value}
/-- What an append of several values leaves. -/
structure AppNL (t : TypeId) (s : Nat) (c : α → List Value) (B : Nat) (v : Value) (l us : List α) (v' : Value) (w w' : World) : Prop where
  own : OwnL t s c B w' v' (l ++ us)
  new : ∀ g, v'.ownBlock = some g → v.ownBlock = some g ∨ w.heap.size ≤ g
  cu : CuL B (fun g j => v.ownBlock = some g ∧ l.length * s ≤ j) w w'
theorem AppNL.grew {B : Nat} {v : Value} {l us : List α} {v' : Value} {w w' : World} (hB : B ≤ w.heap.size) (h1 : w'.ownsRow w.heap.size t s v' (l.length + us.length) (rowL c l ++ rowL c us)) (h2 : w.grownBy w' none) : AppNL t s c B v l us v' w w' := by
  have ho : OwnL t s c w.heap.size w' v' (l ++ us) := by
    unfold OwnL
    rw [rowL_app, List.length_append]
    exact h1
  exact ⟨ho.weak hB, fun g hg => .inr (ho.lt g hg).1, CuL.of_below ⟨h2.os, h2.tape, h2.output, h2.size, fun k hk => h2.block k hk (by simp)⟩ hB⟩
/-- The cells of a row that lies. -/
theorem LiesL.cells (hc : ∀ x, (c x).length = s) (hs : 0 < s) {x : World} {g o : Nat} {l : List α} (h : LiesL s c x (some ⟨g, o, none⟩) l) (j : Nat) (u : Value) (hj : (rowL c l)[j]? = some u) : x.cell? ⟨g, o + j, none⟩ = some u := by
  have hlt : j < l.length * s := by
    have := (List.getElem?_eq_some_iff.1 hj).1
    rwa [rowL_len hc] at this
  have hd : j / s < l.length := (Nat.div_lt_iff_lt_mul hs).2 hlt
  have hm : j % s < s := Nat.mod_lt _ hs
  have e : j / s * s + j % s = j := by rw [Nat.mul_comm]; exact Nat.div_add_mod j s
  have ha : l[j / s]? = some l[j / s] := List.getElem?_eq_getElem hd
  obtain ⟨gb, ob, e1, k⟩ := h _ _ ha
  cases e1
  have := k (j % s) u (by rw [← rowL_at hc l (j / s) (j % s) _ ha hm, e]; exact hj)
  rwa [Nat.add_assoc, e] at this
theorem at_appNL (K : KdL T t s bts c) {ops : Array Oper} {rest : List Oper} {o : Oper} {a : Act} {w : World} {Q : Exit → Act → World → Prop} (hgd : o.guard = none) (sl x : Operand)
    (ho : o.op = .call { callee := .builtin .append, args := #[sl, x], argTypes := #[T, T] }) (B : Nat) (v : Value) (l : List α) (hs : a.eval sl = v) (hown : OwnL t s c B w v l)
    (g0 o0 m cm : Nat) (us : List α) (hm : us.length = m) (hx : a.eval x = .slice (some ⟨g0, o0, none⟩) m cm) (hu : LiesL s c w (some ⟨g0, o0, none⟩) us) (hm0 : 0 < m) (hn : l.length + m ≤ 100000000000) (hB : B ≤ w.heap.size)
    (k : ∀ v' w', Hid (AppNL t s c B v l us v' w w') → wpList Tryz.prog ops Q rest (a.put o.dst v') w') : wpList Tryz.prog ops Q (o :: rest) a w := by
  subst hm
  obtain ⟨i, z, hi, hz0, hz1, hz2, hz3⟩ := K.i
  have hc : ∀ j u', (rowL c us)[j]? = some u' → w.cell? ((⟨g0, o0, none⟩ : Addr).add j) = some u' := fun j u' h => by
    rw [Addr.add_lit]
    exact hu.cells K.len K.s0 j u' h
  have hnews : ∀ y ∈ rowL c us, y.oneCell' = true := rowL_cell K.one us
  have b1 : l.length + us.length ≤ maxLen := by unfold maxLen; omega
  have b2 : (l.length + us.length) * bts ≤ 140737488355328 := Nat.le_trans (Nat.mul_le_mul hn K.b0) (by decide)
  have hul : (rowL c us).length = us.length * s := rowL_len K.len us
  have hown' := hown
  obtain ⟨hl, hor⟩ := hown
  have hlen := rowL_len K.len l
  rcases hor with ⟨rfl, hn0⟩ | ⟨g, cap, cur, rfl, hbg, hg, hnc, hcm, hcs, htake⟩
  · have hl0 : l = [] := List.eq_nil_of_length_eq_zero hn0
    subst hl0
    refine wpList_append_grows w hgd sl x T ho t i z s bts K.u hi hz0 hz1 hz2 hz3 K.s0 none 0 0 [] hs (fun _ => ⟨rfl, rfl⟩) (by simp) (fun b hb => by cases hb) ⟨g0, o0, none⟩ us.length cm (rowL c us) hx hul hc hnews (by omega) b1 b2 ?_
    intro v' w' r1 r2
    exact k v' w' (AppNL.grew hB r1 r2)
  · by_cases hr : l.length + us.length ≤ cap
    · have hfit : l.length * s + us.length * s ≤ cur.size := by
        rw [hcs, ← Nat.add_mul]
        exact Nat.mul_le_mul_right s hr
      refine wpList_append_arg w hgd sl x T ho t i z s bts K.u hi hz0 hz1 hz2 hz3 K.s0 g 0 l.length cap (rowL c l) hs hl ?_ ⟨g0, o0, none⟩ us.length cm (rowL c us) hx hul hc hnews ?_ b1 b2 ?_ (fun h => absurd hr (by omega))
      · intro j u' hj
        have := World.ownsRow.cells (g := g) hown' rfl j u' hj
        rwa [Addr.add_lit] at this
      · intro _ j hj
        rw [hul] at hj
        refine ⟨?_, frozen_heap hg _⟩
        rw [cell_heap hg, Array.getElem?_eq_getElem (by omega)]
        rfl
      · intro _
        refine k _ _ ?_
        have e0 : 0 + l.length * s = l.length * s := by omega
        rw [e0]
        refine ⟨⟨by rw [rowL_len K.len], .inr ⟨g, cap, _, by rw [List.length_append], hbg, heapL_setCells g _ _ _ w cur hg (by rw [hul]; omega), by rw [List.length_append]; exact hr, hcm, ?_, ?_⟩⟩, fun g' h => .inl h, ?_⟩
        · have := length_splice cur.toList (l.length * s) (rowL c us) (by rw [hul, Array.length_toList]; omega)
          rw [List.size_toArray, this, Array.length_toList, hcs]
        · rw [rowL_app, List.length_append]
          unfold splice
          rw [← List.append_assoc, htake, List.take_append_of_le_length (by rw [List.length_append, hlen, hul, Nat.add_mul]; omega)]
          exact List.take_of_length_le (by rw [List.length_append, hlen, hul, Nat.add_mul]; omega)
        · exact (setCellsL_cu B g _ hbg _ w).mono fun g' j _ hF => ⟨by rw [hF.1]; rfl, hF.2.1⟩
    · have hcells := World.ownsRow.cells (g := g) hown' rfl
      refine wpList_append_grows w hgd sl x T ho t i z s bts K.u hi hz0 hz1 hz2 hz3 K.s0 (some ⟨g, 0, none⟩) l.length cap (rowL c l) hs (fun h => by cases h) hl (fun b hb => by cases hb; exact hcells) ⟨g0, o0, none⟩ us.length cm (rowL c us) hx hul hc hnews (by omega) b1 b2 ?_
      intro v' w' r1 r2
      exact k v' w' (AppNL.grew hB r1 r2)
end
end Go.Proofs.YteipjkjpeookaaaGreat

namespace Go.Proofs.YteipjkjpeookaaaGreat
open Go Go.RowKit
set_option linter.unusedVariables false
set_option maxHeartbeats 400000
set_option maxRecDepth 20000

section
variable {α : Type} {T t : TypeId} {s bts : Nat} {c : α → List Value}
theorem run_copyL0 (K : KdL T t s bts c) (w : World) (ty : TypeId) (d a : Option Addr) (dLen dCap sCap : Nat) :
    (Builtin.copy_ #[T, T] ty #[.slice d dLen dCap, .slice a 0 sCap]).run Tryz.prog w = .ok (goInt 0) w := by
  obtain ⟨i, z, hi, hz0, hz1, hz2, hz3⟩ := K.i
  have hl : ∀ (x : Addr), (loadCells x 0).run Tryz.prog w = .ok #[] w := fun x => by simpa using run_loadCells_list (P := Tryz.prog) w x [] (by simp)
  cases d <;> cases a <;> simp [Builtin.copy_, run_underlying K.u, Builtin.lenOf, Builtin.firstCells, sizeOf, typeInfo, hi, storeCells, hl]
theorem run_copyL (K : KdL T t s bts c) (w : World) (ty : TypeId) (g dLen dCap : Nat) (ad : Addr) (sLen sCap : Nat) (cur : Array Value) (cs : List Value)
    (hg : w.heap[g]? = some (.cells cur t (0, 0))) (hn : cs.length = sLen * s) (hle : sLen ≤ dLen)
    (hsrc : ∀ j v, cs[j]? = some v → w.cell? (ad.add j) = some v) (hfit : cs.length ≤ cur.size) (h1 : ∀ v ∈ cs, v.oneCell' = true) :
    (Builtin.copy_ #[T, T] ty #[.slice (some ⟨g, 0, none⟩) dLen dCap, .slice (some ad) sLen sCap]).run Tryz.prog w = .ok (goInt sLen) (w.setRow g (splice cur.toList 0 cs).toArray) := by
  obtain ⟨i, z, hi, hz0, hz1, hz2, hz3⟩ := K.i
  have hl := run_loadCells_list (P := Tryz.prog) w ad cs hsrc
  have hst := run_storeCells_at Tryz.prog g 0 t cs 0 cur w hg (by simpa using hfit) h1
  rw [hn] at hl
  have hm : Nat.min sLen dLen = sLen := Nat.min_eq_left hle
  simp [Builtin.copy_, run_underlying K.u, Builtin.lenOf, Builtin.firstCells, sizeOf, typeInfo, hi, hz1, hm, hl, hst, splice]
theorem at_copyL (K : KdL T t s bts c) {ops : Array Oper} {rest : List Oper} {o : Oper} {a : Act} {w : World} {Q : Exit → Act → World → Prop} (hgd : o.guard = none) (d e : Operand)
    (ho : o.op = .call { callee := .builtin .copy, args := #[d, e], argTypes := #[T, T] })
    (g dLen dCap : Nat) (sp : Option Addr) (sLen sCap : Nat) (hd : a.eval d = .slice (some ⟨g, 0, none⟩) dLen dCap) (hs : a.eval e = .slice sp sLen sCap)
    (cur : Array Value) (hg : w.heap[g]? = some (.cells cur t (0, 0))) (l : List α) (hlen : l.length = sLen) (hle : sLen ≤ dLen) (hl : LiesL s c w sp l) (hfit : sLen * s ≤ cur.size)
    (B : Nat) (hBg : B ≤ g) (h : ∀ w', Hid (w'.heap[g]? = some (.cells (splice cur.toList 0 (rowL c l)).toArray t (0, 0)) ∧ Below B w w') → wpList Tryz.prog ops Q rest (a.put o.dst (goInt sLen)) w') : wpList Tryz.prog ops Q (o :: rest) a w := by
  refine wpList_plain hgd fun K' hK => ?_
  by_cases h0 : sLen = 0
  · subst h0
    have hl0 : l = [] := List.eq_nil_of_length_eq_zero hlen
    subst hl0
    have hrun := run_copyL0 K w o.type (some ⟨g, 0, none⟩) sp dLen dCap sCap
    unfold Oper.wp
    simp [execOp, ho, resolve, invoke, builtin, hd, hs, hrun, Result.andThen]
    refine hK _ _ (h w ⟨?_, Below.refl _ _⟩)
    have e : splice cur.toList 0 (rowL c []) = cur.toList := by simp [splice, rowL]
    rw [e]
    exact hg
  · obtain ⟨gb, ob, rfl, _⟩ := hl 0 _ (List.getElem?_eq_getElem (by omega))
    have hsrc : ∀ j v, (rowL c l)[j]? = some v → w.cell? ((⟨gb, ob, none⟩ : Addr).add j) = some v := fun j v hv => by
      rw [Addr.add_lit]
      exact LiesL.cells K.len K.s0 hl j v hv
    have hrun := run_copyL K w o.type g dLen dCap ⟨gb, ob, none⟩ sLen sCap cur (rowL c l) hg (by rw [rowL_len K.len, hlen]) hle hsrc (by rw [rowL_len K.len, hlen]; exact hfit) (rowL_cell K.one l)
    unfold Oper.wp
    simp [execOp, ho, resolve, invoke, builtin, hd, hs, hrun, Result.andThen]
    exact hK _ _ (h _ ⟨setRow_heap w g cur _ _ _ hg, below_setRow (Below.refl _ _) hBg _⟩)
end
theorem one_bxL (z : World) (cs : Array Value) (t : TypeId) : Bx (z.alloc (.cells cs t)) z.heap.size cs t := alloc_last' z _
/-- Rows that were just made lie. -/
theorem lies_new {α : Type} {c : α → List Value} {s : Nat} (hc : ∀ x, (c x).length = s) (w : World) (t : TypeId) (us : List α) : LiesL s c (w.alloc (.cells (rowL c us).toArray t)) (some ⟨w.heap.size, 0, none⟩) us := fun j a hj => by
  refine ⟨w.heap.size, 0, rfl, fun i v hv => ?_⟩
  have hi : i < s := by have := (List.getElem?_eq_some_iff.1 hv).1; rw [hc] at this; exact this
  have := (one_bxL w (rowL c us).toArray t).c (j * s + i) v (by simpa using (by rw [rowL_at hc us j i a hj hi]; exact hv : (rowL c us)[j * s + i]? = some v))
  rw [Nat.zero_add]
  exact this
end Go.Proofs.YteipjkjpeookaaaGreat

namespace Go.Proofs.YteipjkjpeookaaaGreat
open Go Go.RowKit Go.Shelf
set_option linter.unusedVariables false
set_option maxHeartbeats 1000000
set_option maxRecDepth 20000

/-- What stands while rows are laid on a page. -/
def DwF (w : World) (bR D bD bL bT bG : Nat) (sv : Value) (L T : Nat) (s : List UInt8 × Bool) (y : World) : Prop :=
  Fm w [(bR, #[sv], 25), (D, rowB s.1, 5), (bD, #[.slice (some ⟨D, 0, none⟩) 256 256], 25), (bL, #[.int .i64 (L : Int)], 3), (bT, #[.int .i64 (T : Int)], 3), (bG, #[.bool s.2], 4)] y
theorem fm_drew {w : World} {l : List (Nat × Array Value × TypeId)} {y : World} (h : Fm w l y) {n : Nat} : Fm w l (y.drewN n) := h.below (below_drewN (Below.refl _ _))
theorem plc_at (x y : Nat) (rows : List UInt8) (i j : Nat) (hi : i < 8) : plc x y rows (8 * j + i) = if rows.getD j 0 &&& mk i = 0 ∨ 64 ≤ x % 64 + i ∨ 32 ≤ y % 32 + j then none else some (64 * (y % 32 + j) + (x % 64 + i)) := by
  unfold plc
  rw [show (8 * j + i) / 8 = j by omega, show (8 * j + i) % 8 = i by omega]
theorem draw1_any (w y : World) (bR D bD bL bT bG cap x yy i j : Nat) (spR : Option Addr) (rows p : List UInt8) (hp : p.length = 256) (hr : rows.length ≤ 15) (hi : i < 8) (hj : j < rows.length) (hl : Hid (LB w spR rows))
    (K : Hid (DwF w bR D bD bL bT bG (.slice spR rows.length cap) (x % 64) (yy % 32) (drawS x yy rows p (8 * j + i)) y)) :
    Calls Tryz.prog 100 #[.int .i64 (i : Int), .int .i64 (j : Int), .pointer (some ⟨bR, 0, none⟩), .pointer (some ⟨bL, 0, none⟩), .pointer (some ⟨bT, 0, none⟩), .pointer (some ⟨bG, 0, none⟩), .pointer (some ⟨bD, 0, none⟩)] y fun e y' => e = .returned (.tuple #[]) ∧ DwF w bR D bD bL bT bG (.slice spR rows.length cap) (x % 64) (yy % 32) (drawS x yy rows p (8 * j + i + 1)) y' := by
  obtain ⟨gr, ro, rfl⟩ := lb_some hl.out (by omega)
  have hlen : (drawS x yy rows p (8 * j + i)).1.length = 256 := by rw [draw_len, hp]
  have hstep : drawS x yy rows p (8 * j + i + 1) = stepD x yy rows (drawS x yy rows p (8 * j + i)) (8 * j + i) := rfl
  rw [hstep]
  unfold stepD
  rw [plc_at x yy rows i j hi]
  obtain ⟨⟨q, g⟩, hs⟩ : ∃ s, drawS x yy rows p (8 * j + i) = s := ⟨_, rfl⟩
  rw [hs] at K hlen ⊢
  dsimp only at hlen
  have cA := lb_at (hl.out.below K.out.low) j hj
  obtain ⟨A, hA⟩ : ∃ A, rows.getD j 0 = A := ⟨_, rfl⟩
  rw [hA] at cA ⊢
  obtain ⟨M, hM⟩ : ∃ M, mk i = M := ⟨_, rfl⟩
  have hbit := fun w => bit_any w i hi
  rw [hM] at hbit ⊢
  have cR := (K.out.bx 0 _ _ _ rfl).c 0 (.slice (some ⟨gr, ro, none⟩) rows.length cap) rfl
  have cD := (K.out.bx 2 _ _ _ rfl).c 0 (.slice (some ⟨D, 0, none⟩) 256 256) rfl
  have cL := (K.out.bx 3 _ _ _ rfl).c 0 (.int .i64 ((x % 64 : Nat) : Int)) rfl
  have cT := (K.out.bx 4 _ _ _ rfl).c 0 (.int .i64 ((yy % 32 : Nat) : Int)) rfl
  have cG := (K.out.bx 5 _ _ _ rfl).c 0 (.bool g) rfl
  obtain ⟨n, hn⟩ : ∃ n, rows.length = n := ⟨_, rfl⟩
  rw [hn] at cR K ⊢
  have hjn : j < n := by omega
  have hjb : (j : Int) < 15 := by omega
  have hib : (i : Int) < 8 := by omega
  have ix := fun v => idxB .i64 gr ro n cap j v hjn
  have qa := and8 A M
  obtain ⟨z, hz⟩ : ∃ z, (A &&& M).toNat = z := ⟨_, rfl⟩
  obtain ⟨a, ha⟩ : ∃ a, A.toNat = a := ⟨_, rfl⟩
  obtain ⟨m, hm⟩ : ∃ m, M.toNat = m := ⟨_, rfl⟩
  rw [hz, ha, hm] at qa
  rw [ha] at cA
  rw [hm] at hbit
  obtain ⟨X, hX⟩ : ∃ X, x % 64 = X := ⟨_, rfl⟩
  obtain ⟨Y, hY⟩ : ∃ Y, yy % 32 = Y := ⟨_, rfl⟩
  have hXb : (X : Int) < 64 := by omega
  have hYb : (Y : Int) < 32 := by omega
  rw [hX, hY] at K ⊢
  rw [hX] at cL
  rw [hY] at cT
  clear hX hY hn hM hA hs hstep hl hp hr hj
  by_cases h1 : A &&& M = 0
  · rw [if_pos (.inl h1)]
    have q0 : ((z : Int) == 0) = true := by rw [← hz, zero8, h1]; rfl
    clear h1 hz ha hm
    go_enter Tryz.func100, Tryz.ntmps100
    go_wp2
    go_quiet ((go_at_call 101; exact Calls.quiet_of_same (hbit _)))
    go_wp2
    refine bodyPost_ret (results_none rfl _ _ _) rfl ?_
    exact ⟨rfl, fm_drew K.out⟩
  have q0 : ((z : Int) == 0) = false := by rw [← hz, zero8]; simpa using h1
  clear hz ha hm
  by_cases h2 : 64 ≤ X + i
  · rw [if_pos (.inr (.inl h2))]
    have q1 : decide ((64 : Int) ≤ (X : Int) + (i : Int)) = true := by simp; omega
    clear h1
    go_enter Tryz.func100, Tryz.ntmps100
    go_wp2
    go_quiet ((go_at_call 101; exact Calls.quiet_of_same (hbit _)))
    go_wp2
    refine bodyPost_ret (results_none rfl _ _ _) rfl ?_
    exact ⟨rfl, fm_drew K.out⟩
  have q1 : decide ((64 : Int) ≤ (X : Int) + (i : Int)) = false := by simp; omega
  by_cases h3 : 32 ≤ Y + j
  · rw [if_pos (.inr (.inr h3))]
    have q2 : decide ((32 : Int) ≤ (Y : Int) + (j : Int)) = true := by simp; omega
    clear h1
    go_enter Tryz.func100, Tryz.ntmps100
    go_wp2
    go_quiet ((go_at_call 101; exact Calls.quiet_of_same (hbit _)))
    go_wp2
    refine bodyPost_ret (results_none rfl _ _ _) rfl ?_
    exact ⟨rfl, fm_drew K.out⟩
  have q2 : decide ((32 : Int) ≤ (Y : Int) + (j : Int)) = false := by simp; omega
  rw [if_neg (by rintro (h | h | h); exact h1 h; omega; omega)]
  obtain ⟨N, hN⟩ : ∃ N, 64 * (Y + j) + (X + i) = N := ⟨_, rfl⟩
  have hdot : ∀ w, Calls Tryz.prog 102 #[.int .i64 ((X : Int) + (i : Int)), .int .i64 ((Y : Int) + (j : Int))] w fun e w' => e = .returned (.tuple #[.int .i64 ((N / 8 : Nat) : Int), .int .u8 ((mk (N % 8)).toNat : Int)]) ∧ w' = w := fun w => by
    have := dot_any w (X + i) (Y + j) (by omega) (by omega)
    rw [hN] at this
    exact this
  obtain ⟨at8, h8⟩ : ∃ a, N / 8 = a := ⟨_, rfl⟩
  obtain ⟨k8, hk8⟩ : ∃ a, N % 8 = a := ⟨_, rfl⟩
  have hat : at8 < 256 := by omega
  have hati : (at8 : Int) < 256 := by omega
  have cP : ∀ z : World, Bx z D (rowB q) 5 → z.cell? ⟨D, at8, none⟩ = some (.int .u8 ((q.getD at8 0).toNat : Int)) := fun z hz => hz.c at8 _ (rowB_get q at8 (by omega))
  have e2 : (flipP q N, g || bitP q N) = (q.set at8 (q.getD at8 0 ^^^ mk k8), g || (q.getD at8 0 &&& mk k8 != 0)) := by unfold flipP bitP; rw [h8, hk8]
  have iy := fun v => idxB .i64 D 0 256 256 at8 v hat
  rw [Nat.zero_add] at iy
  rw [h8, hk8] at hdot
  dsimp only
  rw [hN, e2]
  have cP0 := cP y (K.out.bx 1 _ _ _ rfl)
  obtain ⟨O, hO⟩ : ∃ O, q.getD at8 0 = O := ⟨_, rfl⟩
  obtain ⟨Mk, hMk⟩ : ∃ M, mk k8 = M := ⟨_, rfl⟩
  rw [hO, hMk]
  rw [hO] at cP0
  rw [hMk] at hdot
  have qo := and8 O Mk
  have qx := xor8 O Mk
  have fG := (K.out.bx 5 _ _ _ rfl).fz 0
  obtain ⟨c, hc⟩ : ∃ c, (O &&& Mk != 0) = c := ⟨_, rfl⟩
  have qc : (((O &&& Mk).toNat : Int) != 0) = c := by rw [nzero8]; exact hc
  rw [hc]
  have K3 : Hid (∀ v b, DwF w bR D bD bL bT bG (.slice (some ⟨gr, ro, none⟩) n cap) X Y (q, b) v → DwF w bR D bD bL bT bG (.slice (some ⟨gr, ro, none⟩) n cap) X Y (q.set at8 (O ^^^ Mk), b) (v.setCell ⟨D, at8, none⟩ (.int .u8 ((O ^^^ Mk).toNat : Int)))) := fun v b hv =>
    Fm.setCell hv 1 D (rowB q) (rowB (q.set at8 (O ^^^ Mk))) 5 rfl at8 _ (rowB_set q at8 (O ^^^ Mk))
  obtain ⟨P2, hP2⟩ : ∃ P2, q.set at8 (O ^^^ Mk) = P2 := ⟨_, rfl⟩
  rw [hP2] at K3 ⊢
  obtain ⟨u, hu⟩ : ∃ u, (O ^^^ Mk).toNat = u := ⟨_, rfl⟩
  obtain ⟨t, ht⟩ : ∃ t, (O &&& Mk).toNat = t := ⟨_, rfl⟩
  obtain ⟨o, ho⟩ : ∃ o, O.toNat = o := ⟨_, rfl⟩
  obtain ⟨mm, hmm⟩ : ∃ mm, Mk.toNat = mm := ⟨_, rfl⟩
  rw [hu] at K3 qx
  rw [ht] at qo qc
  rw [ho, hmm] at qx qo
  rw [ho] at cP0
  rw [hmm] at hdot
  have K2 : Hid (∀ v, DwF w bR D bD bL bT bG (.slice (some ⟨gr, ro, none⟩) n cap) X Y (q, g) v → DwF w bR D bD bL bT bG (.slice (some ⟨gr, ro, none⟩) n cap) X Y (q, g || c) (v.setCell ⟨bG, 0, none⟩ (.bool (g || c)))) := fun v hv => Fm.setCell hv 5 bG #[.bool g] #[.bool (g || c)] 4 rfl 0 _ rfl
  have cP1 : Hid (∀ v b, DwF w bR D bD bL bT bG (.slice (some ⟨gr, ro, none⟩) n cap) X Y (q, b) v → v.cell? ⟨bD, 0, none⟩ = some (.slice (some ⟨D, 0, none⟩) 256 256) ∧ v.cell? ⟨D, at8, none⟩ = some (.int .u8 (o : Int)) ∧ v.frozen? ⟨D, at8, none⟩ = false) := fun v b hv => ⟨(Fm.bx hv 2 _ _ _ rfl).c 0 _ rfl, by rw [cP v (Fm.bx hv 1 _ _ _ rfl), hO, ho], (Fm.bx hv 1 _ _ _ rfl).fz _⟩
  clear h1 h2 h3 hN h8 hk8 hO hMk hc hati hu ht ho hmm hP2 cP
  go_enter Tryz.func100, Tryz.ntmps100
  go_wp2
  go_quiet ((go_at_call 101; exact Calls.quiet_of_same (hbit _)))
  have K1 : Hid (DwF w bR D bD bL bT bG (.slice (some ⟨gr, ro, none⟩) n cap) X Y (q, g) (y.drewN nq)) := fm_drew K.out
  generalize y.drewN nq = y1 at K1 ⊢
  clear K cA cR cD cL cT cG cP0 fG
  have cD := (K1.out.bx 2 _ _ _ rfl).c 0 (.slice (some ⟨D, 0, none⟩) 256 256) rfl
  have cL := (K1.out.bx 3 _ _ _ rfl).c 0 (.int .i64 (X : Int)) rfl
  have cT := (K1.out.bx 4 _ _ _ rfl).c 0 (.int .i64 (Y : Int)) rfl
  have cG := (K1.out.bx 5 _ _ _ rfl).c 0 (.bool g) rfl
  have fG := (K1.out.bx 5 _ _ _ rfl).fz 0
  have cP0 := (cP1.out y1 _ K1.out).2.1
  cases g
  · rw [Bool.false_or] at K2
    go_wp2_with (first
      | ((with_reducible refine gen_world (y1.setCell ⟨bG, 0, none⟩ (.bool c)) (DwF w bR D bD bL bT bG (.slice (some ⟨gr, ro, none⟩) n cap) X Y (q, c)) ?_ ?_); exact K2.out y1 K1.out; intro y2 H2; have d1 := (cP1.out y2 _ H2.out).1; have d2 := (cP1.out y2 _ H2.out).2.1; have d3 := (cP1.out y2 _ H2.out).2.2)
      | (go_at_call 102; refine (hdot _).mono ?_; rintro e y1 ⟨rfl, rfl⟩))
    go_end0
    exact ⟨rfl, K3.out y2 _ H2.out⟩
  · rw [Bool.true_or] at K2
    go_wp2_with (first
      | ((with_reducible refine gen_world (y1.setCell ⟨bG, 0, none⟩ (.bool true)) (DwF w bR D bD bL bT bG (.slice (some ⟨gr, ro, none⟩) n cap) X Y (q, true)) ?_ ?_); exact K2.out y1 K1.out; intro y2 H2; have d1 := (cP1.out y2 _ H2.out).1; have d2 := (cP1.out y2 _ H2.out).2.1; have d3 := (cP1.out y2 _ H2.out).2.2)
      | (go_at_call 102; refine (hdot _).mono ?_; rintro e y1 ⟨rfl, rfl⟩))
    go_end0
    exact ⟨rfl, K3.out y2 _ H2.out⟩
/-- What Draw answers. -/
def drawA (p : List UInt8) (x y : Nat) (rows : List UInt8) : List UInt8 × Bool × Int :=
  if p.length = 256 ∧ rows.length ≤ 15 then ((drawS x y rows p (8 * rows.length)).1, (drawS x y rows p (8 * rows.length)).2, 0) else ([], false, 1)
end Go.Proofs.YteipjkjpeookaaaGreat
