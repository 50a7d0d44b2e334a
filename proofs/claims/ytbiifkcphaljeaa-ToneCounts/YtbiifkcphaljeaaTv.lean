/- What is done with a row of a trace, and the beeps of a trace: the program's. -/
import Derived.Test.YtbiifkcphaljeaaTo
import Derived.Deep.RegionHeld3
namespace Go.Proofs.Ytbiifkcphaljeaa
open Go Go.RowKit
set_option linter.unusedVariables false
set_option maxHeartbeats 1000000
set_option maxRecDepth 20000

/-- No block of the three kinds that a row's own functions hold. -/
def Oth3 (t : TypeId) : Prop := t ≠ 22 ∧ t ≠ 46 ∧ t ≠ 45
theorem Keep3.refl (n0 : Nat) (W : World) : Keep3 n0 W W := ⟨KeepsOthers.refl W, Below.refl _ _, fun _ _ _ h _ => h⟩
theorem Keep3.trans {n0 : Nat} {A B C : World} (h : Keep3 n0 A B) (k : Keep3 n0 B C) : Keep3 n0 A C := ⟨h.oth.trans k.oth, h.low.trans k.low, fun b cs t hb ht => k.ty b cs t (h.ty b cs t hb ht) ht⟩
theorem Keep3.below {n0 : Nat} {A B : World} (h : Below A.heap.size A B) (hn : n0 ≤ A.heap.size) : Keep3 n0 A B := ⟨⟨h.size, fun k o hk _ => (h.block k (heap_lt hk)).trans hk⟩, h.mono hn, fun b cs t hb _ => (h.block b (heap_lt hb)).trans hb⟩
theorem Keep3.alloc {n0 : Nat} (W : World) (o : Obj) (hn : n0 ≤ W.heap.size) : Keep3 n0 W (W.alloc o) := Keep3.below (below1 W o) hn
theorem Keep3.one {n0 : Nat} {W W' : World} {g : Option Nat} (hs : W.heap.size ≤ W'.heap.size) (hl : Below n0 W W') (hk : ∀ q, q < W.heap.size → some q ≠ g → W'.heap[q]? = W.heap[q]?) (hg : ∀ q, g = some q → ∃ cs t, Bx W q cs t ∧ Oth3 t) : Keep3 n0 W W' := by
  refine ⟨⟨hs, fun k o hk' ho => ?_⟩, hl, fun b cs t hb ht => ?_⟩
  · refine (hk k (heap_lt hk') fun e => ?_).trans hk'
    obtain ⟨cs, t, h1, _⟩ := hg k e.symm
    rw [show W.heap[k]? = _ from h1] at hk'
    cases hk'
    cases ho
  · refine (hk b (heap_lt hb) fun e => ?_).trans hb
    obtain ⟨cs', t', h1, h2⟩ := hg b e.symm
    have : t = t' := by
      by_cases h : t = t'
      · exact h
      · exact absurd rfl (hb.unlike h1 h)
    subst this
    rcases ht with h | h | h
    · exact h2.1 h
    · exact h2.2.1 h
    · exact h2.2.2 h
theorem Keep3.set {n0 : Nat} {W : World} {b : Nat} {v : Value} {t : TypeId} (h : Bx W b #[v] t) (ht : Oth3 t) (hn : n0 ≤ b) (u : Value) : Keep3 n0 W (W.setCell ⟨b, 0, none⟩ u) := by
  refine Keep3.one (g := some b) (grownBy_setCell' W b u).size ((Below.refl n0 W).setCell (p := ⟨b, 0, none⟩) hn u) (fun q _ hq => heap_setCell_other W ⟨b, 0, none⟩ q u (fun e => hq (by rw [e]))) (fun q e => ?_)
  cases e
  exact ⟨_, _, h, ht⟩
section
variable {α : Type} {T t : TypeId} {s bts : Nat} {c : α → List Value}
theorem Keep3.grown {n0 : Nat} {W W' : World} {v : Value} {l : List α} (h : OwnL t s c n0 W v l) (ht : Oth3 t) (hn : n0 ≤ W.heap.size) (hg : W.grownBy W' v.ownBlock) : Keep3 n0 W W' :=
  Keep3.one hg.size ((Below.refl n0 W).grown hg hn (fun k e => (h.lt k e).1)) (fun q hq hne => hg.block q hq hne) (fun q e => by obtain ⟨cs, hb⟩ := h.ty q e; exact ⟨cs, t, hb, ht⟩)
theorem run_appL (K : KdL T t s bts c) (w : World) (B : Nat) (v : Value) (l : List α) (ty : TypeId) (hown : OwnL t s c B w v l) (g0 : Nat) (u : α) (hu : Bx w g0 (c u).toArray t) (hn : l.length ≤ 4000000000) (hB : B ≤ w.heap.size) :
    ∃ v' w', (Builtin.append_ #[T, T] ty #[v, .slice (some ⟨g0, 0, none⟩) 1 1]).run Try.prog w = .ok v' w' ∧ OwnL t s c B w' v' (l ++ [u]) ∧ w.grownBy w' v.ownBlock := by
  obtain ⟨i, z, hi, hz0, hz1, hz2, hz3⟩ := K.i
  have hc : ∀ j u', (c u)[j]? = some u' → w.cell? ((⟨g0, 0, none⟩ : Addr).add j) = some u' := fun j u' h => by
    rw [Addr.add_lit, Nat.zero_add]
    exact hu.c j u' (by simpa using h)
  obtain ⟨v', w', h1, h2, h3, -⟩ := run_append_own (P := Try.prog) w B T ty t i z s bts K.u hi hz0 hz1 hz2 hz3 K.s0 v l.length (rowL c l) hown ⟨g0, 0, none⟩ 1 1 (c u) (by rw [K.len, Nat.one_mul]) hc (K.one u) (by unfold maxLen; omega) (Nat.le_trans (Nat.mul_le_mul (show l.length + 1 ≤ 4000000001 by omega) K.b0) (by decide)) hB
  refine ⟨v', w', h1, ?_, h3⟩
  unfold OwnL
  rw [rowL_app, List.length_append, rowL_one]
  exact h2
/-- A list in a box of its own. -/
def Ho (T t : TypeId) (s : Nat) (c : α → List Value) (n0 bo : Nat) (l : List α) (W : World) : Prop := ∃ v, Bx W bo #[v] T ∧ OwnL t s c n0 W v l
theorem Ho.own (T t : TypeId) (s : Nat) (c : α → List Value) (n0 bo : Nat) (f : List Rk → List α) : Own (fun pre W => Ho T t s c n0 bo (f pre) W) := fun pre W W' row ⟨v, h1, h2⟩ hg hr => by
  obtain ⟨v', k1, k2, -⟩ := holdsRow_own (β := List Rk) n0 bo T t s (fun pre => (f pre).length) (fun pre => rowL c (f pre)) (fun _ _ => True) pre W W' row ⟨v, h1, h2, trivial⟩ hg hr
  exact ⟨v', k1, k2⟩
/-- Behind an append to it. -/
theorem Ho.put {n0 bo : Nat} {W2 : World} {v v' : Value} {l' : List α} (ho : OwnL t s c n0 W2 v' l') (hk : Bx W2 bo #[v] T) (hne : T ≠ t) : Ho T t s c n0 bo l' (W2.setCell ⟨bo, 0, none⟩ v') := by
  refine ⟨v', ?_, ho.keepB fun g e => ?_⟩
  · exact heap_setCell_same W2 bo 0 #[v] T v' hk
  · obtain ⟨cs, hg⟩ := ho.ty g e
    exact heap_setCell_other W2 ⟨bo, 0, none⟩ g v' (fun e' => hk.unlike hg hne e'.symm)
theorem OwnL.boxK {n0 bo : Nat} {W W2 : World} {v u : Value} {l : List α} (ho : OwnL t s c n0 W v l) (hk : Bx W bo #[u] T) (hne : T ≠ t) (hg : W.grownBy W2 v.ownBlock) : Bx W2 bo #[u] T := by
  refine (hg.block bo (heap_lt hk) fun e => ?_).trans hk
  obtain ⟨cs, h⟩ := ho.ty bo e.symm
  exact hk.unlike h hne rfl
theorem Keep3.app {n0 : Nat} {W y : World} {v v' : Value} {l : List α} {x : α} (ho : OwnL t s c n0 W v l) (ht : Oth3 t) (A : App1L t s c n0 v l x v' W y) : Keep3 n0 W y :=
  Keep3.one (g := v.ownBlock) A.cu.low.size A.cu.low (fun q hq hne => A.cu.blk q hq (fun j hF => hne hF.1.symm)) (fun q e => by obtain ⟨cs, hb⟩ := ho.ty q e; exact ⟨cs, t, hb, ht⟩)
theorem App1L.boxK {n0 bo : Nat} {W y : World} {v v' u : Value} {l : List α} {x : α} (A : App1L t s c n0 v l x v' W y) (ho : OwnL t s c n0 W v l) (hk : Bx W bo #[u] T) (hne : T ≠ t) : Bx y bo #[u] T := by
  refine (A.cu.blk bo (heap_lt hk) fun j hF => ?_).trans hk
  obtain ⟨cs, h⟩ := ho.ty bo hF.1
  exact hk.unlike h hne rfl
end
theorem span_any (w : World) (x : Rw) (hx : x.ok) :
    Calls Try.prog 22 #[.agg (rwC x)] w fun e w' => e = .returned (.int .i64 (x.b - x.a)) ∧ Hid (Below w.heap.size w w') := by
  obtain ⟨a, b, h⟩ := x
  obtain ⟨h0, h1, h2⟩ := hx
  dsimp only at h0 h1 h2
  dsimp only [rwC]
  have a2 : a ≤ 2147483647 := by omega
  have b0 : 0 ≤ b := by omega
  go_enter Try.func22, Try.ntmps22
  go_wp2
  go_ret
  exact ⟨rfl, (Below.refl _ _).alloc (Nat.le_refl _) _⟩
theorem beep1_any (W : World) (n0 bo : Nat) (x : Rw) (l : List (Int × Int)) (hW : n0 ≤ W.heap.size) (hbo : n0 ≤ bo) (hn : l.length ≤ 2147483647) (h : Hid (Ho 23 27 2 c2 n0 bo l W)) :
    Calls Try.prog 19 #[.agg (rwC x), .pointer (some ⟨bo, 0, none⟩)] W fun e W' => (∃ v, e = .returned v) ∧ Hid (Keep3 n0 W W' ∧ Ho 23 27 2 c2 n0 bo (bepS l x) W') := by
  obtain ⟨v, hv, ho⟩ := h.out
  obtain ⟨a, b, q⟩ := x
  obtain ⟨sp, cap, rfl, -⟩ := ho.open kBeep.len
  have hb2 : Hid (∀ x y, Try.prog.built 27 [(0, .int .i64 x), (1, .int .i64 y)] = some (c2 (x, y)).toArray) := builtBe
  have hF : Hid (Fm W [(W.heap.size, rwC ⟨a, b, q⟩, 45)] (W.alloc (.cells (rwC ⟨a, b, q⟩) 45))) := Fm.one W _ _
  have oth : Hid (Oth3 27 ∧ Oth3 23) := ⟨⟨by decide, by decide, by decide⟩, ⟨by decide, by decide, by decide⟩⟩
  have hv : Hid _ := hv
  have ho : Hid (OwnL 27 2 c2 n0 W (.slice sp l.length cap) l) := ho
  have hl : Hid (l.length ≤ 2147483647) := hn
  have hW' : Hid (n0 ≤ W.heap.size) := hW
  obtain ⟨n, hnl⟩ : ∃ n, l.length = n := ⟨_, rfl⟩
  rw [hnl] at hv ho
  clear h hn hnl hW
  dsimp only [rwC] at hF ⊢
  have hB1 : Hid (Below W.heap.size W (W.alloc (.cells #[.int .i64 a, .int .i64 b, .bool q] 45))) := hF.out.low
  have hv1 : Hid (Bx (W.alloc (.cells #[.int .i64 a, .int .i64 b, .bool q] 45)) bo #[.slice sp n cap] 23) := (hB1.out.block bo (heap_lt hv.out)).trans hv.out
  have c1 := hv1.out.c 0 (.slice sp n cap) rfl
  cases q
  · go_enter Try.func19, Try.ntmps19
    go_wp2
    go_end0
    exact ⟨⟨_, rfl⟩, ⟨Keep3.below hB1.out hW'.out, ⟨_, hv1.out, ho.out.below hB1.out⟩⟩⟩
  · go_enter Try.func19, Try.ntmps19
    go_wp2_with (first
      | ((with_reducible refine at_bu #[(0, .tmp 7), (1, .tmp 9)] [(0, .int .i64 a), (1, .int .i64 b)] (c2 (a, b)).toArray ?_ ?_ ?_ (hb2.out _ _) ?_); kernel_rfl; rfl; (simp only [List.map_toArray, List.map_cons, List.map_nil]; rfl))
      | ((with_reducible refine at_bsBe (a, b) (.tmp 10) ?_ ?_ ?_ ?_); rfl; rfl; rfl)
      | (at_builtin; refine at_appL kBeep rfl (.tmp 5) (.tmp 11) rfl n0 (.slice sp n cap) l rfl ((ho.out.below hB1.out).alloc _) (W.alloc (.cells #[.int .i64 a, .int .i64 b, .bool true] 45)).heap.size (a, b) rfl (one_bx _ _ _) ?_ ?_ ?_;  (have := hl.out; omega); (have := hW'.out; simp; omega); intro v' y2 A; refine stopAt ?_))
    have o1 : Hid (OwnL 27 2 c2 n0 ((W.alloc (.cells #[.int .i64 a, .int .i64 b, .bool true] 45)).alloc (.cells (c2 (a, b)).toArray 27)) (.slice sp n cap) l) := (ho.out.below hB1.out).alloc _
    have k1 : Hid (Keep3 n0 W ((W.alloc (.cells #[.int .i64 a, .int .i64 b, .bool true] 45)).alloc (.cells (c2 (a, b)).toArray 27))) := (Keep3.below hB1.out hW'.out).trans (Keep3.alloc _ _ (Nat.le_trans hW'.out hB1.out.size))
    have b1 : Hid (Bx ((W.alloc (.cells #[.int .i64 a, .int .i64 b, .bool true] 45)).alloc (.cells (c2 (a, b)).toArray 27)) bo #[.slice sp n cap] 23) := ((below1 _ _).block bo (heap_lt hv1.out)).trans hv1.out
    have k2 : Hid (Keep3 n0 W y2) := k1.out.trans (Keep3.app o1.out oth.out.1 A.out)
    have b2 : Hid (Bx y2 bo #[.slice sp n cap] 23) := A.out.boxK o1.out b1.out (by decide)
    have o2 : Hid (OwnL 27 2 c2 n0 y2 v' (l ++ [(a, b)])) := A.out.own
    clear A o1 k1 b1 c1
    obtain ⟨sp', cap', rfl, -⟩ := o2.out.open kBeep.len
    obtain ⟨m, hm⟩ : ∃ m, (l ++ [(a, b)]).length = m := ⟨_, rfl⟩
    rw [hm] at o2 ⊢
    have cc := b2.out.c 0 (.slice sp n cap) rfl
    have cf := b2.out.fz 0
    clear hm
    refine Stop.go ?_
    go_wp2
    go_end0
    exact ⟨⟨_, rfl⟩, ⟨k2.out.trans (Keep3.set b2.out oth.out.2 hbo _), Ho.put o2.out b2.out (by decide)⟩⟩
theorem pbeep_any (w : World) (sp : Option Addr) (cap : Nat) (l : List Rc) (hl : Hid (LiesR w sp l)) (hn : l.length ≤ 2147483647) :
    Calls Try.prog 8 #[.slice sp l.length cap] w fun e w' => ∃ v, e = .returned v ∧ Hid (KL 27 2 c2 w v (bepL (levels (l.map (·.q)))) w') := by
  have hF : Hid (Fm w [(w.heap.size, #[.slice none 0 0], 23)] (w.alloc (.cells #[.slice none 0 0] 23))) := Fm.one w _ _
  have hQ : Hid (LiesQ w sp (l.map (·.q))) := LiesQ.of hl.out
  have hE := eachRow_any w (w.alloc (.cells #[.slice none 0 0] 23)) hF.out.low sp cap l.length (l.map (·.q)) hQ (by show _ = _; simp) hn 19 #[.pointer (some ⟨w.heap.size, 0, none⟩)] (fun _ _ => rfl)
    (fun pre W => Ho 23 27 2 c2 w.heap.size w.heap.size (bepF pre) W) ((Ho.own _ _ _ _ _ _ _).from _) ⟨_, hF.out.bx 0 _ _ _ rfl, (OwnL.nil _ _)⟩
    (fun pre x W hp hW hI => (beep1_any W w.heap.size w.heap.size x.1 (bepF pre) hW.size (Nat.le_refl _) (by have := bepF_len pre; omega) hI).mono fun e W' h => ⟨h.1, h.2.out.1, by rw [bepF_snoc]; exact h.2.out.2⟩)
  generalize l.length = n at hE
  go_enter Try.func8, Try.ntmps8
  go_wp2_with (go_at_call 18; refine hE.mono ?_; rintro e y ⟨⟨u, rfl⟩, H⟩; obtain ⟨hB, xs, hR, v, hv, ho⟩ := H.out; refine stopAt ?_)
  rw [hR.done.2.1] at ho
  have K : Hid (KL 27 2 c2 w v (bepL (levels (l.map (·.q)))) y) := ⟨ho, hB⟩
  obtain ⟨sp', cap', rfl, -⟩ := ho.open kBeep.len
  have cv := hv.c 0 _ rfl
  clear ho hv hR hB H hE
  generalize (bepL (levels (l.map (·.q)))).length = m at K cv ⊢
  refine Stop.go ?_
  go_wp2
  go_ret
  exact ⟨_, rfl, K⟩
end Go.Proofs.Ytbiifkcphaljeaa
