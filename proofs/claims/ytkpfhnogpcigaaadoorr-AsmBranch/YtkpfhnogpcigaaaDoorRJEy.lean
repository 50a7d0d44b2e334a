/- Objects held against the document: the walk. -/
import Derived.Test.YtkpfhnogpcigaaaDoorRJEr
import Derived.Test.YtkpfhnogpcigaaaDoorRJEq
import Derived.Test.YtkpfhnogpcigaaaDoorRJEp
import Derived.Test.YtkpfhnogpcigaaaDoorRJEl
import Derived.Laws.AppendOwn
namespace Go.Proofs.YtkpfhnogpcigaaaDoorR
open Go Go.RowKit
set_option linter.unusedVariables false
set_option maxHeartbeats 3000000
set_option maxRecDepth 20000

/-- What the statement's own copy of an object is. -/
def ObE (v : World) (ob : Oo) (e : Ending) (v' : World) : Prop := ∃ x : Oo, e = .returned (.agg (oC x)) ∧ Hid (Below v.heap.size v v' ∧ Lco v' x ∧ plB x.B = plB ob.B ∧ x.M = ob.M ∧ x.L = ob.L ∧ ∀ q ∈ x.B, ∃ g, q.1.sp = some ⟨g, 0, none⟩ ∧ LB8 v' (some ⟨g, 0, none⟩) (q.2 ++ List.replicate 5 90) ∧ q.1.cap = q.2.length + 5)
/-- An object that came in: no bound of its lists but the memory's. -/
structure Lr (w : World) (o : Oo) : Prop where
  b : LiesL 2 cK w o.bp (o.B.map (·.1))
  m : LiesL 3 cM w o.mp o.M
  l : LiesL 2 cLa w o.lp o.L
  g : ∀ x ∈ o.B, LB8 w x.1.sp x.2 ∧ x.2.length = x.1.m
  ia : ∀ x ∈ o.B, inI x.1.a
  im : ∀ x ∈ o.M, inI x.a ∧ inI x.n
  il : ∀ x ∈ o.L, inI x.a ∧ x.n.size ≤ 9223372036854775807
  n : o.B.length ≤ 140737488355328 ∧ o.M.length ≤ 140737488355328 ∧ o.L.length ≤ 140737488355328
  bm : ∀ x ∈ o.B, x.1.m ≤ 140737488355328
  cb : ∀ x ∈ o.B, x.1.m ≤ x.1.cap
  cm : o.M.length ≤ o.mc
theorem Lr.near {w : World} {o : Oo} (h : Lr w o) (k : (o.B.length ≤ 2147483647 ∧ o.M.length ≤ 2147483647 ∧ o.L.length ≤ 2147483647) ∧ ∀ x ∈ o.B, x.1.m ≤ 2147483647) : Lco w o := ⟨⟨h.b, h.m, h.l, h.g, fun x hx => ⟨h.ia x hx, k.2 x hx⟩, h.im, h.il, k.1⟩, h.cb, h.cm⟩
def qC (fr to : Int) (s : ByteArray) : Array Value := #[.int .i64 fr, .int .i64 to, .string s]
theorem rtQ : Rt Tryd.prog 28 3 := ⟨⟨_, Tryd.underlying28, rfl⟩, by kernel_rfl⟩
def zO : Oo := ⟨none, 0, [], none, 0, [], none, 0, []⟩
theorem oneO (o : Oo) : (oC o).all (·.oneCell') = true := by simp [oC, Value.oneCell']
theorem of_belowS {W y z : World} (h : Below W.heap.size W y) (k : Below y.heap.size y z) : Below W.heap.size W z := h.trans (k.mono h.size)
theorem slFull (pa : Option Addr) (D : Nat) (h : pa = none ∧ D = 0 ∨ ∃ g, pa = some ⟨g, 0, none⟩) (v : World) : (Instr.sliceAt 33 (.slice pa D D) none (some (.int .i64 (D : Int))) none).run Tryd.prog v = .ok (.slice pa D D) v := by
  rcases h with ⟨rfl, rfl⟩ | ⟨g, rfl⟩
  · have hu : Tryd.prog.underlying 33 = some (.slice (Tryd.prog.elem 33)) := by kernel_rfl
    rw [run_sliceAt_slice v _ _ _ _ _ hu, run_slice_h v _ _ _ _ hu .i64 ((0 : Nat) : Int) (by omega) (by omega)]
    have hz : ∀ v, (sizeOf (Tryd.prog.elem 33)).run Tryd.prog v = .ok 1 v := fun v => by kernel_rfl
    rw [hz]
    simp [Result.andThen_ok, sliced]
  · exact slHi g 0 D D D (Nat.le_refl _) v
/-- Where a list of bytes that a call made lies. -/
def Ans (W y : World) (pa : Option Addr) (D : Nat) (l : List UInt8) : Prop := l.length = D ∧ ((pa = none ∧ D = 0) ∨ ∃ g, pa = some ⟨g, 0, none⟩ ∧ W.heap.size ≤ g ∧ Bx y g (rU l) 5)
theorem Ans.lb {W y : World} {pa : Option Addr} {D : Nat} {l : List UInt8} (h : Ans W y pa D l) : LB8 y pa l := fun j b hj => by
  rcases h with ⟨hl, ⟨_, rfl⟩ | ⟨g, rfl, _, hb⟩⟩
  · rw [List.length_eq_zero_iff.1 hl] at hj; cases hj
  · exact ⟨g, 0, rfl, by rw [Nat.zero_add]; exact hb.c j (byV b) (by unfold rU; simp [hj])⟩
theorem Ans.below {W y z : World} {pa : Option Addr} {D : Nat} {l : List UInt8} (h : Ans W y pa D l) (k : Below y.heap.size y z) : Ans W z pa D l := by
  rcases h with ⟨hl, h | ⟨g, e, hg, hb⟩⟩
  · exact ⟨hl, .inl h⟩
  · exact ⟨hl, .inr ⟨g, e, hg, (k.block g (heap_lt hb)).trans hb⟩⟩
theorem bye_ans {w w' : World} {l : List UInt8} {E : Int} {e : Ending} (h : ByE w l E e w') : ∃ pa, e = .returned (.tuple #[.slice pa l.length l.length, .int .i64 E]) ∧ Hid (Below w.heap.size w w' ∧ Ans w w' pa l.length l) := by
  obtain ⟨p, c, rfl, hb, h⟩ := h
  rcases h with ⟨rfl, rfl, rfl⟩ | ⟨g, rfl, hg, rfl, hx⟩
  · exact ⟨none, rfl, hb, rfl, .inl ⟨rfl, rfl⟩⟩
  · exact ⟨_, rfl, hb, rfl, .inr ⟨g, rfl, hg, hx⟩⟩
theorem blkOk_pl : ∀ (B B' : List Bb) (p : Int), plB B = plB B' → (∀ x ∈ B, x.2.length = x.1.m) → (∀ x ∈ B', x.2.length = x.1.m) → blkOk p (B.map (·.1)) = blkOk p (B'.map (·.1))
  | [], [], _, _, _, _ => rfl
  | [], _ :: _, _, h, _, _ => by cases h
  | _ :: _, [], _, h, _, _ => by cases h
  | x :: r, x' :: r', p, h, h1, h2 => by
    have e : (x.1.a, x.2) = (x'.1.a, x'.2) ∧ plB r = plB r' := by
      have := h
      unfold plB at this
      simp only [List.map_cons, List.cons.injEq] at this
      exact ⟨this.1, this.2⟩
    have ea : x.1.a = x'.1.a := (Prod.mk.inj e.1).1
    have eb : x.2 = x'.2 := (Prod.mk.inj e.1).2
    have em : x.1.m = x'.1.m := by rw [← h1 x (List.mem_cons_self ..), ← h2 x' (List.mem_cons_self ..), eb]
    simp only [List.map_cons, blkOk]
    rw [ea, em, blkOk_pl r r' _ e.2 (fun q hq => h1 q (List.mem_cons_of_mem _ hq)) (fun q hq => h2 q (List.mem_cons_of_mem _ hq))]
theorem chk_pl {x o : Oo} (hB : plB x.B = plB o.B) (hM : x.M = o.M) (hL : x.L = o.L) (h1 : ∀ q ∈ x.B, q.2.length = q.1.m) (h2 : ∀ q ∈ o.B, q.2.length = q.1.m) : chkO x = chkO o := by
  unfold chkO okO
  rw [blkOk_pl x.B o.B 0 hB h1 h2, hB, hM, hL]
theorem bytL_small (ob : Oo) (fr to : Int) : (bytL ob fr to).length ≤ 65536 := by
  unfold bytL
  split
  · rename_i h
    rw [ovrAll_len, List.length_replicate]
    unfold bytE at h
    split at h
    · rename_i h1; exact absurd h h1
    · split at h
      · cases h
      · omega
  · exact Nat.zero_le _
theorem ans_or {W y : World} {pa : Option Addr} {D : Nat} {l : List UInt8} (h : Ans W y pa D l) : pa = none ∧ D = 0 ∨ ∃ g, pa = some ⟨g, 0, none⟩ := by
  rcases h.2 with h | ⟨g, e, _⟩
  · exact .inl h
  · exact .inr ⟨g, e⟩
theorem same_ans {W W' y : World} {pa pb : Option Addr} {D : Nat} {l : List UInt8} (h1 : Hid (Ans W y pa D l)) (h2 : Hid (Ans W' y pb D l)) (hD : Hid (l.length = D ∧ D ≤ 65536)) : Calls Tryd.prog 15 #[.slice pa D D, .slice pb D D] y fun e w' => e = .returned (.bool true) ∧ Hid (Below y.heap.size y w') := by
  have k := sameO_true y pa pb D D l h1.out.lb h2.out.lb (by have := hD.out; omega)
  rw [hD.out.1] at k
  exact k
theorem hFm {w y z : World} {l : List (Nat × Array Value × TypeId)} (K : Hid (Fm w l y)) (H : Below y.heap.size y z) : Hid (Fm w l z) := K.out.below H
theorem hBe {W y z : World} (V : Hid (Below W.heap.size W y)) (H : Below y.heap.size y z) : Hid (Below W.heap.size W z) := of_belowS V.out H
theorem hAn {W y z : World} {pa : Option Addr} {D : Nat} {l : List UInt8} (A : Hid (Ans W y pa D l)) (H : Below y.heap.size y z) : Hid (Ans W z pa D l) := A.out.below H
structure C9 (w : World) (l : List (Nat × Array Value × TypeId)) (z0 y : World) : Prop where
  f : Fm w l y
  b : Below z0.heap.size z0 y
theorem ans_lt {W y : World} {pa : Option Addr} {D : Nat} {l : List UInt8} (h : Ans W y pa D l) : Hid (∀ g, pa = some ⟨g, 0, none⟩ → g < y.heap.size) := fun g e => by
  rcases h.2 with ⟨h0, _⟩ | ⟨g', e', _, hb⟩
  · rw [h0] at e; cases e
  · rw [e'] at e
    cases e
    exact heap_lt hb
theorem ans_write {W W6 y : World} {pa pb : Option Addr} {D : Nat} {l l2 : List UInt8} (h : Ans W y pa D l) (i : Nat) (hi : i < D) (U : Below W.heap.size W y) (G : ∀ g, pa = some ⟨g, 0, none⟩ → g < W6.heap.size) (h2 : Ans W6 y pb D l2) :
    ∃ g, pa = some ⟨g, 0, none⟩ ∧ (∃ c, y.cell? ⟨g, i, none⟩ = some c) ∧ y.frozen? ⟨g, i, none⟩ = false ∧ Ans W (y.setCell ⟨g, i, none⟩ (.int .u8 165)) (some ⟨g, 0, none⟩) D (l.set i 165) ∧ Below W.heap.size W (y.setCell ⟨g, i, none⟩ (.int .u8 165)) ∧ Ans W6 (y.setCell ⟨g, i, none⟩ (.int .u8 165)) pb D l2 := by
  obtain ⟨hl, h | ⟨g, rfl, hg, hb⟩⟩ := h
  · omega
  · refine ⟨g, rfl, ⟨_, hb.c i _ (Array.getElem?_eq_getElem (by unfold rU; simp; omega))⟩, hb.fz i, ⟨by rw [List.length_set]; exact hl, .inr ⟨g, rfl, hg, ?_⟩⟩, U.setCell (p := ⟨g, i, none⟩) hg _, ?_⟩
    · have := heap_setCell_same y g i _ _ (byV 165) hb
      rw [rU_set] at this
      exact this
    · obtain ⟨hl2, h | ⟨g', e, hg', hb'⟩⟩ := h2
      · exact ⟨hl2, .inl h⟩
      · have hne : g' ≠ g := by have := G g rfl; omega
        exact ⟨hl2, .inr ⟨g', e, hg', (heap_setCell_other y ⟨g, i, none⟩ g' _ hne).trans hb'⟩⟩
theorem objects_walk (w : World) (T : Hid (Tabs w)) (ob : Oo) (h : Hid (Lr w ob)) (fr to : Int) (hf : inI fr) (ht : inI to) (s : ByteArray)
    (hObj : Hid (∀ v, Lco v ob → Calls Tryd.prog 8 #[.agg (oC ob)] v (ObE v ob))) :
    Calls Tryd.prog 3 #[.agg (oC ob), .agg (qC fr to s)] w fun e w' => e = .returned (.bool true) ∧ Below w.heap.size w w' := by
  have K0 : Hid (Fm w [(w.heap.size, oC ob, 26), (w.heap.size + 1, qC fr to s, 28)] ((w.alloc (.cells (oC ob) 26)).alloc (.cells (qC fr to s) 28))) := Fm.two w _ _ _ _
  have c0 := (K0.out.bx 1 _ _ _ rfl).c 0 (.int .i64 fr) rfl
  have c1 := (K0.out.bx 1 _ _ _ rfl).c 1 (.int .i64 to) rfl
  have c2 := (K0.out.bx 1 _ _ _ rfl).c 2 (.string s) rfl
  have hLg := large_any _ ob (h.out.b.below K0.out.low) h.out.n h.out.bm
  obtain ⟨D, hD⟩ : ∃ D, (bytL ob fr to).length = D := ⟨_, rfl⟩
  have hfi : Hid (inI fr ∧ inI to) := ⟨hf, ht⟩
  clear hf ht
  go_enter Tryd.func3, Tryd.ntmps3
  go_wp2_with (first
    | ((with_reducible refine at_load rtO w.heap.size (oC ob) ?_ ?_ (.tmp 2) ?_ ?_ ?_ ?_); exact K0.out.bx 0 _ _ _ rfl; rfl; rfl; rfl; rfl)
    | (go_at_call 7; refine hLg.mono ?_; rintro e y1 ⟨b1, rfl, H1⟩; clear hLg; have K1 : Hid (Fm w [(w.heap.size, oC ob, 26), (w.heap.size + 1, qC fr to s, 28)] y1) := K0.out.below H1.out.1; have hL1 : Hid (b1 = false → Lco y1 ob) := (fun e => (h.out.near (H1.out.2 e)).below K1.out.low); clear H1; refine stopAt ?_))
  cases b1
  case true =>
    refine Stop.go ?_
    go_wp2
    go_ret
    exact ⟨rfl, K1.out.low⟩
  refine Stop.go ?_
  have hO := hObj.out y1 (hL1.out rfl)
  have hl1 : Hid (Lco y1 ob) := hL1.out rfl
  clear hL1 c0 c1 c2
  go_wp2_with (first
    | ((with_reducible refine at_load rtO w.heap.size (oC ob) ?_ ?_ (.tmp 2) ?_ ?_ ?_ ?_); exact K1.out.bx 0 _ _ _ rfl; rfl; rfl; rfl; rfl)
    | (go_at_call 8; refine hO.mono ?_; rintro e y2 ⟨x, rfl, H2⟩; clear hO; have K2 : Hid (Fm w [(w.heap.size, oC ob, 26), (w.heap.size + 1, qC fr to s, 28)] y2) := K1.out.below H2.out.1)
    | ((with_reducible refine gen_world (y2.alloc (.cells #[.slice none 0 0, .slice none 0 0, .slice none 0 0] 26)) (fun y => Fm w [(w.heap.size, oC ob, 26), (w.heap.size + 1, qC fr to s, 28), (y2.heap.size, oC zO, 26)] y ∧ Below y2.heap.size y2 y) ?_ ?_); exact ⟨K2.out.new _ _, Below.alloc (Below.refl _ _) (Nat.le_refl _) _⟩; intro y3 K3)
    | ((with_reducible refine at_st rtO y2.heap.size (oC zO) (oC x) ?_ ?_ ?_ ?_ (.tmp 8) (.tmp 32) ?_ ?_ ?_ ?_ ?_); exact K3.out.1.bx 2 _ _ _ rfl; rfl; rfl; exact oneO _; rfl; rfl; rfl; rfl; intro y4 hw4; have K : Hid (Fm w [(w.heap.size, oC ob, 26), (w.heap.size + 1, qC fr to s, 28), (y2.heap.size, oC x, 26)] y4) := K3.out.1.put 2 _ _ _ _ rfl hw4.out; have V4 : Hid (Below y2.heap.size y2 y4) := K3.out.2.trans (hw4.out.2.1 _ (Nat.le_refl _)); clear hw4 K3 K2; refine stopAt ?_))
  obtain ⟨bx, hbx⟩ : ∃ q, y2.heap.size = q := ⟨_, rfl⟩
  have W4 : Hid (Below y1.heap.size y1 y4) := of_belowS H2.out.1 V4.out
  have hX : Hid (Lco y4 x) := H2.out.2.1.below V4.out
  have hOb : Hid (Lco y4 ob) := hl1.out.below W4.out
  have hpl : Hid (plB x.B = plB ob.B ∧ x.M = ob.M ∧ x.L = ob.L) := ⟨H2.out.2.2.1, H2.out.2.2.2.1, H2.out.2.2.2.2.1⟩
  have hRo : Hid (∀ q ∈ x.B, ∃ g, q.1.sp = some ⟨g, 0, none⟩ ∧ LB8 y4 (some ⟨g, 0, none⟩) (q.2 ++ List.replicate 5 90) ∧ q.1.cap = q.2.length + 5) := fun q hq => by
    obtain ⟨g, e1, e2, e3⟩ := H2.out.2.2.2.2.2 q hq
    exact ⟨g, e1, e2.below V4.out, e3⟩
  have T4 : Hid (Tabs y4) := T.out.below K.out.low
  have eC : chkO x = chkO ob := chk_pl hpl.out.1 hpl.out.2.1 hpl.out.2.2 (fun q hq => (hX.out.lo.g q hq).2) (fun q hq => (hOb.out.lo.g q hq).2)
  have eE : bytE x fr to = bytE ob fr to := by unfold bytE; rw [eC]
  have eL : bytL x fr to = bytL ob fr to := by unfold bytL; rw [eE, hpl.out.1]
  have eF : findL x.L s = findL ob.L s := by rw [hpl.out.2.2]
  obtain ⟨C, hC⟩ : ∃ C, chkO ob = C := ⟨_, rfl⟩
  obtain ⟨E, hE⟩ : ∃ C, bytE ob fr to = C := ⟨_, rfl⟩
  obtain ⟨L, hL⟩ : ∃ C, bytL ob fr to = C := ⟨_, rfl⟩
  obtain ⟨f0, hf0⟩ : ∃ C, (findL ob.L s).getD 0 = C := ⟨_, rfl⟩
  obtain ⟨f1, hf1⟩ : ∃ C, (findL ob.L s).isSome = C := ⟨_, rfl⟩
  rw [hL] at hD
  have hDl : Hid (L.length = D ∧ D ≤ 65536) := ⟨hD, by rw [← hD, ← hL]; exact bytL_small ob fr to⟩
  have Di : (D : Int) ≤ 65536 := by have := hDl.out; omega
  have hCk : Hid (∀ v, Below y4.heap.size y4 v → Calls Tryd.prog 9 #[.agg (oC x)] v fun e w' => e = .returned (.int .i64 C) ∧ Hid (Below v.heap.size v w')) := fun v hv => by
    have k := ocheck_any v (T4.out.below hv) x (hX.out.below hv)
    rw [eC, hC] at k
    exact k
  have hRk : Hid (∀ v, Below y4.heap.size y4 v → Calls Tryd.prog 14 #[.agg (oC ob)] v fun e w' => e = .returned (.int .i64 C) ∧ Hid (Below v.heap.size v w')) := fun v hv => by
    have k := rocheck_any v ob (hOb.out.below hv)
    rw [hC] at k
    exact k
  have hBy : Hid (∀ v, Below y4.heap.size y4 v → Calls Tryd.prog 10 #[.agg (oC x), .int .i64 fr, .int .i64 to] v fun e w' => ∃ pa, e = .returned (.tuple #[.slice pa D D, .int .i64 E]) ∧ Hid (Below v.heap.size v w' ∧ Ans v w' pa D L)) := fun v hv => by
    refine (obytes_any v (T4.out.below hv) x (hX.out.below hv) fr to hfi.out.1 hfi.out.2).mono fun e w' k => ?_
    have k2 := bye_ans k
    rw [eL, eE, hL, hE, hD] at k2
    exact k2
  have hRy : Hid (∀ v, Below y4.heap.size y4 v → Calls Tryd.prog 11 #[.agg (oC ob), .int .i64 fr, .int .i64 to] v fun e w' => ∃ pa, e = .returned (.tuple #[.slice pa D D, .int .i64 E]) ∧ Hid (Below v.heap.size v w' ∧ Ans v w' pa D L)) := fun v hv => by
    refine (robytes_any v ob (hOb.out.below hv) fr to hfi.out.1 hfi.out.2).mono fun e w' k => ?_
    have k2 := bye_ans k
    rw [hL, hE, hD] at k2
    exact k2
  have hFi : Hid (∀ v, Below y4.heap.size y4 v → Calls Tryd.prog 12 #[.agg (oC x), .string s] v fun e w' => e = .returned (.tuple #[.int .i64 f0, .bool f1]) ∧ Hid (Below v.heap.size v w')) := fun v hv => by
    have k := ofind_any v x (hX.out.below hv).lo s
    rw [eF, hf0, hf1] at k
    exact k
  have hRi : Hid (∀ v, Below y4.heap.size y4 v → Calls Tryd.prog 13 #[.agg (oC ob), .string s] v fun e w' => e = .returned (.tuple #[.int .i64 f0, .bool f1]) ∧ Hid (Below v.heap.size v w')) := fun v hv => by
    have k := rofind_any v ob (hOb.out.below hv).lo s
    rw [hf0, hf1] at k
    exact k
  have hAl : Hid (∀ v, Below y4.heap.size y4 v → Calls Tryd.prog 16 #[.agg (oC x), .agg (oC ob)] v fun e w' => e = .returned (.bool true) ∧ Hid (Below v.heap.size v w')) := fun v hv => alike_true v x ob (hX.out.below hv).lo (hOb.out.below hv).lo hpl.out.1 hpl.out.2.1 hpl.out.2.2
  have hAl2 := hAl
  have hBy2 := hBy
  have V : Hid (Below y4.heap.size y4 y4) := Below.refl _ _
  rw [hbx] at K ⊢
  clear hC hE hL hf0 hf1 hD eC eE eL eF H2 hl1 V4 W4 K0 K1 hObj h hfi
  refine Stop.go ?_
  go_wp2_with (first
    | ((with_reducible refine at_load rtO w.heap.size (oC ob) ?_ ?_ (.tmp 2) ?_ ?_ ?_ ?_); exact K.out.bx 0 _ _ _ rfl; rfl; (first | rfl | kernel_rfl); rfl; rfl)
    | ((with_reducible refine at_load rtO bx (oC x) ?_ ?_ (.tmp 8) ?_ ?_ ?_ ?_); exact K.out.bx 2 _ _ _ rfl; rfl; (first | rfl | kernel_rfl); rfl; rfl)
    | (go_at_call 9; refine (hCk.out _ V.out).mono ?_; rintro e y5 ⟨rfl, H⟩; clear hCk; replace K := hFm K H.out; replace V := hBe V H.out; clear H)
    | (go_at_call 10; refine (hBy.out _ V.out).mono ?_; rintro e y6 ⟨pa, rfl, H⟩; clear hBy; have K5 := K; have G6 := ans_lt H.out.2; have V5 : Hid (Below y4.heap.size y4 y5) := V.out; replace K := hFm K H.out.1; replace V := hBe V H.out.1; have U : Hid (Below y5.heap.size y5 y6) := H.out.1; have A1 : Hid (Ans y5 y6 pa D L) := H.out.2; clear H)
    | (go_at_call 11; refine (hRy.out _ V.out).mono ?_; rintro e y7 ⟨pb, rfl, H⟩; clear hRy; replace K := hFm K H.out.1; replace V := hBe V H.out.1; replace U := hBe U H.out.1; replace A1 := hAn A1 H.out.1; have A2 : Hid (Ans y6 y7 pb D L) := H.out.2; clear H)
    | (go_at_call 12; refine (hFi.out _ V.out).mono ?_; rintro e y8 ⟨rfl, H⟩; clear hFi; replace K := hFm K H.out; replace V := hBe V H.out; replace U := hBe U H.out; replace A1 := hAn A1 H.out; replace A2 := hAn A2 H.out; clear H)
    | (go_at_call 13; refine (hRi.out _ V.out).mono ?_; rintro e y9 ⟨rfl, H⟩; clear hRi; replace K := hFm K H.out; replace V := hBe V H.out; replace U := hBe U H.out; replace A1 := hAn A1 H.out; replace A2 := hAn A2 H.out; clear H)
    | (go_at_call 14; refine (hRk.out _ V.out).mono ?_; rintro e y10 ⟨rfl, H⟩; clear hRk; replace K := hFm K H.out; replace V := hBe V H.out; replace U := hBe U H.out; replace A1 := hAn A1 H.out; replace A2 := hAn A2 H.out; clear H; have hSa := same_ans A1 A2 hDl)
    | (go_at_call 15; refine hSa.mono ?_; rintro e y11 ⟨rfl, H⟩; clear hSa; replace K := hFm K H.out; replace V := hBe V H.out; replace U := hBe U H.out; replace A1 := hAn A1 H.out; replace A2 := hAn A2 H.out; clear H)
    | (go_at_call 16; refine (hAl.out _ V.out).mono ?_; rintro e y12 ⟨rfl, H⟩; clear hAl; replace K := hFm K H.out; replace V := hBe V H.out; replace U := hBe U H.out; replace A1 := hAn A1 H.out; replace A2 := hAn A2 H.out; clear H; have hsl := fun v => slFull pa D (ans_or A1.out) v))
  clear K V
  go_loopw [19] (fun t wz => ∃ (i : Nat) (y : World), y = wz ∧ t = .int .i64 (i : Int) ∧ Hid (i ≤ D) ∧ Hid (∃ l', Ans y5 y pa D l') ∧ Hid (Below y5.heap.size y5 y) ∧ Hid (Ans y6 y pb D L)) (fun t _ => (D - intOf t).toNat)
  case atStart => exact ⟨0, _, rfl, rfl, Nat.zero_le _, ⟨L, A1.out⟩, U, A2⟩
  case round =>
    clear A1 A2 U hsl
    obtain ⟨i, y, rfl, rfl, J, ⟨l', A1⟩, U, A2⟩ := hrel
    replace A1 : Hid (Ans y5 y pa D l') := A1
    by_cases hlt : i < D
    · obtain ⟨g, hpa, zc, zf, K9, U9, B9⟩ := ans_write A1.out i hlt U.out G6.out A2.out
      subst hpa
      obtain ⟨c9, zc⟩ := zc
      have e1 : ∀ w, (Instr.indexAt 33 (.slice (some ⟨g, 0, none⟩) D D) (.int .i64 (i : Int))).run Tryd.prog w = .ok (.pointer (some ⟨g, i, none⟩)) w := fun w => by
        have := idxU8 g 0 D D i hlt w
        rw [Nat.zero_add] at this
        exact this
      have hii : (i : Int) < D := by omega
      have hlt' : Hid (i < D) := hlt
      have K9' : Hid (∃ l', Ans y5 (y.setCell ⟨g, i, none⟩ (.int .u8 165)) (some ⟨g, 0, none⟩) D l') := ⟨_, K9⟩
      have U9' : Hid (Below y5.heap.size y5 (y.setCell ⟨g, i, none⟩ (.int .u8 165))) := U9
      have B9' : Hid (Ans y6 (y.setCell ⟨g, i, none⟩ (.int .u8 165)) pb D L) := B9
      clear hlt K9 U9 B9
      go_wp2
      go_roundw
      case rel => exact ⟨i + 1, _, rfl, by simp, hlt'.out, K9', U9', B9'⟩
      case measure => have := hlt'.out; simp [intOf]; omega
    · have hie : i = D := by have := J.out; omega
      subst hie
      clear hlt
      have K := hFm K5 U.out
      have V : Hid (Below y4.heap.size y4 y) := of_belowS V5.out U.out
      obtain ⟨n, hn⟩ : ∃ n, ob.B.length = n := ⟨_, rfl⟩
      have hln : x.B.length = n := by
        have := congrArg List.length hpl.out.1
        rw [List.length_map, List.length_map, hn] at this
        exact this
      obtain ⟨xp, hxp⟩ : ∃ q, x.bp = q := ⟨_, rfl⟩
      obtain ⟨xc, hxc⟩ : ∃ q, x.bc = q := ⟨_, rfl⟩
      obtain ⟨op, hop⟩ : ∃ q, ob.bp = q := ⟨_, rfl⟩
      obtain ⟨oc, hoc⟩ : ∃ q, ob.bc = q := ⟨_, rfl⟩
      have hnn : Hid (ob.B.length = n ∧ x.B.length = n) := ⟨hn, hln⟩
      have ni : (n : Int) ≤ 2147483647 := by have := hOb.out.lo.n; omega
      have hd : Hid (∀ u, Fm w [(w.heap.size, oC ob, 26), (w.heap.size + 1, qC fr to s, 28), (bx, oC x, 26)] u → u.cell? ⟨bx, 0, none⟩ = some (.slice xp n xc) ∧ u.cell? ⟨w.heap.size, 0, none⟩ = some (.slice op n oc)) := fun u hu => by
        have h0 := (hu.bx 2 _ _ _ rfl).c 0 (.slice x.bp x.B.length x.bc) rfl
        have h1 := (hu.bx 0 _ _ _ rfl).c 0 (.slice ob.bp ob.B.length ob.bc) rfl
        rw [hxp, hln, hxc] at h0
        rw [hop, hn, hoc] at h1
        exact ⟨h0, h1⟩
      have hLB : Hid (LiesL 2 cK y4 xp (x.B.map (·.1)) ∧ LiesL 2 cK y4 op (ob.B.map (·.1))) := ⟨by rw [← hxp]; exact hX.out.lo.b, by rw [← hop]; exact hOb.out.lo.b⟩
      clear hn hln hxp hxc hop hoc
      go_wp2_with (first
        | ((with_reducible refine at_load rtO bx (oC x) ?_ ?_ (.tmp 8) ?_ ?_ ?_ ?_); exact K.out.bx 2 _ _ _ rfl; rfl; (first | rfl | kernel_rfl); rfl; rfl)
        | (go_at_call 10; refine (hBy2.out _ V.out).mono ?_; rintro e z0 ⟨pc, rfl, H⟩; clear hBy2; replace K := hFm K H.out.1; replace V := hBe V H.out.1; replace A2 := hAn A2 H.out.1; have A3 : Hid (Ans y z0 pc i L) := H.out.2; clear H))
      have V9 := V
      have K9 : Hid (C9 w [(w.heap.size, oC ob, 26), (w.heap.size + 1, qC fr to s, 28), (bx, oC x, 26)] z0 z0) := ⟨K.out, Below.refl _ _⟩
      clear K V
      go_loopw [22] (fun t wz => ∃ (i : Nat) (y : World), y = wz ∧ t = .int .i64 (i : Int) ∧ Hid (i ≤ n) ∧ Hid (C9 w [(w.heap.size, oC ob, 26), (w.heap.size + 1, qC fr to s, 28), (bx, oC x, 26)] z0 y)) (fun t _ => (n - intOf t).toNat)
      case atStart => exact ⟨0, _, rfl, rfl, Nat.zero_le _, K9⟩
      case round =>
        clear K9
        obtain ⟨k, y, rfl, rfl, J2, K⟩ := hrel
        have c0 := (hd.out _ K.out.f).1
        by_cases hlt : k < n
        · obtain ⟨X, hXk⟩ : ∃ v, x.B[k]? = some v := ⟨_, List.getElem?_eq_getElem (by rw [hnn.out.2]; exact hlt)⟩
          obtain ⟨O, hOk⟩ : ∃ v, ob.B[k]? = some v := ⟨_, List.getElem?_eq_getElem (by rw [hnn.out.1]; exact hlt)⟩
          have hp : X.2 = O.2 := by
            have h1 : (plB x.B)[k]? = some (X.1.a, X.2) := by rw [List.getElem?_map, hXk]; rfl
            have h2 : (plB ob.B)[k]? = some (O.1.a, O.2) := by rw [List.getElem?_map, hOk]; rfl
            rw [hpl.out.1, h2] at h1
            exact (Prod.mk.inj (Option.some.inj h1)).2.symm
          obtain ⟨g1, o1, rfl, r1⟩ := hLB.out.1 k X.1 (by rw [List.getElem?_map, hXk]; rfl)
          obtain ⟨g2, o2, rfl, r2⟩ := hLB.out.2 k O.1 (by rw [List.getElem?_map, hOk]; rfl)
          have mX := (hX.out.lo.g X (List.mem_of_getElem? hXk)).2
          have mO := (hOb.out.lo.g O (List.mem_of_getElem? hOk)).2
          have bO := (hOb.out.lo.ib O (List.mem_of_getElem? hOk)).2
          obtain ⟨g, hg1, hg2, hg3⟩ := hRo.out X (List.mem_of_getElem? hXk)
          obtain ⟨bs, hbs⟩ : ∃ b, O.2 = b := ⟨_, rfl⟩
          obtain ⟨m, hm⟩ : ∃ m, bs.length = m := ⟨_, rfl⟩
          obtain ⟨so, hso⟩ : ∃ a, O.1.sp = a := ⟨_, rfl⟩
          obtain ⟨co, hco⟩ : ∃ a, O.1.cap = a := ⟨_, rfl⟩
          rw [hp, hbs, hm] at mX hg3
          rw [hbs, hm] at mO
          rw [hp, hbs] at hg2
          have hcb : Hid (∀ u, Below y4.heap.size y4 u → u.cell? ⟨g1, o1 + k * 2 + 1, none⟩ = some (.slice (some ⟨g, 0, none⟩) m (m + 5)) ∧ u.cell? ⟨g2, o2 + k * 2 + 1, none⟩ = some (.slice so m co)) := fun u hu => by
            have k2 := range_keep r1 hu 1 (.slice X.1.sp X.1.m X.1.cap) rfl
            have k4 := range_keep r2 hu 1 (.slice O.1.sp O.1.m O.1.cap) rfl
            rw [hg1, ← mX, hg3] at k2
            rw [hso, ← mO, hco] at k4
            exact ⟨k2, k4⟩
          have hS : Hid (∀ u, Below y4.heap.size y4 u → Calls Tryd.prog 17 #[.slice (some ⟨g, 0, none⟩) m (m + 5), .int .i64 (m : Int)] u fun e w' => e = .returned (.bool true) ∧ Hid (Below u.heap.size u w')) := fun u hu => by
            have := roomy_true u g 0 m (m + 5) bs (hg2.below hu) (by rw [hm, mO]; exact bO) (by rw [hm]; exact Nat.le_refl _)
            rw [hm] at this
            exact this
          have i1 := fun w => idxP (P := Tryd.prog) (g := g1) (off := o1) (len := n) (cap := xc) Tryd.underlying22 (s := 2) (by kernel_rfl) .i64 k w hlt
          have i2 := fun w => idxP (P := Tryd.prog) (g := g2) (off := o2) (len := n) (cap := oc) Tryd.underlying22 (s := 2) (by kernel_rfl) .i64 k w hlt
          have mi : (m : Int) ≤ 2147483647 := by omega
          have hii : (k : Int) < n := by omega
          have hlt' : Hid (k < n) := hlt
          clear hlt hXk hOk hp r1 r2 mX mO bO hg1 hg2 hg3 hbs hm hso hco
          go_wp2
          refine region_class_tail 14 (C9 w [(w.heap.size, oC ob, 26), (w.heap.size + 1, qC fr to s, 28), (bx, oC x, 26)] z0) (by kernel_rfl) (by kernel_rfl) ⟨K.out.f.below (below_drew (Below.refl _ _)), of_belowS K.out.b (below_drew (Below.refl _ _))⟩ ?_
          simp only [List.take_succ_cons, List.take_zero, List.drop_succ_cons, List.drop_zero]
          with_reducible refine quiet_one (.pointer (some ⟨bx, 0, none⟩)) ?_ ?_ ?_
          · kernel_rfl
          · intro u hy
            go_simp
          with_reducible refine quiet_one (.slice (some ⟨g1, o1, none⟩) n xc) ?_ ?_ ?_
          · kernel_rfl
          · intro u hy
            have t0 := (hd.out u hy.f).1
            have s0 := (hd.out u hy.f).2
            go_simp
          with_reducible refine quiet_one (.int .i64 (k : Int)) ?_ ?_ ?_
          · kernel_rfl
          · intro u hy
            go_simp
          with_reducible refine quiet_one (.pointer (some ⟨g1, o1 + k * 2, none⟩)) ?_ ?_ ?_
          · kernel_rfl
          · intro u hy
            go_simp
          with_reducible refine quiet_one (.pointer (some ⟨g1, o1 + k * 2 + 1, none⟩)) ?_ ?_ ?_
          · kernel_rfl
          · intro u hy
            go_simp
          with_reducible refine quiet_one (.slice (some ⟨g, 0, none⟩) m (m + 5)) ?_ ?_ ?_
          · kernel_rfl
          · intro u hy
            have t0 := (hcb.out u (of_belowS V9.out hy.b)).1
            have s0 := (hcb.out u (of_belowS V9.out hy.b)).2
            go_simp
          with_reducible refine quiet_one (.pointer (some ⟨w.heap.size, 0, none⟩)) ?_ ?_ ?_
          · kernel_rfl
          · intro u hy
            go_simp
          with_reducible refine quiet_one (.slice (some ⟨g2, o2, none⟩) n oc) ?_ ?_ ?_
          · kernel_rfl
          · intro u hy
            have t0 := (hd.out u hy.f).1
            have s0 := (hd.out u hy.f).2
            go_simp
          with_reducible refine quiet_one (.int .i64 (k : Int)) ?_ ?_ ?_
          · kernel_rfl
          · intro u hy
            go_simp
          with_reducible refine quiet_one (.pointer (some ⟨g2, o2 + k * 2, none⟩)) ?_ ?_ ?_
          · kernel_rfl
          · intro u hy
            go_simp
          with_reducible refine quiet_one (.pointer (some ⟨g2, o2 + k * 2 + 1, none⟩)) ?_ ?_ ?_
          · kernel_rfl
          · intro u hy
            go_simp
          with_reducible refine quiet_one (.slice so m co) ?_ ?_ ?_
          · kernel_rfl
          · intro u hy
            have t0 := (hcb.out u (of_belowS V9.out hy.b)).1
            have s0 := (hcb.out u (of_belowS V9.out hy.b)).2
            go_simp
          with_reducible refine quiet_one (.int .i64 (m : Int)) ?_ ?_ ?_
          · kernel_rfl
          · intro u hy
            go_simp
          with_reducible refine quiet_one (.bool true) ?_ ?_ ?_
          · kernel_rfl
          · intro u hy
            have d := (hS.out u (of_belowS V9.out hy.b)).mono fun e w' (h : _ ∧ Hid _) => And.intro h.1 (C9.mk (hy.f.below h.2.out) (of_belowS hy.b h.2.out))
            go_simp
            all_goals exact d
          refine wpQuiet_nil ?_
          intro z1 Z1
          replace Z1 : Hid _ := Z1
          go_simp
          go_wp2
          go_roundw
          case rel => exact ⟨k + 1, _, rfl, by simp, hlt'.out, Z1⟩
          case measure => have := hlt'.out; simp [intOf]; omega
        · have hke : k = n := by have := J2.out; omega
          subst hke
          clear hlt
          replace A2 := hAn A2 K.out.b
          replace A3 := hAn A3 K.out.b
          have V : Hid (Below y4.heap.size y4 y) := of_belowS V9.out K.out.b
          have K' : Hid (Fm w [(w.heap.size, oC ob, 26), (w.heap.size + 1, qC fr to s, 28), (bx, oC x, 26)] y) := K.out.f
          have hSa := same_ans A3 A2 hDl
          go_wp2_with (first
            | ((with_reducible refine at_load rtO w.heap.size (oC ob) ?_ ?_ (.tmp 2) ?_ ?_ ?_ ?_); exact K'.out.bx 0 _ _ _ rfl; rfl; (first | rfl | kernel_rfl); rfl; rfl)
            | ((with_reducible refine at_load rtO bx (oC x) ?_ ?_ (.tmp 8) ?_ ?_ ?_ ?_); exact K'.out.bx 2 _ _ _ rfl; rfl; (first | rfl | kernel_rfl); rfl; rfl)
            | (go_at_call 15; refine hSa.mono ?_; rintro e z3 ⟨rfl, H⟩; clear hSa; replace K' := hFm K' H.out; replace V := hBe V H.out; clear H)
            | (go_at_call 16; refine (hAl2.out _ V.out).mono ?_; rintro e z4 ⟨rfl, H⟩; clear hAl2; replace K' := hFm K' H.out; clear H))
          go_ret
          exact ⟨rfl, K'.out.low⟩
end Go.Proofs.YtkpfhnogpcigaaaDoorR
/- The statements' own: an object copied. What stands while its lists are made, in whatever order. -/
namespace Go.Proofs.YtkpfhnogpcigaaaDoorR
open Go Go.RowKit
set_option linter.unusedVariables false
set_option maxHeartbeats 3000000
set_option maxRecDepth 20000

section
variable {α : Type} {T t : TypeId} {s bts : Nat} {c : α → List Value}
theorem run_app0 (K : KdL T t s bts c) (w : World) (ty : TypeId) (B : Nat) (v : Value) (l : List α) (hown : OwnL t s c B w v l) (p : Option Addr) (cp : Nat) : (Builtin.append_ #[T, T] ty #[v, .slice p 0 cp]).run Tryd.prog w = .ok v w := by
  obtain ⟨i, z, hi, hz0, hz1, hz2, hz3⟩ := K.i
  have hl : ∀ (x : Addr), (loadCells x 0).run Tryd.prog w = .ok #[] w := fun x => by simpa using run_loadCells_list (P := Tryd.prog) w x [] (by simp)
  rcases hown.2 with ⟨rfl, h0⟩ | ⟨g, cap, cur, rfl, _, _, hnc, _⟩
  · cases p <;> simp [Builtin.append_, run_underlying K.u, sizeOf, typeInfo, hi, Builtin.lenOf, Builtin.firstCells, hl]
  · cases p <;> simp [Builtin.append_, run_underlying K.u, sizeOf, typeInfo, hi, Builtin.lenOf, Builtin.firstCells, hnc, storeCells, hl]
theorem run_appM (K : KdL T t s bts c) (w : World) (B : Nat) (v : Value) (l us : List α) (ty : TypeId) (hown : OwnL t s c B w v l) (p : Option Addr) (n cm : Nat) (hm : us.length = n) (hu : LiesL s c w p us) (hn : l.length + n ≤ 4000000000) (hB : B ≤ w.heap.size) :
    ∃ v' w', (Builtin.append_ #[T, T] ty #[v, .slice p n cm]).run Tryd.prog w = .ok v' w' ∧ OwnL t s c B w' v' (l ++ us) ∧ w.grownBy w' v.ownBlock := by
  subst hm
  by_cases h0 : us = []
  · subst h0
    exact ⟨v, w, run_app0 K w ty B v l hown p cm, by rw [List.append_nil]; exact hown, ⟨rfl, rfl, rfl, Nat.le_refl _, fun _ _ _ => rfl⟩⟩
  · obtain ⟨g0, o0, rfl, _⟩ := hu 0 _ (List.getElem?_eq_getElem (List.length_pos_iff.2 h0))
    obtain ⟨i, z, hi, hz0, hz1, hz2, hz3⟩ := K.i
    have hc : ∀ j u', (rowL c us)[j]? = some u' → w.cell? ((⟨g0, o0, none⟩ : Addr).add j) = some u' := fun j u' h => by
      rw [Addr.add_lit]
      exact hu.cells K.len K.s0 j u' h
    obtain ⟨v', w', h1, h2, h3, -⟩ := run_append_own (P := Tryd.prog) w B T ty t i z s bts K.u hi hz0 hz1 hz2 hz3 K.s0 v l.length (rowL c l) hown ⟨g0, o0, none⟩ us.length cm (rowL c us) (rowL_len K.len us) hc (rowL_cell K.one us) (by unfold maxLen; omega) (Nat.le_trans (Nat.mul_le_mul (show l.length + us.length ≤ 4000000000 by omega) K.b0) (by decide)) hB
    refine ⟨v', w', h1, ?_, h3⟩
    unfold OwnL
    rw [rowL_app, List.length_append]
    exact h2
theorem mkL (K : KdL T t s bts c) (y : World) (C : Nat) (hC : C ≤ 10000000000) : ∃ y1, (Instr.makeSlice T (.int .i64 0) (.int .i64 (C : Int))).run Tryd.prog y = .ok (.slice (some ⟨y.heap.size, 0, none⟩) 0 C) y1 ∧ KL t s c y (.slice (some ⟨y.heap.size, 0, none⟩) 0 C) ([] : List α) y1 := by
  obtain ⟨i, z, hi, hz0, hz1, hz2, hz3⟩ := K.i
  obtain ⟨y1, h1, h2, h3⟩ := run_make_own (P := Tryd.prog) y y.heap.size T t i z s K.u hi hz0 hz1 .i64 .i64 C (by rw [hz2]; exact Nat.le_trans (Nat.mul_le_mul K.b0 hC) (by decide)) (by unfold maxLen; omega) (Nat.le_refl _)
  exact ⟨y1, h1, h2, ⟨h3.os, h3.tape, h3.output, h3.size, fun k hk => h3.block k hk (by simp)⟩⟩
end
abbrev Fo (w : World) (ob : Oo) : List (Nat × Array Value × TypeId) := [(w.heap.size, oC ob, 26), (w.heap.size + 1, oC zO, 26)]
/-- What stands: the two boxes, and each list that was made. -/
structure Iv (w : World) (ob : Oo) (o1 o2 : Option Value) (l2 : List Mk) (o3 : Option Value) (l3 : List La) (o4 : Option Nat) (y : World) : Prop where
  base : Fm w (Fo w ob) y
  f1 : ∀ v, o1 = some v → OwnL 42 2 cK (w.heap.size + 2) y v []
  f2 : ∀ v, o2 = some v → OwnL 72 3 cM (w.heap.size + 2) y v l2
  f3 : ∀ v, o3 = some v → OwnL 61 2 cLa (w.heap.size + 2) y v l3
  f4 : ∀ b, o4 = some b → Bx y b (oC zO) 26 ∧ w.heap.size + 2 ≤ b
theorem two_le {w y : World} {ob : Oo} (h : Fm w (Fo w ob) y) : w.heap.size + 2 ≤ y.heap.size := by
  have := heap_lt (h.get 1 _ _ _ rfl)
  omega
theorem Iv.below {w y z : World} {ob : Oo} {o1 o2 o3 : Option Value} {l2 : List Mk} {l3 : List La} {o4 : Option Nat} (h : Iv w ob o1 o2 l2 o3 l3 o4 y) (k : Below y.heap.size y z) : Iv w ob o1 o2 l2 o3 l3 o4 z :=
  ⟨h.base.below k, fun v e => (h.f1 v e).below k, fun v e => (h.f2 v e).below k, fun v e => (h.f3 v e).below k, fun b e => ⟨(k.block b (heap_lt (h.f4 b e).1)).trans (h.f4 b e).1, (h.f4 b e).2⟩⟩
theorem Iv.m1 {w y : World} {ob : Oo} {o2 o3 : Option Value} {l2 : List Mk} {l3 : List La} {o4 : Option Nat} (h : Iv w ob none o2 l2 o3 l3 o4 y) (C : Nat) (hC : C ≤ 10000000000) : ∃ v y1, (Instr.makeSlice 22 (.int .i64 0) (.int .i64 (C : Int))).run Tryd.prog y = .ok v y1 ∧ Iv w ob (some v) o2 l2 o3 l3 o4 y1 := by
  obtain ⟨y1, h1, h2⟩ := mkL kBk y C hC
  have k := h.below h2.low
  exact ⟨_, y1, h1, ⟨k.base, fun v e => by cases e; exact h2.own.weak (two_le h.base), k.f2, k.f3, k.f4⟩⟩
theorem Iv.m2 {w y : World} {ob : Oo} {o1 o3 : Option Value} {l3 : List La} {o4 : Option Nat} (h : Iv w ob o1 none [] o3 l3 o4 y) (C : Nat) (hC : C ≤ 10000000000) : ∃ v y1, (Instr.makeSlice 23 (.int .i64 0) (.int .i64 (C : Int))).run Tryd.prog y = .ok v y1 ∧ Iv w ob o1 (some v) [] o3 l3 o4 y1 := by
  obtain ⟨y1, h1, h2⟩ := mkL kMk y C hC
  have k := h.below h2.low
  exact ⟨_, y1, h1, ⟨k.base, k.f1, fun v e => by cases e; exact h2.own.weak (two_le h.base), k.f3, k.f4⟩⟩
theorem Iv.m3 {w y : World} {ob : Oo} {o1 o2 : Option Value} {l2 : List Mk} {o4 : Option Nat} (h : Iv w ob o1 o2 l2 none [] o4 y) (C : Nat) (hC : C ≤ 10000000000) : ∃ v y1, (Instr.makeSlice 24 (.int .i64 0) (.int .i64 (C : Int))).run Tryd.prog y = .ok v y1 ∧ Iv w ob o1 o2 l2 (some v) [] o4 y1 := by
  obtain ⟨y1, h1, h2⟩ := mkL kLa y C hC
  have k := h.below h2.low
  exact ⟨_, y1, h1, ⟨k.base, k.f1, k.f2, fun v e => by cases e; exact h2.own.weak (two_le h.base), k.f4⟩⟩
theorem Iv.al {w y : World} {ob : Oo} {o1 o2 o3 : Option Value} {l2 : List Mk} {l3 : List La} (h : Iv w ob o1 o2 l2 o3 l3 none y) : Iv w ob o1 o2 l2 o3 l3 (some y.heap.size) (y.alloc (.cells (oC zO) 26)) := by
  have k := h.below (Below.alloc (Below.refl _ _) (Nat.le_refl _) (.cells (oC zO) 26))
  exact ⟨k.base, k.f1, k.f2, k.f3, fun b e => by cases e; exact ⟨((Fm.nil y).new _ _).get 0 _ _ _ rfl, two_le h.base⟩⟩
/-- A list that grew leaves what is of another type. -/
theorem own_grown {α β : Type} {t t' : TypeId} {s s' : Nat} {c : α → List Value} {c' : β → List Value} {B : Nat} {y z : World} {v u : Value} {l : List α} {l' : List β} (ho : OwnL t s c B y v l) (hk : OwnL t' s' c' B y u l') (hne : t ≠ t') (hg : y.grownBy z v.ownBlock) : OwnL t' s' c' B z u l' := hk.keepB fun g e => by
  refine hg.block g (hk.lt g e).2 fun e2 => ?_
  obtain ⟨cs, h1⟩ := ho.ty g e2.symm
  obtain ⟨ds, h2⟩ := hk.ty g e
  exact Bx.unlike h1 h2 hne rfl
theorem bx_grown {α : Type} {t t' : TypeId} {s : Nat} {c : α → List Value} {B : Nat} {y z : World} {v : Value} {l : List α} {b : Nat} {cs : Array Value} (ho : OwnL t s c B y v l) (hk : Bx y b cs t') (hne : t ≠ t') (hg : y.grownBy z v.ownBlock) : Bx z b cs t' := by
  refine (hg.block b (heap_lt hk) fun e2 => ?_).trans hk
  obtain ⟨ds, h1⟩ := ho.ty b e2.symm
  exact Bx.unlike h1 hk hne rfl
theorem fm_grown {α : Type} {t : TypeId} {s : Nat} {c : α → List Value} {w y z : World} {v : Value} {l : List α} {ob : Oo} (h : Fm w (Fo w ob) y) (ho : OwnL t s c (w.heap.size + 2) y v l) (hne : t ≠ 26) (hg : y.grownBy z v.ownBlock) : Fm w (Fo w ob) z := by
  refine ⟨fun i b cs u e => ?_, h.ge, h.ne, h.low.trans ⟨hg.os, hg.tape, hg.output, hg.size, fun k hk => hg.block k (Nat.lt_of_lt_of_le hk h.low.size) fun e => ?_⟩⟩
  · have ht : u = 26 := by
      match i, e with
      | 0, e => cases e; rfl
      | 1, e => cases e; rfl
    subst ht
    exact bx_grown ho (h.get i b cs _ e) hne hg
  · have := (ho.lt k e.symm).1
    omega
theorem Iv.a2 {w y : World} {ob : Oo} {o1 o3 : Option Value} {l3 : List La} {o4 : Option Nat} {v : Value} (h : Iv w ob o1 (some v) [] o3 l3 o4 y) (p : Option Addr) (M : List Mk) (n cm : Nat) (ty : TypeId) (hn : M.length = n) (hp : LiesL 3 cM w p M) (h9 : n ≤ 4000000000) : ∃ v' y1, (Builtin.append_ #[23, 23] ty #[v, .slice p n cm]).run Tryd.prog y = .ok v' y1 ∧ Iv w ob o1 (some v') M o3 l3 o4 y1 := by
  have ho := h.f2 v rfl
  obtain ⟨v', y1, h1, h2, h3⟩ := run_appM kMk y (w.heap.size + 2) v [] M ty ho p n cm hn (hp.below h.base.low) (by simpa using h9) (two_le h.base)
  exact ⟨v', y1, h1, ⟨fm_grown h.base ho (by decide) h3, fun u e => own_grown ho (h.f1 u e) (by decide) h3, fun u e => by cases e; simpa using h2, fun u e => own_grown ho (h.f3 u e) (by decide) h3, fun b e => ⟨bx_grown ho (h.f4 b e).1 (by decide) h3, (h.f4 b e).2⟩⟩⟩
theorem Iv.a3 {w y : World} {ob : Oo} {o1 o2 : Option Value} {l2 : List Mk} {o4 : Option Nat} {v : Value} (h : Iv w ob o1 o2 l2 (some v) [] o4 y) (p : Option Addr) (M : List La) (n cm : Nat) (ty : TypeId) (hn : M.length = n) (hp : LiesL 2 cLa w p M) (h9 : n ≤ 4000000000) : ∃ v' y1, (Builtin.append_ #[24, 24] ty #[v, .slice p n cm]).run Tryd.prog y = .ok v' y1 ∧ Iv w ob o1 o2 l2 (some v') M o4 y1 := by
  have ho := h.f3 v rfl
  obtain ⟨v', y1, h1, h2, h3⟩ := run_appM kLa y (w.heap.size + 2) v [] M ty ho p n cm hn (hp.below h.base.low) (by simpa using h9) (two_le h.base)
  exact ⟨v', y1, h1, ⟨fm_grown h.base ho (by decide) h3, fun u e => own_grown ho (h.f1 u e) (by decide) h3, fun u e => own_grown ho (h.f2 u e) (by decide) h3, fun u e => by cases e; simpa using h2, fun b e => ⟨bx_grown ho (h.f4 b e).1 (by decide) h3, (h.f4 b e).2⟩⟩⟩
end Go.Proofs.YtkpfhnogpcigaaaDoorR
/- The statements' own: an object copied. Its blocks, one behind another. -/
namespace Go.Proofs.YtkpfhnogpcigaaaDoorR
open Go Go.RowKit
set_option linter.unusedVariables false
set_option maxHeartbeats 3000000
set_option maxRecDepth 20000

abbrev F3 (w : World) (ob : Oo) (b : Nat) (v1 v2 v3 : Value) : List (Nat × Array Value × TypeId) := [(w.heap.size, oC ob, 26), (w.heap.size + 1, oC zO, 26), (b, #[v1, v2, v3], 26)]
/-- A block with its bytes in a box of their own, and room behind them. -/
def Rmy (B : Nat) (y : World) (q : Bb) : Prop := ∃ g, q.1.sp = some ⟨g, 0, none⟩ ∧ B ≤ g ∧ Bx y g (rU (q.2 ++ List.replicate 5 90)) 5 ∧ q.1.m = q.2.length ∧ q.1.cap = q.2.length + 5
/-- What stands while the blocks are put behind one another. -/
structure Cp (w : World) (ob : Oo) (b : Nat) (v1 v2 v3 : Value) (XB : List Bb) (y : World) : Prop where
  base : Fm w (F3 w ob b v1 v2 v3) y
  o1 : OwnL 42 2 cK (w.heap.size + 2) y v1 (XB.map (·.1))
  o2 : OwnL 72 3 cM (w.heap.size + 2) y v2 ob.M
  o3 : OwnL 61 2 cLa (w.heap.size + 2) y v3 ob.L
  by9 : ∀ q ∈ XB, Rmy (w.heap.size + 2) y q
theorem Cp.below {w y z : World} {ob : Oo} {b : Nat} {v1 v2 v3 : Value} {XB : List Bb} (h : Cp w ob b v1 v2 v3 XB y) (k : Below y.heap.size y z) : Cp w ob b v1 v2 v3 XB z :=
  ⟨h.base.below k, h.o1.below k, h.o2.below k, h.o3.below k, fun q hq => by
    obtain ⟨g, e1, e2, e3, e4⟩ := h.by9 q hq
    exact ⟨g, e1, e2, (k.block g (heap_lt e3)).trans e3, e4⟩⟩
theorem own_put {β : Type} {t' : TypeId} {s' : Nat} {c' : β → List Value} {B b : Nat} {y z : World} {u : Value} {l' : List β} {cs : Array Value} {t : TypeId} (hb : Bx y b cs t) (hk : OwnL t' s' c' B y u l') (hne : t ≠ t') (hg : ∀ q, q ≠ b → z.heap[q]? = y.heap[q]?) : OwnL t' s' c' B z u l' := hk.keepB fun g e => by
  obtain ⟨ds, h2⟩ := hk.ty g e
  exact hg g fun e3 => Bx.unlike hb h2 hne e3.symm
theorem Iv.stored {w y y1 : World} {ob : Oo} {v1 v2 v3 : Value} {b : Nat} (h : Iv w ob (some v1) (some v2) ob.M (some v3) ob.L (some b) y) (hw : Bx y1 b #[v1, v2, v3] 26 ∧ (∀ B, B ≤ b → Below B y y1) ∧ ∀ q, q ≠ b → y1.heap[q]? = y.heap[q]?) : Cp w ob b v1 v2 v3 [] y1 := by
  obtain ⟨hb, hb2⟩ := h.f4 b rfl
  refine ⟨⟨fun i g cs t e => ?_, fun i g cs t e => ?_, fun i j g c1 c2 t1 t2 e1 e2 => ?_, h.base.low.trans (hw.2.1 _ (by omega))⟩, own_put hb (h.f1 v1 rfl) (by decide) hw.2.2, own_put hb (h.f2 v2 rfl) (by decide) hw.2.2, own_put hb (h.f3 v3 rfl) (by decide) hw.2.2, fun q hq => by cases hq⟩
  · match i, e with
    | 0, e => cases e; exact (hw.2.2 _ (by omega)).trans (h.base.get 0 _ _ _ rfl)
    | 1, e => cases e; exact (hw.2.2 _ (by omega)).trans (h.base.get 1 _ _ _ rfl)
    | 2, e => cases e; exact hw.1
  · match i, e with
    | 0, e => cases e; exact Nat.le_refl _
    | 1, e => cases e; exact Nat.le_succ _
    | 2, e => cases e; omega
  · match i, j, e1, e2 with
    | 0, 0, _, _ => rfl
    | 1, 1, _, _ => rfl
    | 2, 2, _, _ => rfl
    | 0, 1, e1, e2 => cases e1; simp at e2
    | 0, 2, e1, e2 => cases e1; simp at e2; omega
    | 1, 0, e1, e2 => cases e1; simp at e2
    | 1, 2, e1, e2 => cases e1; simp at e2; omega
    | 2, 0, e1, e2 => cases e1; simp at e2; omega
    | 2, 1, e1, e2 => cases e1; simp at e2; omega
/-- One block more. -/
theorem Cp.step {w y : World} {ob : Oo} {b : Nat} {v1 v2 v3 : Value} {XB : List Bb} (h : Cp w ob b v1 v2 v3 XB y) (X : Bb) (hX : Rmy (w.heap.size + 2) y X) (ty : TypeId) (hn : XB.length ≤ 2147483647) :
    ∃ v1' y3, (Builtin.append_ #[22, 22] ty #[v1, .slice (some ⟨y.heap.size, 0, none⟩) 1 1]).run Tryd.prog (y.alloc (.cells (k2 X.1) 42)) = .ok v1' y3 ∧ (∃ c, y3.cell? ⟨b, 0, none⟩ = some c) ∧ y3.frozen? ⟨b, 0, none⟩ = false ∧ Cp w ob b v1' v2 v3 (XB ++ [X]) (y3.setCell ⟨b, 0, none⟩ v1') := by
  obtain ⟨y0, hy0⟩ : ∃ y0, y.alloc (.cells (k2 X.1) 42) = y0 := ⟨_, rfl⟩
  have hbl : Below y.heap.size y y0 := by rw [← hy0]; exact Below.alloc (Below.refl _ _) (Nat.le_refl _) _
  have h0 := h.below hbl
  have hbx : Bx y0 y.heap.size (k2 X.1) 42 := by rw [← hy0]; exact ((Fm.nil y).new _ _).get 0 _ _ _ rfl
  have hli : LiesL 2 cK y0 (some ⟨y.heap.size, 0, none⟩) [X.1] := fun i q hq => by
    match i, hq with
    | 0, hq =>
      cases hq
      refine ⟨y.heap.size, 0, rfl, fun j v hv => ?_⟩
      have := hbx.c j v (by rw [← Array.getElem?_toList]; exact hv)
      simpa using this
  have hsz : w.heap.size + 2 ≤ y0.heap.size := by
    have := heap_lt (h0.base.get 1 _ _ _ rfl)
    omega
  obtain ⟨v1', y3, r1, r2, r3⟩ := run_appM kBk y0 (w.heap.size + 2) v1 (XB.map (·.1)) [X.1] ty h0.o1 (some ⟨y.heap.size, 0, none⟩) 1 1 rfl hli (by rw [List.length_map]; omega) hsz
  have b3 : Bx y3 b #[v1, v2, v3] 26 := bx_grown h0.o1 (h0.base.get 2 _ _ _ rfl) (by decide) r3
  have f3 : Fm w (F3 w ob b v1 v2 v3) y3 := by
    refine ⟨fun i g cs t e => ?_, h0.base.ge, h0.base.ne, h0.base.low.trans ⟨r3.os, r3.tape, r3.output, r3.size, fun k hk => r3.block k (Nat.lt_of_lt_of_le hk h0.base.low.size) fun e => ?_⟩⟩
    · have ht : t = 26 := by
        match i, e with
        | 0, e => cases e; rfl
        | 1, e => cases e; rfl
        | 2, e => cases e; rfl
      subst ht
      exact bx_grown h0.o1 (h0.base.get i g cs _ e) (by decide) r3
    · have := (h0.o1.lt k e.symm).1
      omega
  have hoth : ∀ q, q ≠ b → (y3.setCell ⟨b, 0, none⟩ v1').heap[q]? = y3.heap[q]? := fun q hq => heap_setCell_other y3 ⟨b, 0, none⟩ q v1' hq
  refine ⟨v1', y3, by rw [hy0]; exact r1, ⟨_, b3.c 0 v1 rfl⟩, b3.fz 0, ⟨f3.setCell 2 b _ #[v1', v2, v3] _ rfl 0 v1' rfl, ?_, ?_, ?_, fun q hq => ?_⟩⟩
  · rw [List.map_append]
    exact own_put b3 r2 (by decide) hoth
  · exact own_put b3 (own_grown h0.o1 h0.o2 (by decide) r3) (by decide) hoth
  · exact own_put b3 (own_grown h0.o1 h0.o3 (by decide) r3) (by decide) hoth
  · have k : Rmy (w.heap.size + 2) y0 q := by
      rcases List.mem_append.1 hq with hq | hq
      · exact h0.by9 q hq
      · simp at hq
        subst hq
        obtain ⟨g, e1, e2, e3, e4⟩ := hX
        exact ⟨g, e1, e2, (hbl.block g (heap_lt e3)).trans e3, e4⟩
    obtain ⟨g, e1, e2, e3, e4⟩ := k
    have e5 := bx_grown h0.o1 e3 (by decide) r3
    exact ⟨g, e1, e2, (hoth g fun e => Bx.unlike e5 b3 (by decide) e).trans e5, e4⟩
end Go.Proofs.YtkpfhnogpcigaaaDoorR
/- The statements' own: an object copied. The laws of a round. -/
namespace Go.Proofs.YtkpfhnogpcigaaaDoorR
open Go Go.RowKit
set_option linter.unusedVariables false
set_option maxHeartbeats 3000000
set_option maxRecDepth 20000

theorem fillK (p : Bk) : Instr.fill (fun i => some (i * 2, 2)) ((Array.range (1 * 2)).map ((Value.agg (k2 zK)).cells[· % (Value.agg (k2 zK)).cells.size]!)) [(0, .agg (k2 p))] = some (k2 p) := by kernel_rfl
theorem at_bsK {ops : Array Oper} {rest : List Oper} {o : Oper} {a : Act} {w : World} {Q : Exit → Act → World → Prop} (p : Bk) (x : Operand) (hgd : o.guard = none) (ho : o.op = .buildSlice 22 1 #[(0, x)]) (hx : a.eval x = .agg (k2 p))
    (h : wpList Tryd.prog ops Q rest (a.put o.dst (.slice (some ⟨w.heap.size, 0, none⟩) 1 1)) (w.alloc (.cells (k2 p) 42))) : wpList Tryd.prog ops Q (o :: rest) a w := by
  obtain ⟨i, hi, hz0, hz1, hz2⟩ := info_parts infoK
  refine wpList_buildSlice hgd 22 42 1 #[(0, x)] ho (k2 p) i _ Tryd.underlying22 hi hz0 (by rw [hz1]; decide) (by rw [hz1]; decide) ?_ h
  rw [hz1]
  have e : (#[(0, x)].map fun (i, x) => (i, a.eval x)).toList = [(0, .agg (k2 p))] := by simp [hx]
  rw [e]
  exact fillK p
theorem wp_bsK {o : Oper} {a : Act} {w : World} {K : Act → World → Prop} {Q : Exit → Act → World → Prop} (p : Bk) (x : Operand) (ho : o.op = .buildSlice 22 1 #[(0, x)]) (hx : a.eval x = .agg (k2 p))
    (h : K (a.put o.dst (.slice (some ⟨w.heap.size, 0, none⟩) 1 1)) (w.alloc (.cells (k2 p) 42))) : o.wp Tryd.prog a w K Q := by
  obtain ⟨i, hi, hz0, hz1, hz2⟩ := info_parts infoK
  refine wp_buildSlice 22 42 1 #[(0, x)] ho (k2 p) i _ Tryd.underlying22 hi hz0 (by rw [hz1]; decide) (by rw [hz1]; decide) ?_ h
  rw [hz1]
  have e : (#[(0, x)].map fun (i, x) => (i, a.eval x)).toList = [(0, .agg (k2 p))] := by simp [hx]
  rw [e]
  exact fillK p
theorem own_form {α : Type} {t : TypeId} {s : Nat} {c : α → List Value} (hc : ∀ x, (c x).length = s) {B : Nat} {w : World} {v : Value} {l : List α} (h : OwnL t s c B w v l) : ∃ q N k, v = .slice q N k := by
  obtain ⟨q, k, e, -⟩ := h.open hc
  exact ⟨q, _, k, e⟩
theorem wp_appR {o : Oper} {a : Act} {w : World} {K : Act → World → Prop} {Q : Exit → Act → World → Prop} (T : TypeId) (sl x : Operand) (ho : o.op = .call { callee := .builtin .append, args := #[sl, x], argTypes := #[T, T] })
    (v xv : Value) (hs : a.eval sl = v) (hx : a.eval x = xv) (v' : Value) (w' : World) (hrun : (Builtin.append_ #[T, T] o.type #[v, xv]).run Tryd.prog w = .ok v' w') (k : K (a.put o.dst v') w') : o.wp Tryd.prog a w K Q := by
  unfold Oper.wp
  simp [execOp, ho, resolve, invoke, builtin, hs, hx, hrun, Result.andThen]
  exact k
theorem at_appR {ops : Array Oper} {rest : List Oper} {o : Oper} {a : Act} {w : World} {Q : Exit → Act → World → Prop} (T : TypeId) (hgd : o.guard = none) (sl x : Operand) (ho : o.op = .call { callee := .builtin .append, args := #[sl, x], argTypes := #[T, T] })
    (v xv : Value) (hs : a.eval sl = v) (hx : a.eval x = xv) (v' : Value) (w' : World) (hrun : (Builtin.append_ #[T, T] o.type #[v, xv]).run Tryd.prog w = .ok v' w') (k : wpList Tryd.prog ops Q rest (a.put o.dst v') w') : wpList Tryd.prog ops Q (o :: rest) a w := by
  refine wpList_plain hgd fun K' hK => ?_
  unfold Oper.wp
  simp [execOp, ho, resolve, invoke, builtin, hs, hx, hrun, Result.andThen]
  exact hK _ _ k
theorem builtK (a : Int) (sp : Option Addr) (m cap : Nat) : Tryd.prog.built 42 [(0, .int .i64 a), (1, .slice sp m cap)] = some (k2 ⟨a, sp, m, cap⟩) := by kernel_rfl
/-- What the copy is, when all its blocks are there. -/
theorem Cp.done {w y z : World} {ob : Oo} {b : Nat} {v1 v2 v3 : Value} {XB : List Bb} (h : Cp w ob b v1 v2 v3 XB y) (hl : Lco w ob) (hp : plB XB = plB ob.B) (hk : Below (w.heap.size + 1) y z) (hk2 : ∀ q, q ≠ w.heap.size + 1 → z.heap[q]? = y.heap[q]?) : ∃ x : Oo, #[v1, v2, v3] = oC x ∧ Below w.heap.size w z ∧ Lco z x ∧ plB x.B = plB ob.B ∧ x.M = ob.M ∧ x.L = ob.L ∧ ∀ q ∈ x.B, ∃ g, q.1.sp = some ⟨g, 0, none⟩ ∧ LB8 z (some ⟨g, 0, none⟩) (q.2 ++ List.replicate 5 90) ∧ q.1.cap = q.2.length + 5 := by
  have hbb : Bx y (w.heap.size + 1) (oC zO) 26 := h.base.get 1 _ _ _ rfl
  have p1 := own_put hbb h.o1 (by decide) hk2
  have p2 := own_put hbb h.o2 (by decide) hk2
  have p3 := own_put hbb h.o3 (by decide) hk2
  obtain ⟨q1, k1, rfl, l1, -, -, c1⟩ := p1.open kBk.len
  obtain ⟨q2, k2, rfl, l2, -, -, c2⟩ := p2.open kMk.len
  obtain ⟨q3, k3, rfl, l3, -, -, c3⟩ := p3.open kLa.len
  have hlen : XB.length = ob.B.length := by
    have := congrArg List.length hp
    rw [List.length_map, List.length_map] at this
    exact this
  have hby : ∀ q ∈ XB, ∃ g, q.1.sp = some ⟨g, 0, none⟩ ∧ LB8 z (some ⟨g, 0, none⟩) (q.2 ++ List.replicate 5 90) ∧ q.1.cap = q.2.length + 5 ∧ q.1.m = q.2.length := fun q hq => by
    obtain ⟨g, e1, e2, e3, e4, e5⟩ := h.by9 q hq
    have e6 : Bx z g (rU (q.2 ++ List.replicate 5 90)) 5 := (hk2 g (by omega)).trans e3
    refine ⟨g, e1, fun j v hv => ⟨g, 0, rfl, ?_⟩, e5, e4⟩
    rw [Nat.zero_add]
    exact e6.c j (byV v) (by unfold rU; rw [List.getElem?_toArray, List.getElem?_map, hv]; rfl)
  have hin : ∀ q ∈ XB, ∃ o ∈ ob.B, q.1.a = o.1.a ∧ q.2 = o.2 := fun q hq => by
    have h1 : (q.1.a, q.2) ∈ plB ob.B := by rw [← hp]; exact List.mem_map_of_mem (f := fun x : Bb => (x.1.a, x.2)) hq
    obtain ⟨o, ho, e⟩ := List.mem_map.1 h1
    exact ⟨o, ho, (Prod.mk.inj e).1.symm, (Prod.mk.inj e).2.symm⟩
  refine ⟨⟨q1, k1, XB, q2, k2, ob.M, q3, k3, ob.L⟩, by unfold oC; rw [List.length_map], h.base.low.trans (hk.mono (Nat.le_succ _)), ⟨⟨l1, l2, l3, fun q hq => ?_, fun q hq => ?_, hl.lo.im, hl.lo.il, by rw [hlen]; exact hl.lo.n⟩, fun q hq => ?_, c2⟩, hp, rfl, rfl, fun q hq => ?_⟩
  · obtain ⟨g, e1, e2, e3, e4⟩ := hby q hq
    refine ⟨?_, e4.symm⟩
    rw [e1]
    intro j v hv
    exact e2 j v (by rw [List.getElem?_append_left (List.getElem?_eq_some_iff.1 hv).1]; exact hv)
  · obtain ⟨o, ho, e1, e2⟩ := hin q hq
    obtain ⟨g, f1, f2, f3, f4⟩ := hby q hq
    have i1 := hl.lo.ib o ho
    have i2 := (hl.lo.g o ho).2
    exact ⟨by rw [e1]; exact i1.1, by rw [f4, e2, i2]; exact i1.2⟩
  · obtain ⟨g, f1, f2, f3, f4⟩ := hby q hq
    omega
  · obtain ⟨g, f1, f2, f3, f4⟩ := hby q hq
    exact ⟨g, f1, f2, f3⟩
end Go.Proofs.YtkpfhnogpcigaaaDoorR
