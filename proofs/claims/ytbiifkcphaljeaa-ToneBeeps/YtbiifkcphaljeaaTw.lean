/- The levels of a trace: the program's. -/
import Derived.Test.YtbiifkcphaljeaaTv
namespace Go.Proofs.Ytbiifkcphaljeaa
open Go Go.RowKit
set_option linter.unusedVariables false
set_option maxHeartbeats 2000000
set_option maxRecDepth 20000

theorem op_app {P : Program} {o : Oper} {a : Act} {K : Act → World → Prop} {Q : Exit → Act → World → Prop} {w w' : World} {v u v' : Value} (s x : Operand) (t : TypeId) (ho : o.op = .call { callee := .builtin .append, args := #[s, x], argTypes := #[t, t] }) (hs : a.eval s = v) (hx : a.eval x = u) (hr : (Builtin.append_ #[t, t] o.type #[v, u]).run P w = .ok v' w') (h : K (a.put o.dst v') w') : o.wp P a w K Q := by
  unfold Oper.wp execOp
  simp only [ho, resolve, invoke, builtin, Sem.run_bind, Sem.run_pure, Result.andThen_ok, List.map_toArray, List.map_cons, List.map_nil, hs, hx, hr]
  exact h
section
variable {α : Type} {T t : TypeId} {s bts : Nat} {c : α → List Value}
/-- Within what is done with a row: the list in its box, the row in its own. -/
structure Zo (T t : TypeId) (s : Nat) (c : α → List Value) (n0 bo rb : Nat) (rw : Array Value) (W : World) (v : Value) (l : List α) (z : World) : Prop where
  box : Bx z bo #[v] T
  own : OwnL t s c n0 z v l
  row : Bx z rb rw 45
  kp : Keep3 n0 W z
  ge : n0 ≤ z.heap.size
theorem Zo.below {n0 bo rb : Nat} {rw : Array Value} {W z z' : World} {v : Value} {l : List α} (h : Zo T t s c n0 bo rb rw W v l z) (hb : Below z.heap.size z z') : Zo T t s c n0 bo rb rw W v l z' :=
  ⟨(hb.block bo (heap_lt h.box)).trans h.box, h.own.below hb, (hb.block rb (heap_lt h.row)).trans h.row, h.kp.trans (Keep3.below hb h.ge), Nat.le_trans h.ge hb.size⟩
theorem Zo.app (K : KdL T t s bts c) (hT : T ≠ t) (ht : Oth3 t) {n0 bo rb : Nat} {rw : Array Value} {W z : World} {v : Value} {l : List α} (h : Zo T t s c n0 bo rb rw W v l z) (u : α) (ty : TypeId) (hn : l.length ≤ 4000000000) :
    ∃ sp' m' cap' y, (Builtin.append_ #[T, T] ty #[v, .slice (some ⟨z.heap.size, 0, none⟩) 1 1]).run Try.prog (z.alloc (.cells (c u).toArray t)) = .ok (.slice sp' m' cap') y ∧ Bx y bo #[v] T ∧ OwnL t s c n0 y (.slice sp' m' cap') (l ++ [u]) ∧ Bx y rb rw 45 ∧ Keep3 n0 W y ∧ n0 ≤ y.heap.size := by
  have h1 := h.below (below1 z (.cells (c u).toArray t))
  obtain ⟨v', y, r1, r2, r3⟩ := run_appL K (z.alloc (.cells (c u).toArray t)) n0 v l ty h1.own z.heap.size u (one_bx _ _ _) hn h1.ge
  obtain ⟨sp', cap', rfl, -⟩ := r2.open K.len
  have k := Keep3.grown h1.own ht h1.ge r3
  exact ⟨sp', _, cap', y, r1, h1.own.boxK h1.box hT r3, r2, k.ty _ _ _ h1.row (.inr (.inr rfl)), h1.kp.trans k, Nat.le_trans h1.ge r3.size⟩
theorem Zo.fin (hT : T ≠ t) (hT3 : Oth3 T) {n0 bo rb : Nat} {rw : Array Value} {W y : World} {v v' : Value} {l : List α} (hb : Bx y bo #[v] T) (ho : OwnL t s c n0 y v' l) (hr : Bx y rb rw 45) (hk : Keep3 n0 W y) (hn : n0 ≤ bo) (hy : n0 ≤ y.heap.size) : Zo T t s c n0 bo rb rw W v' l (y.setCell ⟨bo, 0, none⟩ v') := by
  have k := Keep3.set hb hT3 hn v'
  refine ⟨heap_setCell_same y bo 0 #[v] T v' hb, ho.keepB fun g e => ?_, k.ty _ _ _ hr (.inr (.inr rfl)), hk.trans k, Nat.le_trans hy k.low.size⟩
  obtain ⟨cs, hg⟩ := ho.ty g e
  exact heap_setCell_other y ⟨bo, 0, none⟩ g v' (fun e' => hb.unlike hg hT e'.symm)
end
theorem lev1_any (W : World) (n0 bo : Nat) (x : Rw) (hx : x.ok) (l : List Int) (hW : n0 ≤ W.heap.size) (hbo : n0 ≤ bo) (hn : l.length ≤ 2147483648) (h : Hid (Ho 35 3 1 cI n0 bo l W)) :
    Calls Try.prog 23 #[.agg (rwC x), .pointer (some ⟨bo, 0, none⟩)] W fun e W' => (∃ v, e = .returned v) ∧ Hid (Keep3 n0 W W' ∧ Ho 35 3 1 cI n0 bo (levS l x) W') := by
  obtain ⟨v, hv, ho⟩ := h.out
  have hrec := fun z => span_any z x hx
  obtain ⟨a, b, q⟩ := x
  obtain ⟨sp, cap, rfl, -⟩ := ho.open kInt.len
  dsimp only [rwC] at hrec ⊢
  have hrec : Hid _ := hrec
  have Z0 : Hid (Zo 35 3 1 cI n0 bo W.heap.size #[.int .i64 a, .int .i64 b, .bool q] W (.slice sp l.length cap) l (W.alloc (.cells #[.int .i64 a, .int .i64 b, .bool q] 45))) :=
    ⟨((below1 W _).block bo (heap_lt hv)).trans hv, ho.below (below1 W _), one_bx _ _ _, Keep3.alloc W _ hW, by simp; omega⟩
  have hl : Hid (l.length ≤ 2147483648) := hn
  have cl := Z0.out.box.c 0 (.slice sp l.length cap) rfl
  have fl := Z0.out.box.fz 0
  obtain ⟨D, hD⟩ : ∃ D, b - a = D := ⟨_, rfl⟩
  rw [hD] at hrec
  have eS : Hid (levS l ⟨a, b, q⟩ = baseL q l ++ [D]) := by show _ = _; rw [← hD]; rfl
  obtain ⟨n, hnl⟩ : ∃ n, l.length = n := ⟨_, rfl⟩
  rw [hnl] at Z0 cl
  have hnl : Hid (l.length = n) := hnl
  rw [eS.out]
  clear h hn hv ho hx hW hD eS
  rcases Bool.eq_false_or_eq_true q with rfl | rfl
  · rcases Nat.eq_zero_or_pos n with rfl | h0
    · have eB : Hid (baseL true l = l ++ [0]) := by show _ = _; unfold baseL; rw [if_pos ⟨rfl, hnl.out⟩]
      rw [eB.out]
      have hX : Hid (Bx ((W.alloc (.cells #[.int .i64 a, .int .i64 b, .bool true] 45)).alloc (.cells #[.int .i64 0] 3)) (W.heap.size + 1) (cI 0).toArray 3) := by
        have := one_bx (W.alloc (.cells #[.int .i64 a, .int .i64 b, .bool true] 45)) (cI 0).toArray 3
        rw [World.size_alloc] at this
        exact this
      go_enter Try.func23, Try.ntmps23
      go_wp2_with (at_builtin; refine at_appL kInt rfl (.tmp 10) (.tmp 11) rfl n0 (.slice sp 0 cap) l rfl (Z0.out.own.alloc _) (W.heap.size + 1) 0 rfl ?_ ?_ ?_ ?_; exact hX.out; (have := hl.out; omega); (have := Z0.out.ge; simp at this ⊢; omega); intro v' y2 A; refine stopAt ?_)
      have o1 := Z0.out.below (below1 _ (.cells (cI 0).toArray 3))
      have k2 := Keep3.app o1.own ⟨by decide, by decide, by decide⟩ A.out
      have b2 : Hid (Bx y2 bo #[.slice sp 0 cap] 35) := A.out.boxK o1.own o1.box (by decide)
      have o2 : Hid (OwnL 3 1 cI n0 y2 v' (l ++ [0])) := A.out.own
      obtain ⟨sp2, cap2, rfl, -⟩ := o2.out.open kInt.len
      obtain ⟨m, hm⟩ : ∃ m, (l ++ [(0 : Int)]).length = m := ⟨_, rfl⟩
      rw [hm] at o2 ⊢
      have Z0' : Hid (Zo 35 3 1 cI n0 bo W.heap.size #[.int .i64 a, .int .i64 b, .bool true] W (.slice sp2 m cap2) (l ++ [0]) (y2.setCell ⟨bo, 0, none⟩ (.slice sp2 m cap2))) := Zo.fin (by decide) ⟨by decide, by decide, by decide⟩ b2.out o2.out (k2.ty _ _ _ o1.row (.inr (.inr rfl))) (o1.kp.trans k2) hbo (Nat.le_trans o1.ge k2.low.size)
      have cc := b2.out.c 0 (.slice sp 0 cap) rfl
      have cf := b2.out.fz 0
      have hl2 : Hid ((l ++ [(0 : Int)]).length ≤ 2147483649) := by show _ ≤ _; have := hl.out; rw [List.length_append]; simp; omega
      clear A o1 k2 hm cl fl Z0
      refine Stop.go ?_
      go_wp2
      generalize y2.setCell ⟨bo, 0, none⟩ (.slice sp2 m cap2) = y3 at Z0' ⊢
      have Z0 := Z0'
      clear Z0'
      clear cc cf b2 o2
      have Z1 : Hid (Zo 35 3 1 cI n0 bo W.heap.size #[.int .i64 a, .int .i64 b, .bool true] W (.slice sp2 m cap2) (l ++ [0]) y3.drew) := Z0.out.below (below_drew (Below.refl _ _))
      refine wp_region_held_drew (S := fun z => Bx z W.heap.size #[.int .i64 a, .int .i64 b, .bool true] 45) (by kernel_rfl) Z1.out.row (fun hH => ?_)
      generalize y3.drew = z0 at hH Z1 ⊢
      clear Z0
      refine wpAnyH_take (i := 1) (v := .agg #[.int .i64 a, .int .i64 b, .bool true]) rfl (by kernel_rfl) (by kernel_rfl) (by kernel_rfl) (fun _ _ _ h => h) (.inl ⟨by kernel_rfl, fun u hu => by have d0 := hu.c 0 (.int .i64 a) rfl; have d1 := hu.c 1 (.int .i64 b) rfl; have d2 := hu.c 2 (.bool true) rfl; go_simp⟩) hH ?_
      try simp only [Act.put, List.setIfInBounds_toArray]
      refine wpAnyH_ready (rs := [0, 2]) (by kernel_rfl) (by simp) (AllReadyH.cons rfl (fun K hK => ?_) (AllReadyH.cons rfl (fun K hK => ?_) AllReadyH.nil))
      · skip
        rw [if_pos (by rfl)]
        have cl := Z1.out.box.c 0 (.slice sp2 m cap2) rfl
        go_wp2
        refine hK.out _ _ Z1.out.row (fun hH => ?_)
        clear hK K cl
        try simp only [Act.put, List.setIfInBounds_toArray, List.set_cons_zero, List.set_cons_succ]
        refine wpAnyH_ready (rs := [2]) (by kernel_rfl) (by simp) (AllReadyH.cons rfl (fun K hK => ?_) AllReadyH.nil)
        rw [if_pos (by rfl)]
        go_wp2_with (go_at_call 22; refine (hrec.out z0).mono ?_; rintro e z1 ⟨rfl, hz1⟩; refine stopAt ?_)
        have Z2 : Hid (Zo 35 3 1 cI n0 bo W.heap.size #[.int .i64 a, .int .i64 b, .bool true] W (.slice sp2 m cap2) (l ++ [0]) z1) := Z1.out.below hz1.out
        clear Z1 hz1 hH
        refine Stop.go ?_
        refine hK.out _ _ Z2.out.row (fun hH => ?_)
        clear hK K
        try simp only [Act.put, List.setIfInBounds_toArray, List.set_cons_zero, List.set_cons_succ]
        refine wpAnyH_ready (rs := [3]) (by kernel_rfl) (by simp) (AllReadyH.cons rfl (fun K hK => ?_) AllReadyH.nil)
        rw [if_pos (by rfl)]
        go_wp2
        obtain ⟨sp', m', cap', y6, hrun, A1, A2, A3, A4, A5⟩ := Z2.out.app kInt (by decide) ⟨by decide, by decide, by decide⟩ (D) 35 (by have := hl2.out; omega)
        replace hrun : Hid _ := hrun
        replace A1 : Hid _ := A1
        replace A2 : Hid _ := A2
        replace A3 : Hid _ := A3
        replace A4 : Hid _ := A4
        replace A5 : Hid _ := A5
        refine hK.out _ _ (Z2.out.below (below1 z1 _)).row (fun hH => ?_)
        clear hK K
        try simp only [Act.put, List.setIfInBounds_toArray, List.set_cons_zero, List.set_cons_succ]
        refine wpAnyH_ready (rs := [4]) (by kernel_rfl) (by simp) (AllReadyH.cons rfl (fun K hK => ?_) AllReadyH.nil)
        rw [if_pos (by rfl)]
        refine op_app (v := .slice sp2 m cap2) (u := .slice (some ⟨z1.heap.size, 0, none⟩) 1 1) (.tmp 13) (.tmp 16) 35 rfl rfl rfl hrun.out ?_
        refine hK.out _ _ A3.out (fun hH => ?_)
        clear hK K
        try simp only [Act.put, List.setIfInBounds_toArray]
        refine wpAnyH_ready (rs := [5]) (by kernel_rfl) (by simp) (AllReadyH.cons rfl (fun K hK => ?_) AllReadyH.nil)
        rw [if_pos (by rfl)]
        have c12 := Bx.c A1.out 0 (.slice sp2 m cap2) rfl
        have f12 := Bx.fz A1.out 0
        go_wp2
        have Z9 : Hid (Zo 35 3 1 cI n0 bo W.heap.size #[.int .i64 a, .int .i64 b, .bool true] W (.slice sp' m' cap') ((l ++ [0]) ++ [D]) (y6.setCell ⟨bo, 0, none⟩ (.slice sp' m' cap'))) := Zo.fin (by decide) ⟨by decide, by decide, by decide⟩ A1.out A2.out A3.out A4.out hbo A5.out
        refine hK.out _ _ Z9.out.row (fun hH => ?_)
        clear hK K c12 f12
        try simp only [Act.put, List.setIfInBounds_toArray, List.set_cons_zero, List.set_cons_succ]
        refine wpAnyH_done (by kernel_rfl) ?_ _
        generalize y6.setCell ⟨bo, 0, none⟩ (.slice sp' m' cap') = y7 at Z9 ⊢
        go_wp2
        go_end0
        exact ⟨⟨_, rfl⟩, ⟨Z9.out.kp, ⟨_, Z9.out.box, Z9.out.own⟩⟩⟩
      · skip
        rw [if_pos (by rfl)]
        go_wp2_with (go_at_call 22; refine (hrec.out z0).mono ?_; rintro e z1 ⟨rfl, hz1⟩; refine stopAt ?_)
        have Z2 : Hid (Zo 35 3 1 cI n0 bo W.heap.size #[.int .i64 a, .int .i64 b, .bool true] W (.slice sp2 m cap2) (l ++ [0]) z1) := Z1.out.below hz1.out
        clear Z1 hz1 hH
        refine Stop.go ?_
        refine hK.out _ _ Z2.out.row (fun hH => ?_)
        clear hK K
        try simp only [Act.put, List.setIfInBounds_toArray, List.set_cons_zero, List.set_cons_succ]
        refine wpAnyH_ready (rs := [0, 3]) (by kernel_rfl) (by simp) (AllReadyH.cons rfl (fun K hK => ?_) (AllReadyH.cons rfl (fun K hK => ?_) AllReadyH.nil))
        · skip
          rw [if_pos (by rfl)]
          have cl := Z2.out.box.c 0 (.slice sp2 m cap2) rfl
          go_wp2
          refine hK.out _ _ Z2.out.row (fun hH => ?_)
          clear hK K cl
          try simp only [Act.put, List.setIfInBounds_toArray, List.set_cons_zero, List.set_cons_succ]
          refine wpAnyH_ready (rs := [3]) (by kernel_rfl) (by simp) (AllReadyH.cons rfl (fun K hK => ?_) AllReadyH.nil)
          rw [if_pos (by rfl)]
          go_wp2
          obtain ⟨sp', m', cap', y6, hrun, A1, A2, A3, A4, A5⟩ := Z2.out.app kInt (by decide) ⟨by decide, by decide, by decide⟩ (D) 35 (by have := hl2.out; omega)
          replace hrun : Hid _ := hrun
          replace A1 : Hid _ := A1
          replace A2 : Hid _ := A2
          replace A3 : Hid _ := A3
          replace A4 : Hid _ := A4
          replace A5 : Hid _ := A5
          refine hK.out _ _ (Z2.out.below (below1 z1 _)).row (fun hH => ?_)
          clear hK K
          try simp only [Act.put, List.setIfInBounds_toArray, List.set_cons_zero, List.set_cons_succ]
          refine wpAnyH_ready (rs := [4]) (by kernel_rfl) (by simp) (AllReadyH.cons rfl (fun K hK => ?_) AllReadyH.nil)
          rw [if_pos (by rfl)]
          refine op_app (v := .slice sp2 m cap2) (u := .slice (some ⟨z1.heap.size, 0, none⟩) 1 1) (.tmp 13) (.tmp 16) 35 rfl rfl rfl hrun.out ?_
          refine hK.out _ _ A3.out (fun hH => ?_)
          clear hK K
          try simp only [Act.put, List.setIfInBounds_toArray]
          refine wpAnyH_ready (rs := [5]) (by kernel_rfl) (by simp) (AllReadyH.cons rfl (fun K hK => ?_) AllReadyH.nil)
          rw [if_pos (by rfl)]
          have c12 := Bx.c A1.out 0 (.slice sp2 m cap2) rfl
          have f12 := Bx.fz A1.out 0
          go_wp2
          have Z9 : Hid (Zo 35 3 1 cI n0 bo W.heap.size #[.int .i64 a, .int .i64 b, .bool true] W (.slice sp' m' cap') ((l ++ [0]) ++ [D]) (y6.setCell ⟨bo, 0, none⟩ (.slice sp' m' cap'))) := Zo.fin (by decide) ⟨by decide, by decide, by decide⟩ A1.out A2.out A3.out A4.out hbo A5.out
          refine hK.out _ _ Z9.out.row (fun hH => ?_)
          clear hK K c12 f12
          try simp only [Act.put, List.setIfInBounds_toArray, List.set_cons_zero, List.set_cons_succ]
          refine wpAnyH_done (by kernel_rfl) ?_ _
          generalize y6.setCell ⟨bo, 0, none⟩ (.slice sp' m' cap') = y7 at Z9 ⊢
          go_wp2
          go_end0
          exact ⟨⟨_, rfl⟩, ⟨Z9.out.kp, ⟨_, Z9.out.box, Z9.out.own⟩⟩⟩
        · skip
          rw [if_pos (by rfl)]
          go_wp2
          obtain ⟨sp', m', cap', y6, hrun, A1, A2, A3, A4, A5⟩ := Z2.out.app kInt (by decide) ⟨by decide, by decide, by decide⟩ (D) 35 (by have := hl2.out; omega)
          replace hrun : Hid _ := hrun
          replace A1 : Hid _ := A1
          replace A2 : Hid _ := A2
          replace A3 : Hid _ := A3
          replace A4 : Hid _ := A4
          replace A5 : Hid _ := A5
          refine hK.out _ _ (Z2.out.below (below1 z1 _)).row (fun hH => ?_)
          clear hK K
          try simp only [Act.put, List.setIfInBounds_toArray, List.set_cons_zero, List.set_cons_succ]
          refine wpAnyH_ready (rs := [0]) (by kernel_rfl) (by simp) (AllReadyH.cons rfl (fun K hK => ?_) AllReadyH.nil)
          rw [if_pos (by rfl)]
          have cl := (Z2.out.below (below1 z1 (.cells (cI (D)).toArray 3))).box.c 0 (.slice sp2 m cap2) rfl
          try dsimp only [cI] at cl
          go_wp2
          refine hK.out _ _ (Z2.out.below (below1 z1 _)).row (fun hH => ?_)
          clear hK K cl
          try simp only [Act.put, List.setIfInBounds_toArray, List.set_cons_zero, List.set_cons_succ]
          refine wpAnyH_ready (rs := [4]) (by kernel_rfl) (by simp) (AllReadyH.cons rfl (fun K hK => ?_) AllReadyH.nil)
          rw [if_pos (by rfl)]
          refine op_app (v := .slice sp2 m cap2) (u := .slice (some ⟨z1.heap.size, 0, none⟩) 1 1) (.tmp 13) (.tmp 16) 35 rfl rfl rfl hrun.out ?_
          refine hK.out _ _ A3.out (fun hH => ?_)
          clear hK K
          try simp only [Act.put, List.setIfInBounds_toArray]
          refine wpAnyH_ready (rs := [5]) (by kernel_rfl) (by simp) (AllReadyH.cons rfl (fun K hK => ?_) AllReadyH.nil)
          rw [if_pos (by rfl)]
          have c12 := Bx.c A1.out 0 (.slice sp2 m cap2) rfl
          have f12 := Bx.fz A1.out 0
          go_wp2
          have Z9 : Hid (Zo 35 3 1 cI n0 bo W.heap.size #[.int .i64 a, .int .i64 b, .bool true] W (.slice sp' m' cap') ((l ++ [0]) ++ [D]) (y6.setCell ⟨bo, 0, none⟩ (.slice sp' m' cap'))) := Zo.fin (by decide) ⟨by decide, by decide, by decide⟩ A1.out A2.out A3.out A4.out hbo A5.out
          refine hK.out _ _ Z9.out.row (fun hH => ?_)
          clear hK K c12 f12
          try simp only [Act.put, List.setIfInBounds_toArray, List.set_cons_zero, List.set_cons_succ]
          refine wpAnyH_done (by kernel_rfl) ?_ _
          generalize y6.setCell ⟨bo, 0, none⟩ (.slice sp' m' cap') = y7 at Z9 ⊢
          go_wp2
          go_end0
          exact ⟨⟨_, rfl⟩, ⟨Z9.out.kp, ⟨_, Z9.out.box, Z9.out.own⟩⟩⟩
    · have eB : Hid (baseL true l = l) := by show _ = _; unfold baseL; rw [if_neg (by rw [hnl.out]; omega)]
      have q8 : ((n : Int) == 0) = false := by simp; omega
      have q9 : ¬ n = 0 := by omega
      rw [eB.out]
      go_enter Try.func23, Try.ntmps23
      go_wp2
      clear cl fl q8 q9 h0
      generalize W.alloc (.cells #[.int .i64 a, .int .i64 b, .bool true] 45) = y3 at Z0 ⊢
      have Z1 : Hid (Zo 35 3 1 cI n0 bo W.heap.size #[.int .i64 a, .int .i64 b, .bool true] W (.slice sp n cap) l y3.drew) := Z0.out.below (below_drew (Below.refl _ _))
      refine wp_region_held_drew (S := fun z => Bx z W.heap.size #[.int .i64 a, .int .i64 b, .bool true] 45) (by kernel_rfl) Z1.out.row (fun hH => ?_)
      generalize y3.drew = z0 at hH Z1 ⊢
      clear Z0
      refine wpAnyH_take (i := 1) (v := .agg #[.int .i64 a, .int .i64 b, .bool true]) rfl (by kernel_rfl) (by kernel_rfl) (by kernel_rfl) (fun _ _ _ h => h) (.inl ⟨by kernel_rfl, fun u hu => by have d0 := hu.c 0 (.int .i64 a) rfl; have d1 := hu.c 1 (.int .i64 b) rfl; have d2 := hu.c 2 (.bool true) rfl; go_simp⟩) hH ?_
      try simp only [Act.put, List.setIfInBounds_toArray]
      refine wpAnyH_ready (rs := [0, 2]) (by kernel_rfl) (by simp) (AllReadyH.cons rfl (fun K hK => ?_) (AllReadyH.cons rfl (fun K hK => ?_) AllReadyH.nil))
      · skip
        rw [if_pos (by rfl)]
        have cl := Z1.out.box.c 0 (.slice sp n cap) rfl
        go_wp2
        refine hK.out _ _ Z1.out.row (fun hH => ?_)
        clear hK K cl
        try simp only [Act.put, List.setIfInBounds_toArray, List.set_cons_zero, List.set_cons_succ]
        refine wpAnyH_ready (rs := [2]) (by kernel_rfl) (by simp) (AllReadyH.cons rfl (fun K hK => ?_) AllReadyH.nil)
        rw [if_pos (by rfl)]
        go_wp2_with (go_at_call 22; refine (hrec.out z0).mono ?_; rintro e z1 ⟨rfl, hz1⟩; refine stopAt ?_)
        have Z2 : Hid (Zo 35 3 1 cI n0 bo W.heap.size #[.int .i64 a, .int .i64 b, .bool true] W (.slice sp n cap) l z1) := Z1.out.below hz1.out
        clear Z1 hz1 hH
        refine Stop.go ?_
        refine hK.out _ _ Z2.out.row (fun hH => ?_)
        clear hK K
        try simp only [Act.put, List.setIfInBounds_toArray, List.set_cons_zero, List.set_cons_succ]
        refine wpAnyH_ready (rs := [3]) (by kernel_rfl) (by simp) (AllReadyH.cons rfl (fun K hK => ?_) AllReadyH.nil)
        rw [if_pos (by rfl)]
        go_wp2
        obtain ⟨sp', m', cap', y6, hrun, A1, A2, A3, A4, A5⟩ := Z2.out.app kInt (by decide) ⟨by decide, by decide, by decide⟩ (D) 35 (by have := hl.out; omega)
        replace hrun : Hid _ := hrun
        replace A1 : Hid _ := A1
        replace A2 : Hid _ := A2
        replace A3 : Hid _ := A3
        replace A4 : Hid _ := A4
        replace A5 : Hid _ := A5
        refine hK.out _ _ (Z2.out.below (below1 z1 _)).row (fun hH => ?_)
        clear hK K
        try simp only [Act.put, List.setIfInBounds_toArray, List.set_cons_zero, List.set_cons_succ]
        refine wpAnyH_ready (rs := [4]) (by kernel_rfl) (by simp) (AllReadyH.cons rfl (fun K hK => ?_) AllReadyH.nil)
        rw [if_pos (by rfl)]
        refine op_app (v := .slice sp n cap) (u := .slice (some ⟨z1.heap.size, 0, none⟩) 1 1) (.tmp 13) (.tmp 16) 35 rfl rfl rfl hrun.out ?_
        refine hK.out _ _ A3.out (fun hH => ?_)
        clear hK K
        try simp only [Act.put, List.setIfInBounds_toArray]
        refine wpAnyH_ready (rs := [5]) (by kernel_rfl) (by simp) (AllReadyH.cons rfl (fun K hK => ?_) AllReadyH.nil)
        rw [if_pos (by rfl)]
        have c12 := Bx.c A1.out 0 (.slice sp n cap) rfl
        have f12 := Bx.fz A1.out 0
        go_wp2
        have Z9 : Hid (Zo 35 3 1 cI n0 bo W.heap.size #[.int .i64 a, .int .i64 b, .bool true] W (.slice sp' m' cap') (l ++ [D]) (y6.setCell ⟨bo, 0, none⟩ (.slice sp' m' cap'))) := Zo.fin (by decide) ⟨by decide, by decide, by decide⟩ A1.out A2.out A3.out A4.out hbo A5.out
        refine hK.out _ _ Z9.out.row (fun hH => ?_)
        clear hK K c12 f12
        try simp only [Act.put, List.setIfInBounds_toArray, List.set_cons_zero, List.set_cons_succ]
        refine wpAnyH_done (by kernel_rfl) ?_ _
        generalize y6.setCell ⟨bo, 0, none⟩ (.slice sp' m' cap') = y7 at Z9 ⊢
        go_wp2
        go_end0
        exact ⟨⟨_, rfl⟩, ⟨Z9.out.kp, ⟨_, Z9.out.box, Z9.out.own⟩⟩⟩
      · skip
        rw [if_pos (by rfl)]
        go_wp2_with (go_at_call 22; refine (hrec.out z0).mono ?_; rintro e z1 ⟨rfl, hz1⟩; refine stopAt ?_)
        have Z2 : Hid (Zo 35 3 1 cI n0 bo W.heap.size #[.int .i64 a, .int .i64 b, .bool true] W (.slice sp n cap) l z1) := Z1.out.below hz1.out
        clear Z1 hz1 hH
        refine Stop.go ?_
        refine hK.out _ _ Z2.out.row (fun hH => ?_)
        clear hK K
        try simp only [Act.put, List.setIfInBounds_toArray, List.set_cons_zero, List.set_cons_succ]
        refine wpAnyH_ready (rs := [0, 3]) (by kernel_rfl) (by simp) (AllReadyH.cons rfl (fun K hK => ?_) (AllReadyH.cons rfl (fun K hK => ?_) AllReadyH.nil))
        · skip
          rw [if_pos (by rfl)]
          have cl := Z2.out.box.c 0 (.slice sp n cap) rfl
          go_wp2
          refine hK.out _ _ Z2.out.row (fun hH => ?_)
          clear hK K cl
          try simp only [Act.put, List.setIfInBounds_toArray, List.set_cons_zero, List.set_cons_succ]
          refine wpAnyH_ready (rs := [3]) (by kernel_rfl) (by simp) (AllReadyH.cons rfl (fun K hK => ?_) AllReadyH.nil)
          rw [if_pos (by rfl)]
          go_wp2
          obtain ⟨sp', m', cap', y6, hrun, A1, A2, A3, A4, A5⟩ := Z2.out.app kInt (by decide) ⟨by decide, by decide, by decide⟩ (D) 35 (by have := hl.out; omega)
          replace hrun : Hid _ := hrun
          replace A1 : Hid _ := A1
          replace A2 : Hid _ := A2
          replace A3 : Hid _ := A3
          replace A4 : Hid _ := A4
          replace A5 : Hid _ := A5
          refine hK.out _ _ (Z2.out.below (below1 z1 _)).row (fun hH => ?_)
          clear hK K
          try simp only [Act.put, List.setIfInBounds_toArray, List.set_cons_zero, List.set_cons_succ]
          refine wpAnyH_ready (rs := [4]) (by kernel_rfl) (by simp) (AllReadyH.cons rfl (fun K hK => ?_) AllReadyH.nil)
          rw [if_pos (by rfl)]
          refine op_app (v := .slice sp n cap) (u := .slice (some ⟨z1.heap.size, 0, none⟩) 1 1) (.tmp 13) (.tmp 16) 35 rfl rfl rfl hrun.out ?_
          refine hK.out _ _ A3.out (fun hH => ?_)
          clear hK K
          try simp only [Act.put, List.setIfInBounds_toArray]
          refine wpAnyH_ready (rs := [5]) (by kernel_rfl) (by simp) (AllReadyH.cons rfl (fun K hK => ?_) AllReadyH.nil)
          rw [if_pos (by rfl)]
          have c12 := Bx.c A1.out 0 (.slice sp n cap) rfl
          have f12 := Bx.fz A1.out 0
          go_wp2
          have Z9 : Hid (Zo 35 3 1 cI n0 bo W.heap.size #[.int .i64 a, .int .i64 b, .bool true] W (.slice sp' m' cap') (l ++ [D]) (y6.setCell ⟨bo, 0, none⟩ (.slice sp' m' cap'))) := Zo.fin (by decide) ⟨by decide, by decide, by decide⟩ A1.out A2.out A3.out A4.out hbo A5.out
          refine hK.out _ _ Z9.out.row (fun hH => ?_)
          clear hK K c12 f12
          try simp only [Act.put, List.setIfInBounds_toArray, List.set_cons_zero, List.set_cons_succ]
          refine wpAnyH_done (by kernel_rfl) ?_ _
          generalize y6.setCell ⟨bo, 0, none⟩ (.slice sp' m' cap') = y7 at Z9 ⊢
          go_wp2
          go_end0
          exact ⟨⟨_, rfl⟩, ⟨Z9.out.kp, ⟨_, Z9.out.box, Z9.out.own⟩⟩⟩
        · skip
          rw [if_pos (by rfl)]
          go_wp2
          obtain ⟨sp', m', cap', y6, hrun, A1, A2, A3, A4, A5⟩ := Z2.out.app kInt (by decide) ⟨by decide, by decide, by decide⟩ (D) 35 (by have := hl.out; omega)
          replace hrun : Hid _ := hrun
          replace A1 : Hid _ := A1
          replace A2 : Hid _ := A2
          replace A3 : Hid _ := A3
          replace A4 : Hid _ := A4
          replace A5 : Hid _ := A5
          refine hK.out _ _ (Z2.out.below (below1 z1 _)).row (fun hH => ?_)
          clear hK K
          try simp only [Act.put, List.setIfInBounds_toArray, List.set_cons_zero, List.set_cons_succ]
          refine wpAnyH_ready (rs := [0]) (by kernel_rfl) (by simp) (AllReadyH.cons rfl (fun K hK => ?_) AllReadyH.nil)
          rw [if_pos (by rfl)]
          have cl := (Z2.out.below (below1 z1 (.cells (cI (D)).toArray 3))).box.c 0 (.slice sp n cap) rfl
          try dsimp only [cI] at cl
          go_wp2
          refine hK.out _ _ (Z2.out.below (below1 z1 _)).row (fun hH => ?_)
          clear hK K cl
          try simp only [Act.put, List.setIfInBounds_toArray, List.set_cons_zero, List.set_cons_succ]
          refine wpAnyH_ready (rs := [4]) (by kernel_rfl) (by simp) (AllReadyH.cons rfl (fun K hK => ?_) AllReadyH.nil)
          rw [if_pos (by rfl)]
          refine op_app (v := .slice sp n cap) (u := .slice (some ⟨z1.heap.size, 0, none⟩) 1 1) (.tmp 13) (.tmp 16) 35 rfl rfl rfl hrun.out ?_
          refine hK.out _ _ A3.out (fun hH => ?_)
          clear hK K
          try simp only [Act.put, List.setIfInBounds_toArray]
          refine wpAnyH_ready (rs := [5]) (by kernel_rfl) (by simp) (AllReadyH.cons rfl (fun K hK => ?_) AllReadyH.nil)
          rw [if_pos (by rfl)]
          have c12 := Bx.c A1.out 0 (.slice sp n cap) rfl
          have f12 := Bx.fz A1.out 0
          go_wp2
          have Z9 : Hid (Zo 35 3 1 cI n0 bo W.heap.size #[.int .i64 a, .int .i64 b, .bool true] W (.slice sp' m' cap') (l ++ [D]) (y6.setCell ⟨bo, 0, none⟩ (.slice sp' m' cap'))) := Zo.fin (by decide) ⟨by decide, by decide, by decide⟩ A1.out A2.out A3.out A4.out hbo A5.out
          refine hK.out _ _ Z9.out.row (fun hH => ?_)
          clear hK K c12 f12
          try simp only [Act.put, List.setIfInBounds_toArray, List.set_cons_zero, List.set_cons_succ]
          refine wpAnyH_done (by kernel_rfl) ?_ _
          generalize y6.setCell ⟨bo, 0, none⟩ (.slice sp' m' cap') = y7 at Z9 ⊢
          go_wp2
          go_end0
          exact ⟨⟨_, rfl⟩, ⟨Z9.out.kp, ⟨_, Z9.out.box, Z9.out.own⟩⟩⟩
  · have eB : Hid (baseL false l = l) := by show _ = _; unfold baseL; rw [if_neg (by simp)]
    rw [eB.out]
    go_enter Try.func23, Try.ntmps23
    go_wp2
    clear cl fl
    generalize W.alloc (.cells #[.int .i64 a, .int .i64 b, .bool false] 45) = y3 at Z0 ⊢
    have Z1 : Hid (Zo 35 3 1 cI n0 bo W.heap.size #[.int .i64 a, .int .i64 b, .bool false] W (.slice sp n cap) l y3.drew) := Z0.out.below (below_drew (Below.refl _ _))
    refine wp_region_held_drew (S := fun z => Bx z W.heap.size #[.int .i64 a, .int .i64 b, .bool false] 45) (by kernel_rfl) Z1.out.row (fun hH => ?_)
    generalize y3.drew = z0 at hH Z1 ⊢
    clear Z0
    refine wpAnyH_take (i := 1) (v := .agg #[.int .i64 a, .int .i64 b, .bool false]) rfl (by kernel_rfl) (by kernel_rfl) (by kernel_rfl) (fun _ _ _ h => h) (.inl ⟨by kernel_rfl, fun u hu => by have d0 := hu.c 0 (.int .i64 a) rfl; have d1 := hu.c 1 (.int .i64 b) rfl; have d2 := hu.c 2 (.bool false) rfl; go_simp⟩) hH ?_
    try simp only [Act.put, List.setIfInBounds_toArray]
    refine wpAnyH_ready (rs := [0, 2]) (by kernel_rfl) (by simp) (AllReadyH.cons rfl (fun K hK => ?_) (AllReadyH.cons rfl (fun K hK => ?_) AllReadyH.nil))
    · skip
      rw [if_pos (by rfl)]
      have cl := Z1.out.box.c 0 (.slice sp n cap) rfl
      go_wp2
      refine hK.out _ _ Z1.out.row (fun hH => ?_)
      clear hK K cl
      try simp only [Act.put, List.setIfInBounds_toArray, List.set_cons_zero, List.set_cons_succ]
      refine wpAnyH_ready (rs := [2]) (by kernel_rfl) (by simp) (AllReadyH.cons rfl (fun K hK => ?_) AllReadyH.nil)
      rw [if_pos (by rfl)]
      go_wp2_with (go_at_call 22; refine (hrec.out z0).mono ?_; rintro e z1 ⟨rfl, hz1⟩; refine stopAt ?_)
      have Z2 : Hid (Zo 35 3 1 cI n0 bo W.heap.size #[.int .i64 a, .int .i64 b, .bool false] W (.slice sp n cap) l z1) := Z1.out.below hz1.out
      clear Z1 hz1 hH
      refine Stop.go ?_
      refine hK.out _ _ Z2.out.row (fun hH => ?_)
      clear hK K
      try simp only [Act.put, List.setIfInBounds_toArray, List.set_cons_zero, List.set_cons_succ]
      refine wpAnyH_ready (rs := [3]) (by kernel_rfl) (by simp) (AllReadyH.cons rfl (fun K hK => ?_) AllReadyH.nil)
      rw [if_pos (by rfl)]
      go_wp2
      obtain ⟨sp', m', cap', y6, hrun, A1, A2, A3, A4, A5⟩ := Z2.out.app kInt (by decide) ⟨by decide, by decide, by decide⟩ (D) 35 (by have := hl.out; omega)
      replace hrun : Hid _ := hrun
      replace A1 : Hid _ := A1
      replace A2 : Hid _ := A2
      replace A3 : Hid _ := A3
      replace A4 : Hid _ := A4
      replace A5 : Hid _ := A5
      refine hK.out _ _ (Z2.out.below (below1 z1 _)).row (fun hH => ?_)
      clear hK K
      try simp only [Act.put, List.setIfInBounds_toArray, List.set_cons_zero, List.set_cons_succ]
      refine wpAnyH_ready (rs := [4]) (by kernel_rfl) (by simp) (AllReadyH.cons rfl (fun K hK => ?_) AllReadyH.nil)
      rw [if_pos (by rfl)]
      refine op_app (v := .slice sp n cap) (u := .slice (some ⟨z1.heap.size, 0, none⟩) 1 1) (.tmp 13) (.tmp 16) 35 rfl rfl rfl hrun.out ?_
      refine hK.out _ _ A3.out (fun hH => ?_)
      clear hK K
      try simp only [Act.put, List.setIfInBounds_toArray]
      refine wpAnyH_ready (rs := [5]) (by kernel_rfl) (by simp) (AllReadyH.cons rfl (fun K hK => ?_) AllReadyH.nil)
      rw [if_pos (by rfl)]
      have c12 := Bx.c A1.out 0 (.slice sp n cap) rfl
      have f12 := Bx.fz A1.out 0
      go_wp2
      have Z9 : Hid (Zo 35 3 1 cI n0 bo W.heap.size #[.int .i64 a, .int .i64 b, .bool false] W (.slice sp' m' cap') (l ++ [D]) (y6.setCell ⟨bo, 0, none⟩ (.slice sp' m' cap'))) := Zo.fin (by decide) ⟨by decide, by decide, by decide⟩ A1.out A2.out A3.out A4.out hbo A5.out
      refine hK.out _ _ Z9.out.row (fun hH => ?_)
      clear hK K c12 f12
      try simp only [Act.put, List.setIfInBounds_toArray, List.set_cons_zero, List.set_cons_succ]
      refine wpAnyH_done (by kernel_rfl) ?_ _
      generalize y6.setCell ⟨bo, 0, none⟩ (.slice sp' m' cap') = y7 at Z9 ⊢
      go_wp2
      go_end0
      exact ⟨⟨_, rfl⟩, ⟨Z9.out.kp, ⟨_, Z9.out.box, Z9.out.own⟩⟩⟩
    · skip
      rw [if_pos (by rfl)]
      go_wp2_with (go_at_call 22; refine (hrec.out z0).mono ?_; rintro e z1 ⟨rfl, hz1⟩; refine stopAt ?_)
      have Z2 : Hid (Zo 35 3 1 cI n0 bo W.heap.size #[.int .i64 a, .int .i64 b, .bool false] W (.slice sp n cap) l z1) := Z1.out.below hz1.out
      clear Z1 hz1 hH
      refine Stop.go ?_
      refine hK.out _ _ Z2.out.row (fun hH => ?_)
      clear hK K
      try simp only [Act.put, List.setIfInBounds_toArray, List.set_cons_zero, List.set_cons_succ]
      refine wpAnyH_ready (rs := [0, 3]) (by kernel_rfl) (by simp) (AllReadyH.cons rfl (fun K hK => ?_) (AllReadyH.cons rfl (fun K hK => ?_) AllReadyH.nil))
      · skip
        rw [if_pos (by rfl)]
        have cl := Z2.out.box.c 0 (.slice sp n cap) rfl
        go_wp2
        refine hK.out _ _ Z2.out.row (fun hH => ?_)
        clear hK K cl
        try simp only [Act.put, List.setIfInBounds_toArray, List.set_cons_zero, List.set_cons_succ]
        refine wpAnyH_ready (rs := [3]) (by kernel_rfl) (by simp) (AllReadyH.cons rfl (fun K hK => ?_) AllReadyH.nil)
        rw [if_pos (by rfl)]
        go_wp2
        obtain ⟨sp', m', cap', y6, hrun, A1, A2, A3, A4, A5⟩ := Z2.out.app kInt (by decide) ⟨by decide, by decide, by decide⟩ (D) 35 (by have := hl.out; omega)
        replace hrun : Hid _ := hrun
        replace A1 : Hid _ := A1
        replace A2 : Hid _ := A2
        replace A3 : Hid _ := A3
        replace A4 : Hid _ := A4
        replace A5 : Hid _ := A5
        refine hK.out _ _ (Z2.out.below (below1 z1 _)).row (fun hH => ?_)
        clear hK K
        try simp only [Act.put, List.setIfInBounds_toArray, List.set_cons_zero, List.set_cons_succ]
        refine wpAnyH_ready (rs := [4]) (by kernel_rfl) (by simp) (AllReadyH.cons rfl (fun K hK => ?_) AllReadyH.nil)
        rw [if_pos (by rfl)]
        refine op_app (v := .slice sp n cap) (u := .slice (some ⟨z1.heap.size, 0, none⟩) 1 1) (.tmp 13) (.tmp 16) 35 rfl rfl rfl hrun.out ?_
        refine hK.out _ _ A3.out (fun hH => ?_)
        clear hK K
        try simp only [Act.put, List.setIfInBounds_toArray]
        refine wpAnyH_ready (rs := [5]) (by kernel_rfl) (by simp) (AllReadyH.cons rfl (fun K hK => ?_) AllReadyH.nil)
        rw [if_pos (by rfl)]
        have c12 := Bx.c A1.out 0 (.slice sp n cap) rfl
        have f12 := Bx.fz A1.out 0
        go_wp2
        have Z9 : Hid (Zo 35 3 1 cI n0 bo W.heap.size #[.int .i64 a, .int .i64 b, .bool false] W (.slice sp' m' cap') (l ++ [D]) (y6.setCell ⟨bo, 0, none⟩ (.slice sp' m' cap'))) := Zo.fin (by decide) ⟨by decide, by decide, by decide⟩ A1.out A2.out A3.out A4.out hbo A5.out
        refine hK.out _ _ Z9.out.row (fun hH => ?_)
        clear hK K c12 f12
        try simp only [Act.put, List.setIfInBounds_toArray, List.set_cons_zero, List.set_cons_succ]
        refine wpAnyH_done (by kernel_rfl) ?_ _
        generalize y6.setCell ⟨bo, 0, none⟩ (.slice sp' m' cap') = y7 at Z9 ⊢
        go_wp2
        go_end0
        exact ⟨⟨_, rfl⟩, ⟨Z9.out.kp, ⟨_, Z9.out.box, Z9.out.own⟩⟩⟩
      · skip
        rw [if_pos (by rfl)]
        go_wp2
        obtain ⟨sp', m', cap', y6, hrun, A1, A2, A3, A4, A5⟩ := Z2.out.app kInt (by decide) ⟨by decide, by decide, by decide⟩ (D) 35 (by have := hl.out; omega)
        replace hrun : Hid _ := hrun
        replace A1 : Hid _ := A1
        replace A2 : Hid _ := A2
        replace A3 : Hid _ := A3
        replace A4 : Hid _ := A4
        replace A5 : Hid _ := A5
        refine hK.out _ _ (Z2.out.below (below1 z1 _)).row (fun hH => ?_)
        clear hK K
        try simp only [Act.put, List.setIfInBounds_toArray, List.set_cons_zero, List.set_cons_succ]
        refine wpAnyH_ready (rs := [0]) (by kernel_rfl) (by simp) (AllReadyH.cons rfl (fun K hK => ?_) AllReadyH.nil)
        rw [if_pos (by rfl)]
        have cl := (Z2.out.below (below1 z1 (.cells (cI (D)).toArray 3))).box.c 0 (.slice sp n cap) rfl
        try dsimp only [cI] at cl
        go_wp2
        refine hK.out _ _ (Z2.out.below (below1 z1 _)).row (fun hH => ?_)
        clear hK K cl
        try simp only [Act.put, List.setIfInBounds_toArray, List.set_cons_zero, List.set_cons_succ]
        refine wpAnyH_ready (rs := [4]) (by kernel_rfl) (by simp) (AllReadyH.cons rfl (fun K hK => ?_) AllReadyH.nil)
        rw [if_pos (by rfl)]
        refine op_app (v := .slice sp n cap) (u := .slice (some ⟨z1.heap.size, 0, none⟩) 1 1) (.tmp 13) (.tmp 16) 35 rfl rfl rfl hrun.out ?_
        refine hK.out _ _ A3.out (fun hH => ?_)
        clear hK K
        try simp only [Act.put, List.setIfInBounds_toArray]
        refine wpAnyH_ready (rs := [5]) (by kernel_rfl) (by simp) (AllReadyH.cons rfl (fun K hK => ?_) AllReadyH.nil)
        rw [if_pos (by rfl)]
        have c12 := Bx.c A1.out 0 (.slice sp n cap) rfl
        have f12 := Bx.fz A1.out 0
        go_wp2
        have Z9 : Hid (Zo 35 3 1 cI n0 bo W.heap.size #[.int .i64 a, .int .i64 b, .bool false] W (.slice sp' m' cap') (l ++ [D]) (y6.setCell ⟨bo, 0, none⟩ (.slice sp' m' cap'))) := Zo.fin (by decide) ⟨by decide, by decide, by decide⟩ A1.out A2.out A3.out A4.out hbo A5.out
        refine hK.out _ _ Z9.out.row (fun hH => ?_)
        clear hK K c12 f12
        try simp only [Act.put, List.setIfInBounds_toArray, List.set_cons_zero, List.set_cons_succ]
        refine wpAnyH_done (by kernel_rfl) ?_ _
        generalize y6.setCell ⟨bo, 0, none⟩ (.slice sp' m' cap') = y7 at Z9 ⊢
        go_wp2
        go_end0
        exact ⟨⟨_, rfl⟩, ⟨Z9.out.kp, ⟨_, Z9.out.box, Z9.out.own⟩⟩⟩
theorem plev_any (w : World) (sp : Option Addr) (cap : Nat) (l : List Rc) (hl : Hid (LiesR w sp l)) (hn : l.length ≤ 2147483647) :
    Calls Try.prog 15 #[.slice sp l.length cap] w fun e w' => ∃ v, e = .returned v ∧ Hid (KL 3 1 cI w v (levels (l.map (·.q))) w') := by
  have hF : Hid (Fm w [(w.heap.size, #[.slice none 0 0], 35)] (w.alloc (.cells #[.slice none 0 0] 35))) := Fm.one w _ _
  have hQ : Hid (LiesQ w sp (l.map (·.q))) := LiesQ.of hl.out
  have hE := eachRow_any w (w.alloc (.cells #[.slice none 0 0] 35)) hF.out.low sp cap l.length (l.map (·.q)) hQ (by show _ = _; simp) hn 23 #[.pointer (some ⟨w.heap.size, 0, none⟩)] (fun _ _ => rfl)
    (fun pre W => Ho 35 3 1 cI w.heap.size w.heap.size (levF pre) W) ((Ho.own _ _ _ _ _ _ _).from _) ⟨_, hF.out.bx 0 _ _ _ rfl, (OwnL.nil _ _)⟩
    (fun pre x W hp hW hI => (lev1_any W w.heap.size w.heap.size x.1 x.2 (levF pre) hW.size (Nat.le_refl _) (by have := (lev_lenS pre.length pre rfl).1; omega) hI).mono fun e W' h => ⟨h.1, h.2.out.1, by rw [levF_snoc]; exact h.2.out.2⟩)
  generalize l.length = n at hE
  go_enter Try.func15, Try.ntmps15
  go_wp2_with (go_at_call 18; refine hE.mono ?_; rintro e y ⟨⟨u, rfl⟩, H⟩; obtain ⟨hB, xs, hR, v, hv, ho⟩ := H.out; refine stopAt ?_)
  rw [hR.done.1] at ho
  have K : Hid (KL 3 1 cI w v (levels (l.map (·.q))) y) := ⟨ho, hB⟩
  obtain ⟨sp', cap', rfl, -⟩ := ho.open kInt.len
  have cv := hv.c 0 _ rfl
  clear ho hv hR hB H hE
  generalize (levels (l.map (·.q))).length = m at K cv ⊢
  refine Stop.go ?_
  go_wp2
  go_ret
  exact ⟨_, rfl, K⟩
end Go.Proofs.Ytbiifkcphaljeaa
