/- The waves of a trace: the program's. -/
import Derived.Test.YtbiifkcphaljeaaTw
namespace Go.Proofs.Ytbiifkcphaljeaa
open Go Go.RowKit
set_option linter.unusedVariables false
set_option maxHeartbeats 2000000
set_option maxRecDepth 20000

theorem op_bsWa {o : Oper} {a : Act} {w : World} {K : Act → World → Prop} {Q : Exit → Act → World → Prop} (p : Int × Int) (x : Operand) (ho : o.op = .buildSlice 30 1 #[(0, x)]) (hx : a.eval x = .agg (c2 p).toArray)
    (h : K (a.put o.dst (.slice (some ⟨w.heap.size, 0, none⟩) 1 1)) (w.alloc (.cells (c2 p).toArray 34))) : o.wp Try.prog a w K Q := by
  obtain ⟨i, hi, hz0, hz1, hz2⟩ := info_parts infoWa
  refine wp_buildSlice 30 34 1 #[(0, x)] ho (c2 p).toArray i _ Try.underlying30 hi hz0 (by rw [hz1]; decide) (by rw [hz1]; decide) ?_ h
  rw [hz1]
  have e : (#[(0, x)].map fun (i, x) => (i, a.eval x)).toList = [(0, .agg (c2 p).toArray)] := by simp [hx]
  rw [e]
  exact fill2 p
section
variable {α : Type} {T t : TypeId} {s bts : Nat} {c : α → List Value}
theorem rowL_set1 (hc : ∀ x, (c x).length = s) (i : Nat) (v : Value) (hi : i < s) (x : List α) : ∀ (k : Nat) (a e : α), x[k]? = some a → c e = (c a).set i v → rowL c (x.set k e) = (rowL c x).set (k * s + i) v := by
  induction x with
  | nil => intro k a e h; simp at h
  | cons y x ih =>
    intro k a e h he
    cases k with
    | zero =>
      simp at h
      subst h
      rw [List.set_cons_zero, rowL_cons, rowL_cons, he, Nat.zero_mul, Nat.zero_add, List.set_append_left _ _ (by rw [hc]; exact hi)]
    | succ k =>
      simp only [List.getElem?_cons_succ] at h
      rw [List.set_cons_succ, rowL_cons, rowL_cons, ih k a e h he, List.set_append_right _ _ (by rw [hc, Nat.succ_mul]; omega), hc, show (k + 1) * s + i - s = k * s + i by rw [Nat.succ_mul]; omega]
/-- One cell of an owned row is set. -/
theorem OwnL.set1 (hc : ∀ x, (c x).length = s) {B : Nat} {w : World} {g n cap : Nat} {x : List α} (h : OwnL t s c B w (.slice (some ⟨g, 0, none⟩) n cap) x) (k i : Nat) (a e : α) (v : Value) (hk : x[k]? = some a) (hi : i < s) (he : c e = (c a).set i v) : OwnL t s c B (w.setCell ⟨g, k * s + i, none⟩ v) (.slice (some ⟨g, 0, none⟩) n cap) (x.set k e) ∧ w.frozen? ⟨g, k * s + i, none⟩ = false ∧ B ≤ g := by
  obtain ⟨h1, h2⟩ := h
  rcases h2 with ⟨h0, _⟩ | ⟨g', cap', cur, hv, hb, hg, hn, hm, hs, ht⟩
  · simp at h0
  · simp at hv
    obtain ⟨rfl, hn', rfl⟩ := hv
    refine ⟨⟨by rw [rowL_len hc], .inr ⟨g, cap, _, by rw [List.length_set, hn'], hb, heap_setCell_same w g (k * s + i) cur t v hg, by rw [List.length_set]; exact hn, hm, ?_, ?_⟩⟩, frozen_heap hg _, hb⟩
    · rw [Array.size_setIfInBounds]; exact hs
    · rw [List.length_set, rowL_set1 hc i v hi x k a e hk he, ← ht, Array.toList_setIfInBounds, List.take_set]
/-- One cell of the list's row set. -/
theorem Zo.set1 (hc : ∀ x, (c x).length = s) (hT : T ≠ t) (ht : Oth3 t) {n0 bo rb g n cap : Nat} {rw : Array Value} {W z : World} {l : List α} (h : Zo T t s c n0 bo rb rw W (.slice (some ⟨g, 0, none⟩) n cap) l z) (k i : Nat) (a e : α) (v : Value) (hk : l[k]? = some a) (hi : i < s) (he : c e = (c a).set i v) : Zo T t s c n0 bo rb rw W (.slice (some ⟨g, 0, none⟩) n cap) (l.set k e) (z.setCell ⟨g, k * s + i, none⟩ v) ∧ z.frozen? ⟨g, k * s + i, none⟩ = false := by
  obtain ⟨o, f, b⟩ := h.own.set1 hc k i a e v hk hi he
  obtain ⟨cs, hg⟩ := h.own.ty g rfl
  have k3 : Keep3 n0 z (z.setCell ⟨g, k * s + i, none⟩ v) := Keep3.one (g := some g) ((Below.refl n0 z).setCell (p := ⟨g, k * s + i, none⟩) b v).size ((Below.refl n0 z).setCell (p := ⟨g, k * s + i, none⟩) b v) (fun q _ hq => heap_setCell_other z ⟨g, k * s + i, none⟩ q v (fun e => hq (by rw [e]))) (fun q e => by cases e; exact ⟨cs, t, hg, ht⟩)
  exact ⟨⟨(heap_setCell_other z ⟨g, k * s + i, none⟩ bo v (fun e' => h.box.unlike hg hT e')).trans h.box, o, k3.ty _ _ _ h.row (.inr (.inr rfl)), h.kp.trans k3, Nat.le_trans h.ge k3.low.size⟩, f⟩
end
theorem wav1_any (W : World) (n0 bo : Nat) (x : Rw) (hx : x.ok) (l : List (Int × Int)) (hW : n0 ≤ W.heap.size) (hbo : n0 ≤ bo) (hn : l.length ≤ 2147483648) (h : Hid (Ho 30 34 2 c2 n0 bo l W)) :
    Calls Try.prog 21 #[.agg (rwC x), .pointer (some ⟨bo, 0, none⟩)] W fun e W' => (∃ v, e = .returned v) ∧ Hid (Keep3 n0 W W' ∧ Ho 30 34 2 c2 n0 bo (wavS l x) W') := by
  obtain ⟨v, hv, ho⟩ := h.out
  have hrec := fun z => span_any z x hx
  obtain ⟨a, b, q⟩ := x
  obtain ⟨sp, cap, rfl, -, hsp, hob, -⟩ := ho.open kWave.len
  dsimp only [rwC] at hrec ⊢
  have hrec : Hid _ := hrec
  have Z0 : Hid (Zo 30 34 2 c2 n0 bo W.heap.size #[.int .i64 a, .int .i64 b, .bool q] W (.slice sp l.length cap) l (W.alloc (.cells #[.int .i64 a, .int .i64 b, .bool q] 45))) :=
    ⟨((below1 W _).block bo (heap_lt hv)).trans hv, ho.below (below1 W _), one_bx _ _ _, Keep3.alloc W _ hW, by simp; omega⟩
  have hl : Hid (l.length ≤ 2147483648) := hn
  have cl := Z0.out.box.c 0 (.slice sp l.length cap) rfl
  have fl := Z0.out.box.fz 0
  obtain ⟨D, hD⟩ : ∃ D, b - a = D := ⟨_, rfl⟩
  rw [hD] at hrec
  obtain ⟨n, hnl⟩ : ∃ n, l.length = n := ⟨_, rfl⟩
  rw [hnl] at Z0 cl
  have ni : (n : Int) ≤ 2147483648 := by omega
  have hnl : Hid (l.length = n) := hnl
  clear h hn hv hx hW
  rcases Bool.eq_false_or_eq_true q with rfl | rfl
  · have eS : Hid (wavS l ⟨a, b, true⟩ = l ++ [(D, 0)]) := by show _ = _; rw [← hD]; rfl
    rw [eS.out]
    clear hD eS ho hsp hob
    go_enter Try.func21, Try.ntmps21
    go_wp2
    clear cl fl
    generalize W.alloc (.cells #[.int .i64 a, .int .i64 b, .bool true] 45) = y3 at Z0 ⊢
    have Z1 : Hid (Zo 30 34 2 c2 n0 bo W.heap.size #[.int .i64 a, .int .i64 b, .bool true] W (.slice sp n cap) l y3.drew) := Z0.out.below (below_drew (Below.refl _ _))
    refine wp_region_held_drew (S := fun z => Bx z W.heap.size #[.int .i64 a, .int .i64 b, .bool true] 45) (by kernel_rfl) Z1.out.row (fun hH => ?_)
    generalize y3.drew = z0 at hH Z1 ⊢
    clear Z0
    refine wpAnyH_take (i := 1) (v := .agg #[.int .i64 a, .int .i64 b, .bool true]) rfl (by kernel_rfl) (by kernel_rfl) (by kernel_rfl) (fun _ _ _ h => h) (.inl ⟨by kernel_rfl, fun u hu => by have d0 := hu.c 0 (.int .i64 a) rfl; have d1 := hu.c 1 (.int .i64 b) rfl; have d2 := hu.c 2 (.bool true) rfl; go_simp⟩) hH ?_
    try simp only [Act.put, List.setIfInBounds_toArray]
    refine wpAnyH_ready (rs := [0, 2]) (by kernel_rfl) (by simp) (AllReadyH.cons rfl (fun K hK => ?_) (AllReadyH.cons rfl (fun K hK => ?_) AllReadyH.nil))
    · skip
      rw [if_pos (by rfl)]
      have cl := Z1.out.box.c 0 (.slice sp n cap) rfl
      go_wp2
      refine hK.out _ _ Z1.out.row (fun hH => ?_)
      clear hK K cl
      try simp only [Act.put, List.setIfInBounds_toArray, List.set_cons_zero, List.set_cons_succ]
      refine wpAnyH_ready (rs := [2]) (by kernel_rfl) (by simp) (AllReadyH.cons rfl (fun K hK => ?_) AllReadyH.nil)
      rw [if_pos (by rfl)]
      go_wp2_with (go_at_call 22; refine (hrec.out z0).mono ?_; rintro e z1 ⟨rfl, hz1⟩; refine stopAt ?_)
      have Z2 : Hid (Zo 30 34 2 c2 n0 bo W.heap.size #[.int .i64 a, .int .i64 b, .bool true] W (.slice sp n cap) l z1) := Z1.out.below hz1.out
      clear Z1 hz1 hH
      refine Stop.go ?_
      refine hK.out _ _ Z2.out.row (fun hH => ?_)
      clear hK K
      try simp only [Act.put, List.setIfInBounds_toArray, List.set_cons_zero, List.set_cons_succ]
      refine wpAnyH_take (i := 3) (v := .agg (c2 ((D, 0))).toArray) rfl (by kernel_rfl) (by kernel_rfl) (by kernel_rfl) (fun _ _ _ h => h) (.inl ⟨by kernel_rfl, fun u hu => by go_simp; rfl⟩) hH ?_
      try simp only [Act.put, List.setIfInBounds_toArray]
      refine wpAnyH_ready (rs := [4]) (by kernel_rfl) (by simp) (AllReadyH.cons rfl (fun K hK => ?_) AllReadyH.nil)
      rw [if_pos (by rfl)]
      refine op_bsWa ((D, 0)) (.tmp 8) rfl rfl ?_
      obtain ⟨sp', m', cap', y6, hrun, A1, A2, A3, A4, A5⟩ := Z2.out.app kWave (by decide) ⟨by decide, by decide, by decide⟩ ((D, 0)) 30 (by have := hl.out; omega)
      replace hrun : Hid _ := hrun
      replace A1 : Hid _ := A1
      replace A2 : Hid _ := A2
      replace A3 : Hid _ := A3
      replace A4 : Hid _ := A4
      replace A5 : Hid _ := A5
      refine hK.out _ _ (Z2.out.below (below1 z1 _)).row (fun hH => ?_)
      clear hK K
      try simp only [Act.put]
      refine wpAnyH_ready (rs := [5]) (by kernel_rfl) (by simp) (AllReadyH.cons rfl (fun K hK => ?_) AllReadyH.nil)
      rw [if_pos (by rfl)]
      refine op_app (v := .slice sp n cap) (u := .slice (some ⟨z1.heap.size, 0, none⟩) 1 1) (.tmp 5) (.tmp 9) 30 rfl rfl rfl hrun.out ?_
      refine hK.out _ _ A3.out (fun hH => ?_)
      clear hK K
      try simp only [Act.put]
      refine wpAnyH_ready (rs := [6]) (by kernel_rfl) (by simp) (AllReadyH.cons rfl (fun K hK => ?_) AllReadyH.nil)
      rw [if_pos (by rfl)]
      have c12 := Bx.c A1.out 0 (.slice sp n cap) rfl
      have f12 := Bx.fz A1.out 0
      go_wp2
      have Z9 : Hid (Zo 30 34 2 c2 n0 bo W.heap.size #[.int .i64 a, .int .i64 b, .bool true] W (.slice sp' m' cap') (l ++ [(D, 0)]) (y6.setCell ⟨bo, 0, none⟩ (.slice sp' m' cap'))) := Zo.fin (by decide) ⟨by decide, by decide, by decide⟩ A1.out A2.out A3.out A4.out hbo A5.out
      refine hK.out _ _ Z9.out.row (fun hH => ?_)
      clear hK K c12 f12
      try simp only [Act.put, List.setIfInBounds_toArray, List.set_cons_zero, List.set_cons_succ]
      refine wpAnyH_done (by kernel_rfl) ?_ _
      generalize y6.setCell ⟨bo, 0, none⟩ (.slice sp' m' cap') = y7 at Z9 ⊢
      go_wp2
      go_end0
      exact ⟨⟨_, rfl⟩, ⟨Z9.out.kp, ⟨_, Z9.out.box, Z9.out.own⟩⟩⟩
    · skip
      rw [if_pos (by rfl)]
      go_wp2_with (go_at_call 22; refine (hrec.out z0).mono ?_; rintro e z1 ⟨rfl, hz1⟩; refine stopAt ?_)
      have Z2 : Hid (Zo 30 34 2 c2 n0 bo W.heap.size #[.int .i64 a, .int .i64 b, .bool true] W (.slice sp n cap) l z1) := Z1.out.below hz1.out
      clear Z1 hz1 hH
      refine Stop.go ?_
      refine hK.out _ _ Z2.out.row (fun hH => ?_)
      clear hK K
      try simp only [Act.put, List.setIfInBounds_toArray, List.set_cons_zero, List.set_cons_succ]
      refine wpAnyH_take (i := 3) (v := .agg (c2 ((D, 0))).toArray) rfl (by kernel_rfl) (by kernel_rfl) (by kernel_rfl) (fun _ _ _ h => h) (.inl ⟨by kernel_rfl, fun u hu => by go_simp; rfl⟩) hH ?_
      try simp only [Act.put, List.setIfInBounds_toArray]
      refine wpAnyH_ready (rs := [0, 4]) (by kernel_rfl) (by simp) (AllReadyH.cons rfl (fun K hK => ?_) (AllReadyH.cons rfl (fun K hK => ?_) AllReadyH.nil))
      · skip
        rw [if_pos (by rfl)]
        have cl := Z2.out.box.c 0 (.slice sp n cap) rfl
        go_wp2
        refine hK.out _ _ Z2.out.row (fun hH => ?_)
        clear hK K cl
        try simp only [Act.put, List.setIfInBounds_toArray, List.set_cons_zero, List.set_cons_succ]
        refine wpAnyH_ready (rs := [4]) (by kernel_rfl) (by simp) (AllReadyH.cons rfl (fun K hK => ?_) AllReadyH.nil)
        rw [if_pos (by rfl)]
        refine op_bsWa ((D, 0)) (.tmp 8) rfl rfl ?_
        obtain ⟨sp', m', cap', y6, hrun, A1, A2, A3, A4, A5⟩ := Z2.out.app kWave (by decide) ⟨by decide, by decide, by decide⟩ ((D, 0)) 30 (by have := hl.out; omega)
        replace hrun : Hid _ := hrun
        replace A1 : Hid _ := A1
        replace A2 : Hid _ := A2
        replace A3 : Hid _ := A3
        replace A4 : Hid _ := A4
        replace A5 : Hid _ := A5
        refine hK.out _ _ (Z2.out.below (below1 z1 _)).row (fun hH => ?_)
        clear hK K
        try simp only [Act.put, List.setIfInBounds_toArray]
        refine wpAnyH_ready (rs := [5]) (by kernel_rfl) (by simp) (AllReadyH.cons rfl (fun K hK => ?_) AllReadyH.nil)
        rw [if_pos (by rfl)]
        refine op_app (v := .slice sp n cap) (u := .slice (some ⟨z1.heap.size, 0, none⟩) 1 1) (.tmp 5) (.tmp 9) 30 rfl rfl rfl hrun.out ?_
        refine hK.out _ _ A3.out (fun hH => ?_)
        clear hK K
        try simp only [Act.put]
        refine wpAnyH_ready (rs := [6]) (by kernel_rfl) (by simp) (AllReadyH.cons rfl (fun K hK => ?_) AllReadyH.nil)
        rw [if_pos (by rfl)]
        have c12 := Bx.c A1.out 0 (.slice sp n cap) rfl
        have f12 := Bx.fz A1.out 0
        go_wp2
        have Z9 : Hid (Zo 30 34 2 c2 n0 bo W.heap.size #[.int .i64 a, .int .i64 b, .bool true] W (.slice sp' m' cap') (l ++ [(D, 0)]) (y6.setCell ⟨bo, 0, none⟩ (.slice sp' m' cap'))) := Zo.fin (by decide) ⟨by decide, by decide, by decide⟩ A1.out A2.out A3.out A4.out hbo A5.out
        refine hK.out _ _ Z9.out.row (fun hH => ?_)
        clear hK K c12 f12
        try simp only [Act.put, List.setIfInBounds_toArray, List.set_cons_zero, List.set_cons_succ]
        refine wpAnyH_done (by kernel_rfl) ?_ _
        generalize y6.setCell ⟨bo, 0, none⟩ (.slice sp' m' cap') = y7 at Z9 ⊢
        go_wp2
        go_end0
        exact ⟨⟨_, rfl⟩, ⟨Z9.out.kp, ⟨_, Z9.out.box, Z9.out.own⟩⟩⟩
      · skip
        rw [if_pos (by rfl)]
        refine op_bsWa ((D, 0)) (.tmp 8) rfl rfl ?_
        obtain ⟨sp', m', cap', y6, hrun, A1, A2, A3, A4, A5⟩ := Z2.out.app kWave (by decide) ⟨by decide, by decide, by decide⟩ ((D, 0)) 30 (by have := hl.out; omega)
        replace hrun : Hid _ := hrun
        replace A1 : Hid _ := A1
        replace A2 : Hid _ := A2
        replace A3 : Hid _ := A3
        replace A4 : Hid _ := A4
        replace A5 : Hid _ := A5
        refine hK.out _ _ (Z2.out.below (below1 z1 _)).row (fun hH => ?_)
        clear hK K
        try simp only [Act.put]
        refine wpAnyH_ready (rs := [0]) (by kernel_rfl) (by simp) (AllReadyH.cons rfl (fun K hK => ?_) AllReadyH.nil)
        rw [if_pos (by rfl)]
        have cl := (Z2.out.below (below1 z1 (.cells (c2 ((D, 0))).toArray 34))).box.c 0 (.slice sp n cap) rfl
        try dsimp only [cI] at cl
        go_wp2
        refine hK.out _ _ (Z2.out.below (below1 z1 _)).row (fun hH => ?_)
        clear hK K cl
        try simp only [Act.put, List.setIfInBounds_toArray, List.set_cons_zero, List.set_cons_succ]
        refine wpAnyH_ready (rs := [5]) (by kernel_rfl) (by simp) (AllReadyH.cons rfl (fun K hK => ?_) AllReadyH.nil)
        rw [if_pos (by rfl)]
        refine op_app (v := .slice sp n cap) (u := .slice (some ⟨z1.heap.size, 0, none⟩) 1 1) (.tmp 5) (.tmp 9) 30 rfl rfl rfl hrun.out ?_
        refine hK.out _ _ A3.out (fun hH => ?_)
        clear hK K
        try simp only [Act.put, List.setIfInBounds_toArray]
        refine wpAnyH_ready (rs := [6]) (by kernel_rfl) (by simp) (AllReadyH.cons rfl (fun K hK => ?_) AllReadyH.nil)
        rw [if_pos (by rfl)]
        have c12 := Bx.c A1.out 0 (.slice sp n cap) rfl
        have f12 := Bx.fz A1.out 0
        go_wp2
        have Z9 : Hid (Zo 30 34 2 c2 n0 bo W.heap.size #[.int .i64 a, .int .i64 b, .bool true] W (.slice sp' m' cap') (l ++ [(D, 0)]) (y6.setCell ⟨bo, 0, none⟩ (.slice sp' m' cap'))) := Zo.fin (by decide) ⟨by decide, by decide, by decide⟩ A1.out A2.out A3.out A4.out hbo A5.out
        refine hK.out _ _ Z9.out.row (fun hH => ?_)
        clear hK K c12 f12
        try simp only [Act.put, List.setIfInBounds_toArray, List.set_cons_zero, List.set_cons_succ]
        refine wpAnyH_done (by kernel_rfl) ?_ _
        generalize y6.setCell ⟨bo, 0, none⟩ (.slice sp' m' cap') = y7 at Z9 ⊢
        go_wp2
        go_end0
        exact ⟨⟨_, rfl⟩, ⟨Z9.out.kp, ⟨_, Z9.out.box, Z9.out.own⟩⟩⟩
  · rcases Nat.eq_zero_or_pos n with rfl | h0
    · have hl0 : l = [] := List.eq_nil_of_length_eq_zero hnl.out
      have eS : Hid (wavS l ⟨a, b, false⟩ = l) := by show _ = _; rw [hl0]; rfl
      rw [eS.out]
      clear hD eS ho hsp hob hl0
      go_enter Try.func21, Try.ntmps21
      go_wp2
      go_end0
      exact ⟨⟨_, rfl⟩, ⟨Z0.out.kp, ⟨_, Z0.out.box, Z0.out.own⟩⟩⟩
    · obtain ⟨M, rfl⟩ : ∃ M, n = M + 1 := ⟨n - 1, by omega⟩
      obtain ⟨p, hp, -⟩ := at_list hnl.out (show M < M + 1 by omega)
      have eS : Hid (wavS l ⟨a, b, false⟩ = l.set M (p.1, D)) := by
        show _ = _
        rw [← hD]
        unfold wavS
        rw [if_neg (by simp), show l.length - 1 = M by rw [hnl.out]; omega, hp]
      rw [eS.out]
      obtain ⟨g, rfl⟩ : ∃ g, sp = some ⟨g, 0, none⟩ := by
        rcases ho.2 with ⟨h1, h2⟩ | ⟨g, cap', cur, hv', _⟩
        · have := hnl.out; omega
        · cases hv'; exact ⟨g, rfl⟩
      have hp : Hid (l[M]? = some p) := hp
      obtain ⟨m, hm⟩ : ∃ m, M + 1 = m := ⟨_, rfl⟩
      have hmI : Hid ((m : Int) - 1 = (M : Int)) := by show _ = _; omega
      have hm0 : (0 : Int) < m := by omega
      have hwM : IntKind.i64.wrap ((m : Int) - 1) = (M : Int) := by rw [IntKind.wrap_i64]; omega
      have ij := fun u => idxP (g := g) (off := 0) (len := m) (cap := cap) Try.underlying30 (s := 2) (by kernel_rfl) .i64 M u (by omega)
      simp only [Nat.zero_add] at ij
      rw [hm] at Z0 cl hnl ni
      clear hD eS ho hsp hob h0 hm
      go_enter Try.func21, Try.ntmps21
      go_wp2
      clear cl fl
      generalize W.alloc (.cells #[.int .i64 a, .int .i64 b, .bool false] 45) = y3 at Z0 ⊢
      refine region_class_tail 8 (Zo 30 34 2 c2 n0 bo W.heap.size #[.int .i64 a, .int .i64 b, .bool false] W (.slice (some ⟨g, 0, none⟩) m cap) l) (by kernel_rfl) (by kernel_rfl) (Z0.out.below (below_drew (Below.refl _ _))) ?_
      simp only [List.take_succ_cons, List.take_zero, List.drop_succ_cons, List.drop_zero]
      with_reducible refine quiet_one (.slice (some ⟨g, 0, none⟩) m cap) ?_ ?_ ?_
      · kernel_rfl
      · intro u hy
        have cl := hy.box.c 0 (.slice (some ⟨g, 0, none⟩) m cap) rfl
        go_simp
      with_reducible refine quiet_one (.slice (some ⟨g, 0, none⟩) m cap) ?_ ?_ ?_
      · kernel_rfl
      · intro u hy
        have cl := hy.box.c 0 (.slice (some ⟨g, 0, none⟩) m cap) rfl
        go_simp
      with_reducible refine quiet_one (.int .i64 (m : Int)) ?_ ?_ ?_
      · kernel_rfl
      · intro u hy
        go_simp
      with_reducible refine quiet_one (.int .i64 (M : Int)) ?_ ?_ ?_
      · kernel_rfl
      · intro u hy
        go_simp
      with_reducible refine quiet_one (.agg #[.int .i64 a, .int .i64 b, .bool false]) ?_ ?_ ?_
      · kernel_rfl
      · intro u hy
        have d0 := hy.row.c 0 (.int .i64 a) rfl
        have d1 := hy.row.c 1 (.int .i64 b) rfl
        have d2 := hy.row.c 2 (.bool false) rfl
        go_simp
      with_reducible refine quiet_one (.int .i64 D) ?_ ?_ ?_
      · kernel_rfl
      · intro u hy
        have d := (hrec.out u).mono fun e w' (h : _ ∧ _) => And.intro h.1 (hy.below h.2.out)
        go_simp
        all_goals exact d
      with_reducible refine quiet_one (.pointer (some ⟨g, M * 2, none⟩)) ?_ ?_ ?_
      · kernel_rfl
      · intro u hy
        go_simp
      with_reducible refine quiet_one (.pointer (some ⟨g, M * 2 + 1, none⟩)) ?_ ?_ ?_
      · kernel_rfl
      · intro u hy
        go_simp
      refine wpQuiet_nil ?_
      intro z6 Q6
      obtain ⟨Z9', f5⟩ := Q6.set1 kWave.len (by decide) ⟨by decide, by decide, by decide⟩ M 1 p (p.1, D) (.int .i64 D) hp.out (by decide) rfl
      have Z9 : Hid _ := Z9'
      obtain ⟨sp9, cap9, e9, L9, -⟩ := Q6.own.open kWave.len
      cases e9
      obtain ⟨g9, o9, e9, -, -, c5⟩ := l2_at L9 M p hp.out
      cases e9
      simp only [Nat.zero_add] at c5
      clear L9 Q6 Z9' Z0
      go_simp
      go_wp2
      go_end0
      exact ⟨⟨_, rfl⟩, ⟨Z9.out.kp, ⟨_, Z9.out.box, Z9.out.own⟩⟩⟩
theorem pwav_any (w : World) (sp : Option Addr) (cap : Nat) (l : List Rc) (hl : Hid (LiesR w sp l)) (hn : l.length ≤ 2147483647) :
    Calls Try.prog 12 #[.slice sp l.length cap] w fun e w' => ∃ v, e = .returned v ∧ Hid (KL 34 2 c2 w v (wavL (levels (l.map (·.q)))) w') := by
  have hF : Hid (Fm w [(w.heap.size, #[.slice none 0 0], 30)] (w.alloc (.cells #[.slice none 0 0] 30))) := Fm.one w _ _
  have hQ : Hid (LiesQ w sp (l.map (·.q))) := LiesQ.of hl.out
  have hE := eachRow_any w (w.alloc (.cells #[.slice none 0 0] 30)) hF.out.low sp cap l.length (l.map (·.q)) hQ (by show _ = _; simp) hn 21 #[.pointer (some ⟨w.heap.size, 0, none⟩)] (fun _ _ => rfl)
    (fun pre W => Ho 30 34 2 c2 w.heap.size w.heap.size (wavF pre) W) ((Ho.own _ _ _ _ _ _ _).from _) ⟨_, hF.out.bx 0 _ _ _ rfl, (OwnL.nil _ _)⟩
    (fun pre x W hp hW hI => (wav1_any W w.heap.size w.heap.size x.1 x.2 (wavF pre) hW.size (Nat.le_refl _) (by have := wavF_len pre; omega) hI).mono fun e W' h => ⟨h.1, h.2.out.1, by rw [wavF_snoc]; exact h.2.out.2⟩)
  generalize l.length = n at hE
  go_enter Try.func12, Try.ntmps12
  go_wp2_with (go_at_call 18; refine hE.mono ?_; rintro e y ⟨⟨u, rfl⟩, H⟩; obtain ⟨hB, xs, hR, v, hv, ho⟩ := H.out; refine stopAt ?_)
  rw [hR.done.2.2] at ho
  have K : Hid (KL 34 2 c2 w v (wavL (levels (l.map (·.q)))) y) := ⟨ho, hB⟩
  obtain ⟨sp', cap', rfl, -⟩ := ho.open kWave.len
  have cv := hv.c 0 _ rfl
  clear ho hv hR hB H hE
  generalize (wavL (levels (l.map (·.q)))).length = m at K cv ⊢
  refine Stop.go ?_
  go_wp2
  go_ret
  exact ⟨_, rfl, K⟩
end Go.Proofs.Ytbiifkcphaljeaa
