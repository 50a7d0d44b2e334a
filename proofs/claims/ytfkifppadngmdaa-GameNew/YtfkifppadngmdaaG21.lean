/- A game that is worked on: a call; three digits; registers stored and filled. -/
import Derived.Test.YtfkifppadngmdaaG20
import Derived.Test.YtfkifppadngmdaaIw
namespace Go.Proofs.Ytfkifppadngmdaa
open Go Go.RowKit Go.Shelf
set_option linter.unusedVariables false
set_option maxHeartbeats 1000000
set_option maxRecDepth 20000

theorem fillW (p : Nat) : Instr.fill (fun i => some (i * 1, 1)) ((Array.range (1 * 1)).map ((Value.int IntKind.u16 0).cells[· % (Value.int IntKind.u16 0).cells.size]!)) [(0, .int .u16 (p : Int))] = some (cW p).toArray := by kernel_rfl
theorem at_bsW {ops : Array Oper} {rest : List Oper} {o : Oper} {a : Act} {w : World} {Q : Exit → Act → World → Prop} (p : Nat) (x : Operand) (hgd : o.guard = none) (ho : o.op = .buildSlice 27 1 #[(0, x)]) (hx : a.eval x = .int .u16 (p : Int))
    (k : wpList Try.prog ops Q rest (a.put o.dst (.slice (some ⟨w.heap.size, 0, none⟩) 1 1)) (w.alloc (.cells (cW p).toArray 26))) : wpList Try.prog ops Q (o :: rest) a w := by
  obtain ⟨i, hi, e⟩ := Option.map_eq_some_iff.1 infoWd
  injection e with e1 e2
  injection e2 with e2 e3
  refine wpList_buildSlice hgd 27 26 1 #[(0, x)] ho (cW p).toArray i _ Try.underlying27 hi e1 (by rw [e2]; decide) (by rw [e2]; decide) ?_ k
  rw [e2]
  have e : (#[(0, x)].map fun (i, x) => (i, a.eval x)).toList = [(0, .int .u16 (p : Int))] := by simp [hx]
  rw [e]
  exact fillW p
theorem m_call_any {B : Nat} (w : World) (b : Nat) (g : Gm) (o : Od) (f : Fo) (d : Fd) (h : PB B w b g o f d) (ho : o.op = 5) : Calls Try.prog 22 #[.pointer (some ⟨b, 0, none⟩)] w (MdE B w b o f d (doG g o f d)) := by
  rw [do_call g o f d ho]
  have h12 := (may_iff.1 h.may).2.2
  obtain ⟨sp, cS, c18, hO⟩ := h.stk
  have z18 := h.fz 18
  have c17 := h.cpc
  have p17 := h.ok.pc
  have c28 := h.ca
  have a28 := h.oo.a
  obtain ⟨n, hn⟩ : ∃ n, g.st.length = n := ⟨_, rfl⟩
  rw [hn] at c18 hO h12
  rw [hn]
  by_cases c : n = 12
  · rw [if_pos c]
    have q1 : ((n : Int) == 12) = true := by simp; omega
    clear hO h ho hn h12 z18 c17 c28
    go_enter Try.func22, Try.ntmps22
    go_wp2
    go_ret
    exact ⟨rfl, Below.refl _ _, fun e => by cases e⟩
  · rw [if_neg c]
    have q1 : ((n : Int) == 12) = false := by simp; omega
    have i1 : (n : Int) ≤ 12 := by omega
    obtain ⟨p, hp⟩ : ∃ p, g.pc = p := ⟨_, rfl⟩
    obtain ⟨A, hA⟩ : ∃ A, o.a = A := ⟨_, rfl⟩
    have hst : ∀ s ∈ g.st ++ [p], s < 65536 := fun s hs => by
      rcases List.mem_append.1 hs with k | k
      · exact h.ok.st s k
      · rw [List.mem_singleton.1 k, ← hp]
        exact p17
    obtain ⟨R, hR⟩ : ∃ R, { g with st := g.st ++ [g.pc], pc := o.a } = R := ⟨_, rfl⟩
    rw [hR]
    have R2 : { g with st := g.st ++ [p], pc := A } = R := by rw [← hR, hp, hA]
    have fin : Hid (∀ m v' y, App1L 26 1 cW B (.slice sp n cS) g.st p v' ((w.drewN m).alloc (.cells #[.int .u16 (p : Int)] 26)) y →
        Below B w (y.setCell ⟨b, 18, none⟩ v') ∧ (∃ vv, y.cell? ⟨b, 18, none⟩ = some vv) ∧ y.frozen? ⟨b, 18, none⟩ = false ∧ (y.setCell ⟨b, 18, none⟩ v').cell? ⟨b, 28, none⟩ = some (.int .u16 (A : Int)) ∧ (Calls Try.prog 54 #[.pointer (some ⟨b, 0, none⟩), .int .u16 (A : Int)] (y.setCell ⟨b, 18, none⟩ v') fun e w' => e = .returned (.int .u8 1) ∧ Below B (y.setCell ⟨b, 18, none⟩ v') w' ∧ PB B w' b R o f d) ∧ y.cell? ⟨b, 17, none⟩ = some (.int .u16 (p : Int)) ∧ (y.setCell ⟨b, 18, none⟩ v').cell? ⟨b, 17, none⟩ = some (.int .u16 (p : Int))) := fun m v' y ap => by
      have hw2 : Below w.heap.size w ((w.drewN m).alloc (.cells #[.int .u16 (p : Int)] 26)) := (below_drewN (Below.refl _ w)).alloc (Nat.le_refl _) _
      have h2 := h.below hw2
      have hB : B ≤ w.heap.size := Nat.le_trans h.hb (Nat.le_of_lt h.lt)
      have own : ∀ q j, Value.ownBlock (.slice sp n cS) = some q ∧ n * 1 ≤ j → ∃ cs, Bx ((w.drewN m).alloc (.cells #[.int .u16 (p : Int)] 26)) q cs 26 := fun q j hq => (hO.below hw2).ty q hq.1
      have hk : ∀ q, q < ((w.drewN m).alloc (.cells #[.int .u16 (p : Int)] 26)).heap.size → (∀ cs, ¬ Bx ((w.drewN m).alloc (.cells #[.int .u16 (p : Int)] 26)) q cs 26) → y.heap[q]? = ((w.drewN m).alloc (.cells #[.int .u16 (p : Int)] 26)).heap[q]? := fun q hq hn0 => ap.cu.blk q hq (fun j hF => by
        rw [hn] at hF
        obtain ⟨cs, k⟩ := own q j hF
        exact hn0 cs k)
      have ps := h2.putS (y := y) v' (g.st ++ [p]) hst (by simp; omega) ap.own hk ap.cu.low
      obtain ⟨C, vS, vP, vM, sB, cap, hx, e, _⟩ := h2.c
      have hxy : Bx y b C 54 := (hk b (heap_lt hx) (fun cs k => absurd rfl (Bx.unlike k hx (by decide)))).trans hx
      refine ⟨(hw2.mono hB).trans ps.2, ⟨_, hxy.c 18 vS (by rw [e]; rfl)⟩, hxy.fz 18, by rw [← hA]; exact ps.1.ca, ?_, hxy.c 17 _ (by rw [e, ← hp]; rfl), by rw [← hp]; exact ps.1.cpc⟩
      have kl := leadTo_any _ b _ o f d ps.1 A (by rw [← hA]; exact a28)
      rw [← R2]
      exact kl
    have hOw : Hid (∀ m, OwnL 26 1 cW B ((w.drewN m).alloc (.cells #[.int .u16 (p : Int)] 26)) (.slice sp n cS) g.st ∧ B ≤ ((w.drewN m).alloc (.cells #[.int .u16 (p : Int)] 26)).heap.size) := fun m => by
      have hw2 : Below w.heap.size w ((w.drewN m).alloc (.cells #[.int .u16 (p : Int)] 26)) := (below_drewN (Below.refl _ w)).alloc (Nat.le_refl _) _
      exact ⟨hO.below hw2, Nat.le_trans (Nat.le_trans h.hb (Nat.le_of_lt h.lt)) hw2.size⟩
    have hHa : Hid (((w.drewN 1).alloc (.cells (cW p).toArray 26)).cell? ⟨b, 17, none⟩ = some (.int .u16 (p : Int))) := by
      rw [← hp]
      exact (h.below ((below_drewN (n := 1) (Below.refl _ w)).alloc (Nat.le_refl _) _)).cpc
    have c18a : Hid (((w.drewN 1).alloc (.cells (cW p).toArray 26)).cell? ⟨b, 18, none⟩ = some (.slice sp n cS)) := by
      have hw2 : Below w.heap.size w ((w.drewN 1).alloc (.cells (cW p).toArray 26)) := (below_drewN (Below.refl _ w)).alloc (Nat.le_refl _) _
      exact (World.cell?_of_block (w := w) (a := ⟨b, 18, none⟩) (hw2.block b h.lt)).trans c18
    rw [hp] at c17 p17
    rw [hA] at c28 a28
    have hn' : Hid (g.st.length ≤ 100000000000) := by show _ ≤ _; omega
    clear hO h ho hn h12 hst hR R2 hp hA
    go_enter Try.func22, Try.ntmps22
    go_wp2
    --BEGIN
    refine wp_region_held_drew (S := fun y => y.cell? ⟨b, 17, none⟩ = some (.int .u16 (p : Int))) (by kernel_rfl) c17 (fun hH => ?_)
    rw [World.drew_is_drewN] at hH ⊢
    refine wpAnyH_take (i := 0) (oi := ⟨some 10, _, _, _, _, _⟩) (v := .pointer (some ⟨b, 0, none⟩)) rfl (by kernel_rfl) (by kernel_rfl) (by kernel_rfl) (fun _ _ _ h => h) (.inl ⟨by kernel_rfl, fun k hk => by go_simp⟩) hH ?_
    try simp only [Act.put, List.setIfInBounds_toArray, List.set_cons_zero, List.set_cons_succ]
    refine wpAnyH_take (i := 1) (oi := ⟨some 11, _, _, _, _, _⟩) (v := .pointer (some ⟨b, 0, none⟩)) rfl (by kernel_rfl) (by kernel_rfl) (by kernel_rfl) (fun _ _ _ h => h) (.inl ⟨by kernel_rfl, fun k hk => by go_simp⟩) hH ?_
    try simp only [Act.put, List.setIfInBounds_toArray, List.set_cons_zero, List.set_cons_succ]
    refine wpAnyH_take (i := 2) (oi := ⟨some 12, _, _, _, _, _⟩) (v := .pointer (some ⟨b, 0, none⟩)) rfl (by kernel_rfl) (by kernel_rfl) (by kernel_rfl) (fun _ _ _ h => h) (.inl ⟨by kernel_rfl, fun k hk => by go_simp⟩) hH ?_
    try simp only [Act.put, List.setIfInBounds_toArray, List.set_cons_zero, List.set_cons_succ]
    refine wpAnyH_take (i := 3) (oi := ⟨some 13, _, _, _, _, _⟩) (v := .pointer (some ⟨b, 0, none⟩)) rfl (by kernel_rfl) (by kernel_rfl) (by kernel_rfl) (fun _ _ _ h => h) (.inl ⟨by kernel_rfl, fun k hk => by go_simp⟩) hH ?_
    try simp only [Act.put, List.setIfInBounds_toArray, List.set_cons_zero, List.set_cons_succ]
    refine wpAnyH_take (i := 4) (oi := ⟨some 14, _, _, _, _, _⟩) (v := .pointer (some ⟨b, 18, none⟩)) rfl (by kernel_rfl) (by kernel_rfl) (by kernel_rfl) (fun _ _ _ h => h) (.inl ⟨by kernel_rfl, fun k hk => by go_simp⟩) hH ?_
    try simp only [Act.put, List.setIfInBounds_toArray, List.set_cons_zero, List.set_cons_succ]
    refine wpAnyH_take (i := 6) (oi := ⟨some 16, _, _, _, _, _⟩) (v := .pointer (some ⟨b, 0, none⟩)) rfl (by kernel_rfl) (by kernel_rfl) (by kernel_rfl) (fun _ _ _ h => h) (.inl ⟨by kernel_rfl, fun k hk => by go_simp⟩) hH ?_
    try simp only [Act.put, List.setIfInBounds_toArray, List.set_cons_zero, List.set_cons_succ]
    refine wpAnyH_take (i := 7) (oi := ⟨some 17, _, _, _, _, _⟩) (v := .pointer (some ⟨b, 0, none⟩)) rfl (by kernel_rfl) (by kernel_rfl) (by kernel_rfl) (fun _ _ _ h => h) (.inl ⟨by kernel_rfl, fun k hk => by go_simp⟩) hH ?_
    try simp only [Act.put, List.setIfInBounds_toArray, List.set_cons_zero, List.set_cons_succ]
    refine wpAnyH_take (i := 8) (oi := ⟨some 18, _, _, _, _, _⟩) (v := .pointer (some ⟨b, 0, none⟩)) rfl (by kernel_rfl) (by kernel_rfl) (by kernel_rfl) (fun _ _ _ h => h) (.inl ⟨by kernel_rfl, fun k hk => by go_simp⟩) hH ?_
    try simp only [Act.put, List.setIfInBounds_toArray, List.set_cons_zero, List.set_cons_succ]
    refine wpAnyH_take (i := 9) (oi := ⟨some 19, _, _, _, _, _⟩) (v := .pointer (some ⟨b, 17, none⟩)) rfl (by kernel_rfl) (by kernel_rfl) (by kernel_rfl) (fun _ _ _ h => h) (.inl ⟨by kernel_rfl, fun k hk => by go_simp⟩) hH ?_
    try simp only [Act.put, List.setIfInBounds_toArray, List.set_cons_zero, List.set_cons_succ]
    refine wpAnyH_take (i := 10) (oi := ⟨some 20, _, _, _, _, _⟩) (v := .int .u16 (p : Int)) rfl (by kernel_rfl) (by kernel_rfl) (by kernel_rfl) (fun _ _ _ h => h) (.inl ⟨by kernel_rfl, fun k hk => by go_simp⟩) hH ?_
    try simp only [Act.put, List.setIfInBounds_toArray, List.set_cons_zero, List.set_cons_succ]
    refine wpAnyH_ready (rs := [5, 11]) (by kernel_rfl) (by simp) (fun i hi => ?_)
    rcases List.mem_cons.1 hi with rfl | hi
    · clear hi
      refine wpOp_list rfl ?_
      refine at_op (.slice sp n cS) (by kernel_rfl) (by (first | (have d := c18; go_simp; done) | (generalize hyy : (w.drewN 1).alloc (.cells (cW p).toArray 26) = yy at c18a ⊢; have d := c18a.out; go_simp; done))) ?_
      refine ⟨hH, ?_⟩
      try simp only [Act.put, List.setIfInBounds_toArray]
      refine wpAnyH_ready (rs := [11]) (by kernel_rfl) (by simp) (fun i hi => ?_)
      obtain rfl := List.mem_singleton.1 hi
      clear hi
      refine wpOp_list rfl ?_
      refine at_bsW p (.tmp 20) rfl rfl rfl ?_
      refine ⟨hHa.out, ?_⟩
      replace hH := hHa.out
      try simp only [Act.put]
      refine wpAnyH_ready (rs := [12]) (by kernel_rfl) (by simp) (fun i hi => ?_)
      obtain rfl := List.mem_singleton.1 hi
      clear hi
      refine wpOp_list rfl ?_
      refine at_appL kWord rfl (.tmp 15) (.tmp 21) rfl B (.slice sp n cS) g.st rfl (hOw.out 1).1 (w.drewN 1).heap.size p rfl (one_bxL (w.drewN 1) (cW p).toArray 26) hn'.out (hOw.out 1).2 ?_
      intro v2 y2 K2
      obtain ⟨s2, k2, c2, rfl⟩ : ∃ s k c, v2 = .slice s k c := by
        obtain ⟨s2, c2, ev, _⟩ := OwnL.open kWord.len K2.out.own
        exact ⟨s2, _, c2, ev⟩
      obtain ⟨N3, ⟨vv, N4⟩, N5, N6, N7, N8, N9⟩ := fin.out 1 _ y2 K2.out
      refine ⟨N8, ?_⟩
      replace hH := N8
      try simp only [Act.put]
      refine wpAnyH_take (i := 13) (oi := ⟨some 23, _, _, _, _, _⟩) (v := .pointer (some ⟨b, 0, none⟩)) rfl (by kernel_rfl) (by kernel_rfl) (by kernel_rfl) (fun _ _ _ h => h) (.inl ⟨by kernel_rfl, fun k hk => by go_simp⟩) hH ?_
      try simp only [Act.put]
      refine wpAnyH_take (i := 14) (oi := ⟨some 24, _, _, _, _, _⟩) (v := .pointer (some ⟨b, 0, none⟩)) rfl (by kernel_rfl) (by kernel_rfl) (by kernel_rfl) (fun _ _ _ h => h) (.inl ⟨by kernel_rfl, fun k hk => by go_simp⟩) hH ?_
      try simp only [Act.put]
      refine wpAnyH_take (i := 15) (oi := ⟨some 25, _, _, _, _, _⟩) (v := .pointer (some ⟨b, 18, none⟩)) rfl (by kernel_rfl) (by kernel_rfl) (by kernel_rfl) (fun _ _ _ h => h) (.inl ⟨by kernel_rfl, fun k hk => by go_simp⟩) hH ?_
      try simp only [Act.put]
      refine wpAnyH_ready (rs := [16]) (by kernel_rfl) (by simp) (fun i hi => ?_)
      obtain rfl := List.mem_singleton.1 hi
      clear hi
      refine wpOp_list rfl ?_
      have N3' : Hid (Below B w (y2.setCell ⟨b, 18, none⟩ (.slice s2 k2 c2))) := N3
      clear N3
      go_wp2
      refine ⟨N9, ?_⟩
      refine wpAnyH_done (by kernel_rfl) ?_ _
      go_wp2_with (go_at_call 54; refine N7.mono ?_; rintro e y ⟨rfl, H⟩; have K : Hid (Below B w y ∧ PB B y b R o f d) := ⟨N3'.out.trans H.1, H.2⟩)
      go_ret
      exact ⟨rfl, K.out.1, fun _ => K.out.2⟩
    · obtain rfl := List.mem_singleton.1 hi
      clear hi
      refine wpOp_list rfl ?_
      refine at_bsW p (.tmp 20) rfl rfl rfl ?_
      refine ⟨hHa.out, ?_⟩
      replace hH := hHa.out
      try simp only [Act.put, List.setIfInBounds_toArray]
      refine wpAnyH_ready (rs := [5]) (by kernel_rfl) (by simp) (fun i hi => ?_)
      obtain rfl := List.mem_singleton.1 hi
      clear hi
      refine wpOp_list rfl ?_
      refine at_op (.slice sp n cS) (by kernel_rfl) (by (first | (have d := c18; go_simp; done) | (generalize hyy : (w.drewN 1).alloc (.cells (cW p).toArray 26) = yy at c18a ⊢; have d := c18a.out; go_simp; done))) ?_
      refine ⟨hH, ?_⟩
      try simp only [Act.put]
      refine wpAnyH_ready (rs := [12]) (by kernel_rfl) (by simp) (fun i hi => ?_)
      obtain rfl := List.mem_singleton.1 hi
      clear hi
      refine wpOp_list rfl ?_
      refine at_appL kWord rfl (.tmp 15) (.tmp 21) rfl B (.slice sp n cS) g.st rfl (hOw.out 1).1 (w.drewN 1).heap.size p rfl (one_bxL (w.drewN 1) (cW p).toArray 26) hn'.out (hOw.out 1).2 ?_
      intro v2 y2 K2
      obtain ⟨s2, k2, c2, rfl⟩ : ∃ s k c, v2 = .slice s k c := by
        obtain ⟨s2, c2, ev, _⟩ := OwnL.open kWord.len K2.out.own
        exact ⟨s2, _, c2, ev⟩
      obtain ⟨N3, ⟨vv, N4⟩, N5, N6, N7, N8, N9⟩ := fin.out 1 _ y2 K2.out
      refine ⟨N8, ?_⟩
      replace hH := N8
      try simp only [Act.put]
      refine wpAnyH_take (i := 13) (oi := ⟨some 23, _, _, _, _, _⟩) (v := .pointer (some ⟨b, 0, none⟩)) rfl (by kernel_rfl) (by kernel_rfl) (by kernel_rfl) (fun _ _ _ h => h) (.inl ⟨by kernel_rfl, fun k hk => by go_simp⟩) hH ?_
      try simp only [Act.put]
      refine wpAnyH_take (i := 14) (oi := ⟨some 24, _, _, _, _, _⟩) (v := .pointer (some ⟨b, 0, none⟩)) rfl (by kernel_rfl) (by kernel_rfl) (by kernel_rfl) (fun _ _ _ h => h) (.inl ⟨by kernel_rfl, fun k hk => by go_simp⟩) hH ?_
      try simp only [Act.put]
      refine wpAnyH_take (i := 15) (oi := ⟨some 25, _, _, _, _, _⟩) (v := .pointer (some ⟨b, 18, none⟩)) rfl (by kernel_rfl) (by kernel_rfl) (by kernel_rfl) (fun _ _ _ h => h) (.inl ⟨by kernel_rfl, fun k hk => by go_simp⟩) hH ?_
      try simp only [Act.put]
      refine wpAnyH_ready (rs := [16]) (by kernel_rfl) (by simp) (fun i hi => ?_)
      obtain rfl := List.mem_singleton.1 hi
      clear hi
      refine wpOp_list rfl ?_
      have N3' : Hid (Below B w (y2.setCell ⟨b, 18, none⟩ (.slice s2 k2 c2))) := N3
      clear N3
      go_wp2
      refine ⟨N9, ?_⟩
      refine wpAnyH_done (by kernel_rfl) ?_ _
      go_wp2_with (go_at_call 54; refine N7.mono ?_; rintro e y ⟨rfl, H⟩; have K : Hid (Below B w y ∧ PB B y b R o f d) := ⟨N3'.out.trans H.1, H.2⟩)
      go_ret
      exact ⟨rfl, K.out.1, fun _ => K.out.2⟩
    --END
theorem cells3 {y : World} {q : Nat} {l : List UInt8} (h : Bx y q (rowB l) 5) : ∀ j v, (l.map byV)[j]? = some v → y.cell? ((⟨q, 0, none⟩ : Addr).add j) = some v := fun j v hv => by
  rw [Addr.add_lit, Nat.zero_add]
  refine h.c j v ?_
  unfold rowB
  simpa using hv
theorem m_three_any {B : Nat} (w : World) (b : Nat) (g : Gm) (o : Od) (f : Fo) (d : Fd) (h : PB B w b g o f d) (ho : o.op = 29) : Calls Try.prog 46 #[.pointer (some ⟨b, 0, none⟩)] w (MdE B w b o f d (doG g o f d)) := by
  have eD : doG g o f d = if fitG g.i 3 then ({ g with me := wr g.me (g.i - 512) [g.v.getD o.x 0 / 100, g.v.getD o.x 0 / 10 % 10, g.v.getD o.x 0 % 10] 3 }, 1) else (g, 7) := by unfold doG; rw [ho]; rfl
  rw [eD]
  have hvx0 := vx_any w b g o f d h
  have hw := fun y (hy : PB B y b g o f d) q (hq : Bx y q (rowB [g.v.getD o.x 0 / 100, g.v.getD o.x 0 / 10 % 10, g.v.getD o.x 0 % 10]) 5) => write_any y b g o f d hy ⟨q, 0, none⟩ [g.v.getD o.x 0 / 100, g.v.getD o.x 0 / 10 % 10, g.v.getD o.x 0 % 10] 3 3 rfl (by decide) (by decide) (cells3 hq)
  have e1 : rowB [g.v.getD o.x 0 / 100, g.v.getD o.x 0 / 10 % 10, g.v.getD o.x 0 % 10] = #[.int .u8 ((((g.v.getD o.x 0).toNat / 100 : Nat)) : Int), .int .u8 (((g.v.getD o.x 0).toNat / 10 % 10 : Nat) : Int), .int .u8 (((g.v.getD o.x 0).toNat % 10 : Nat) : Int)] := by
    unfold rowB byV
    simp [UInt8.toNat_div, UInt8.toNat_mod]
  have iV := (g.v.getD o.x 0).toNat_lt
  obtain ⟨R, hR⟩ : ∃ R, { g with me := wr g.me (g.i - 512) [g.v.getD o.x 0 / 100, g.v.getD o.x 0 / 10 % 10, g.v.getD o.x 0 % 10] 3 } = R := ⟨_, rfl⟩
  rw [hR]
  obtain ⟨L, hL⟩ : ∃ L, [g.v.getD o.x 0 / 100, g.v.getD o.x 0 / 10 % 10, g.v.getD o.x 0 % 10] = L := ⟨_, rfl⟩
  rw [hL] at hw e1 hR
  rw [hR] at hw
  obtain ⟨V, hV⟩ : ∃ V, (g.v.getD o.x 0).toNat = V := ⟨_, rfl⟩
  rw [hV] at hvx0 e1 iV
  obtain ⟨A1, hA1⟩ : ∃ A, V / 100 = A := ⟨_, rfl⟩
  obtain ⟨A2, hA2⟩ : ∃ A, V / 10 % 10 = A := ⟨_, rfl⟩
  obtain ⟨A3, hA3⟩ : ∃ A, V % 10 = A := ⟨_, rfl⟩
  obtain ⟨A4, hA4⟩ : ∃ A, V / 10 = A := ⟨_, rfl⟩
  rw [hA1, hA2, hA3] at e1
  have q1 : (V : Int) / 100 = (A1 : Int) := by omega
  have q2 : (V : Int) / 10 = (A4 : Int) := by omega
  have q3 : (A4 : Int) % 10 = (A2 : Int) := by omega
  have q4 : (V : Int) % 10 = (A3 : Int) := by omega
  have t1 : Int.tdiv (V : Int) 100 = (A1 : Int) := by rw [Int.tdiv_eq_ediv_of_nonneg (by omega)]; exact q1
  have t2 : Int.tdiv (V : Int) 10 = (A4 : Int) := by rw [Int.tdiv_eq_ediv_of_nonneg (by omega)]; exact q2
  have t3 : Int.tmod (A4 : Int) 10 = (A2 : Int) := by rw [Int.tmod_eq_emod_of_nonneg (by omega)]; exact q3
  have t4 : Int.tmod (V : Int) 10 = (A3 : Int) := by rw [Int.tmod_eq_emod_of_nonneg (by omega)]; exact q4
  have j1 : (A1 : Int) < 256 := by omega
  have j2 : (A2 : Int) < 256 := by omega
  have j3 : (A3 : Int) < 256 := by omega
  have j4 : (A4 : Int) < 256 := by omega
  have e1' : Hid (rowB L = #[.int .u8 (A1 : Int), .int .u8 (A2 : Int), .int .u8 (A3 : Int)]) := e1
  have h' : Hid (PB B w b g o f d) := h
  obtain ⟨z, hz⟩ : ∃ z, fitG g.i 3 = z := ⟨_, rfl⟩
  rw [hz]
  rw [hz] at hw
  clear eD h ho hR hL hV hA1 hA2 hA3 hA4 e1 hz
  cases z
  · go_enter Try.func46, Try.ntmps46
    go_wp2_with (first
      | (go_at_call 66; refine (hw y2 K2.out.1 _ K2.out.2.1).mono ?_; rintro e y3 ⟨rfl, H3⟩)
      | ((with_reducible refine gen_world ((w.drewN m).alloc (.cells #[.int .u8 (A1 : Int), .int .u8 (A2 : Int), .int .u8 (A3 : Int)] 5)) (fun y => PB B y b g o f d ∧ Bx y w.heap.size (rowB L) 5 ∧ Below w.heap.size w y) ?_ ?_); (rw [e1'.out]; exact ⟨h'.out.below ((below_drewN (Below.refl _ w)).alloc (Nat.le_refl _) _), one_bxL (w.drewN m) _ _, (below_drewN (Below.refl _ w)).alloc (Nat.le_refl _) _⟩); intro y2 K2)
      | (go_at_call 56; refine hvx0.mono ?_; rintro e y ⟨rfl, m, rfl⟩))
    go_ret
    exact ⟨rfl, (K2.out.2.2.mono (Nat.le_trans h'.out.hb (Nat.le_of_lt h'.out.lt))).trans H3.out.1, fun e => by cases e⟩
  · go_enter Try.func46, Try.ntmps46
    go_wp2_with (first
      | (go_at_call 66; refine (hw y2 K2.out.1 _ K2.out.2.1).mono ?_; rintro e y3 ⟨rfl, H3⟩)
      | ((with_reducible refine gen_world ((w.drewN m).alloc (.cells #[.int .u8 (A1 : Int), .int .u8 (A2 : Int), .int .u8 (A3 : Int)] 5)) (fun y => PB B y b g o f d ∧ Bx y w.heap.size (rowB L) 5 ∧ Below w.heap.size w y) ?_ ?_); (rw [e1'.out]; exact ⟨h'.out.below ((below_drewN (Below.refl _ w)).alloc (Nat.le_refl _) _), one_bxL (w.drewN m) _ _, (below_drewN (Below.refl _ w)).alloc (Nat.le_refl _) _⟩); intro y2 K2)
      | (go_at_call 56; refine hvx0.mono ?_; rintro e y ⟨rfl, m, rfl⟩))
    go_ret
    exact ⟨rfl, (K2.out.2.2.mono (Nat.le_trans h'.out.hb (Nat.le_of_lt h'.out.lt))).trans H3.out.1, fun _ => H3.out.2 trivial⟩
end Go.Proofs.Ytfkifppadngmdaa
