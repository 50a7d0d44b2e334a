/- The program's own: one order. -/
import Derived.Test.YtfkifppadngmdaaG26
namespace Go.Proofs.Ytfkifppadngmdaa
open Go Go.RowKit Go.Shelf
set_option linter.unusedVariables false
set_option maxHeartbeats 1000000
set_option maxRecDepth 20000

theorem rtP : Rt Try.prog 54 50 := ⟨⟨_, Try.underlying54, rfl⟩, by kernel_rfl⟩
theorem Fm.four (w : World) (c1 c2 c3 c4 : Array Value) (t1 t2 t3 t4 : TypeId) : Fm w [(w.heap.size, c1, t1), (w.heap.size + 1, c2, t2), (w.heap.size + 2, c3, t3), (w.heap.size + 3, c4, t4)] ((((w.alloc (.cells c1 t1)).alloc (.cells c2 t2)).alloc (.cells c3 t3)).alloc (.cells c4 t4)) := by
  have h := (((((Fm.nil w).new c1 t1).new c2 t2).new c3 t3).new c4 t4)
  simpa using h
theorem y_bu {ops : Array Oper} {S : World → Prop} {o : Oper} {a : Act} {t : TypeId} (parts : Array (Nat × Operand)) (l : List (Nat × Value)) (cs : Array Value) (hw : Region.wanted o (yielded ops a.tmps) = true) (ho : o.op = .build t parts) (hl : (parts.map fun (i, x) => (i, a.eval x)).toList = l) (hb : Try.prog.built t l = some cs) : YieldsIf Try.prog ops S o (.agg cs) a :=
  .inl ⟨hw, fun w _ => by
    have hr := run_build (P := Try.prog) w t (parts.map fun (i, x) => (i, a.eval x)) cs (by rw [hl]; exact hb)
    unfold execOp
    simp only [ho, Sem.run_bind, hr, Result.andThen_ok, Sem.run_pure]⟩
theorem built_p (v : List UInt8) (i pc : Nat) (sS : Value) (de so : UInt8) (sP sM : Value) (o : Od) (d : Fd) (pl : List Nat) (fr : Nat) (sB : Value) : Try.prog.built 54 [(0, .agg (gCs v i pc sS de so sP sM)), (1, .agg (o6 o)), (2, .agg (dCs d)), (3, .agg (fCs pl fr sB))] = some (pCs v i pc sS de so sP sM o d pl fr sB) := by kernel_rfl
theorem pCs_one (v : List UInt8) (i pc : Nat) (de so : UInt8) (o : Od) (d : Fd) (pl : List Nat) (fr : Nat) (a b c e : Option Addr) (n1 n2 n3 n4 m1 m2 m3 m4 : Nat) : (pCs v i pc (.slice a n1 m1) de so (.slice b n2 m2) (.slice c n3 m3) o d pl fr (.slice e n4 m4)).all (·.oneCell') = true := by
  unfold pCs gV byV wV
  simp [Value.oneCell']
theorem at_alP {ops : Array Oper} {o : Oper} {a : Act} {w : World} {Q : Exit → Act → World → Prop} {rest : List Oper} (hg : o.guard = none) (ho : o.op = .alloc 54) (k : wpList Try.prog ops Q rest (a.put o.dst (.pointer (some ⟨w.heap.size, 0, none⟩))) (w.alloc (.cells #[.int .u8 0, .int .u8 0, .int .u8 0, .int .u8 0, .int .u8 0, .int .u8 0, .int .u8 0, .int .u8 0, .int .u8 0, .int .u8 0, .int .u8 0, .int .u8 0, .int .u8 0, .int .u8 0, .int .u8 0, .int .u8 0, .int .u16 0, .int .u16 0, .slice none 0 0, .int .u8 0, .int .u8 0, .slice none 0 0, .slice none 0 0, .int .u8 0, .int .u8 0, .int .u8 0, .int .u8 0, .int .u8 0, .int .u16 0, .int .u8 0, .int .u16 0, .int .i64 0, .int .u16 0, .int .u16 0, .int .u16 0, .int .u16 0, .int .u16 0, .int .u16 0, .int .u16 0, .int .u16 0, .int .u16 0, .int .u16 0, .int .u16 0, .int .u16 0, .int .u16 0, .int .u16 0, .int .u16 0, .int .u16 0, .int .u16 0, .slice none 0 0] 54))) : wpList Try.prog ops Q (o :: rest) a w := by
  refine wpList_plain hg fun K hK => ?_
  have hr : (execOp a.eval o).run Try.prog w = .ok (.value (.pointer (some ⟨w.heap.size, 0, none⟩))) (w.alloc (.cells #[.int .u8 0, .int .u8 0, .int .u8 0, .int .u8 0, .int .u8 0, .int .u8 0, .int .u8 0, .int .u8 0, .int .u8 0, .int .u8 0, .int .u8 0, .int .u8 0, .int .u8 0, .int .u8 0, .int .u8 0, .int .u8 0, .int .u16 0, .int .u16 0, .slice none 0 0, .int .u8 0, .int .u8 0, .slice none 0 0, .slice none 0 0, .int .u8 0, .int .u8 0, .int .u8 0, .int .u8 0, .int .u8 0, .int .u16 0, .int .u8 0, .int .u16 0, .int .i64 0, .int .u16 0, .int .u16 0, .int .u16 0, .int .u16 0, .int .u16 0, .int .u16 0, .int .u16 0, .int .u16 0, .int .u16 0, .int .u16 0, .int .u16 0, .int .u16 0, .int .u16 0, .int .u16 0, .int .u16 0, .int .u16 0, .int .u16 0, .slice none 0 0] 54)) := by
    unfold execOp
    simp only [ho]
    kernel_rfl
  unfold Oper.wp
  rw [hr]
  exact hK _ _ k
theorem ret_three {P : Program} {a : Act} {w : World} {t : TypeId} {n : Nat} {fn : Func} {R' : Ending → World → Prop} {p u v : Tmp} {b : Nat} {cs : Array Value} {x y : Value} (R : Rt P t n) (hr : fn.results = #[.cell p t, .tmp u, .tmp v]) (hp : a.tmps.getD p undef = .pointer (some ⟨b, 0, none⟩)) (hu : a.tmps.getD u undef = x) (hv : a.tmps.getD v undef = y) (h : Bx w b cs t) (hs : cs.size = n) (hd : a.defers = []) (hR : R' (.returned (.tuple #[.agg cs, x, y])) w) : bodyPost P fn R' .ret a w := by
  obtain ⟨d, hu9, hd'⟩ := R.u
  refine bodyPost_ret ?_ hd hR
  have hl := run_loadVar_row (P := P) w b t t cs (0, 0) d h hu9 (by cases d <;> first | rfl | exact hd') (by rw [hs]; exact R.i)
  have hp9 : a.tmps[p]?.getD undef = .pointer (some ⟨b, 0, none⟩) := by simpa using hp
  have hu9 : a.tmps[u]?.getD undef = x := by simpa using hu
  have hv9 : a.tmps[v]?.getD undef = y := by simpa using hv
  simp [results, hr, hp9, hu9, hv9, asAddr, hl, Result.andThen]
theorem lb_block {w : World} {sp : Option Addr} {l : List UInt8} (h : LB w sp l) {a : Addr} (ha : sp = some a) (h0 : 0 < l.length) : a.block < w.heap.size := by
  obtain ⟨g, o, rfl⟩ := lb_some h h0
  cases ha
  exact World.block_lt_of_cell? w _ (lb_at h 0 h0)
/-- What is left of a game that was worked on. -/
theorem PB.go {B : Nat} {w : World} {b : Nat} {g : Gm} {o : Od} {f : Fo} {d : Fd} (h : PB B w b g o f d) : ∃ C, w.rangeAt b 0 C.toList ∧ GO B w C g := by
  obtain ⟨⟨C, vS, vP, vM, sB, cap, hx, e, h1, h2, h3, h4, h5, h6⟩, h7, h8, h9, h10, h11, h12⟩ := h
  refine ⟨gCs g.v g.i g.pc vS g.de g.so vP vM, fun j v hv => ?_, ⟨⟨vS, vP, vM, rfl, h1, h2, h3, h4⟩, h8⟩⟩
  refine hx.c (0 + j) v ?_
  have hj : j < 23 := by have := (List.getElem?_eq_some_iff.1 hv).1; exact this
  rw [e, Nat.zero_add]
  rw [← hv]
  rcases (show j = 0 ∨ j = 1 ∨ j = 2 ∨ j = 3 ∨ j = 4 ∨ j = 5 ∨ j = 6 ∨ j = 7 ∨ j = 8 ∨ j = 9 ∨ j = 10 ∨ j = 11 ∨ j = 12 ∨ j = 13 ∨ j = 14 ∨ j = 15 ∨ j = 16 ∨ j = 17 ∨ j = 18 ∨ j = 19 ∨ j = 20 ∨ j = 21 ∨ j = 22 by omega) with rfl | rfl | rfl | rfl | rfl | rfl | rfl | rfl | rfl | rfl | rfl | rfl | rfl | rfl | rfl | rfl | rfl | rfl | rfl | rfl | rfl | rfl | rfl <;> rfl
theorem ordF_ok (w : Nat) : ∀ (fs : List Nat) (o : Od), o.Ok → (∀ k ∈ fs, k < 5) → (ordF o w fs).Ok
  | [], o, h, _ => h
  | k :: fs, o, h, hk => by
    show (ordF (putK k o (fldV k w)) w fs).Ok
    refine ordF_ok w fs _ ?_ (fun j hj => hk j (List.mem_cons_of_mem _ hj))
    have h5 := hk k (List.mem_cons_self)
    have hl := fldV_lt k w h5
    rcases (show k = 0 ∨ k = 1 ∨ k = 2 ∨ k = 3 ∨ k = 4 by omega) with rfl | rfl | rfl | rfl | rfl
    · exact ⟨Nat.lt_of_le_of_lt (Nat.mod_le _ _) hl, h.y, h.n, h.b, h.a⟩
    · exact ⟨h.x, Nat.lt_of_le_of_lt (Nat.mod_le _ _) hl, h.n, h.b, h.a⟩
    · exact ⟨h.x, h.y, Nat.lt_of_le_of_lt (Nat.mod_le _ _) hl, h.b, h.a⟩
    · exact ⟨h.x, h.y, h.n, Nat.lt_of_le_of_lt (Nat.mod_le _ _) hl, h.a⟩
    · exact ⟨h.x, h.y, h.n, h.b, Nat.lt_of_lt_of_le hl (by decide)⟩
theorem dec_ok (w : Nat) : (decO w).Ok := by
  unfold decO
  split
  · rename_i i hi
    obtain ⟨hi31, _⟩ := fstI_of hi
    refine ordF_ok w _ _ ⟨Nat.zero_lt_succ _, Nat.zero_lt_succ _, Nat.zero_lt_succ _, Nat.zero_lt_succ _, Nat.zero_lt_succ _⟩ ?_
    rcases fs_pats i hi31 with e | e | e | e | e | e <;> rw [e] <;> simp
  · exact ⟨by decide, by decide, by decide, by decide, by decide⟩
theorem step_bad (w : World) (C D : Array Value) (g : Gm) (f : Fo) (d : Fd) (hg : Hid (GL w C g)) (hf : Hid (FL w D f)) (hd : Hid d.Ok) (hs : Hid (smaG g f)) (hm : Hid (g.may = false)) :
    Calls Try.prog 11 #[.agg C, .agg D, .agg (dCs d)] w fun e w' => ∃ C', e = .returned (.tuple #[.agg C', .int .u8 0, .int .i64 180]) ∧ GO w.heap.size w' C' gz ∧ Below w.heap.size w w' := by
  have gC : Hid (C.size = 23) := hg.out.size.1
  have gD : Hid (D.size = 18) := hf.out.size
  obtain ⟨Z, hZ⟩ : ∃ x : Array Value, Hid (x = gZ) := ⟨_, (rfl : gZ = gZ)⟩
  have hZ' : Hid (Z.size = 23) := by show _ = _; rw [hZ.out]; rfl
  have hby : Hid (f.by_.length ≤ 4000000000) := by show _ ≤ _; have := hs.out; unfold smaG at this; omega
  have nst : Hid (g.st.length ≤ 4000000000 ∧ g.pg.length ≤ 4000000000 ∧ g.me.length ≤ 4000000000) := by have := hs.out; unfold smaG at this; exact ⟨by omega, by omega, by omega⟩
  go_enter Try.func11, Try.ntmps11
  go_wp2_with (first
    | ((with_reducible refine gen_world ((((w.alloc (.cells C 29)).alloc (.cells D 42)).alloc (.cells (dCs d) 44)).alloc (.cells #[.int .u8 0, .int .u8 0, .int .u8 0, .int .u8 0, .int .u8 0, .int .u8 0, .int .u8 0, .int .u8 0, .int .u8 0, .int .u8 0, .int .u8 0, .int .u8 0, .int .u8 0, .int .u8 0, .int .u8 0, .int .u8 0, .int .u16 0, .int .u16 0, .slice none 0 0, .int .u8 0, .int .u8 0, .slice none 0 0, .slice none 0 0] 29)) (fun y => Fm w [(w.heap.size, C, 29), (w.heap.size + 1, D, 42), (w.heap.size + 2, (dCs d), 44), (w.heap.size + 3, Z, 29)] y ∧ y.heap.size = w.heap.size + 4) ?_ ?_); (rw [hZ.out]; unfold gZ; exact ⟨Fm.four w _ _ _ _ _ _ _ _, by simp [World.size_alloc]⟩); intro y0 K0)
    | ((with_reducible refine at_load rtG w.heap.size C ?_ ?_ (.tmp 3) ?_ ?_ ?_ ?_); (first | exact K2.out.1.bx 0 _ _ _ rfl | exact K0.out.1.bx 0 _ _ _ rfl); exact gC.out; kernel_rfl; rfl; rfl)
    | (go_at_call 12; refine (check_gl y0 C g (hg.out.below K0.out.1.low)).mono ?_; rintro e y1 ⟨rfl, H1⟩; have K1 : Hid (Fm w [(w.heap.size, C, 29), (w.heap.size + 1, D, 42), (w.heap.size + 2, (dCs d), 44), (w.heap.size + 3, Z, 29)] y1 ∧ w.heap.size + 4 ≤ y1.heap.size) := ⟨K0.out.1.below H1, (by have := H1.size; rw [K0.out.2] at this; exact this)⟩; rw [hm.out])
    | ((with_reducible refine at_bu #[] [] gZ ?_ ?_ ?_ builtG0 ?_); kernel_rfl; rfl; rfl)
    | ((with_reducible refine at_st rtG (w.heap.size + 3) Z gZ ?_ ?_ ?_ ?_ (.tmp 6) (.tmp 17) ?_ ?_ ?_ ?_ ?_); exact K1.out.1.bx 3 _ _ _ rfl; exact hZ'.out; rfl; kernel_rfl; rfl; rfl; rfl; rfl; intro yE HE; have KE : Hid (Fm w [(w.heap.size, C, 29), (w.heap.size + 1, D, 42), (w.heap.size + 2, (dCs d), 44), (w.heap.size + 3, gZ, 29)] yE) := K1.out.1.put 3 _ _ _ _ rfl HE.out))
  exact ret_three rtG rfl rfl rfl rfl (KE.out.bx 3 _ _ _ rfl) rfl rfl ⟨gZ, rfl, GO.zero _ _, KE.out.low⟩

theorem step_font (w : World) (C D : Array Value) (g : Gm) (f : Fo) (d : Fd) (hg : Hid (GL w C g)) (hf : Hid (FL w D f)) (hd : Hid d.Ok) (hs : Hid (smaG g f)) (hm : Hid (g.may = true)) (hfo : Hid (fontG f = false)) :
    Calls Try.prog 11 #[.agg C, .agg D, .agg (dCs d)] w fun e w' => ∃ C', e = .returned (.tuple #[.agg C', .int .u8 0, .int .i64 1]) ∧ GO w.heap.size w' C' gz ∧ Below w.heap.size w w' := by
  have gC : Hid (C.size = 23) := hg.out.size.1
  have gD : Hid (D.size = 18) := hf.out.size
  obtain ⟨Z, hZ⟩ : ∃ x : Array Value, Hid (x = gZ) := ⟨_, (rfl : gZ = gZ)⟩
  have hZ' : Hid (Z.size = 23) := by show _ = _; rw [hZ.out]; rfl
  have hby : Hid (f.by_.length ≤ 4000000000) := by show _ ≤ _; have := hs.out; unfold smaG at this; omega
  have nst : Hid (g.st.length ≤ 4000000000 ∧ g.pg.length ≤ 4000000000 ∧ g.me.length ≤ 4000000000) := by have := hs.out; unfold smaG at this; exact ⟨by omega, by omega, by omega⟩
  obtain ⟨kk, hkk⟩ : ∃ k, d.ky = k := ⟨_, rfl⟩
  have hky : Hid (d.ky = kk) := hkk
  clear hkk
  go_enter Try.func11, Try.ntmps11
  go_wp2_with (first
    | ((with_reducible refine gen_world ((((w.alloc (.cells C 29)).alloc (.cells D 42)).alloc (.cells (dCs d) 44)).alloc (.cells #[.int .u8 0, .int .u8 0, .int .u8 0, .int .u8 0, .int .u8 0, .int .u8 0, .int .u8 0, .int .u8 0, .int .u8 0, .int .u8 0, .int .u8 0, .int .u8 0, .int .u8 0, .int .u8 0, .int .u8 0, .int .u8 0, .int .u16 0, .int .u16 0, .slice none 0 0, .int .u8 0, .int .u8 0, .slice none 0 0, .slice none 0 0] 29)) (fun y => Fm w [(w.heap.size, C, 29), (w.heap.size + 1, D, 42), (w.heap.size + 2, (dCs d), 44), (w.heap.size + 3, Z, 29)] y ∧ y.heap.size = w.heap.size + 4) ?_ ?_); (rw [hZ.out]; unfold gZ; exact ⟨Fm.four w _ _ _ _ _ _ _ _, by simp [World.size_alloc]⟩); intro y0 K0)
    | ((with_reducible refine at_load rtG w.heap.size C ?_ ?_ (.tmp 3) ?_ ?_ ?_ ?_); (first | exact K2.out.1.bx 0 _ _ _ rfl | exact K0.out.1.bx 0 _ _ _ rfl); exact gC.out; kernel_rfl; rfl; rfl)
    | (go_at_call 12; refine (check_gl y0 C g (hg.out.below K0.out.1.low)).mono ?_; rintro e y1 ⟨rfl, H1⟩; have K1 : Hid (Fm w [(w.heap.size, C, 29), (w.heap.size + 1, D, 42), (w.heap.size + 2, (dCs d), 44), (w.heap.size + 3, Z, 29)] y1 ∧ w.heap.size + 4 ≤ y1.heap.size) := ⟨K0.out.1.below H1, (by have := H1.size; rw [K0.out.2] at this; exact this)⟩; rw [hm.out]; have ky := (K1.out.1.bx 2 _ _ _ rfl).c 2 (.int .i64 d.ky) rfl; rw [hky.out] at ky)
    | ((with_reducible refine at_load rtFn (w.heap.size + 1) D ?_ ?_ (.tmp 4) ?_ ?_ ?_ ?_); exact K1.out.1.bx 1 _ _ _ rfl; exact gD.out; kernel_rfl; rfl; rfl)
    | (go_at_call 13; refine (fits_any y1 D f (hf.out.below K1.out.1.low) hby.out).mono ?_; rintro e y2 ⟨rfl, H2⟩; have K2 : Hid (Fm w [(w.heap.size, C, 29), (w.heap.size + 1, D, 42), (w.heap.size + 2, (dCs d), 44), (w.heap.size + 3, Z, 29)] y2 ∧ w.heap.size + 4 ≤ y2.heap.size) := ⟨K1.out.1.below H2, Nat.le_trans K1.out.2 H2.size⟩; rw [hfo.out]; have ky2 := (K2.out.1.bx 2 _ _ _ rfl).c 2 (.int .i64 d.ky) rfl; rw [hky.out] at ky2)
    | ((with_reducible refine at_bu #[] [] gZ ?_ ?_ ?_ builtG0 ?_); kernel_rfl; rfl; rfl)
    | ((with_reducible refine at_st rtG (w.heap.size + 3) Z gZ ?_ ?_ ?_ ?_ (.tmp 6) (.tmp 27) ?_ ?_ ?_ ?_ ?_); exact K2.out.1.bx 3 _ _ _ rfl; exact hZ'.out; rfl; kernel_rfl; rfl; rfl; rfl; rfl; intro yE HE; have KE : Hid (Fm w [(w.heap.size, C, 29), (w.heap.size + 1, D, 42), (w.heap.size + 2, (dCs d), 44), (w.heap.size + 3, gZ, 29)] yE) := K2.out.1.put 3 _ _ _ _ rfl HE.out))
  exact ret_three rtG rfl rfl rfl rfl (KE.out.bx 3 _ _ _ rfl) rfl rfl ⟨gZ, rfl, GO.zero _ _, KE.out.low⟩

theorem step_key (w : World) (C D : Array Value) (g : Gm) (f : Fo) (d : Fd) (hg : Hid (GL w C g)) (hf : Hid (FL w D f)) (hd : Hid d.Ok) (hs : Hid (smaG g f)) (hm : Hid (g.may = true)) (hfo : Hid (fontG f = true)) (h15 : 15 < d.ky) :
    Calls Try.prog 11 #[.agg C, .agg D, .agg (dCs d)] w fun e w' => ∃ C', e = .returned (.tuple #[.agg C', .int .u8 0, .int .i64 1]) ∧ GO w.heap.size w' C' gz ∧ Below w.heap.size w w' := by
  have gC : Hid (C.size = 23) := hg.out.size.1
  have gD : Hid (D.size = 18) := hf.out.size
  obtain ⟨Z, hZ⟩ : ∃ x : Array Value, Hid (x = gZ) := ⟨_, (rfl : gZ = gZ)⟩
  have hZ' : Hid (Z.size = 23) := by show _ = _; rw [hZ.out]; rfl
  have hby : Hid (f.by_.length ≤ 4000000000) := by show _ ≤ _; have := hs.out; unfold smaG at this; omega
  have nst : Hid (g.st.length ≤ 4000000000 ∧ g.pg.length ≤ 4000000000 ∧ g.me.length ≤ 4000000000) := by have := hs.out; unfold smaG at this; exact ⟨by omega, by omega, by omega⟩
  obtain ⟨kk, hkk⟩ : ∃ k, d.ky = k := ⟨_, rfl⟩
  have hky : Hid (d.ky = kk) := hkk
  have q1 : decide ((15 : Int) < kk) = true := by rw [← hkk]; simpa using h15
  clear hkk h15
  go_enter Try.func11, Try.ntmps11
  go_wp2_with (first
    | ((with_reducible refine gen_world ((((w.alloc (.cells C 29)).alloc (.cells D 42)).alloc (.cells (dCs d) 44)).alloc (.cells #[.int .u8 0, .int .u8 0, .int .u8 0, .int .u8 0, .int .u8 0, .int .u8 0, .int .u8 0, .int .u8 0, .int .u8 0, .int .u8 0, .int .u8 0, .int .u8 0, .int .u8 0, .int .u8 0, .int .u8 0, .int .u8 0, .int .u16 0, .int .u16 0, .slice none 0 0, .int .u8 0, .int .u8 0, .slice none 0 0, .slice none 0 0] 29)) (fun y => Fm w [(w.heap.size, C, 29), (w.heap.size + 1, D, 42), (w.heap.size + 2, (dCs d), 44), (w.heap.size + 3, Z, 29)] y ∧ y.heap.size = w.heap.size + 4) ?_ ?_); (rw [hZ.out]; unfold gZ; exact ⟨Fm.four w _ _ _ _ _ _ _ _, by simp [World.size_alloc]⟩); intro y0 K0)
    | ((with_reducible refine at_load rtG w.heap.size C ?_ ?_ (.tmp 3) ?_ ?_ ?_ ?_); (first | exact K2.out.1.bx 0 _ _ _ rfl | exact K0.out.1.bx 0 _ _ _ rfl); exact gC.out; kernel_rfl; rfl; rfl)
    | (go_at_call 12; refine (check_gl y0 C g (hg.out.below K0.out.1.low)).mono ?_; rintro e y1 ⟨rfl, H1⟩; have K1 : Hid (Fm w [(w.heap.size, C, 29), (w.heap.size + 1, D, 42), (w.heap.size + 2, (dCs d), 44), (w.heap.size + 3, Z, 29)] y1 ∧ w.heap.size + 4 ≤ y1.heap.size) := ⟨K0.out.1.below H1, (by have := H1.size; rw [K0.out.2] at this; exact this)⟩; rw [hm.out]; have ky := (K1.out.1.bx 2 _ _ _ rfl).c 2 (.int .i64 d.ky) rfl; rw [hky.out] at ky)
    | ((with_reducible refine at_load rtFn (w.heap.size + 1) D ?_ ?_ (.tmp 4) ?_ ?_ ?_ ?_); exact K1.out.1.bx 1 _ _ _ rfl; exact gD.out; kernel_rfl; rfl; rfl)
    | (go_at_call 13; refine (fits_any y1 D f (hf.out.below K1.out.1.low) hby.out).mono ?_; rintro e y2 ⟨rfl, H2⟩; have K2 : Hid (Fm w [(w.heap.size, C, 29), (w.heap.size + 1, D, 42), (w.heap.size + 2, (dCs d), 44), (w.heap.size + 3, Z, 29)] y2 ∧ w.heap.size + 4 ≤ y2.heap.size) := ⟨K1.out.1.below H2, Nat.le_trans K1.out.2 H2.size⟩; rw [hfo.out]; have ky2 := (K2.out.1.bx 2 _ _ _ rfl).c 2 (.int .i64 d.ky) rfl; rw [hky.out] at ky2)
    | ((with_reducible refine at_bu #[] [] gZ ?_ ?_ ?_ builtG0 ?_); kernel_rfl; rfl; rfl)
    | ((with_reducible refine at_st rtG (w.heap.size + 3) Z gZ ?_ ?_ ?_ ?_ (.tmp 6) (.tmp 27) ?_ ?_ ?_ ?_ ?_); exact K2.out.1.bx 3 _ _ _ rfl; exact hZ'.out; rfl; kernel_rfl; rfl; rfl; rfl; rfl; intro yE HE; have KE : Hid (Fm w [(w.heap.size, C, 29), (w.heap.size + 1, D, 42), (w.heap.size + 2, (dCs d), 44), (w.heap.size + 3, gZ, 29)] yE) := K2.out.1.put 3 _ _ _ _ rfl HE.out))
  exact ret_three rtG rfl rfl rfl rfl (KE.out.bx 3 _ _ _ rfl) rfl rfl ⟨gZ, rfl, GO.zero _ _, KE.out.low⟩

theorem step_plain (w : World) (C D : Array Value) (g : Gm) (f : Fo) (d : Fd) (hg : Hid (GL w C g)) (hf : Hid (FL w D f)) (hd : Hid d.Ok) (hs : Hid (smaG g f)) (hm : Hid (g.may = true)) (hfo : Hid (fontG f = true)) (h15 : d.ky ≤ 15) (OD : Od) (q : Nat) (hnx : Hid (∀ y, Below w.heap.size w y → Calls Try.prog 14 #[.agg C] y fun e w' => e = .returned (.tuple #[.agg (o6 OD), .int .u8 (q : Int)]) ∧ Below y.heap.size y w')) (hq : q ≠ 1) :
    Calls Try.prog 11 #[.agg C, .agg D, .agg (dCs d)] w fun e w' => ∃ C', e = .returned (.tuple #[.agg C', .int .u8 (q : Int), .int .i64 0]) ∧ GO w.heap.size w' C' g ∧ Below w.heap.size w w' := by
  have gC : Hid (C.size = 23) := hg.out.size.1
  have gD : Hid (D.size = 18) := hf.out.size
  obtain ⟨Z, hZ⟩ : ∃ x : Array Value, Hid (x = gZ) := ⟨_, (rfl : gZ = gZ)⟩
  have hZ' : Hid (Z.size = 23) := by show _ = _; rw [hZ.out]; rfl
  have hby : Hid (f.by_.length ≤ 4000000000) := by show _ ≤ _; have := hs.out; unfold smaG at this; omega
  have nst : Hid (g.st.length ≤ 4000000000 ∧ g.pg.length ≤ 4000000000 ∧ g.me.length ≤ 4000000000) := by have := hs.out; unfold smaG at this; exact ⟨by omega, by omega, by omega⟩
  obtain ⟨kk, hkk⟩ : ∃ k, d.ky = k := ⟨_, rfl⟩
  have hky : Hid (d.ky = kk) := hkk
  have q1 : decide ((15 : Int) < kk) = false := by rw [← hkk]; simp; omega
  have q2 : ((q : Int) != 1) = true := by simp; omega
  clear hkk h15 hq
  go_enter Try.func11, Try.ntmps11
  go_wp2_with (first
    | ((with_reducible refine gen_world ((((w.alloc (.cells C 29)).alloc (.cells D 42)).alloc (.cells (dCs d) 44)).alloc (.cells #[.int .u8 0, .int .u8 0, .int .u8 0, .int .u8 0, .int .u8 0, .int .u8 0, .int .u8 0, .int .u8 0, .int .u8 0, .int .u8 0, .int .u8 0, .int .u8 0, .int .u8 0, .int .u8 0, .int .u8 0, .int .u8 0, .int .u16 0, .int .u16 0, .slice none 0 0, .int .u8 0, .int .u8 0, .slice none 0 0, .slice none 0 0] 29)) (fun y => Fm w [(w.heap.size, C, 29), (w.heap.size + 1, D, 42), (w.heap.size + 2, (dCs d), 44), (w.heap.size + 3, Z, 29)] y ∧ y.heap.size = w.heap.size + 4) ?_ ?_); (rw [hZ.out]; unfold gZ; exact ⟨Fm.four w _ _ _ _ _ _ _ _, by simp [World.size_alloc]⟩); intro y0 K0)
    | ((with_reducible refine at_load rtG w.heap.size C ?_ ?_ (.tmp 3) ?_ ?_ ?_ ?_); (first | exact K5.out.1.bx 0 _ _ _ rfl | exact K2.out.1.bx 0 _ _ _ rfl | exact K0.out.1.bx 0 _ _ _ rfl); exact gC.out; kernel_rfl; rfl; rfl)
    | (go_at_call 12; refine (check_gl y0 C g (hg.out.below K0.out.1.low)).mono ?_; rintro e y1 ⟨rfl, H1⟩; have K1 : Hid (Fm w [(w.heap.size, C, 29), (w.heap.size + 1, D, 42), (w.heap.size + 2, (dCs d), 44), (w.heap.size + 3, Z, 29)] y1 ∧ w.heap.size + 4 ≤ y1.heap.size) := ⟨K0.out.1.below H1, (by have := H1.size; rw [K0.out.2] at this; exact this)⟩; rw [hm.out]; have ky := (K1.out.1.bx 2 _ _ _ rfl).c 2 (.int .i64 d.ky) rfl; rw [hky.out] at ky)
    | ((with_reducible refine at_load rtFn (w.heap.size + 1) D ?_ ?_ (.tmp 4) ?_ ?_ ?_ ?_); exact K1.out.1.bx 1 _ _ _ rfl; exact gD.out; kernel_rfl; rfl; rfl)
    | (go_at_call 13; refine (fits_any y1 D f (hf.out.below K1.out.1.low) hby.out).mono ?_; rintro e y2 ⟨rfl, H2⟩; have K2 : Hid (Fm w [(w.heap.size, C, 29), (w.heap.size + 1, D, 42), (w.heap.size + 2, (dCs d), 44), (w.heap.size + 3, Z, 29)] y2 ∧ w.heap.size + 4 ≤ y2.heap.size) := ⟨K1.out.1.below H2, Nat.le_trans K1.out.2 H2.size⟩; rw [hfo.out]; have ky2 := (K2.out.1.bx 2 _ _ _ rfl).c 2 (.int .i64 d.ky) rfl; rw [hky.out] at ky2)
    | (go_at_call 14; refine (hnx.out y2 K2.out.1.low).mono ?_; rintro e y3 ⟨rfl, H3⟩; have K3 : Hid (Fm w [(w.heap.size, C, 29), (w.heap.size + 1, D, 42), (w.heap.size + 2, (dCs d), 44), (w.heap.size + 3, Z, 29)] y3 ∧ w.heap.size + 4 ≤ y3.heap.size) := ⟨K2.out.1.below H3, Nat.le_trans K2.out.2 H3.size⟩)
    | ((with_reducible refine gen_world (y3.alloc (.cells #[.int .u8 0, .int .u8 0, .int .u8 0, .int .u8 0, .int .u8 0, .int .u16 0] 49)) (fun y => Fm w [(w.heap.size, C, 29), (w.heap.size + 1, D, 42), (w.heap.size + 2, (dCs d), 44), (w.heap.size + 3, Z, 29), (y3.heap.size, #[.int .u8 0, .int .u8 0, .int .u8 0, .int .u8 0, .int .u8 0, .int .u16 0], 49)] y ∧ y3.heap.size < y.heap.size) ?_ ?_); (exact ⟨K3.out.1.new _ _, by simp [World.size_alloc]⟩); intro y4 K4)
    | ((with_reducible refine at_st rtO y3.heap.size #[.int .u8 0, .int .u8 0, .int .u8 0, .int .u8 0, .int .u8 0, .int .u16 0] (o6 OD) ?_ ?_ ?_ ?_ (.tmp 10) (.tmp 31) ?_ ?_ ?_ ?_ ?_); exact K4.out.1.bx 4 _ _ _ rfl; rfl; rfl; exact o6_one OD; rfl; rfl; rfl; rfl; intro y5 H5; obtain ⟨bo, hbo⟩ : ∃ x, y3.heap.size = x := ⟨_, rfl⟩; have K5 : Hid (Fm w [(w.heap.size, C, 29), (w.heap.size + 1, D, 42), (w.heap.size + 2, (dCs d), 44), (w.heap.size + 3, Z, 29), (bo, o6 OD, 49)] y5 ∧ w.heap.size + 4 ≤ bo) := (by rw [← hbo]; exact ⟨K4.out.1.put 4 _ _ _ _ rfl H5.out, K3.out.2⟩); rw [hbo]; clear hbo H5 K4)
    | (go_at_call 15; refine (pcopied_any y5 C g (hg.out.below K5.out.1.low) nst.out.1 nst.out.2.1 nst.out.2.2).mono ?_; rintro e y6 ⟨C2, rfl, H6⟩; have K6 : Hid (Fm w [(w.heap.size, C, 29), (w.heap.size + 1, D, 42), (w.heap.size + 2, (dCs d), 44), (w.heap.size + 3, Z, 29), (bo, o6 OD, 49)] y6 ∧ GO (w.heap.size + 4) y6 C2 g) := ⟨K5.out.1.below H6.out.2, H6.out.1.weak (by have h1 := heap_lt (K5.out.1.bx 4 _ _ _ rfl); have h2 := K5.out.2; omega)⟩; clear H6)
    | ((with_reducible refine at_st rtG (w.heap.size + 3) Z C2 ?_ ?_ ?_ ?_ (.tmp 6) (.tmp 36) ?_ ?_ ?_ ?_ ?_); exact K6.out.1.bx 3 _ _ _ rfl; exact hZ'.out; exact K6.out.2.lies.size.1; exact K6.out.2.lies.size.2.1; rfl; rfl; rfl; rfl; intro yE HE; have KE : Hid (Bx yE (w.heap.size + 3) C2 29 ∧ GO (w.heap.size + 4) yE C2 g ∧ Below w.heap.size w yE) := ⟨HE.out.1, K6.out.2.put (by omega) HE.out.2.2, K6.out.1.low.trans (HE.out.2.1 _ (by omega))⟩))
  exact ret_three rtG rfl rfl rfl rfl KE.out.1 KE.out.2.1.lies.size.1 rfl ⟨C2, rfl, KE.out.2.1.weak (by omega), KE.out.2.2⟩

theorem step_not (w : World) (C D : Array Value) (g : Gm) (f : Fo) (d : Fd) (hg : Hid (GL w C g)) (hf : Hid (FL w D f)) (hd : Hid d.Ok) (hs : Hid (smaG g f)) (hm : Hid (g.may = true)) (hfo : Hid (fontG f = true)) (h15 : Hid (d.ky ≤ 15)) (OD : Od) (hnx : Hid (∀ y, Below w.heap.size w y → Calls Try.prog 14 #[.agg C] y fun e w' => e = .returned (.tuple #[.agg (o6 OD), .int .u8 1]) ∧ Below y.heap.size y w')) (hoo : Hid OD.Ok) (op : Nat) (hop : Hid (OD.op = op)) (h2 : 2 ≤ op) (h31 : op ≤ 31) (R : Gm × Nat) (hR : Hid (doG (Gm.on g) OD f d = R)) (rq : Nat) (hR2 : Hid (R.2 = rq)) (hrq : rq ≠ 1) :
    Calls Try.prog 11 #[.agg C, .agg D, .agg (dCs d)] w fun e w' => ∃ C', e = .returned (.tuple #[.agg C', .int .u8 (rq : Int), .int .i64 0]) ∧ GO w.heap.size w' C' g ∧ Below w.heap.size w w' := by
  have gC : Hid (C.size = 23) := hg.out.size.1
  have gD : Hid (D.size = 18) := hf.out.size
  obtain ⟨Z, hZ⟩ : ∃ x : Array Value, Hid (x = gZ) := ⟨_, (rfl : gZ = gZ)⟩
  have hZ' : Hid (Z.size = 23) := by show _ = _; rw [hZ.out]; rfl
  have hby : Hid (f.by_.length ≤ 4000000000) := by show _ ≤ _; have := hs.out; unfold smaG at this; omega
  have nst : Hid (g.st.length ≤ 4000000000 ∧ g.pg.length ≤ 4000000000 ∧ g.me.length ≤ 4000000000) := by have := hs.out; unfold smaG at this; exact ⟨by omega, by omega, by omega⟩
  obtain ⟨kk, hkk⟩ : ∃ k, d.ky = k := ⟨_, rfl⟩
  have hky : Hid (d.ky = kk) := hkk
  have q1 : decide ((15 : Int) < kk) = false := by rw [← hkk]; have := h15.out; simp; omega
  have q7 : ((rq : Int) != 1) = true := by simp; omega
  obtain ⟨fn, hfn0, hent, hrow0⟩ := deed_row op h2 h31
  have hfn : Hid (Instr.findNow (.int .u8) (.int .u8 (op : Int)) (dEs 30).toList 0 = some (some (op - 2, .func (.func fn) #[] #[]))) := hfn0
  have hrow : Hid (∀ (B : Nat) (w : World) (b : Nat) (g : Gm) (o : Od) (f : Fo) (d : Fd), PB B w b g o f d → o.op = op → d.ky ≤ 15 → Calls Try.prog fn #[.pointer (some ⟨b, 0, none⟩)] w (MdE B w b o f d (doG g o f d))) := hrow0
  obtain ⟨⟨sB, cB', hD0, hB0⟩, hfn1, hfn2, hfn3⟩ := hf.out
  have hD : Hid (D = fCs f.pl f.fr (.slice sB f.by_.length cB')) := hD0
  have fB : Hid (LB w sB f.by_ ∧ True) := ⟨hB0, trivial⟩
  have hfoo : Hid f.Ok := ⟨hfn1, hfn2, hfn3, by have := hfo.out; unfold fontG at this; simp at this; omega⟩
  obtain ⟨pc, hpc⟩ : ∃ x, g.pc = x := ⟨_, rfl⟩
  obtain ⟨pc2, hpc2⟩ : ∃ x, (pc + 2) % 65536 = x := ⟨_, rfl⟩
  have hpc' : Hid (g.pc = pc ∧ (pc + 2) % 65536 = pc2) := ⟨hpc, hpc2⟩
  have ipc := hg.out.2.pc
  rw [hpc] at ipc
  have i1 : (pc : Int) < 65536 := by omega
  have q5 : ((pc : Int) + 2) % 65536 = (pc2 : Int) := by omega
  have q6 : IntKind.u16.wrap ((pc : Int) + 2) = (pc2 : Int) := by rw [IntKind.wrap_u16]; exact q5
  clear hkk hfn0 hrow0 hD0 hB0 hfn1 hfn2 hfn3 hpc hpc2 ipc h2 h31
  go_enter Try.func11, Try.ntmps11
  go_upto_region 9 with (first
    | ((with_reducible refine gen_world ((((w.alloc (.cells C 29)).alloc (.cells D 42)).alloc (.cells (dCs d) 44)).alloc (.cells #[.int .u8 0, .int .u8 0, .int .u8 0, .int .u8 0, .int .u8 0, .int .u8 0, .int .u8 0, .int .u8 0, .int .u8 0, .int .u8 0, .int .u8 0, .int .u8 0, .int .u8 0, .int .u8 0, .int .u8 0, .int .u8 0, .int .u16 0, .int .u16 0, .slice none 0 0, .int .u8 0, .int .u8 0, .slice none 0 0, .slice none 0 0] 29)) (fun y => Fm w [(w.heap.size, C, 29), (w.heap.size + 1, D, 42), (w.heap.size + 2, (dCs d), 44), (w.heap.size + 3, Z, 29)] y ∧ y.heap.size = w.heap.size + 4) ?_ ?_); (rw [hZ.out]; unfold gZ; exact ⟨Fm.four w _ _ _ _ _ _ _ _, by simp [World.size_alloc]⟩); intro y0 K0)
    | ((with_reducible refine at_load rtG w.heap.size C ?_ ?_ (.tmp 3) ?_ ?_ ?_ ?_); (first | exact K2.out.1.bx 0 _ _ _ rfl | exact K0.out.1.bx 0 _ _ _ rfl); exact gC.out; kernel_rfl; rfl; rfl)
    | (go_at_call 12; refine (check_gl y0 C g (hg.out.below K0.out.1.low)).mono ?_; rintro e y1 ⟨rfl, H1⟩; have K1 : Hid (Fm w [(w.heap.size, C, 29), (w.heap.size + 1, D, 42), (w.heap.size + 2, (dCs d), 44), (w.heap.size + 3, Z, 29)] y1 ∧ w.heap.size + 4 ≤ y1.heap.size) := ⟨K0.out.1.below H1, (by have := H1.size; rw [K0.out.2] at this; exact this)⟩; rw [hm.out]; have ky := (K1.out.1.bx 2 _ _ _ rfl).c 2 (.int .i64 d.ky) rfl; rw [hky.out] at ky)
    | ((with_reducible refine at_load rtFn (w.heap.size + 1) D ?_ ?_ (.tmp 4) ?_ ?_ ?_ ?_); exact K1.out.1.bx 1 _ _ _ rfl; exact gD.out; kernel_rfl; rfl; rfl)
    | (go_at_call 13; refine (fits_any y1 D f (hf.out.below K1.out.1.low) hby.out).mono ?_; rintro e y2 ⟨rfl, H2⟩; have K2 : Hid (Fm w [(w.heap.size, C, 29), (w.heap.size + 1, D, 42), (w.heap.size + 2, (dCs d), 44), (w.heap.size + 3, Z, 29)] y2 ∧ w.heap.size + 4 ≤ y2.heap.size) := ⟨K1.out.1.below H2, Nat.le_trans K1.out.2 H2.size⟩; rw [hfo.out]; have ky2 := (K2.out.1.bx 2 _ _ _ rfl).c 2 (.int .i64 d.ky) rfl; rw [hky.out] at ky2)
    | (go_at_call 14; refine (hnx.out y2 K2.out.1.low).mono ?_; rintro e y3 ⟨rfl, H3⟩; have K3 : Hid (Fm w [(w.heap.size, C, 29), (w.heap.size + 1, D, 42), (w.heap.size + 2, (dCs d), 44), (w.heap.size + 3, Z, 29)] y3 ∧ w.heap.size + 4 ≤ y3.heap.size) := ⟨K2.out.1.below H3, Nat.le_trans K2.out.2 H3.size⟩)
    | ((with_reducible refine gen_world (y3.alloc (.cells #[.int .u8 0, .int .u8 0, .int .u8 0, .int .u8 0, .int .u8 0, .int .u16 0] 49)) (fun y => Fm w [(w.heap.size, C, 29), (w.heap.size + 1, D, 42), (w.heap.size + 2, (dCs d), 44), (w.heap.size + 3, Z, 29), (y3.heap.size, #[.int .u8 0, .int .u8 0, .int .u8 0, .int .u8 0, .int .u8 0, .int .u16 0], 49)] y ∧ y3.heap.size < y.heap.size) ?_ ?_); (exact ⟨K3.out.1.new _ _, by simp [World.size_alloc]⟩); intro y4 K4)
    | ((with_reducible refine at_st rtO y3.heap.size #[.int .u8 0, .int .u8 0, .int .u8 0, .int .u8 0, .int .u8 0, .int .u16 0] (o6 OD) ?_ ?_ ?_ ?_ (.tmp 10) (.tmp 31) ?_ ?_ ?_ ?_ ?_); exact K4.out.1.bx 4 _ _ _ rfl; rfl; rfl; exact o6_one OD; rfl; rfl; rfl; rfl; intro y5 H5; obtain ⟨bo, hbo⟩ : ∃ x, y3.heap.size = x := ⟨_, rfl⟩; have K5 : Hid (Fm w [(w.heap.size, C, 29), (w.heap.size + 1, D, 42), (w.heap.size + 2, (dCs d), 44), (w.heap.size + 3, Z, 29), (bo, o6 OD, 49)] y5 ∧ w.heap.size + 4 ≤ bo) := (by rw [← hbo]; exact ⟨K4.out.1.put 4 _ _ _ _ rfl H5.out, K3.out.2⟩); rw [hbo]; clear hbo H5 K4))
  go_cut [12] (fun p wz => ∃ (b : Nat) (y : World), y = wz ∧ p = .pointer (some ⟨b, 0, none⟩) ∧ Hid (Below y5.heap.size y5 y ∧ PB y5.heap.size y b g OD f d))
  case first =>
    have Kz0 : Hid (Below y5.heap.size y5 y5.drew) := below_drew (Below.refl _ _)
    refine wp_region_held_drew (S := fun y => Below y5.heap.size y5 y) (by kernel_rfl) Kz0.out (fun hH => ?_)
    generalize y5.drew = z0 at hH Kz0 ⊢
    refine wpAnyH_take (i := 0) (oi := ⟨some 38, _, _, _, _, _⟩) (v := .agg C) rfl (by kernel_rfl) (by kernel_rfl) (by kernel_rfl) (fun _ _ _ h => h) (y_load rtG w.heap.size C (fun k hk => (K5.out.1.below hk).bx 0 _ _ _ rfl) gC.out (.tmp 3) (by kernel_rfl) rfl (by go_simp)) hH ?_
    try simp only [Act.put, List.setIfInBounds_toArray, List.set_cons_zero, List.set_cons_succ]
    refine wpAnyH_take (i := 2) (oi := ⟨some 40, _, _, _, _, _⟩) (v := .agg (o6 OD)) rfl (by kernel_rfl) (by kernel_rfl) (by kernel_rfl) (fun _ _ _ h => h) (y_load rtO bo (o6 OD) (fun k hk => (K5.out.1.below hk).bx 4 _ _ _ rfl) rfl (.tmp 10) (by kernel_rfl) rfl (by go_simp)) hH ?_
    try simp only [Act.put, List.setIfInBounds_toArray, List.set_cons_zero, List.set_cons_succ]
    refine wpAnyH_take (i := 3) (oi := ⟨some 41, _, _, _, _, _⟩) (v := .agg (dCs d)) rfl (by kernel_rfl) (by kernel_rfl) (by kernel_rfl) (fun _ _ _ h => h) (y_load rtFd (w.heap.size + 2) (dCs d) (fun k hk => (K5.out.1.below hk).bx 2 _ _ _ rfl) rfl (.tmp 5) (by kernel_rfl) rfl (by go_simp)) hH ?_
    try simp only [Act.put, List.setIfInBounds_toArray, List.set_cons_zero, List.set_cons_succ]
    refine wpAnyH_take (i := 4) (oi := ⟨some 42, _, _, _, _, _⟩) (v := .agg D) rfl (by kernel_rfl) (by kernel_rfl) (by kernel_rfl) (fun _ _ _ h => h) (y_load rtFn (w.heap.size + 1) D (fun k hk => (K5.out.1.below hk).bx 1 _ _ _ rfl) gD.out (.tmp 4) (by kernel_rfl) rfl (by go_simp)) hH ?_
    try simp only [Act.put, List.setIfInBounds_toArray, List.set_cons_zero, List.set_cons_succ]
    obtain rfl := hD.out
    refine wpAnyH_ready (rs := [1, 6]) (by kernel_rfl) (by simp) (fun i hi => ?_)
    rcases List.mem_cons.1 hi with rfl | hi
    · clear hi
      refine wpOp_list (o := ⟨some 39, _, _, _, _, _⟩) rfl ?_
      go_wp2_with (go_at_call 15; refine (pcopied_any z0 C g (hg.out.below ((K5.out.1.below Kz0.out).low)) nst.out.1 nst.out.2.1 nst.out.2.2).mono ?_; rintro e z1 ⟨C2, rfl, H6⟩; have Kz1 : Hid (Below y5.heap.size y5 z1) := Kz0.out.trans (H6.out.2.mono Kz0.out.size); have Jz1 : Hid (GO y5.heap.size z1 C2 g ∧ Below z0.heap.size z0 z1) := ⟨H6.out.1.weak Kz0.out.size, H6.out.2⟩; clear H6)
      refine ⟨Kz1.out, ?_⟩
      replace hH := Kz1.out
      try simp only [Act.put, List.setIfInBounds_toArray, List.set_cons_zero, List.set_cons_succ]
      obtain ⟨⟨vS, vP, vM, eC2, o1, o2, o3, o4⟩, okg⟩ := Jz1.out.1
      subst eC2
      refine wpAnyH_take (i := 5) (oi := ⟨some 43, _, _, _, _, _⟩) (v := .agg (pCs g.v g.i g.pc vS g.de g.so vP vM OD d f.pl f.fr (.slice sB f.by_.length cB'))) rfl (by kernel_rfl) (by kernel_rfl) (by kernel_rfl) (fun _ _ _ h => h) (y_bu #[(0, .tmp 39), (1, .tmp 40), (2, .tmp 41), (3, .tmp 42)] [(0, .agg (gCs g.v g.i g.pc vS g.de g.so vP vM)), (1, .agg (o6 OD)), (2, .agg (dCs d)), (3, .agg (fCs f.pl f.fr (.slice sB f.by_.length cB')))] (pCs g.v g.i g.pc vS g.de g.so vP vM OD d f.pl f.fr (.slice sB f.by_.length cB')) (by kernel_rfl) rfl (by kernel_rfl) (built_p g.v g.i g.pc vS g.de g.so vP vM OD d f.pl f.fr (.slice sB f.by_.length cB'))) hH ?_
      try simp only [Act.put, List.setIfInBounds_toArray, List.set_cons_zero, List.set_cons_succ]
      refine wpAnyH_ready (rs := [6]) (by kernel_rfl) (by simp) (fun i hi => ?_)
      obtain rfl := List.mem_singleton.1 hi
      clear hi
      refine wpOp_list (o := ⟨some 12, _, _, _, _, _⟩) rfl ?_
      refine at_alP rfl rfl ?_
      have Kz2 : Hid (Below y5.heap.size y5 (z1.alloc (.cells #[.int .u8 0, .int .u8 0, .int .u8 0, .int .u8 0, .int .u8 0, .int .u8 0, .int .u8 0, .int .u8 0, .int .u8 0, .int .u8 0, .int .u8 0, .int .u8 0, .int .u8 0, .int .u8 0, .int .u8 0, .int .u8 0, .int .u16 0, .int .u16 0, .slice none 0 0, .int .u8 0, .int .u8 0, .slice none 0 0, .slice none 0 0, .int .u8 0, .int .u8 0, .int .u8 0, .int .u8 0, .int .u8 0, .int .u16 0, .int .u8 0, .int .u16 0, .int .i64 0, .int .u16 0, .int .u16 0, .int .u16 0, .int .u16 0, .int .u16 0, .int .u16 0, .int .u16 0, .int .u16 0, .int .u16 0, .int .u16 0, .int .u16 0, .int .u16 0, .int .u16 0, .int .u16 0, .int .u16 0, .int .u16 0, .int .u16 0, .slice none 0 0] 54))) := Kz1.out.trans ((below1 z1 _).mono Kz1.out.size)
      have Xz2 : Hid (Bx (z1.alloc (.cells #[.int .u8 0, .int .u8 0, .int .u8 0, .int .u8 0, .int .u8 0, .int .u8 0, .int .u8 0, .int .u8 0, .int .u8 0, .int .u8 0, .int .u8 0, .int .u8 0, .int .u8 0, .int .u8 0, .int .u8 0, .int .u8 0, .int .u16 0, .int .u16 0, .slice none 0 0, .int .u8 0, .int .u8 0, .slice none 0 0, .slice none 0 0, .int .u8 0, .int .u8 0, .int .u8 0, .int .u8 0, .int .u8 0, .int .u16 0, .int .u8 0, .int .u16 0, .int .i64 0, .int .u16 0, .int .u16 0, .int .u16 0, .int .u16 0, .int .u16 0, .int .u16 0, .int .u16 0, .int .u16 0, .int .u16 0, .int .u16 0, .int .u16 0, .int .u16 0, .int .u16 0, .int .u16 0, .int .u16 0, .int .u16 0, .int .u16 0, .slice none 0 0] 54)) z1.heap.size #[.int .u8 0, .int .u8 0, .int .u8 0, .int .u8 0, .int .u8 0, .int .u8 0, .int .u8 0, .int .u8 0, .int .u8 0, .int .u8 0, .int .u8 0, .int .u8 0, .int .u8 0, .int .u8 0, .int .u8 0, .int .u8 0, .int .u16 0, .int .u16 0, .slice none 0 0, .int .u8 0, .int .u8 0, .slice none 0 0, .slice none 0 0, .int .u8 0, .int .u8 0, .int .u8 0, .int .u8 0, .int .u8 0, .int .u16 0, .int .u8 0, .int .u16 0, .int .i64 0, .int .u16 0, .int .u16 0, .int .u16 0, .int .u16 0, .int .u16 0, .int .u16 0, .int .u16 0, .int .u16 0, .int .u16 0, .int .u16 0, .int .u16 0, .int .u16 0, .int .u16 0, .int .u16 0, .int .u16 0, .int .u16 0, .int .u16 0, .slice none 0 0] 54 ∧ Below z1.heap.size z1 (z1.alloc (.cells #[.int .u8 0, .int .u8 0, .int .u8 0, .int .u8 0, .int .u8 0, .int .u8 0, .int .u8 0, .int .u8 0, .int .u8 0, .int .u8 0, .int .u8 0, .int .u8 0, .int .u8 0, .int .u8 0, .int .u8 0, .int .u8 0, .int .u16 0, .int .u16 0, .slice none 0 0, .int .u8 0, .int .u8 0, .slice none 0 0, .slice none 0 0, .int .u8 0, .int .u8 0, .int .u8 0, .int .u8 0, .int .u8 0, .int .u16 0, .int .u8 0, .int .u16 0, .int .i64 0, .int .u16 0, .int .u16 0, .int .u16 0, .int .u16 0, .int .u16 0, .int .u16 0, .int .u16 0, .int .u16 0, .int .u16 0, .int .u16 0, .int .u16 0, .int .u16 0, .int .u16 0, .int .u16 0, .int .u16 0, .int .u16 0, .int .u16 0, .slice none 0 0] 54)) ∧ y5.heap.size ≤ z1.heap.size) := ⟨one_bxL z1 _ _, below1 z1 _, Kz1.out.size⟩
      refine ⟨Kz2.out, ?_⟩
      replace hH := Kz2.out
      generalize z1.alloc (.cells #[.int .u8 0, .int .u8 0, .int .u8 0, .int .u8 0, .int .u8 0, .int .u8 0, .int .u8 0, .int .u8 0, .int .u8 0, .int .u8 0, .int .u8 0, .int .u8 0, .int .u8 0, .int .u8 0, .int .u8 0, .int .u8 0, .int .u16 0, .int .u16 0, .slice none 0 0, .int .u8 0, .int .u8 0, .slice none 0 0, .slice none 0 0, .int .u8 0, .int .u8 0, .int .u8 0, .int .u8 0, .int .u8 0, .int .u16 0, .int .u8 0, .int .u16 0, .int .i64 0, .int .u16 0, .int .u16 0, .int .u16 0, .int .u16 0, .int .u16 0, .int .u16 0, .int .u16 0, .int .u16 0, .int .u16 0, .int .u16 0, .int .u16 0, .int .u16 0, .int .u16 0, .int .u16 0, .int .u16 0, .int .u16 0, .int .u16 0, .slice none 0 0] 54) = z2 at hH Kz2 Xz2 ⊢
      obtain ⟨b, hb⟩ : ∃ b, z1.heap.size = b := ⟨_, rfl⟩
      have lb : Hid (y5.heap.size ≤ b ∧ z1.heap.size = b) := ⟨by rw [← hb]; exact Kz1.out.size, hb⟩
      rw [hb]
      clear hb
      try simp only [Act.put, List.setIfInBounds_toArray, List.set_cons_zero, List.set_cons_succ]
      have BXX : Hid (Bx z2 b #[.int .u8 0, .int .u8 0, .int .u8 0, .int .u8 0, .int .u8 0, .int .u8 0, .int .u8 0, .int .u8 0, .int .u8 0, .int .u8 0, .int .u8 0, .int .u8 0, .int .u8 0, .int .u8 0, .int .u8 0, .int .u8 0, .int .u16 0, .int .u16 0, .slice none 0 0, .int .u8 0, .int .u8 0, .slice none 0 0, .slice none 0 0, .int .u8 0, .int .u8 0, .int .u8 0, .int .u8 0, .int .u8 0, .int .u16 0, .int .u8 0, .int .u16 0, .int .i64 0, .int .u16 0, .int .u16 0, .int .u16 0, .int .u16 0, .int .u16 0, .int .u16 0, .int .u16 0, .int .u16 0, .int .u16 0, .int .u16 0, .int .u16 0, .int .u16 0, .int .u16 0, .int .u16 0, .int .u16 0, .int .u16 0, .int .u16 0, .slice none 0 0] 54) := (by have := Xz2.out.1; rw [lb.out.2] at this; exact this)
      refine wpAnyH_ready (rs := [7]) (by kernel_rfl) (by simp) (fun i hi => ?_)
      obtain rfl := List.mem_singleton.1 hi
      clear hi
      refine wpOp_list (o := ⟨none, _, _, _, _, _⟩) rfl ?_
      refine at_st rtP b #[.int .u8 0, .int .u8 0, .int .u8 0, .int .u8 0, .int .u8 0, .int .u8 0, .int .u8 0, .int .u8 0, .int .u8 0, .int .u8 0, .int .u8 0, .int .u8 0, .int .u8 0, .int .u8 0, .int .u8 0, .int .u8 0, .int .u16 0, .int .u16 0, .slice none 0 0, .int .u8 0, .int .u8 0, .slice none 0 0, .slice none 0 0, .int .u8 0, .int .u8 0, .int .u8 0, .int .u8 0, .int .u8 0, .int .u16 0, .int .u8 0, .int .u16 0, .int .i64 0, .int .u16 0, .int .u16 0, .int .u16 0, .int .u16 0, .int .u16 0, .int .u16 0, .int .u16 0, .int .u16 0, .int .u16 0, .int .u16 0, .int .u16 0, .int .u16 0, .int .u16 0, .int .u16 0, .int .u16 0, .int .u16 0, .int .u16 0, .slice none 0 0] (pCs g.v g.i g.pc vS g.de g.so vP vM OD d f.pl f.fr (.slice sB f.by_.length cB')) BXX.out rfl rfl ?_ (.tmp 12) (.tmp 43) rfl rfl rfl rfl ?_
      · obtain ⟨s1, c1, e1, _⟩ := OwnL.open kWord.len o1
        obtain ⟨s2, c2, e2, _⟩ := OwnL.open kByte.len o2
        obtain ⟨s3, c3, e3, _⟩ := OwnL.open kByte.len o3
        rw [e1, e2, e3]
        exact pCs_one _ _ _ _ _ _ _ _ _ _ _ _ _ _ _ _ _ _ _ _ _
      intro zE HE
      have KzE : Hid (Below y5.heap.size y5 zE) := Kz2.out.trans (HE.out.2.1 _ lb.out.1)
      refine ⟨KzE.out, ?_⟩
      refine wpAnyH_done (by kernel_rfl) ?_ _
      try go_wp2
      go_meet
      exact ⟨b, zE, rfl, rfl, ⟨KzE.out, ⟨⟨_, vS, vP, vM, sB, cB', HE.out.1, rfl, ((o1.below Xz2.out.2.1).keepB (fun q hq => HE.out.2.2 q (by have h1 := (o1.lt q hq).2; have h2 := lb.out.2; omega))) , ((o2.below Xz2.out.2.1).keepB (fun q hq => HE.out.2.2 q (by have h1 := (o2.lt q hq).2; have h2 := lb.out.2; omega))), ((o3.below Xz2.out.2.1).keepB (fun q hq => HE.out.2.2 q (by have h1 := (o3.lt q hq).2; have h2 := lb.out.2; omega))), o4, fB.out.1.below (K5.out.1.below KzE.out).low, fun a ha h0 => Nat.lt_of_lt_of_le (lb_block fB.out.1 ha h0) K5.out.1.low.size⟩, lb.out.1, okg, hm.out, hoo.out, hfoo.out, hd.out⟩⟩⟩
    · obtain rfl := List.mem_singleton.1 hi
      clear hi
      refine wpOp_list (o := ⟨some 12, _, _, _, _, _⟩) rfl ?_
      refine at_alP rfl rfl ?_
      have Kz1 : Hid (Below y5.heap.size y5 (z0.alloc (.cells #[.int .u8 0, .int .u8 0, .int .u8 0, .int .u8 0, .int .u8 0, .int .u8 0, .int .u8 0, .int .u8 0, .int .u8 0, .int .u8 0, .int .u8 0, .int .u8 0, .int .u8 0, .int .u8 0, .int .u8 0, .int .u8 0, .int .u16 0, .int .u16 0, .slice none 0 0, .int .u8 0, .int .u8 0, .slice none 0 0, .slice none 0 0, .int .u8 0, .int .u8 0, .int .u8 0, .int .u8 0, .int .u8 0, .int .u16 0, .int .u8 0, .int .u16 0, .int .i64 0, .int .u16 0, .int .u16 0, .int .u16 0, .int .u16 0, .int .u16 0, .int .u16 0, .int .u16 0, .int .u16 0, .int .u16 0, .int .u16 0, .int .u16 0, .int .u16 0, .int .u16 0, .int .u16 0, .int .u16 0, .int .u16 0, .int .u16 0, .slice none 0 0] 54))) := Kz0.out.trans ((below1 z0 _).mono Kz0.out.size)
      have Xz1 : Hid (Bx (z0.alloc (.cells #[.int .u8 0, .int .u8 0, .int .u8 0, .int .u8 0, .int .u8 0, .int .u8 0, .int .u8 0, .int .u8 0, .int .u8 0, .int .u8 0, .int .u8 0, .int .u8 0, .int .u8 0, .int .u8 0, .int .u8 0, .int .u8 0, .int .u16 0, .int .u16 0, .slice none 0 0, .int .u8 0, .int .u8 0, .slice none 0 0, .slice none 0 0, .int .u8 0, .int .u8 0, .int .u8 0, .int .u8 0, .int .u8 0, .int .u16 0, .int .u8 0, .int .u16 0, .int .i64 0, .int .u16 0, .int .u16 0, .int .u16 0, .int .u16 0, .int .u16 0, .int .u16 0, .int .u16 0, .int .u16 0, .int .u16 0, .int .u16 0, .int .u16 0, .int .u16 0, .int .u16 0, .int .u16 0, .int .u16 0, .int .u16 0, .int .u16 0, .slice none 0 0] 54)) z0.heap.size #[.int .u8 0, .int .u8 0, .int .u8 0, .int .u8 0, .int .u8 0, .int .u8 0, .int .u8 0, .int .u8 0, .int .u8 0, .int .u8 0, .int .u8 0, .int .u8 0, .int .u8 0, .int .u8 0, .int .u8 0, .int .u8 0, .int .u16 0, .int .u16 0, .slice none 0 0, .int .u8 0, .int .u8 0, .slice none 0 0, .slice none 0 0, .int .u8 0, .int .u8 0, .int .u8 0, .int .u8 0, .int .u8 0, .int .u16 0, .int .u8 0, .int .u16 0, .int .i64 0, .int .u16 0, .int .u16 0, .int .u16 0, .int .u16 0, .int .u16 0, .int .u16 0, .int .u16 0, .int .u16 0, .int .u16 0, .int .u16 0, .int .u16 0, .int .u16 0, .int .u16 0, .int .u16 0, .int .u16 0, .int .u16 0, .int .u16 0, .slice none 0 0] 54 ∧ Below z0.heap.size z0 (z0.alloc (.cells #[.int .u8 0, .int .u8 0, .int .u8 0, .int .u8 0, .int .u8 0, .int .u8 0, .int .u8 0, .int .u8 0, .int .u8 0, .int .u8 0, .int .u8 0, .int .u8 0, .int .u8 0, .int .u8 0, .int .u8 0, .int .u8 0, .int .u16 0, .int .u16 0, .slice none 0 0, .int .u8 0, .int .u8 0, .slice none 0 0, .slice none 0 0, .int .u8 0, .int .u8 0, .int .u8 0, .int .u8 0, .int .u8 0, .int .u16 0, .int .u8 0, .int .u16 0, .int .i64 0, .int .u16 0, .int .u16 0, .int .u16 0, .int .u16 0, .int .u16 0, .int .u16 0, .int .u16 0, .int .u16 0, .int .u16 0, .int .u16 0, .int .u16 0, .int .u16 0, .int .u16 0, .int .u16 0, .int .u16 0, .int .u16 0, .int .u16 0, .slice none 0 0] 54)) ∧ y5.heap.size ≤ z0.heap.size) := ⟨one_bxL z0 _ _, below1 z0 _, Kz0.out.size⟩
      refine ⟨Kz1.out, ?_⟩
      replace hH := Kz1.out
      generalize z0.alloc (.cells #[.int .u8 0, .int .u8 0, .int .u8 0, .int .u8 0, .int .u8 0, .int .u8 0, .int .u8 0, .int .u8 0, .int .u8 0, .int .u8 0, .int .u8 0, .int .u8 0, .int .u8 0, .int .u8 0, .int .u8 0, .int .u8 0, .int .u16 0, .int .u16 0, .slice none 0 0, .int .u8 0, .int .u8 0, .slice none 0 0, .slice none 0 0, .int .u8 0, .int .u8 0, .int .u8 0, .int .u8 0, .int .u8 0, .int .u16 0, .int .u8 0, .int .u16 0, .int .i64 0, .int .u16 0, .int .u16 0, .int .u16 0, .int .u16 0, .int .u16 0, .int .u16 0, .int .u16 0, .int .u16 0, .int .u16 0, .int .u16 0, .int .u16 0, .int .u16 0, .int .u16 0, .int .u16 0, .int .u16 0, .int .u16 0, .int .u16 0, .slice none 0 0] 54) = z1 at hH Kz1 Xz1 ⊢
      obtain ⟨b, hb⟩ : ∃ b, z0.heap.size = b := ⟨_, rfl⟩
      have lb : Hid (y5.heap.size ≤ b ∧ z0.heap.size = b) := ⟨by rw [← hb]; exact Kz0.out.size, hb⟩
      rw [hb]
      clear hb
      try simp only [Act.put, List.setIfInBounds_toArray, List.set_cons_zero, List.set_cons_succ]
      refine wpAnyH_ready (rs := [1]) (by kernel_rfl) (by simp) (fun i hi => ?_)
      obtain rfl := List.mem_singleton.1 hi
      clear hi
      refine wpOp_list (o := ⟨some 39, _, _, _, _, _⟩) rfl ?_
      go_wp2_with (go_at_call 15; refine (pcopied_any z1 C g (hg.out.below ((K5.out.1.below Kz1.out).low)) nst.out.1 nst.out.2.1 nst.out.2.2).mono ?_; rintro e z2 ⟨C2, rfl, H6⟩; have Kz2 : Hid (Below y5.heap.size y5 z2) := Kz1.out.trans (H6.out.2.mono Kz1.out.size); have Jz2 : Hid (GO y5.heap.size z2 C2 g ∧ Below z1.heap.size z1 z2) := ⟨H6.out.1.weak Kz1.out.size, H6.out.2⟩; clear H6)
      refine ⟨Kz2.out, ?_⟩
      replace hH := Kz2.out
      try simp only [Act.put, List.setIfInBounds_toArray, List.set_cons_zero, List.set_cons_succ]
      obtain ⟨⟨vS, vP, vM, eC2, o1, o2, o3, o4⟩, okg⟩ := Jz2.out.1
      subst eC2
      refine wpAnyH_take (i := 5) (oi := ⟨some 43, _, _, _, _, _⟩) (v := .agg (pCs g.v g.i g.pc vS g.de g.so vP vM OD d f.pl f.fr (.slice sB f.by_.length cB'))) rfl (by kernel_rfl) (by kernel_rfl) (by kernel_rfl) (fun _ _ _ h => h) (y_bu #[(0, .tmp 39), (1, .tmp 40), (2, .tmp 41), (3, .tmp 42)] [(0, .agg (gCs g.v g.i g.pc vS g.de g.so vP vM)), (1, .agg (o6 OD)), (2, .agg (dCs d)), (3, .agg (fCs f.pl f.fr (.slice sB f.by_.length cB')))] (pCs g.v g.i g.pc vS g.de g.so vP vM OD d f.pl f.fr (.slice sB f.by_.length cB')) (by kernel_rfl) rfl (by kernel_rfl) (built_p g.v g.i g.pc vS g.de g.so vP vM OD d f.pl f.fr (.slice sB f.by_.length cB'))) hH ?_
      try simp only [Act.put, List.setIfInBounds_toArray, List.set_cons_zero, List.set_cons_succ]
      have BXX : Hid (Bx z2 b #[.int .u8 0, .int .u8 0, .int .u8 0, .int .u8 0, .int .u8 0, .int .u8 0, .int .u8 0, .int .u8 0, .int .u8 0, .int .u8 0, .int .u8 0, .int .u8 0, .int .u8 0, .int .u8 0, .int .u8 0, .int .u8 0, .int .u16 0, .int .u16 0, .slice none 0 0, .int .u8 0, .int .u8 0, .slice none 0 0, .slice none 0 0, .int .u8 0, .int .u8 0, .int .u8 0, .int .u8 0, .int .u8 0, .int .u16 0, .int .u8 0, .int .u16 0, .int .i64 0, .int .u16 0, .int .u16 0, .int .u16 0, .int .u16 0, .int .u16 0, .int .u16 0, .int .u16 0, .int .u16 0, .int .u16 0, .int .u16 0, .int .u16 0, .int .u16 0, .int .u16 0, .int .u16 0, .int .u16 0, .int .u16 0, .int .u16 0, .slice none 0 0] 54) := (by have h1 := Xz1.out.1; have h2 := (Jz2.out.2.block _ (heap_lt h1)).trans h1; rw [lb.out.2] at h2; exact h2)
      refine wpAnyH_ready (rs := [7]) (by kernel_rfl) (by simp) (fun i hi => ?_)
      obtain rfl := List.mem_singleton.1 hi
      clear hi
      refine wpOp_list (o := ⟨none, _, _, _, _, _⟩) rfl ?_
      refine at_st rtP b #[.int .u8 0, .int .u8 0, .int .u8 0, .int .u8 0, .int .u8 0, .int .u8 0, .int .u8 0, .int .u8 0, .int .u8 0, .int .u8 0, .int .u8 0, .int .u8 0, .int .u8 0, .int .u8 0, .int .u8 0, .int .u8 0, .int .u16 0, .int .u16 0, .slice none 0 0, .int .u8 0, .int .u8 0, .slice none 0 0, .slice none 0 0, .int .u8 0, .int .u8 0, .int .u8 0, .int .u8 0, .int .u8 0, .int .u16 0, .int .u8 0, .int .u16 0, .int .i64 0, .int .u16 0, .int .u16 0, .int .u16 0, .int .u16 0, .int .u16 0, .int .u16 0, .int .u16 0, .int .u16 0, .int .u16 0, .int .u16 0, .int .u16 0, .int .u16 0, .int .u16 0, .int .u16 0, .int .u16 0, .int .u16 0, .int .u16 0, .slice none 0 0] (pCs g.v g.i g.pc vS g.de g.so vP vM OD d f.pl f.fr (.slice sB f.by_.length cB')) BXX.out rfl rfl ?_ (.tmp 12) (.tmp 43) rfl rfl rfl rfl ?_
      · obtain ⟨s1, c1, e1, _⟩ := OwnL.open kWord.len o1
        obtain ⟨s2, c2, e2, _⟩ := OwnL.open kByte.len o2
        obtain ⟨s3, c3, e3, _⟩ := OwnL.open kByte.len o3
        rw [e1, e2, e3]
        exact pCs_one _ _ _ _ _ _ _ _ _ _ _ _ _ _ _ _ _ _ _ _ _
      intro zE HE
      have KzE : Hid (Below y5.heap.size y5 zE) := Kz2.out.trans (HE.out.2.1 _ lb.out.1)
      refine ⟨KzE.out, ?_⟩
      refine wpAnyH_done (by kernel_rfl) ?_ _
      try go_wp2
      go_meet
      exact ⟨b, zE, rfl, rfl, ⟨KzE.out, ⟨⟨_, vS, vP, vM, sB, cB', HE.out.1, rfl, (o1.keepB (fun q hq => HE.out.2.2 q (fun eq => by subst eq; obtain ⟨cs, k1⟩ := o1.ty q hq; exact absurd rfl (Bx.unlike k1 BXX.out (by decide))))) , (o2.keepB (fun q hq => HE.out.2.2 q (fun eq => by subst eq; obtain ⟨cs, k1⟩ := o2.ty q hq; exact absurd rfl (Bx.unlike k1 BXX.out (by decide))))), (o3.keepB (fun q hq => HE.out.2.2 q (fun eq => by subst eq; obtain ⟨cs, k1⟩ := o3.ty q hq; exact absurd rfl (Bx.unlike k1 BXX.out (by decide))))), o4, fB.out.1.below (K5.out.1.below KzE.out).low, fun a ha h0 => Nat.lt_of_lt_of_le (lb_block fB.out.1 ha h0) K5.out.1.low.size⟩, lb.out.1, okg, hm.out, hoo.out, hfoo.out, hd.out⟩⟩⟩
  case rest =>
    obtain ⟨b, y6, rfl, rfl, K6⟩ := hcut
    have c17 := K6.out.2.cpc
    rw [hpc'.out.1] at c17
    have z17 := K6.out.2.fz 17
    have S7 : Hid (Below y5.heap.size y5 (y6.setCell ⟨b, 17, none⟩ (.int .u16 (pc2 : Int))) ∧ PB y5.heap.size (y6.setCell ⟨b, 17, none⟩ (.int .u16 (pc2 : Int))) b (Gm.on g) OD f d) := by
      have h1 := K6.out.2.setPC pc2 (by have := hpc'.out.2; omega)
      have e1 : { g with pc := pc2 } = Gm.on g := by unfold Gm.on; rw [hpc'.out.1, hpc'.out.2]
      rw [e1] at h1
      exact ⟨K6.out.1.trans h1.2, h1.1⟩
    go_upto_region 11 with ((with_reducible refine gen_world (y6.setCell ⟨b, 17, none⟩ (.int .u16 (pc2 : Int))) (fun y => Below y5.heap.size y5 y ∧ PB y5.heap.size y b (Gm.on g) OD f d) ?_ ?_); exact S7.out; intro y7 K7)
    have Kt : Hid (Below y5.heap.size y5 y7.drew) := below_drew K7.out.1
    have Pt : Hid (PB y5.heap.size y7.drew b (Gm.on g) OD f d) := K7.out.2.below (below_drew (Below.refl _ _))
    refine wp_region_held_drew (S := fun y => Below y5.heap.size y5 y) (by kernel_rfl) Kt.out (fun hH => ?_)
    generalize y7.drew = t0 at hH Kt Pt ⊢
    refine wpAnyH_take (i := 1) (oi := ⟨some 51, _, _, _, _, _⟩) (v := .pointer (some ⟨bo, 0, none⟩)) rfl (by kernel_rfl) (by kernel_rfl) (by kernel_rfl) (fun _ _ _ h => h) (.inl ⟨by kernel_rfl, fun k hk => by go_simp⟩) hH ?_
    try simp only [Act.put, List.setIfInBounds_toArray, List.set_cons_zero, List.set_cons_succ]
    refine wpAnyH_take (i := 2) (oi := ⟨some 52, _, _, _, _, _⟩) (v := .int .u8 (op : Int)) rfl (by kernel_rfl) (by kernel_rfl) (by kernel_rfl) (fun _ _ _ h => h) (.inl ⟨by kernel_rfl, fun k hk => by have d1 := ((K5.out.1.below hk).bx 4 _ _ _ rfl).c 0 (.int .u8 (OD.op : Int)) rfl; rw [hop.out] at d1; go_simp⟩) hH ?_
    try simp only [Act.put, List.setIfInBounds_toArray, List.set_cons_zero, List.set_cons_succ]
    refine wpAnyH_ready (rs := [0]) (by kernel_rfl) (by simp) (fun i hi => ?_)
    obtain rfl := List.mem_singleton.1 hi
    clear hi
    refine wpOp_list (o := ⟨some 50, _, _, _, _, _⟩) rfl ?_
    go_wp2_with (go_at_call 16; refine (deeds_any t0).mono ?_; rintro e t1 ⟨rfl, H8⟩; have K8 : Hid (Below y5.heap.size y5 t1 ∧ PB y5.heap.size t1 b (Gm.on g) OD f d ∧ MapT t1 t0.heap.size 30) := ⟨Kt.out.trans (H8.out.2.mono Kt.out.size), Pt.out.below H8.out.2, H8.out.1⟩; clear H8)
    refine ⟨K8.out.1, ?_⟩
    replace hH := K8.out.1
    try simp only [Act.put, List.setIfInBounds_toArray, List.set_cons_zero, List.set_cons_succ]
    refine wpAnyH_ready (rs := [3]) (by kernel_rfl) (by simp) (fun i hi => ?_)
    obtain rfl := List.mem_singleton.1 hi
    clear hi
    refine wpOp_list (o := ⟨some 53, _, _, _, _, _⟩) rfl ?_
    refine at_op (.func (.func fn) #[] #[]) (by kernel_rfl) (by have d1 := deeds_look t1 t0.heap.size op fn K8.out.2.2 hfn.out; unfold execOp; simp only [Act.eval]; first | rfl | go_simp) ?_
    refine ⟨K8.out.1, ?_⟩
    try simp only [Act.put, List.setIfInBounds_toArray, List.set_cons_zero, List.set_cons_succ]
    refine wpAnyH_ready (rs := [4]) (by kernel_rfl) (by simp) (fun i hi => ?_)
    obtain rfl := List.mem_singleton.1 hi
    clear hi
    refine wpOp_list (o := ⟨some 54, _, _, _, _, _⟩) rfl ?_
    go_wp2_with ((with_reducible show Calls Try.prog fn _ _ _); refine (hrow.out y5.heap.size t1 b (Gm.on g) OD f d K8.out.2.1 hop.out h15.out).mono ?_; rintro e t2 ⟨rfl, H9⟩; have K9 : Hid (Below y5.heap.size y5 t2 ∧ (R.2 = 1 → PB y5.heap.size t2 b R.1 OD f d)) := (by rw [← hR.out]; exact ⟨K8.out.1.trans H9.1, H9.2⟩); rw [hR.out]; rw [hR2.out]; clear H9)
    refine ⟨K9.out.1, ?_⟩
    replace hH := K9.out.1
    try simp only [Act.put, List.setIfInBounds_toArray, List.set_cons_zero, List.set_cons_succ]
    refine wpAnyH_take (i := 5) (oi := ⟨some 11, _, _, _, _, _⟩) (v := .int .u8 (rq : Int)) rfl (by kernel_rfl) (by kernel_rfl) (by kernel_rfl) (fun _ _ _ h => h) (.inl ⟨by kernel_rfl, fun k hk => by go_simp⟩) hH ?_
    try simp only [Act.put, List.setIfInBounds_toArray, List.set_cons_zero, List.set_cons_succ]
    refine wpAnyH_done (by kernel_rfl) ?_ _
    have K10 : Hid (Fm w [(w.heap.size, C, 29), (w.heap.size + 1, D, 42), (w.heap.size + 2, (dCs d), 44), (w.heap.size + 3, Z, 29), (bo, o6 OD, 49)] t2 ∧ w.heap.size + 4 ≤ bo) := ⟨K5.out.1.below K9.out.1, K5.out.2⟩
    go_wp2_with (first
    | ((with_reducible refine at_load rtG w.heap.size C ?_ ?_ (.tmp 3) ?_ ?_ ?_ ?_); exact K10.out.1.bx 0 _ _ _ rfl; exact gC.out; kernel_rfl; rfl; rfl)
    | (go_at_call 15; refine (pcopied_any t2 C g (hg.out.below K10.out.1.low) nst.out.1 nst.out.2.1 nst.out.2.2).mono ?_; rintro e t3 ⟨C2, rfl, H6⟩; have K6 : Hid (Fm w [(w.heap.size, C, 29), (w.heap.size + 1, D, 42), (w.heap.size + 2, (dCs d), 44), (w.heap.size + 3, Z, 29), (bo, o6 OD, 49)] t3 ∧ GO (w.heap.size + 4) t3 C2 g) := ⟨K10.out.1.below H6.out.2, H6.out.1.weak (by have h1 := heap_lt (K10.out.1.bx 4 _ _ _ rfl); have h2 := K10.out.2; omega)⟩; clear H6)
    | ((with_reducible refine at_st rtG (w.heap.size + 3) Z C2 ?_ ?_ ?_ ?_ (.tmp 6) (.tmp 58) ?_ ?_ ?_ ?_ ?_); exact K6.out.1.bx 3 _ _ _ rfl; exact hZ'.out; exact K6.out.2.lies.size.1; exact K6.out.2.lies.size.2.1; rfl; rfl; rfl; rfl; intro yE HE; have KE : Hid (Bx yE (w.heap.size + 3) C2 29 ∧ GO (w.heap.size + 4) yE C2 g ∧ Below w.heap.size w yE) := ⟨HE.out.1, K6.out.2.put (by omega) HE.out.2.2, K6.out.1.low.trans (HE.out.2.1 _ (by omega))⟩))
    exact ret_three rtG rfl rfl rfl rfl KE.out.1 KE.out.2.1.lies.size.1 rfl ⟨C2, rfl, KE.out.2.1.weak (by omega), KE.out.2.2⟩

theorem step_done (w : World) (C D : Array Value) (g : Gm) (f : Fo) (d : Fd) (hg : Hid (GL w C g)) (hf : Hid (FL w D f)) (hd : Hid d.Ok) (hs : Hid (smaG g f)) (hm : Hid (g.may = true)) (hfo : Hid (fontG f = true)) (h15 : Hid (d.ky ≤ 15)) (OD : Od) (hnx : Hid (∀ y, Below w.heap.size w y → Calls Try.prog 14 #[.agg C] y fun e w' => e = .returned (.tuple #[.agg (o6 OD), .int .u8 1]) ∧ Below y.heap.size y w')) (hoo : Hid OD.Ok) (op : Nat) (hop : Hid (OD.op = op)) (h2 : 2 ≤ op) (h31 : op ≤ 31) (R : Gm × Nat) (hR : Hid (doG (Gm.on g) OD f d = R)) (rq : Nat) (hR2 : Hid (R.2 = rq)) (hrq0 : rq = 1) :
    Calls Try.prog 11 #[.agg C, .agg D, .agg (dCs d)] w fun e w' => ∃ C', e = .returned (.tuple #[.agg C', .int .u8 1, .int .i64 0]) ∧ GO w.heap.size w' C' R.1 ∧ Below w.heap.size w w' := by
  have gC : Hid (C.size = 23) := hg.out.size.1
  have gD : Hid (D.size = 18) := hf.out.size
  obtain ⟨Z, hZ⟩ : ∃ x : Array Value, Hid (x = gZ) := ⟨_, (rfl : gZ = gZ)⟩
  have hZ' : Hid (Z.size = 23) := by show _ = _; rw [hZ.out]; rfl
  have hby : Hid (f.by_.length ≤ 4000000000) := by show _ ≤ _; have := hs.out; unfold smaG at this; omega
  have nst : Hid (g.st.length ≤ 4000000000 ∧ g.pg.length ≤ 4000000000 ∧ g.me.length ≤ 4000000000) := by have := hs.out; unfold smaG at this; exact ⟨by omega, by omega, by omega⟩
  obtain ⟨kk, hkk⟩ : ∃ k, d.ky = k := ⟨_, rfl⟩
  have hky : Hid (d.ky = kk) := hkk
  have q1 : decide ((15 : Int) < kk) = false := by rw [← hkk]; have := h15.out; simp; omega
  have q7 : ((rq : Int) != 1) = false := by simp; omega
  have hrq : Hid (rq = 1) := hrq0
  clear hrq0
  obtain ⟨fn, hfn0, hent, hrow0⟩ := deed_row op h2 h31
  have hfn : Hid (Instr.findNow (.int .u8) (.int .u8 (op : Int)) (dEs 30).toList 0 = some (some (op - 2, .func (.func fn) #[] #[]))) := hfn0
  have hrow : Hid (∀ (B : Nat) (w : World) (b : Nat) (g : Gm) (o : Od) (f : Fo) (d : Fd), PB B w b g o f d → o.op = op → d.ky ≤ 15 → Calls Try.prog fn #[.pointer (some ⟨b, 0, none⟩)] w (MdE B w b o f d (doG g o f d))) := hrow0
  obtain ⟨⟨sB, cB', hD0, hB0⟩, hfn1, hfn2, hfn3⟩ := hf.out
  have hD : Hid (D = fCs f.pl f.fr (.slice sB f.by_.length cB')) := hD0
  have fB : Hid (LB w sB f.by_ ∧ True) := ⟨hB0, trivial⟩
  have hfoo : Hid f.Ok := ⟨hfn1, hfn2, hfn3, by have := hfo.out; unfold fontG at this; simp at this; omega⟩
  obtain ⟨pc, hpc⟩ : ∃ x, g.pc = x := ⟨_, rfl⟩
  obtain ⟨pc2, hpc2⟩ : ∃ x, (pc + 2) % 65536 = x := ⟨_, rfl⟩
  have hpc' : Hid (g.pc = pc ∧ (pc + 2) % 65536 = pc2) := ⟨hpc, hpc2⟩
  have ipc := hg.out.2.pc
  rw [hpc] at ipc
  have i1 : (pc : Int) < 65536 := by omega
  have q5 : ((pc : Int) + 2) % 65536 = (pc2 : Int) := by omega
  have q6 : IntKind.u16.wrap ((pc : Int) + 2) = (pc2 : Int) := by rw [IntKind.wrap_u16]; exact q5
  clear hkk hfn0 hrow0 hD0 hB0 hfn1 hfn2 hfn3 hpc hpc2 ipc h2 h31
  go_enter Try.func11, Try.ntmps11
  go_upto_region 9 with (first
    | ((with_reducible refine gen_world ((((w.alloc (.cells C 29)).alloc (.cells D 42)).alloc (.cells (dCs d) 44)).alloc (.cells #[.int .u8 0, .int .u8 0, .int .u8 0, .int .u8 0, .int .u8 0, .int .u8 0, .int .u8 0, .int .u8 0, .int .u8 0, .int .u8 0, .int .u8 0, .int .u8 0, .int .u8 0, .int .u8 0, .int .u8 0, .int .u8 0, .int .u16 0, .int .u16 0, .slice none 0 0, .int .u8 0, .int .u8 0, .slice none 0 0, .slice none 0 0] 29)) (fun y => Fm w [(w.heap.size, C, 29), (w.heap.size + 1, D, 42), (w.heap.size + 2, (dCs d), 44), (w.heap.size + 3, Z, 29)] y ∧ y.heap.size = w.heap.size + 4) ?_ ?_); (rw [hZ.out]; unfold gZ; exact ⟨Fm.four w _ _ _ _ _ _ _ _, by simp [World.size_alloc]⟩); intro y0 K0)
    | ((with_reducible refine at_load rtG w.heap.size C ?_ ?_ (.tmp 3) ?_ ?_ ?_ ?_); (first | exact K2.out.1.bx 0 _ _ _ rfl | exact K0.out.1.bx 0 _ _ _ rfl); exact gC.out; kernel_rfl; rfl; rfl)
    | (go_at_call 12; refine (check_gl y0 C g (hg.out.below K0.out.1.low)).mono ?_; rintro e y1 ⟨rfl, H1⟩; have K1 : Hid (Fm w [(w.heap.size, C, 29), (w.heap.size + 1, D, 42), (w.heap.size + 2, (dCs d), 44), (w.heap.size + 3, Z, 29)] y1 ∧ w.heap.size + 4 ≤ y1.heap.size) := ⟨K0.out.1.below H1, (by have := H1.size; rw [K0.out.2] at this; exact this)⟩; rw [hm.out]; have ky := (K1.out.1.bx 2 _ _ _ rfl).c 2 (.int .i64 d.ky) rfl; rw [hky.out] at ky)
    | ((with_reducible refine at_load rtFn (w.heap.size + 1) D ?_ ?_ (.tmp 4) ?_ ?_ ?_ ?_); exact K1.out.1.bx 1 _ _ _ rfl; exact gD.out; kernel_rfl; rfl; rfl)
    | (go_at_call 13; refine (fits_any y1 D f (hf.out.below K1.out.1.low) hby.out).mono ?_; rintro e y2 ⟨rfl, H2⟩; have K2 : Hid (Fm w [(w.heap.size, C, 29), (w.heap.size + 1, D, 42), (w.heap.size + 2, (dCs d), 44), (w.heap.size + 3, Z, 29)] y2 ∧ w.heap.size + 4 ≤ y2.heap.size) := ⟨K1.out.1.below H2, Nat.le_trans K1.out.2 H2.size⟩; rw [hfo.out]; have ky2 := (K2.out.1.bx 2 _ _ _ rfl).c 2 (.int .i64 d.ky) rfl; rw [hky.out] at ky2)
    | (go_at_call 14; refine (hnx.out y2 K2.out.1.low).mono ?_; rintro e y3 ⟨rfl, H3⟩; have K3 : Hid (Fm w [(w.heap.size, C, 29), (w.heap.size + 1, D, 42), (w.heap.size + 2, (dCs d), 44), (w.heap.size + 3, Z, 29)] y3 ∧ w.heap.size + 4 ≤ y3.heap.size) := ⟨K2.out.1.below H3, Nat.le_trans K2.out.2 H3.size⟩)
    | ((with_reducible refine gen_world (y3.alloc (.cells #[.int .u8 0, .int .u8 0, .int .u8 0, .int .u8 0, .int .u8 0, .int .u16 0] 49)) (fun y => Fm w [(w.heap.size, C, 29), (w.heap.size + 1, D, 42), (w.heap.size + 2, (dCs d), 44), (w.heap.size + 3, Z, 29), (y3.heap.size, #[.int .u8 0, .int .u8 0, .int .u8 0, .int .u8 0, .int .u8 0, .int .u16 0], 49)] y ∧ y3.heap.size < y.heap.size) ?_ ?_); (exact ⟨K3.out.1.new _ _, by simp [World.size_alloc]⟩); intro y4 K4)
    | ((with_reducible refine at_st rtO y3.heap.size #[.int .u8 0, .int .u8 0, .int .u8 0, .int .u8 0, .int .u8 0, .int .u16 0] (o6 OD) ?_ ?_ ?_ ?_ (.tmp 10) (.tmp 31) ?_ ?_ ?_ ?_ ?_); exact K4.out.1.bx 4 _ _ _ rfl; rfl; rfl; exact o6_one OD; rfl; rfl; rfl; rfl; intro y5 H5; obtain ⟨bo, hbo⟩ : ∃ x, y3.heap.size = x := ⟨_, rfl⟩; have K5 : Hid (Fm w [(w.heap.size, C, 29), (w.heap.size + 1, D, 42), (w.heap.size + 2, (dCs d), 44), (w.heap.size + 3, Z, 29), (bo, o6 OD, 49)] y5 ∧ w.heap.size + 4 ≤ bo) := (by rw [← hbo]; exact ⟨K4.out.1.put 4 _ _ _ _ rfl H5.out, K3.out.2⟩); rw [hbo]; clear hbo H5 K4))
  go_cut [12] (fun p wz => ∃ (b : Nat) (y : World), y = wz ∧ p = .pointer (some ⟨b, 0, none⟩) ∧ Hid (Below y5.heap.size y5 y ∧ PB y5.heap.size y b g OD f d))
  case first =>
    have Kz0 : Hid (Below y5.heap.size y5 y5.drew) := below_drew (Below.refl _ _)
    refine wp_region_held_drew (S := fun y => Below y5.heap.size y5 y) (by kernel_rfl) Kz0.out (fun hH => ?_)
    generalize y5.drew = z0 at hH Kz0 ⊢
    refine wpAnyH_take (i := 0) (oi := ⟨some 38, _, _, _, _, _⟩) (v := .agg C) rfl (by kernel_rfl) (by kernel_rfl) (by kernel_rfl) (fun _ _ _ h => h) (y_load rtG w.heap.size C (fun k hk => (K5.out.1.below hk).bx 0 _ _ _ rfl) gC.out (.tmp 3) (by kernel_rfl) rfl (by go_simp)) hH ?_
    try simp only [Act.put, List.setIfInBounds_toArray, List.set_cons_zero, List.set_cons_succ]
    refine wpAnyH_take (i := 2) (oi := ⟨some 40, _, _, _, _, _⟩) (v := .agg (o6 OD)) rfl (by kernel_rfl) (by kernel_rfl) (by kernel_rfl) (fun _ _ _ h => h) (y_load rtO bo (o6 OD) (fun k hk => (K5.out.1.below hk).bx 4 _ _ _ rfl) rfl (.tmp 10) (by kernel_rfl) rfl (by go_simp)) hH ?_
    try simp only [Act.put, List.setIfInBounds_toArray, List.set_cons_zero, List.set_cons_succ]
    refine wpAnyH_take (i := 3) (oi := ⟨some 41, _, _, _, _, _⟩) (v := .agg (dCs d)) rfl (by kernel_rfl) (by kernel_rfl) (by kernel_rfl) (fun _ _ _ h => h) (y_load rtFd (w.heap.size + 2) (dCs d) (fun k hk => (K5.out.1.below hk).bx 2 _ _ _ rfl) rfl (.tmp 5) (by kernel_rfl) rfl (by go_simp)) hH ?_
    try simp only [Act.put, List.setIfInBounds_toArray, List.set_cons_zero, List.set_cons_succ]
    refine wpAnyH_take (i := 4) (oi := ⟨some 42, _, _, _, _, _⟩) (v := .agg D) rfl (by kernel_rfl) (by kernel_rfl) (by kernel_rfl) (fun _ _ _ h => h) (y_load rtFn (w.heap.size + 1) D (fun k hk => (K5.out.1.below hk).bx 1 _ _ _ rfl) gD.out (.tmp 4) (by kernel_rfl) rfl (by go_simp)) hH ?_
    try simp only [Act.put, List.setIfInBounds_toArray, List.set_cons_zero, List.set_cons_succ]
    obtain rfl := hD.out
    refine wpAnyH_ready (rs := [1, 6]) (by kernel_rfl) (by simp) (fun i hi => ?_)
    rcases List.mem_cons.1 hi with rfl | hi
    · clear hi
      refine wpOp_list (o := ⟨some 39, _, _, _, _, _⟩) rfl ?_
      go_wp2_with (go_at_call 15; refine (pcopied_any z0 C g (hg.out.below ((K5.out.1.below Kz0.out).low)) nst.out.1 nst.out.2.1 nst.out.2.2).mono ?_; rintro e z1 ⟨C2, rfl, H6⟩; have Kz1 : Hid (Below y5.heap.size y5 z1) := Kz0.out.trans (H6.out.2.mono Kz0.out.size); have Jz1 : Hid (GO y5.heap.size z1 C2 g ∧ Below z0.heap.size z0 z1) := ⟨H6.out.1.weak Kz0.out.size, H6.out.2⟩; clear H6)
      refine ⟨Kz1.out, ?_⟩
      replace hH := Kz1.out
      try simp only [Act.put, List.setIfInBounds_toArray, List.set_cons_zero, List.set_cons_succ]
      obtain ⟨⟨vS, vP, vM, eC2, o1, o2, o3, o4⟩, okg⟩ := Jz1.out.1
      subst eC2
      refine wpAnyH_take (i := 5) (oi := ⟨some 43, _, _, _, _, _⟩) (v := .agg (pCs g.v g.i g.pc vS g.de g.so vP vM OD d f.pl f.fr (.slice sB f.by_.length cB'))) rfl (by kernel_rfl) (by kernel_rfl) (by kernel_rfl) (fun _ _ _ h => h) (y_bu #[(0, .tmp 39), (1, .tmp 40), (2, .tmp 41), (3, .tmp 42)] [(0, .agg (gCs g.v g.i g.pc vS g.de g.so vP vM)), (1, .agg (o6 OD)), (2, .agg (dCs d)), (3, .agg (fCs f.pl f.fr (.slice sB f.by_.length cB')))] (pCs g.v g.i g.pc vS g.de g.so vP vM OD d f.pl f.fr (.slice sB f.by_.length cB')) (by kernel_rfl) rfl (by kernel_rfl) (built_p g.v g.i g.pc vS g.de g.so vP vM OD d f.pl f.fr (.slice sB f.by_.length cB'))) hH ?_
      try simp only [Act.put, List.setIfInBounds_toArray, List.set_cons_zero, List.set_cons_succ]
      refine wpAnyH_ready (rs := [6]) (by kernel_rfl) (by simp) (fun i hi => ?_)
      obtain rfl := List.mem_singleton.1 hi
      clear hi
      refine wpOp_list (o := ⟨some 12, _, _, _, _, _⟩) rfl ?_
      refine at_alP rfl rfl ?_
      have Kz2 : Hid (Below y5.heap.size y5 (z1.alloc (.cells #[.int .u8 0, .int .u8 0, .int .u8 0, .int .u8 0, .int .u8 0, .int .u8 0, .int .u8 0, .int .u8 0, .int .u8 0, .int .u8 0, .int .u8 0, .int .u8 0, .int .u8 0, .int .u8 0, .int .u8 0, .int .u8 0, .int .u16 0, .int .u16 0, .slice none 0 0, .int .u8 0, .int .u8 0, .slice none 0 0, .slice none 0 0, .int .u8 0, .int .u8 0, .int .u8 0, .int .u8 0, .int .u8 0, .int .u16 0, .int .u8 0, .int .u16 0, .int .i64 0, .int .u16 0, .int .u16 0, .int .u16 0, .int .u16 0, .int .u16 0, .int .u16 0, .int .u16 0, .int .u16 0, .int .u16 0, .int .u16 0, .int .u16 0, .int .u16 0, .int .u16 0, .int .u16 0, .int .u16 0, .int .u16 0, .int .u16 0, .slice none 0 0] 54))) := Kz1.out.trans ((below1 z1 _).mono Kz1.out.size)
      have Xz2 : Hid (Bx (z1.alloc (.cells #[.int .u8 0, .int .u8 0, .int .u8 0, .int .u8 0, .int .u8 0, .int .u8 0, .int .u8 0, .int .u8 0, .int .u8 0, .int .u8 0, .int .u8 0, .int .u8 0, .int .u8 0, .int .u8 0, .int .u8 0, .int .u8 0, .int .u16 0, .int .u16 0, .slice none 0 0, .int .u8 0, .int .u8 0, .slice none 0 0, .slice none 0 0, .int .u8 0, .int .u8 0, .int .u8 0, .int .u8 0, .int .u8 0, .int .u16 0, .int .u8 0, .int .u16 0, .int .i64 0, .int .u16 0, .int .u16 0, .int .u16 0, .int .u16 0, .int .u16 0, .int .u16 0, .int .u16 0, .int .u16 0, .int .u16 0, .int .u16 0, .int .u16 0, .int .u16 0, .int .u16 0, .int .u16 0, .int .u16 0, .int .u16 0, .int .u16 0, .slice none 0 0] 54)) z1.heap.size #[.int .u8 0, .int .u8 0, .int .u8 0, .int .u8 0, .int .u8 0, .int .u8 0, .int .u8 0, .int .u8 0, .int .u8 0, .int .u8 0, .int .u8 0, .int .u8 0, .int .u8 0, .int .u8 0, .int .u8 0, .int .u8 0, .int .u16 0, .int .u16 0, .slice none 0 0, .int .u8 0, .int .u8 0, .slice none 0 0, .slice none 0 0, .int .u8 0, .int .u8 0, .int .u8 0, .int .u8 0, .int .u8 0, .int .u16 0, .int .u8 0, .int .u16 0, .int .i64 0, .int .u16 0, .int .u16 0, .int .u16 0, .int .u16 0, .int .u16 0, .int .u16 0, .int .u16 0, .int .u16 0, .int .u16 0, .int .u16 0, .int .u16 0, .int .u16 0, .int .u16 0, .int .u16 0, .int .u16 0, .int .u16 0, .int .u16 0, .slice none 0 0] 54 ∧ Below z1.heap.size z1 (z1.alloc (.cells #[.int .u8 0, .int .u8 0, .int .u8 0, .int .u8 0, .int .u8 0, .int .u8 0, .int .u8 0, .int .u8 0, .int .u8 0, .int .u8 0, .int .u8 0, .int .u8 0, .int .u8 0, .int .u8 0, .int .u8 0, .int .u8 0, .int .u16 0, .int .u16 0, .slice none 0 0, .int .u8 0, .int .u8 0, .slice none 0 0, .slice none 0 0, .int .u8 0, .int .u8 0, .int .u8 0, .int .u8 0, .int .u8 0, .int .u16 0, .int .u8 0, .int .u16 0, .int .i64 0, .int .u16 0, .int .u16 0, .int .u16 0, .int .u16 0, .int .u16 0, .int .u16 0, .int .u16 0, .int .u16 0, .int .u16 0, .int .u16 0, .int .u16 0, .int .u16 0, .int .u16 0, .int .u16 0, .int .u16 0, .int .u16 0, .int .u16 0, .slice none 0 0] 54)) ∧ y5.heap.size ≤ z1.heap.size) := ⟨one_bxL z1 _ _, below1 z1 _, Kz1.out.size⟩
      refine ⟨Kz2.out, ?_⟩
      replace hH := Kz2.out
      generalize z1.alloc (.cells #[.int .u8 0, .int .u8 0, .int .u8 0, .int .u8 0, .int .u8 0, .int .u8 0, .int .u8 0, .int .u8 0, .int .u8 0, .int .u8 0, .int .u8 0, .int .u8 0, .int .u8 0, .int .u8 0, .int .u8 0, .int .u8 0, .int .u16 0, .int .u16 0, .slice none 0 0, .int .u8 0, .int .u8 0, .slice none 0 0, .slice none 0 0, .int .u8 0, .int .u8 0, .int .u8 0, .int .u8 0, .int .u8 0, .int .u16 0, .int .u8 0, .int .u16 0, .int .i64 0, .int .u16 0, .int .u16 0, .int .u16 0, .int .u16 0, .int .u16 0, .int .u16 0, .int .u16 0, .int .u16 0, .int .u16 0, .int .u16 0, .int .u16 0, .int .u16 0, .int .u16 0, .int .u16 0, .int .u16 0, .int .u16 0, .int .u16 0, .slice none 0 0] 54) = z2 at hH Kz2 Xz2 ⊢
      obtain ⟨b, hb⟩ : ∃ b, z1.heap.size = b := ⟨_, rfl⟩
      have lb : Hid (y5.heap.size ≤ b ∧ z1.heap.size = b) := ⟨by rw [← hb]; exact Kz1.out.size, hb⟩
      rw [hb]
      clear hb
      try simp only [Act.put, List.setIfInBounds_toArray, List.set_cons_zero, List.set_cons_succ]
      have BXX : Hid (Bx z2 b #[.int .u8 0, .int .u8 0, .int .u8 0, .int .u8 0, .int .u8 0, .int .u8 0, .int .u8 0, .int .u8 0, .int .u8 0, .int .u8 0, .int .u8 0, .int .u8 0, .int .u8 0, .int .u8 0, .int .u8 0, .int .u8 0, .int .u16 0, .int .u16 0, .slice none 0 0, .int .u8 0, .int .u8 0, .slice none 0 0, .slice none 0 0, .int .u8 0, .int .u8 0, .int .u8 0, .int .u8 0, .int .u8 0, .int .u16 0, .int .u8 0, .int .u16 0, .int .i64 0, .int .u16 0, .int .u16 0, .int .u16 0, .int .u16 0, .int .u16 0, .int .u16 0, .int .u16 0, .int .u16 0, .int .u16 0, .int .u16 0, .int .u16 0, .int .u16 0, .int .u16 0, .int .u16 0, .int .u16 0, .int .u16 0, .int .u16 0, .slice none 0 0] 54) := (by have := Xz2.out.1; rw [lb.out.2] at this; exact this)
      refine wpAnyH_ready (rs := [7]) (by kernel_rfl) (by simp) (fun i hi => ?_)
      obtain rfl := List.mem_singleton.1 hi
      clear hi
      refine wpOp_list (o := ⟨none, _, _, _, _, _⟩) rfl ?_
      refine at_st rtP b #[.int .u8 0, .int .u8 0, .int .u8 0, .int .u8 0, .int .u8 0, .int .u8 0, .int .u8 0, .int .u8 0, .int .u8 0, .int .u8 0, .int .u8 0, .int .u8 0, .int .u8 0, .int .u8 0, .int .u8 0, .int .u8 0, .int .u16 0, .int .u16 0, .slice none 0 0, .int .u8 0, .int .u8 0, .slice none 0 0, .slice none 0 0, .int .u8 0, .int .u8 0, .int .u8 0, .int .u8 0, .int .u8 0, .int .u16 0, .int .u8 0, .int .u16 0, .int .i64 0, .int .u16 0, .int .u16 0, .int .u16 0, .int .u16 0, .int .u16 0, .int .u16 0, .int .u16 0, .int .u16 0, .int .u16 0, .int .u16 0, .int .u16 0, .int .u16 0, .int .u16 0, .int .u16 0, .int .u16 0, .int .u16 0, .int .u16 0, .slice none 0 0] (pCs g.v g.i g.pc vS g.de g.so vP vM OD d f.pl f.fr (.slice sB f.by_.length cB')) BXX.out rfl rfl ?_ (.tmp 12) (.tmp 43) rfl rfl rfl rfl ?_
      · obtain ⟨s1, c1, e1, _⟩ := OwnL.open kWord.len o1
        obtain ⟨s2, c2, e2, _⟩ := OwnL.open kByte.len o2
        obtain ⟨s3, c3, e3, _⟩ := OwnL.open kByte.len o3
        rw [e1, e2, e3]
        exact pCs_one _ _ _ _ _ _ _ _ _ _ _ _ _ _ _ _ _ _ _ _ _
      intro zE HE
      have KzE : Hid (Below y5.heap.size y5 zE) := Kz2.out.trans (HE.out.2.1 _ lb.out.1)
      refine ⟨KzE.out, ?_⟩
      refine wpAnyH_done (by kernel_rfl) ?_ _
      try go_wp2
      go_meet
      exact ⟨b, zE, rfl, rfl, ⟨KzE.out, ⟨⟨_, vS, vP, vM, sB, cB', HE.out.1, rfl, ((o1.below Xz2.out.2.1).keepB (fun q hq => HE.out.2.2 q (by have h1 := (o1.lt q hq).2; have h2 := lb.out.2; omega))) , ((o2.below Xz2.out.2.1).keepB (fun q hq => HE.out.2.2 q (by have h1 := (o2.lt q hq).2; have h2 := lb.out.2; omega))), ((o3.below Xz2.out.2.1).keepB (fun q hq => HE.out.2.2 q (by have h1 := (o3.lt q hq).2; have h2 := lb.out.2; omega))), o4, fB.out.1.below (K5.out.1.below KzE.out).low, fun a ha h0 => Nat.lt_of_lt_of_le (lb_block fB.out.1 ha h0) K5.out.1.low.size⟩, lb.out.1, okg, hm.out, hoo.out, hfoo.out, hd.out⟩⟩⟩
    · obtain rfl := List.mem_singleton.1 hi
      clear hi
      refine wpOp_list (o := ⟨some 12, _, _, _, _, _⟩) rfl ?_
      refine at_alP rfl rfl ?_
      have Kz1 : Hid (Below y5.heap.size y5 (z0.alloc (.cells #[.int .u8 0, .int .u8 0, .int .u8 0, .int .u8 0, .int .u8 0, .int .u8 0, .int .u8 0, .int .u8 0, .int .u8 0, .int .u8 0, .int .u8 0, .int .u8 0, .int .u8 0, .int .u8 0, .int .u8 0, .int .u8 0, .int .u16 0, .int .u16 0, .slice none 0 0, .int .u8 0, .int .u8 0, .slice none 0 0, .slice none 0 0, .int .u8 0, .int .u8 0, .int .u8 0, .int .u8 0, .int .u8 0, .int .u16 0, .int .u8 0, .int .u16 0, .int .i64 0, .int .u16 0, .int .u16 0, .int .u16 0, .int .u16 0, .int .u16 0, .int .u16 0, .int .u16 0, .int .u16 0, .int .u16 0, .int .u16 0, .int .u16 0, .int .u16 0, .int .u16 0, .int .u16 0, .int .u16 0, .int .u16 0, .int .u16 0, .slice none 0 0] 54))) := Kz0.out.trans ((below1 z0 _).mono Kz0.out.size)
      have Xz1 : Hid (Bx (z0.alloc (.cells #[.int .u8 0, .int .u8 0, .int .u8 0, .int .u8 0, .int .u8 0, .int .u8 0, .int .u8 0, .int .u8 0, .int .u8 0, .int .u8 0, .int .u8 0, .int .u8 0, .int .u8 0, .int .u8 0, .int .u8 0, .int .u8 0, .int .u16 0, .int .u16 0, .slice none 0 0, .int .u8 0, .int .u8 0, .slice none 0 0, .slice none 0 0, .int .u8 0, .int .u8 0, .int .u8 0, .int .u8 0, .int .u8 0, .int .u16 0, .int .u8 0, .int .u16 0, .int .i64 0, .int .u16 0, .int .u16 0, .int .u16 0, .int .u16 0, .int .u16 0, .int .u16 0, .int .u16 0, .int .u16 0, .int .u16 0, .int .u16 0, .int .u16 0, .int .u16 0, .int .u16 0, .int .u16 0, .int .u16 0, .int .u16 0, .int .u16 0, .slice none 0 0] 54)) z0.heap.size #[.int .u8 0, .int .u8 0, .int .u8 0, .int .u8 0, .int .u8 0, .int .u8 0, .int .u8 0, .int .u8 0, .int .u8 0, .int .u8 0, .int .u8 0, .int .u8 0, .int .u8 0, .int .u8 0, .int .u8 0, .int .u8 0, .int .u16 0, .int .u16 0, .slice none 0 0, .int .u8 0, .int .u8 0, .slice none 0 0, .slice none 0 0, .int .u8 0, .int .u8 0, .int .u8 0, .int .u8 0, .int .u8 0, .int .u16 0, .int .u8 0, .int .u16 0, .int .i64 0, .int .u16 0, .int .u16 0, .int .u16 0, .int .u16 0, .int .u16 0, .int .u16 0, .int .u16 0, .int .u16 0, .int .u16 0, .int .u16 0, .int .u16 0, .int .u16 0, .int .u16 0, .int .u16 0, .int .u16 0, .int .u16 0, .int .u16 0, .slice none 0 0] 54 ∧ Below z0.heap.size z0 (z0.alloc (.cells #[.int .u8 0, .int .u8 0, .int .u8 0, .int .u8 0, .int .u8 0, .int .u8 0, .int .u8 0, .int .u8 0, .int .u8 0, .int .u8 0, .int .u8 0, .int .u8 0, .int .u8 0, .int .u8 0, .int .u8 0, .int .u8 0, .int .u16 0, .int .u16 0, .slice none 0 0, .int .u8 0, .int .u8 0, .slice none 0 0, .slice none 0 0, .int .u8 0, .int .u8 0, .int .u8 0, .int .u8 0, .int .u8 0, .int .u16 0, .int .u8 0, .int .u16 0, .int .i64 0, .int .u16 0, .int .u16 0, .int .u16 0, .int .u16 0, .int .u16 0, .int .u16 0, .int .u16 0, .int .u16 0, .int .u16 0, .int .u16 0, .int .u16 0, .int .u16 0, .int .u16 0, .int .u16 0, .int .u16 0, .int .u16 0, .int .u16 0, .slice none 0 0] 54)) ∧ y5.heap.size ≤ z0.heap.size) := ⟨one_bxL z0 _ _, below1 z0 _, Kz0.out.size⟩
      refine ⟨Kz1.out, ?_⟩
      replace hH := Kz1.out
      generalize z0.alloc (.cells #[.int .u8 0, .int .u8 0, .int .u8 0, .int .u8 0, .int .u8 0, .int .u8 0, .int .u8 0, .int .u8 0, .int .u8 0, .int .u8 0, .int .u8 0, .int .u8 0, .int .u8 0, .int .u8 0, .int .u8 0, .int .u8 0, .int .u16 0, .int .u16 0, .slice none 0 0, .int .u8 0, .int .u8 0, .slice none 0 0, .slice none 0 0, .int .u8 0, .int .u8 0, .int .u8 0, .int .u8 0, .int .u8 0, .int .u16 0, .int .u8 0, .int .u16 0, .int .i64 0, .int .u16 0, .int .u16 0, .int .u16 0, .int .u16 0, .int .u16 0, .int .u16 0, .int .u16 0, .int .u16 0, .int .u16 0, .int .u16 0, .int .u16 0, .int .u16 0, .int .u16 0, .int .u16 0, .int .u16 0, .int .u16 0, .int .u16 0, .slice none 0 0] 54) = z1 at hH Kz1 Xz1 ⊢
      obtain ⟨b, hb⟩ : ∃ b, z0.heap.size = b := ⟨_, rfl⟩
      have lb : Hid (y5.heap.size ≤ b ∧ z0.heap.size = b) := ⟨by rw [← hb]; exact Kz0.out.size, hb⟩
      rw [hb]
      clear hb
      try simp only [Act.put, List.setIfInBounds_toArray, List.set_cons_zero, List.set_cons_succ]
      refine wpAnyH_ready (rs := [1]) (by kernel_rfl) (by simp) (fun i hi => ?_)
      obtain rfl := List.mem_singleton.1 hi
      clear hi
      refine wpOp_list (o := ⟨some 39, _, _, _, _, _⟩) rfl ?_
      go_wp2_with (go_at_call 15; refine (pcopied_any z1 C g (hg.out.below ((K5.out.1.below Kz1.out).low)) nst.out.1 nst.out.2.1 nst.out.2.2).mono ?_; rintro e z2 ⟨C2, rfl, H6⟩; have Kz2 : Hid (Below y5.heap.size y5 z2) := Kz1.out.trans (H6.out.2.mono Kz1.out.size); have Jz2 : Hid (GO y5.heap.size z2 C2 g ∧ Below z1.heap.size z1 z2) := ⟨H6.out.1.weak Kz1.out.size, H6.out.2⟩; clear H6)
      refine ⟨Kz2.out, ?_⟩
      replace hH := Kz2.out
      try simp only [Act.put, List.setIfInBounds_toArray, List.set_cons_zero, List.set_cons_succ]
      obtain ⟨⟨vS, vP, vM, eC2, o1, o2, o3, o4⟩, okg⟩ := Jz2.out.1
      subst eC2
      refine wpAnyH_take (i := 5) (oi := ⟨some 43, _, _, _, _, _⟩) (v := .agg (pCs g.v g.i g.pc vS g.de g.so vP vM OD d f.pl f.fr (.slice sB f.by_.length cB'))) rfl (by kernel_rfl) (by kernel_rfl) (by kernel_rfl) (fun _ _ _ h => h) (y_bu #[(0, .tmp 39), (1, .tmp 40), (2, .tmp 41), (3, .tmp 42)] [(0, .agg (gCs g.v g.i g.pc vS g.de g.so vP vM)), (1, .agg (o6 OD)), (2, .agg (dCs d)), (3, .agg (fCs f.pl f.fr (.slice sB f.by_.length cB')))] (pCs g.v g.i g.pc vS g.de g.so vP vM OD d f.pl f.fr (.slice sB f.by_.length cB')) (by kernel_rfl) rfl (by kernel_rfl) (built_p g.v g.i g.pc vS g.de g.so vP vM OD d f.pl f.fr (.slice sB f.by_.length cB'))) hH ?_
      try simp only [Act.put, List.setIfInBounds_toArray, List.set_cons_zero, List.set_cons_succ]
      have BXX : Hid (Bx z2 b #[.int .u8 0, .int .u8 0, .int .u8 0, .int .u8 0, .int .u8 0, .int .u8 0, .int .u8 0, .int .u8 0, .int .u8 0, .int .u8 0, .int .u8 0, .int .u8 0, .int .u8 0, .int .u8 0, .int .u8 0, .int .u8 0, .int .u16 0, .int .u16 0, .slice none 0 0, .int .u8 0, .int .u8 0, .slice none 0 0, .slice none 0 0, .int .u8 0, .int .u8 0, .int .u8 0, .int .u8 0, .int .u8 0, .int .u16 0, .int .u8 0, .int .u16 0, .int .i64 0, .int .u16 0, .int .u16 0, .int .u16 0, .int .u16 0, .int .u16 0, .int .u16 0, .int .u16 0, .int .u16 0, .int .u16 0, .int .u16 0, .int .u16 0, .int .u16 0, .int .u16 0, .int .u16 0, .int .u16 0, .int .u16 0, .int .u16 0, .slice none 0 0] 54) := (by have h1 := Xz1.out.1; have h2 := (Jz2.out.2.block _ (heap_lt h1)).trans h1; rw [lb.out.2] at h2; exact h2)
      refine wpAnyH_ready (rs := [7]) (by kernel_rfl) (by simp) (fun i hi => ?_)
      obtain rfl := List.mem_singleton.1 hi
      clear hi
      refine wpOp_list (o := ⟨none, _, _, _, _, _⟩) rfl ?_
      refine at_st rtP b #[.int .u8 0, .int .u8 0, .int .u8 0, .int .u8 0, .int .u8 0, .int .u8 0, .int .u8 0, .int .u8 0, .int .u8 0, .int .u8 0, .int .u8 0, .int .u8 0, .int .u8 0, .int .u8 0, .int .u8 0, .int .u8 0, .int .u16 0, .int .u16 0, .slice none 0 0, .int .u8 0, .int .u8 0, .slice none 0 0, .slice none 0 0, .int .u8 0, .int .u8 0, .int .u8 0, .int .u8 0, .int .u8 0, .int .u16 0, .int .u8 0, .int .u16 0, .int .i64 0, .int .u16 0, .int .u16 0, .int .u16 0, .int .u16 0, .int .u16 0, .int .u16 0, .int .u16 0, .int .u16 0, .int .u16 0, .int .u16 0, .int .u16 0, .int .u16 0, .int .u16 0, .int .u16 0, .int .u16 0, .int .u16 0, .int .u16 0, .slice none 0 0] (pCs g.v g.i g.pc vS g.de g.so vP vM OD d f.pl f.fr (.slice sB f.by_.length cB')) BXX.out rfl rfl ?_ (.tmp 12) (.tmp 43) rfl rfl rfl rfl ?_
      · obtain ⟨s1, c1, e1, _⟩ := OwnL.open kWord.len o1
        obtain ⟨s2, c2, e2, _⟩ := OwnL.open kByte.len o2
        obtain ⟨s3, c3, e3, _⟩ := OwnL.open kByte.len o3
        rw [e1, e2, e3]
        exact pCs_one _ _ _ _ _ _ _ _ _ _ _ _ _ _ _ _ _ _ _ _ _
      intro zE HE
      have KzE : Hid (Below y5.heap.size y5 zE) := Kz2.out.trans (HE.out.2.1 _ lb.out.1)
      refine ⟨KzE.out, ?_⟩
      refine wpAnyH_done (by kernel_rfl) ?_ _
      try go_wp2
      go_meet
      exact ⟨b, zE, rfl, rfl, ⟨KzE.out, ⟨⟨_, vS, vP, vM, sB, cB', HE.out.1, rfl, (o1.keepB (fun q hq => HE.out.2.2 q (fun eq => by subst eq; obtain ⟨cs, k1⟩ := o1.ty q hq; exact absurd rfl (Bx.unlike k1 BXX.out (by decide))))) , (o2.keepB (fun q hq => HE.out.2.2 q (fun eq => by subst eq; obtain ⟨cs, k1⟩ := o2.ty q hq; exact absurd rfl (Bx.unlike k1 BXX.out (by decide))))), (o3.keepB (fun q hq => HE.out.2.2 q (fun eq => by subst eq; obtain ⟨cs, k1⟩ := o3.ty q hq; exact absurd rfl (Bx.unlike k1 BXX.out (by decide))))), o4, fB.out.1.below (K5.out.1.below KzE.out).low, fun a ha h0 => Nat.lt_of_lt_of_le (lb_block fB.out.1 ha h0) K5.out.1.low.size⟩, lb.out.1, okg, hm.out, hoo.out, hfoo.out, hd.out⟩⟩⟩
  case rest =>
    obtain ⟨b, y6, rfl, rfl, K6⟩ := hcut
    have c17 := K6.out.2.cpc
    rw [hpc'.out.1] at c17
    have z17 := K6.out.2.fz 17
    have S7 : Hid (Below y5.heap.size y5 (y6.setCell ⟨b, 17, none⟩ (.int .u16 (pc2 : Int))) ∧ PB y5.heap.size (y6.setCell ⟨b, 17, none⟩ (.int .u16 (pc2 : Int))) b (Gm.on g) OD f d) := by
      have h1 := K6.out.2.setPC pc2 (by have := hpc'.out.2; omega)
      have e1 : { g with pc := pc2 } = Gm.on g := by unfold Gm.on; rw [hpc'.out.1, hpc'.out.2]
      rw [e1] at h1
      exact ⟨K6.out.1.trans h1.2, h1.1⟩
    go_upto_region 11 with ((with_reducible refine gen_world (y6.setCell ⟨b, 17, none⟩ (.int .u16 (pc2 : Int))) (fun y => Below y5.heap.size y5 y ∧ PB y5.heap.size y b (Gm.on g) OD f d) ?_ ?_); exact S7.out; intro y7 K7)
    have Kt : Hid (Below y5.heap.size y5 y7.drew) := below_drew K7.out.1
    have Pt : Hid (PB y5.heap.size y7.drew b (Gm.on g) OD f d) := K7.out.2.below (below_drew (Below.refl _ _))
    refine wp_region_held_drew (S := fun y => Below y5.heap.size y5 y) (by kernel_rfl) Kt.out (fun hH => ?_)
    generalize y7.drew = t0 at hH Kt Pt ⊢
    refine wpAnyH_take (i := 1) (oi := ⟨some 51, _, _, _, _, _⟩) (v := .pointer (some ⟨bo, 0, none⟩)) rfl (by kernel_rfl) (by kernel_rfl) (by kernel_rfl) (fun _ _ _ h => h) (.inl ⟨by kernel_rfl, fun k hk => by go_simp⟩) hH ?_
    try simp only [Act.put, List.setIfInBounds_toArray, List.set_cons_zero, List.set_cons_succ]
    refine wpAnyH_take (i := 2) (oi := ⟨some 52, _, _, _, _, _⟩) (v := .int .u8 (op : Int)) rfl (by kernel_rfl) (by kernel_rfl) (by kernel_rfl) (fun _ _ _ h => h) (.inl ⟨by kernel_rfl, fun k hk => by have d1 := ((K5.out.1.below hk).bx 4 _ _ _ rfl).c 0 (.int .u8 (OD.op : Int)) rfl; rw [hop.out] at d1; go_simp⟩) hH ?_
    try simp only [Act.put, List.setIfInBounds_toArray, List.set_cons_zero, List.set_cons_succ]
    refine wpAnyH_ready (rs := [0]) (by kernel_rfl) (by simp) (fun i hi => ?_)
    obtain rfl := List.mem_singleton.1 hi
    clear hi
    refine wpOp_list (o := ⟨some 50, _, _, _, _, _⟩) rfl ?_
    go_wp2_with (go_at_call 16; refine (deeds_any t0).mono ?_; rintro e t1 ⟨rfl, H8⟩; have K8 : Hid (Below y5.heap.size y5 t1 ∧ PB y5.heap.size t1 b (Gm.on g) OD f d ∧ MapT t1 t0.heap.size 30) := ⟨Kt.out.trans (H8.out.2.mono Kt.out.size), Pt.out.below H8.out.2, H8.out.1⟩; clear H8)
    refine ⟨K8.out.1, ?_⟩
    replace hH := K8.out.1
    try simp only [Act.put, List.setIfInBounds_toArray, List.set_cons_zero, List.set_cons_succ]
    refine wpAnyH_ready (rs := [3]) (by kernel_rfl) (by simp) (fun i hi => ?_)
    obtain rfl := List.mem_singleton.1 hi
    clear hi
    refine wpOp_list (o := ⟨some 53, _, _, _, _, _⟩) rfl ?_
    refine at_op (.func (.func fn) #[] #[]) (by kernel_rfl) (by have d1 := deeds_look t1 t0.heap.size op fn K8.out.2.2 hfn.out; unfold execOp; simp only [Act.eval]; first | rfl | go_simp) ?_
    refine ⟨K8.out.1, ?_⟩
    try simp only [Act.put, List.setIfInBounds_toArray, List.set_cons_zero, List.set_cons_succ]
    refine wpAnyH_ready (rs := [4]) (by kernel_rfl) (by simp) (fun i hi => ?_)
    obtain rfl := List.mem_singleton.1 hi
    clear hi
    refine wpOp_list (o := ⟨some 54, _, _, _, _, _⟩) rfl ?_
    go_wp2_with ((with_reducible show Calls Try.prog fn _ _ _); refine (hrow.out y5.heap.size t1 b (Gm.on g) OD f d K8.out.2.1 hop.out h15.out).mono ?_; rintro e t2 ⟨rfl, H9⟩; have K9 : Hid (Below y5.heap.size y5 t2 ∧ (R.2 = 1 → PB y5.heap.size t2 b R.1 OD f d)) := (by rw [← hR.out]; exact ⟨K8.out.1.trans H9.1, H9.2⟩); rw [hR.out]; rw [hR2.out]; clear H9)
    refine ⟨K9.out.1, ?_⟩
    replace hH := K9.out.1
    try simp only [Act.put, List.setIfInBounds_toArray, List.set_cons_zero, List.set_cons_succ]
    refine wpAnyH_take (i := 5) (oi := ⟨some 11, _, _, _, _, _⟩) (v := .int .u8 (rq : Int)) rfl (by kernel_rfl) (by kernel_rfl) (by kernel_rfl) (fun _ _ _ h => h) (.inl ⟨by kernel_rfl, fun k hk => by go_simp⟩) hH ?_
    try simp only [Act.put, List.setIfInBounds_toArray, List.set_cons_zero, List.set_cons_succ]
    refine wpAnyH_done (by kernel_rfl) ?_ _
    obtain ⟨C2, hr2, hGO⟩ := (K9.out.2 (hR2.out.trans hrq.out)).go
    have K10 : Hid (Fm w [(w.heap.size, C, 29), (w.heap.size + 1, D, 42), (w.heap.size + 2, (dCs d), 44), (w.heap.size + 3, Z, 29), (bo, o6 OD, 49)] t2 ∧ t2.rangeAt b 0 C2.toList ∧ GO y5.heap.size t2 C2 R.1) := ⟨K5.out.1.below K9.out.1, hr2, hGO⟩
    have l5 : Hid (w.heap.size + 4 ≤ y5.heap.size) := by have h1 := heap_lt (K5.out.1.bx 4 _ _ _ rfl); have h2 := K5.out.2; show _ ≤ _; omega
    clear hr2 hGO
    go_wp2_with (first
    | ((with_reducible refine at_loadm rtG b 0 C2 ?_ ?_ (.tmp 60) ?_ ?_ ?_ ?_); exact K10.out.2.1; exact K10.out.2.2.lies.size.1; kernel_rfl; rfl; rfl)
    | ((with_reducible refine at_st rtG (w.heap.size + 3) Z C2 ?_ ?_ ?_ ?_ (.tmp 6) (.tmp 61) ?_ ?_ ?_ ?_ ?_); exact K10.out.1.bx 3 _ _ _ rfl; exact hZ'.out; exact K10.out.2.2.lies.size.1; exact K10.out.2.2.lies.size.2.1; rfl; rfl; rfl; rfl; intro yE HE; have KE : Hid (Bx yE (w.heap.size + 3) C2 29 ∧ GO y5.heap.size yE C2 R.1 ∧ Below w.heap.size w yE) := ⟨HE.out.1, K10.out.2.2.put (by have := l5.out; omega) HE.out.2.2, K10.out.1.low.trans (HE.out.2.1 _ (by omega))⟩))
    exact ret_three rtG rfl rfl rfl rfl KE.out.1 KE.out.2.1.lies.size.1 rfl ⟨C2, rfl, KE.out.2.1.weak K5.out.1.low.size, KE.out.2.2⟩

end Go.Proofs.Ytfkifppadngmdaa
