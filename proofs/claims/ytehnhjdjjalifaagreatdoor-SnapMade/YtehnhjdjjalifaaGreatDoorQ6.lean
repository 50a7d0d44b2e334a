/- The rows as they lie in memory; what makes one. -/
import Derived.Test.YtehnhjdjjalifaaGreatDoorQ5
namespace Go.Proofs.YtehnhjdjjalifaaGreatDoor
open Go Go.RowKit Go.Shelf
set_option linter.unusedVariables false
set_option maxHeartbeats 2000000
set_option maxRecDepth 20000

/-- A row's three functions, each with what it holds. -/
structure Rv where
  ks : Nat
  cs : Array Value
  kw : Nat
  cw : Array Value
  kr : Nat
  cr : Array Value
def c3 (x : Rv) : List Value := [.func (.func x.ks) #[] x.cs, .func (.func x.kw) #[] x.cw, .func (.func x.kr) #[] x.cr]
theorem infoRw : (Tryz.prog.info? 55).map (fun i => (i.zero, i.size, i.bytes)) = some (some (.agg #[.nilFunc, .nilFunc, .nilFunc]), 3, 24) := by kernel_rfl
theorem kRow : KdL 49 55 3 24 c3 := by
  obtain ⟨i, hi, e⟩ := Option.map_eq_some_iff.1 infoRw
  injection e with e1 e2
  injection e2 with e2 e3
  refine ⟨Tryz.underlying49, ⟨i, _, hi, e1, e2, e3, rfl⟩, fun _ => rfl, fun x v hv => ?_, by decide, by decide⟩
  simp only [c3, List.mem_cons, List.not_mem_nil, or_false] at hv
  rcases hv with rfl | rfl | rfl <;> rfl
theorem rtRw : Rt Tryz.prog 55 3 := ⟨⟨_, Tryz.underlying55, rfl⟩, by kernel_rfl⟩
theorem c3_one (x : Rv) : (c3 x).toArray.all (·.oneCell') = true := by kernel_rfl
/-- All stands but rows and machines. -/
def KpT (z z' : World) : Prop := ∀ (q : Nat) (cs : Array Value) (t : TypeId), z.heap[q]? = some (.cells cs t (0, 0)) → t ≠ 55 → t ≠ 34 → z'.heap[q]? = some (.cells cs t (0, 0))
theorem KpT.of_below {z z' : World} (h : Below z.heap.size z z') : KpT z z' := fun q cs t hq _ _ => (h.block q (heap_lt hq)).trans hq
theorem KpT.of_sto {b : Nat} {M : Array Value} {z z' : World} (h : Sto b z z') (hb : Bx z b M 34) : KpT z z' := fun q cs t hq h1 h2 => by
  refine (h.oth q (fun e => ?_) (heap_lt hq)).trans hq
  rw [e] at hq
  have := Option.some.inj (hq.symm.trans hb)
  injection this with _ e2
  exact h2 e2
theorem OwnL.typed {α : Type} {t : TypeId} {s : Nat} {c : α → List Value} {B : Nat} {w : World} {v : Value} {l : List α} (h : OwnL t s c B w v l) (g : Nat) (hg : v.ownBlock = some g) : ∃ cur, w.heap[g]? = some (.cells cur t (0, 0)) := by
  rcases h.2 with ⟨rfl, _⟩ | ⟨g', cap, cur, rfl, _, h1, _⟩
  · cases hg
  · have : g' = g := by simpa [Value.ownBlock] using hg
    subst this
    exact ⟨cur, h1⟩
theorem KpT.of_cu {B : Nat} {v : Value} {l : List Rv} {F : Nat → Nat → Prop} {z z' : World} (ho : OwnL 55 3 c3 B z v l) (h : CuL B F z z') (hF : ∀ g j, F g j → v.ownBlock = some g) : KpT z z' := fun q cs t hq h1 h2 => by
  refine (h.blk q (heap_lt hq) fun j hj => ?_).trans hq
  obtain ⟨cur, hc⟩ := ho.typed q (hF q j hj)
  have := Option.some.inj (hq.symm.trans hc)
  injection this with _ e2
  exact h1 e2
theorem Bx.kp {z z' : World} {q : Nat} {cs : Array Value} {t : TypeId} (h : Bx z q cs t) (k : KpT z z') (h1 : t ≠ 55) (h2 : t ≠ 34) : Bx z' q cs t := k q cs t h h1 h2
/-- A row made of a size that is always the same and of two closures. -/
def RwG (z : World) (x : Rv) (n fw to fo fr tl fl : Nat) (caps : Array Value) : Prop := ∃ bs bo bl, x = ⟨111, #[.pointer (some ⟨bs, 0, none⟩)], fw, #[.pointer (some ⟨bo, 0, none⟩)], fr, #[.pointer (some ⟨bl, 0, none⟩)]⟩ ∧ Bx z bs #[.int .i64 (n : Int)] 3 ∧ Bx z bo #[.func (.func fo) #[] caps] to ∧ Bx z bl #[.func (.func fl) #[] caps] tl
def RwL (z : World) (x : Rv) (ks : Nat) (cs : Array Value) (fo fl : Nat) : Prop := ∃ bo bl, x = ⟨ks, cs, 109, #[.pointer (some ⟨bo, 0, none⟩)], 110, #[.pointer (some ⟨bl, 0, none⟩)]⟩ ∧ Bx z bo #[.func (.func fo) #[] #[]] 88 ∧ Bx z bl #[.func (.func fl) #[] #[]] 89
def RwM (z : World) (x : Rv) : Prop := ∃ bs, RwL z x 111 #[.pointer (some ⟨bs, 0, none⟩)] 81 82 ∧ Bx z bs #[.int .i64 512] 3
def RwO (x : Rv) (z : World) : Prop := ∃ bs, x = ⟨111, #[.pointer (some ⟨bs, 0, none⟩)], 88, #[], 89, #[]⟩ ∧ Bx z bs #[.int .i64 4] 3
def RwReg (k : Nat) (x : Rv) (z : World) : Prop := ∃ bk, RwG z x 2 91 73 34 93 75 35 #[.pointer (some ⟨bk, 0, none⟩)] ∧ Bx z bk #[.int .i64 (k : Int)] 3
theorem RwG.keep {z z' : World} {x : Rv} {n fw to fo fr tl fl : Nat} {caps : Array Value} (h : RwG z x n fw to fo fr tl fl caps) (k : KpT z z') (h1 : to ≠ 55 ∧ to ≠ 34) (h2 : tl ≠ 55 ∧ tl ≠ 34) : RwG z' x n fw to fo fr tl fl caps := by
  obtain ⟨bs, bo, bl, e, a, b, c⟩ := h
  exact ⟨bs, bo, bl, e, a.kp k (by decide) (by decide), b.kp k h1.1 h1.2, c.kp k h2.1 h2.2⟩
theorem RwL.keep {z z' : World} {x : Rv} {ks : Nat} {cs : Array Value} {fo fl : Nat} (h : RwL z x ks cs fo fl) (k : KpT z z') : RwL z' x ks cs fo fl := by
  obtain ⟨bo, bl, e, b, c⟩ := h
  exact ⟨bo, bl, e, b.kp k (by decide) (by decide), c.kp k (by decide) (by decide)⟩
theorem RwM.keep {z z' : World} {x : Rv} (h : RwM z x) (k : KpT z z') : RwM z' x := by
  obtain ⟨bs, a, b⟩ := h
  exact ⟨bs, a.keep k, b.kp k (by decide) (by decide)⟩
theorem RwO.keep {z z' : World} {x : Rv} (h : RwO x z) (k : KpT z z') : RwO x z' := by
  obtain ⟨bs, e, b⟩ := h
  exact ⟨bs, e, b.kp k (by decide) (by decide)⟩
theorem RwReg.keep {z z' : World} {x : Rv} {r : Nat} (h : RwReg r x z) (k : KpT z z') : RwReg r x z' := by
  obtain ⟨bk, a, b⟩ := h
  exact ⟨bk, a.keep k (by decide) (by decide), b.kp k (by decide) (by decide)⟩
/-- What the i-th row is. -/
def RwK (i : Nat) (x : Rv) (z : World) : Prop := ([RwO x z, RwReg 0 x z, RwReg 1 x z, RwReg 2 x z, RwReg 3 x z, RwReg 4 x z, RwReg 5 x z, RwReg 6 x z, RwReg 7 x z, RwReg 8 x z, RwReg 9 x z, RwReg 10 x z, RwReg 11 x z, RwReg 12 x z, RwReg 13 x z, RwReg 14 x z, RwReg 15 x z, RwG z x 1 96 77 37 98 78 38 #[], RwG z x 1 100 41 40 101 80 41 #[], RwG z x 1 96 77 42 98 78 43 #[], RwG z x 1 96 77 44 98 78 45 #[], RwG z x 1 96 77 46 98 78 47 #[], RwG z x 1 100 41 48 101 80 49 #[], RwG z x 1 100 41 50 101 80 51 #[], RwG z x 1 96 77 52 98 78 53 #[], RwG z x 1 96 77 54 98 78 55 #[], RwG z x 1 103 82 57 105 83 58 #[], RwG z x 2 91 73 59 93 75 60 #[], RwG z x 1 96 77 61 98 78 62 #[], RwG z x 1 100 41 63 101 80 64 #[], RwG z x 1 96 77 65 98 78 66 #[], RwG z x 1 96 77 67 98 78 68 #[], RwG z x 1 100 41 69 101 80 70 #[], RwG z x 8 107 85 72 108 86 73 #[], RwG z x 2 91 73 74 93 75 75 #[], RwL z x 77 #[] 78 79, RwM z x] : List Prop).getD i False
theorem RwK.keep {i : Nat} {z z' : World} {x : Rv} (hi : i < 37) (h : RwK i x z) (k : KpT z z') : RwK i x z' := by
  rcases (show i = 0 ∨ i = 1 ∨ i = 2 ∨ i = 3 ∨ i = 4 ∨ i = 5 ∨ i = 6 ∨ i = 7 ∨ i = 8 ∨ i = 9 ∨ i = 10 ∨ i = 11 ∨ i = 12 ∨ i = 13 ∨ i = 14 ∨ i = 15 ∨ i = 16 ∨ i = 17 ∨ i = 18 ∨ i = 19 ∨ i = 20 ∨ i = 21 ∨ i = 22 ∨ i = 23 ∨ i = 24 ∨ i = 25 ∨ i = 26 ∨ i = 27 ∨ i = 28 ∨ i = 29 ∨ i = 30 ∨ i = 31 ∨ i = 32 ∨ i = 33 ∨ i = 34 ∨ i = 35 ∨ i = 36 by omega) with rfl | rfl | rfl | rfl | rfl | rfl | rfl | rfl | rfl | rfl | rfl | rfl | rfl | rfl | rfl | rfl | rfl | rfl | rfl | rfl | rfl | rfl | rfl | rfl | rfl | rfl | rfl | rfl | rfl | rfl | rfl | rfl | rfl | rfl | rfl | rfl | rfl
  · exact RwO.keep h k
  · exact RwReg.keep (r := 0) h k
  · exact RwReg.keep (r := 1) h k
  · exact RwReg.keep (r := 2) h k
  · exact RwReg.keep (r := 3) h k
  · exact RwReg.keep (r := 4) h k
  · exact RwReg.keep (r := 5) h k
  · exact RwReg.keep (r := 6) h k
  · exact RwReg.keep (r := 7) h k
  · exact RwReg.keep (r := 8) h k
  · exact RwReg.keep (r := 9) h k
  · exact RwReg.keep (r := 10) h k
  · exact RwReg.keep (r := 11) h k
  · exact RwReg.keep (r := 12) h k
  · exact RwReg.keep (r := 13) h k
  · exact RwReg.keep (r := 14) h k
  · exact RwReg.keep (r := 15) h k
  · exact RwG.keep h k (by decide) (by decide)
  · exact RwG.keep h k (by decide) (by decide)
  · exact RwG.keep h k (by decide) (by decide)
  · exact RwG.keep h k (by decide) (by decide)
  · exact RwG.keep h k (by decide) (by decide)
  · exact RwG.keep h k (by decide) (by decide)
  · exact RwG.keep h k (by decide) (by decide)
  · exact RwG.keep h k (by decide) (by decide)
  · exact RwG.keep h k (by decide) (by decide)
  · exact RwG.keep h k (by decide) (by decide)
  · exact RwG.keep h k (by decide) (by decide)
  · exact RwG.keep h k (by decide) (by decide)
  · exact RwG.keep h k (by decide) (by decide)
  · exact RwG.keep h k (by decide) (by decide)
  · exact RwG.keep h k (by decide) (by decide)
  · exact RwG.keep h k (by decide) (by decide)
  · exact RwG.keep h k (by decide) (by decide)
  · exact RwG.keep h k (by decide) (by decide)
  · exact RwL.keep h k
  · exact RwM.keep h k
theorem RwK.reg (k : Nat) (hk : k < 16) (x : Rv) (z : World) (h : RwReg k x z) : RwK (k + 1) x z := by
  rcases (show k = 0 ∨ k = 1 ∨ k = 2 ∨ k = 3 ∨ k = 4 ∨ k = 5 ∨ k = 6 ∨ k = 7 ∨ k = 8 ∨ k = 9 ∨ k = 10 ∨ k = 11 ∨ k = 12 ∨ k = 13 ∨ k = 14 ∨ k = 15 by omega) with rfl | rfl | rfl | rfl | rfl | rfl | rfl | rfl | rfl | rfl | rfl | rfl | rfl | rfl | rfl | rfl <;> exact h
theorem three_new (w : World) (A B C : Array Value) (a b c : TypeId) : Fm w [(w.heap.size, A, a), (w.heap.size + 1, B, b), (w.heap.size + 2, C, c)] (((w.alloc (.cells A a)).alloc (.cells B b)).alloc (.cells C c)) := by
  have := ((Fm.one w A a).new B b).new C c
  simpa [World.size_alloc] using this
theorem alw_mk (w : World) (n : Nat) : Calls Tryz.prog 80 #[.int .i64 (n : Int)] w fun e w' => e = .returned (.func (.func 111) #[] #[.pointer (some ⟨w.heap.size, 0, none⟩)]) ∧ Hid (Bx w' w.heap.size #[.int .i64 (n : Int)] 3 ∧ Below w.heap.size w w') := by
  have H : Hid (Bx (w.alloc (.cells #[.int .i64 (n : Int)] 3)) w.heap.size #[.int .i64 (n : Int)] 3 ∧ Below w.heap.size w (w.alloc (.cells #[.int .i64 (n : Int)] 3))) := ⟨one_bxL _ _ _, below1 w _⟩
  go_enter Tryz.func80, Tryz.ntmps80
  go_wp2
  go_ret
  exact ⟨rfl, H⟩
theorem mk_q (w : World) (fo fl : Nat) (caps : Array Value) : Calls Tryz.prog 71 #[.func (.func fo) #[] caps, .func (.func fl) #[] caps] w fun e w' => ∃ x, e = .returned (.agg (c3 x).toArray) ∧ Hid (RwG w' x 8 107 85 fo 108 86 fl caps ∧ Below w.heap.size w w') := by
  go_enter Tryz.func71, Tryz.ntmps71
  go_wp2_with (first
    | ((with_reducible refine gen_world (((w.alloc (.cells #[.func (.func fo) #[] caps] 85)).alloc (.cells #[.func (.func fl) #[] caps] 86)).alloc (.cells #[.nilFunc, .nilFunc, .nilFunc] 55)) (Fm w [(w.heap.size, #[.func (.func fo) #[] caps], 85), (w.heap.size + 1, #[.func (.func fl) #[] caps], 86), (w.heap.size + 2, #[.nilFunc, .nilFunc, .nilFunc], 55)]) ?_ ?_); exact three_new w _ _ _ _ _ _; intro y0 K0)
    | (go_at_call 24; refine (wid_q y0).mono ?_; rintro e y0 ⟨rfl, rfl⟩)
    | (go_at_call 80; refine (alw_mk y0 8).mono ?_; rintro e y1 ⟨rfl, H1⟩; obtain ⟨bs, hbs⟩ : ∃ z, y0.heap.size = z := ⟨_, rfl⟩; rw [hbs] at H1 ⊢; have K1 : Hid (Fm w [(w.heap.size, #[.func (.func fo) #[] caps], 85), (w.heap.size + 1, #[.func (.func fl) #[] caps], 86), (w.heap.size + 2, #[.nilFunc, .nilFunc, .nilFunc], 55)] y1 ∧ Bx y1 bs #[.int .i64 (8 : Nat)] 3 ∧ w.heap.size + 3 ≤ bs) := ⟨K0.out.below (by rw [hbs]; exact H1.out.2), H1.out.1, by rw [← hbs]; exact heap_lt (K0.out.bx 2 _ _ _ rfl)⟩; clear H1 hbs)
    | ((with_reducible refine at_st rtRw (w.heap.size + 2) #[.nilFunc, .nilFunc, .nilFunc] (c3 ⟨111, #[.pointer (some ⟨bs, 0, none⟩)], 107, #[.pointer (some ⟨w.heap.size, 0, none⟩)], 108, #[.pointer (some ⟨w.heap.size + 1, 0, none⟩)]⟩).toArray ?_ ?_ ?_ ?_ (.tmp 4) (.tmp 9) ?_ ?_ ?_ ?_ ?_); exact K1.out.1.bx 2 _ _ _ rfl; rfl; rfl; exact c3_one _; rfl; rfl; rfl; rfl; intro y2 h2; have K2 : Hid (Fm w [(w.heap.size, #[.func (.func fo) #[] caps], 85), (w.heap.size + 1, #[.func (.func fl) #[] caps], 86), (w.heap.size + 2, (c3 ⟨111, #[.pointer (some ⟨bs, 0, none⟩)], 107, #[.pointer (some ⟨w.heap.size, 0, none⟩)], 108, #[.pointer (some ⟨w.heap.size + 1, 0, none⟩)]⟩).toArray, 55)] y2 ∧ Bx y2 bs #[.int .i64 (8 : Nat)] 3) := ⟨K1.out.1.put 2 _ _ _ _ rfl h2.out, (h2.out.2.2 bs (by have := K1.out.2.2; omega)).trans K1.out.2.1⟩; clear h2))
  exact ret_row rtRw rfl rfl (K2.out.1.bx 2 _ _ _ rfl) rfl rfl ⟨⟨111, #[.pointer (some ⟨bs, 0, none⟩)], 107, #[.pointer (some ⟨w.heap.size, 0, none⟩)], 108, #[.pointer (some ⟨w.heap.size + 1, 0, none⟩)]⟩, rfl, ⟨bs, w.heap.size, w.heap.size + 1, rfl, K2.out.2, K2.out.1.bx 0 _ _ _ rfl, K2.out.1.bx 1 _ _ _ rfl⟩, K2.out.1.low⟩
theorem mk_h (w : World) (fo fl : Nat) (caps : Array Value) : Calls Tryz.prog 33 #[.func (.func fo) #[] caps, .func (.func fl) #[] caps] w fun e w' => ∃ x, e = .returned (.agg (c3 x).toArray) ∧ Hid (RwG w' x 2 91 73 fo 93 75 fl caps ∧ Below w.heap.size w w') := by
  go_enter Tryz.func33, Tryz.ntmps33
  go_wp2_with (first
    | ((with_reducible refine gen_world (((w.alloc (.cells #[.func (.func fo) #[] caps] 73)).alloc (.cells #[.func (.func fl) #[] caps] 75)).alloc (.cells #[.nilFunc, .nilFunc, .nilFunc] 55)) (Fm w [(w.heap.size, #[.func (.func fo) #[] caps], 73), (w.heap.size + 1, #[.func (.func fl) #[] caps], 75), (w.heap.size + 2, #[.nilFunc, .nilFunc, .nilFunc], 55)]) ?_ ?_); exact three_new w _ _ _ _ _ _; intro y0 K0)
    | (go_at_call 90; refine (wid_h y0).mono ?_; rintro e y0 ⟨rfl, rfl⟩)
    | (go_at_call 80; refine (alw_mk y0 2).mono ?_; rintro e y1 ⟨rfl, H1⟩; obtain ⟨bs, hbs⟩ : ∃ z, y0.heap.size = z := ⟨_, rfl⟩; rw [hbs] at H1 ⊢; have K1 : Hid (Fm w [(w.heap.size, #[.func (.func fo) #[] caps], 73), (w.heap.size + 1, #[.func (.func fl) #[] caps], 75), (w.heap.size + 2, #[.nilFunc, .nilFunc, .nilFunc], 55)] y1 ∧ Bx y1 bs #[.int .i64 (2 : Nat)] 3 ∧ w.heap.size + 3 ≤ bs) := ⟨K0.out.below (by rw [hbs]; exact H1.out.2), H1.out.1, by rw [← hbs]; exact heap_lt (K0.out.bx 2 _ _ _ rfl)⟩; clear H1 hbs)
    | ((with_reducible refine at_st rtRw (w.heap.size + 2) #[.nilFunc, .nilFunc, .nilFunc] (c3 ⟨111, #[.pointer (some ⟨bs, 0, none⟩)], 91, #[.pointer (some ⟨w.heap.size, 0, none⟩)], 93, #[.pointer (some ⟨w.heap.size + 1, 0, none⟩)]⟩).toArray ?_ ?_ ?_ ?_ (.tmp 4) (.tmp 9) ?_ ?_ ?_ ?_ ?_); exact K1.out.1.bx 2 _ _ _ rfl; rfl; rfl; exact c3_one _; rfl; rfl; rfl; rfl; intro y2 h2; have K2 : Hid (Fm w [(w.heap.size, #[.func (.func fo) #[] caps], 73), (w.heap.size + 1, #[.func (.func fl) #[] caps], 75), (w.heap.size + 2, (c3 ⟨111, #[.pointer (some ⟨bs, 0, none⟩)], 91, #[.pointer (some ⟨w.heap.size, 0, none⟩)], 93, #[.pointer (some ⟨w.heap.size + 1, 0, none⟩)]⟩).toArray, 55)] y2 ∧ Bx y2 bs #[.int .i64 (2 : Nat)] 3) := ⟨K1.out.1.put 2 _ _ _ _ rfl h2.out, (h2.out.2.2 bs (by have := K1.out.2.2; omega)).trans K1.out.2.1⟩; clear h2))
  exact ret_row rtRw rfl rfl (K2.out.1.bx 2 _ _ _ rfl) rfl rfl ⟨⟨111, #[.pointer (some ⟨bs, 0, none⟩)], 91, #[.pointer (some ⟨w.heap.size, 0, none⟩)], 93, #[.pointer (some ⟨w.heap.size + 1, 0, none⟩)]⟩, rfl, ⟨bs, w.heap.size, w.heap.size + 1, rfl, K2.out.2, K2.out.1.bx 0 _ _ _ rfl, K2.out.1.bx 1 _ _ _ rfl⟩, K2.out.1.low⟩
theorem mk_y (w : World) (fo fl : Nat) (caps : Array Value) : Calls Tryz.prog 36 #[.func (.func fo) #[] caps, .func (.func fl) #[] caps] w fun e w' => ∃ x, e = .returned (.agg (c3 x).toArray) ∧ Hid (RwG w' x 1 96 77 fo 98 78 fl caps ∧ Below w.heap.size w w') := by
  go_enter Tryz.func36, Tryz.ntmps36
  go_wp2_with (first
    | ((with_reducible refine gen_world (((w.alloc (.cells #[.func (.func fo) #[] caps] 77)).alloc (.cells #[.func (.func fl) #[] caps] 78)).alloc (.cells #[.nilFunc, .nilFunc, .nilFunc] 55)) (Fm w [(w.heap.size, #[.func (.func fo) #[] caps], 77), (w.heap.size + 1, #[.func (.func fl) #[] caps], 78), (w.heap.size + 2, #[.nilFunc, .nilFunc, .nilFunc], 55)]) ?_ ?_); exact three_new w _ _ _ _ _ _; intro y0 K0)
    | (go_at_call 95; refine (wid_y y0).mono ?_; rintro e y0 ⟨rfl, rfl⟩)
    | (go_at_call 80; refine (alw_mk y0 1).mono ?_; rintro e y1 ⟨rfl, H1⟩; obtain ⟨bs, hbs⟩ : ∃ z, y0.heap.size = z := ⟨_, rfl⟩; rw [hbs] at H1 ⊢; have K1 : Hid (Fm w [(w.heap.size, #[.func (.func fo) #[] caps], 77), (w.heap.size + 1, #[.func (.func fl) #[] caps], 78), (w.heap.size + 2, #[.nilFunc, .nilFunc, .nilFunc], 55)] y1 ∧ Bx y1 bs #[.int .i64 (1 : Nat)] 3 ∧ w.heap.size + 3 ≤ bs) := ⟨K0.out.below (by rw [hbs]; exact H1.out.2), H1.out.1, by rw [← hbs]; exact heap_lt (K0.out.bx 2 _ _ _ rfl)⟩; clear H1 hbs)
    | ((with_reducible refine at_st rtRw (w.heap.size + 2) #[.nilFunc, .nilFunc, .nilFunc] (c3 ⟨111, #[.pointer (some ⟨bs, 0, none⟩)], 96, #[.pointer (some ⟨w.heap.size, 0, none⟩)], 98, #[.pointer (some ⟨w.heap.size + 1, 0, none⟩)]⟩).toArray ?_ ?_ ?_ ?_ (.tmp 4) (.tmp 9) ?_ ?_ ?_ ?_ ?_); exact K1.out.1.bx 2 _ _ _ rfl; rfl; rfl; exact c3_one _; rfl; rfl; rfl; rfl; intro y2 h2; have K2 : Hid (Fm w [(w.heap.size, #[.func (.func fo) #[] caps], 77), (w.heap.size + 1, #[.func (.func fl) #[] caps], 78), (w.heap.size + 2, (c3 ⟨111, #[.pointer (some ⟨bs, 0, none⟩)], 96, #[.pointer (some ⟨w.heap.size, 0, none⟩)], 98, #[.pointer (some ⟨w.heap.size + 1, 0, none⟩)]⟩).toArray, 55)] y2 ∧ Bx y2 bs #[.int .i64 (1 : Nat)] 3) := ⟨K1.out.1.put 2 _ _ _ _ rfl h2.out, (h2.out.2.2 bs (by have := K1.out.2.2; omega)).trans K1.out.2.1⟩; clear h2))
  exact ret_row rtRw rfl rfl (K2.out.1.bx 2 _ _ _ rfl) rfl rfl ⟨⟨111, #[.pointer (some ⟨bs, 0, none⟩)], 96, #[.pointer (some ⟨w.heap.size, 0, none⟩)], 98, #[.pointer (some ⟨w.heap.size + 1, 0, none⟩)]⟩, rfl, ⟨bs, w.heap.size, w.heap.size + 1, rfl, K2.out.2, K2.out.1.bx 0 _ _ _ rfl, K2.out.1.bx 1 _ _ _ rfl⟩, K2.out.1.low⟩
theorem mk_p (w : World) (fo fl : Nat) (caps : Array Value) : Calls Tryz.prog 56 #[.func (.func fo) #[] caps, .func (.func fl) #[] caps] w fun e w' => ∃ x, e = .returned (.agg (c3 x).toArray) ∧ Hid (RwG w' x 1 103 82 fo 105 83 fl caps ∧ Below w.heap.size w w') := by
  go_enter Tryz.func56, Tryz.ntmps56
  go_wp2_with (first
    | ((with_reducible refine gen_world (((w.alloc (.cells #[.func (.func fo) #[] caps] 82)).alloc (.cells #[.func (.func fl) #[] caps] 83)).alloc (.cells #[.nilFunc, .nilFunc, .nilFunc] 55)) (Fm w [(w.heap.size, #[.func (.func fo) #[] caps], 82), (w.heap.size + 1, #[.func (.func fl) #[] caps], 83), (w.heap.size + 2, #[.nilFunc, .nilFunc, .nilFunc], 55)]) ?_ ?_); exact three_new w _ _ _ _ _ _; intro y0 K0)
    | (go_at_call 102; refine (wid_p y0).mono ?_; rintro e y0 ⟨rfl, rfl⟩)
    | (go_at_call 80; refine (alw_mk y0 1).mono ?_; rintro e y1 ⟨rfl, H1⟩; obtain ⟨bs, hbs⟩ : ∃ z, y0.heap.size = z := ⟨_, rfl⟩; rw [hbs] at H1 ⊢; have K1 : Hid (Fm w [(w.heap.size, #[.func (.func fo) #[] caps], 82), (w.heap.size + 1, #[.func (.func fl) #[] caps], 83), (w.heap.size + 2, #[.nilFunc, .nilFunc, .nilFunc], 55)] y1 ∧ Bx y1 bs #[.int .i64 (1 : Nat)] 3 ∧ w.heap.size + 3 ≤ bs) := ⟨K0.out.below (by rw [hbs]; exact H1.out.2), H1.out.1, by rw [← hbs]; exact heap_lt (K0.out.bx 2 _ _ _ rfl)⟩; clear H1 hbs)
    | ((with_reducible refine at_st rtRw (w.heap.size + 2) #[.nilFunc, .nilFunc, .nilFunc] (c3 ⟨111, #[.pointer (some ⟨bs, 0, none⟩)], 103, #[.pointer (some ⟨w.heap.size, 0, none⟩)], 105, #[.pointer (some ⟨w.heap.size + 1, 0, none⟩)]⟩).toArray ?_ ?_ ?_ ?_ (.tmp 4) (.tmp 9) ?_ ?_ ?_ ?_ ?_); exact K1.out.1.bx 2 _ _ _ rfl; rfl; rfl; exact c3_one _; rfl; rfl; rfl; rfl; intro y2 h2; have K2 : Hid (Fm w [(w.heap.size, #[.func (.func fo) #[] caps], 82), (w.heap.size + 1, #[.func (.func fl) #[] caps], 83), (w.heap.size + 2, (c3 ⟨111, #[.pointer (some ⟨bs, 0, none⟩)], 103, #[.pointer (some ⟨w.heap.size, 0, none⟩)], 105, #[.pointer (some ⟨w.heap.size + 1, 0, none⟩)]⟩).toArray, 55)] y2 ∧ Bx y2 bs #[.int .i64 (1 : Nat)] 3) := ⟨K1.out.1.put 2 _ _ _ _ rfl h2.out, (h2.out.2.2 bs (by have := K1.out.2.2; omega)).trans K1.out.2.1⟩; clear h2))
  exact ret_row rtRw rfl rfl (K2.out.1.bx 2 _ _ _ rfl) rfl rfl ⟨⟨111, #[.pointer (some ⟨bs, 0, none⟩)], 103, #[.pointer (some ⟨w.heap.size, 0, none⟩)], 105, #[.pointer (some ⟨w.heap.size + 1, 0, none⟩)]⟩, rfl, ⟨bs, w.heap.size, w.heap.size + 1, rfl, K2.out.2, K2.out.1.bx 0 _ _ _ rfl, K2.out.1.bx 1 _ _ _ rfl⟩, K2.out.1.low⟩
theorem mk_b (w : World) (fo fl : Nat) (caps : Array Value) : Calls Tryz.prog 39 #[.func (.func fo) #[] caps, .func (.func fl) #[] caps] w fun e w' => ∃ x, e = .returned (.agg (c3 x).toArray) ∧ Hid (RwG w' x 1 100 41 fo 101 80 fl caps ∧ Below w.heap.size w w') := by
  go_enter Tryz.func39, Tryz.ntmps39
  go_wp2_with (first
    | ((with_reducible refine gen_world (((w.alloc (.cells #[.func (.func fo) #[] caps] 41)).alloc (.cells #[.func (.func fl) #[] caps] 80)).alloc (.cells #[.nilFunc, .nilFunc, .nilFunc] 55)) (Fm w [(w.heap.size, #[.func (.func fo) #[] caps], 41), (w.heap.size + 1, #[.func (.func fl) #[] caps], 80), (w.heap.size + 2, #[.nilFunc, .nilFunc, .nilFunc], 55)]) ?_ ?_); exact three_new w _ _ _ _ _ _; intro y0 K0)
    | (go_at_call 80; refine (alw_mk y0 1).mono ?_; rintro e y1 ⟨rfl, H1⟩; obtain ⟨bs, hbs⟩ : ∃ z, y0.heap.size = z := ⟨_, rfl⟩; rw [hbs] at H1 ⊢; have K1 : Hid (Fm w [(w.heap.size, #[.func (.func fo) #[] caps], 41), (w.heap.size + 1, #[.func (.func fl) #[] caps], 80), (w.heap.size + 2, #[.nilFunc, .nilFunc, .nilFunc], 55)] y1 ∧ Bx y1 bs #[.int .i64 (1 : Nat)] 3 ∧ w.heap.size + 3 ≤ bs) := ⟨K0.out.below (by rw [hbs]; exact H1.out.2), H1.out.1, by rw [← hbs]; exact heap_lt (K0.out.bx 2 _ _ _ rfl)⟩; clear H1 hbs)
    | ((with_reducible refine at_st rtRw (w.heap.size + 2) #[.nilFunc, .nilFunc, .nilFunc] (c3 ⟨111, #[.pointer (some ⟨bs, 0, none⟩)], 100, #[.pointer (some ⟨w.heap.size, 0, none⟩)], 101, #[.pointer (some ⟨w.heap.size + 1, 0, none⟩)]⟩).toArray ?_ ?_ ?_ ?_ (.tmp 4) (.tmp 8) ?_ ?_ ?_ ?_ ?_); exact K1.out.1.bx 2 _ _ _ rfl; rfl; rfl; exact c3_one _; rfl; rfl; rfl; rfl; intro y2 h2; have K2 : Hid (Fm w [(w.heap.size, #[.func (.func fo) #[] caps], 41), (w.heap.size + 1, #[.func (.func fl) #[] caps], 80), (w.heap.size + 2, (c3 ⟨111, #[.pointer (some ⟨bs, 0, none⟩)], 100, #[.pointer (some ⟨w.heap.size, 0, none⟩)], 101, #[.pointer (some ⟨w.heap.size + 1, 0, none⟩)]⟩).toArray, 55)] y2 ∧ Bx y2 bs #[.int .i64 (1 : Nat)] 3) := ⟨K1.out.1.put 2 _ _ _ _ rfl h2.out, (h2.out.2.2 bs (by have := K1.out.2.2; omega)).trans K1.out.2.1⟩; clear h2))
  exact ret_row rtRw rfl rfl (K2.out.1.bx 2 _ _ _ rfl) rfl rfl ⟨⟨111, #[.pointer (some ⟨bs, 0, none⟩)], 100, #[.pointer (some ⟨w.heap.size, 0, none⟩)], 101, #[.pointer (some ⟨w.heap.size + 1, 0, none⟩)]⟩, rfl, ⟨bs, w.heap.size, w.heap.size + 1, rfl, K2.out.2, K2.out.1.bx 0 _ _ _ rfl, K2.out.1.bx 1 _ _ _ rfl⟩, K2.out.1.low⟩
end Go.Proofs.YtehnhjdjjalifaaGreatDoor
