/- What makes the rows of bytes, of the beginning; all rows. -/
import Derived.Test.YtehnhjdjjalifaaGreatDoorQ6
namespace Go.Proofs.YtehnhjdjjalifaaGreatDoor
open Go Go.RowKit Go.Shelf
set_option linter.unusedVariables false
set_option maxHeartbeats 4000000
set_option maxRecDepth 20000

theorem mk_l (w : World) (ks : Nat) (cs : Array Value) (fo fl : Nat) : Calls Tryz.prog 76 #[.func (.func ks) #[] cs, .func (.func fo) #[] #[], .func (.func fl) #[] #[]] w fun e w' => ∃ x, e = .returned (.agg (c3 x).toArray) ∧ Hid (RwL w' x ks cs fo fl ∧ Below w.heap.size w w') := by
  go_enter Tryz.func76, Tryz.ntmps76
  go_wp2_with (first
    | ((with_reducible refine gen_world (((w.alloc (.cells #[.func (.func fo) #[] #[]] 88)).alloc (.cells #[.func (.func fl) #[] #[]] 89)).alloc (.cells #[.nilFunc, .nilFunc, .nilFunc] 55)) (Fm w [(w.heap.size, #[.func (.func fo) #[] #[]], 88), (w.heap.size + 1, #[.func (.func fl) #[] #[]], 89), (w.heap.size + 2, #[.nilFunc, .nilFunc, .nilFunc], 55)]) ?_ ?_); exact three_new w _ _ _ _ _ _; intro y0 K0)
    | ((with_reducible refine at_st rtRw (w.heap.size + 2) #[.nilFunc, .nilFunc, .nilFunc] (c3 ⟨ks, cs, 109, #[.pointer (some ⟨w.heap.size, 0, none⟩)], 110, #[.pointer (some ⟨w.heap.size + 1, 0, none⟩)]⟩).toArray ?_ ?_ ?_ ?_ (.tmp 6) (.tmp 10) ?_ ?_ ?_ ?_ ?_); exact K0.out.bx 2 _ _ _ rfl; rfl; rfl; exact c3_one _; rfl; rfl; rfl; rfl; intro y2 h2; have K2 : Hid (Fm w [(w.heap.size, #[.func (.func fo) #[] #[]], 88), (w.heap.size + 1, #[.func (.func fl) #[] #[]], 89), (w.heap.size + 2, (c3 ⟨ks, cs, 109, #[.pointer (some ⟨w.heap.size, 0, none⟩)], 110, #[.pointer (some ⟨w.heap.size + 1, 0, none⟩)]⟩).toArray, 55)] y2) := K0.out.put 2 _ _ _ _ rfl h2.out; clear h2))
  exact ret_row rtRw rfl rfl (K2.out.bx 2 _ _ _ rfl) rfl rfl ⟨⟨ks, cs, 109, #[.pointer (some ⟨w.heap.size, 0, none⟩)], 110, #[.pointer (some ⟨w.heap.size + 1, 0, none⟩)]⟩, rfl, ⟨w.heap.size, w.heap.size + 1, rfl, K2.out.bx 0 _ _ _ rfl, K2.out.bx 1 _ _ _ rfl⟩, K2.out.low⟩
theorem mk_o (w : World) : Calls Tryz.prog 32 #[] w fun e w' => ∃ x, e = .returned (.agg (c3 x).toArray) ∧ Hid (RwO x w' ∧ Below w.heap.size w w') := by
  go_enter Tryz.func32, Tryz.ntmps32
  go_wp2_with (first
    | ((with_reducible refine gen_world (w.alloc (.cells #[.nilFunc, .nilFunc, .nilFunc] 55)) (Fm w [(w.heap.size, #[.nilFunc, .nilFunc, .nilFunc], 55)]) ?_ ?_); exact Fm.one w _ _; intro y0 K0)
    | (go_at_call 80; refine (alw_mk y0 4).mono ?_; rintro e y1 ⟨rfl, H1⟩; obtain ⟨bs, hbs⟩ : ∃ z, y0.heap.size = z := ⟨_, rfl⟩; rw [hbs] at H1 ⊢; have K1 : Hid (Fm w [(w.heap.size, #[.nilFunc, .nilFunc, .nilFunc], 55)] y1 ∧ Bx y1 bs #[.int .i64 (4 : Nat)] 3 ∧ w.heap.size + 1 ≤ bs) := ⟨K0.out.below (by rw [hbs]; exact H1.out.2), H1.out.1, by rw [← hbs]; exact heap_lt (K0.out.bx 0 _ _ _ rfl)⟩; clear H1 hbs)
    | ((with_reducible refine at_st rtRw w.heap.size #[.nilFunc, .nilFunc, .nilFunc] (c3 ⟨111, #[.pointer (some ⟨bs, 0, none⟩)], 88, #[], 89, #[]⟩).toArray ?_ ?_ ?_ ?_ (.tmp 0) (.tmp 2) ?_ ?_ ?_ ?_ ?_); exact K1.out.1.bx 0 _ _ _ rfl; rfl; rfl; exact c3_one _; rfl; rfl; rfl; rfl; intro y2 h2; have K2 : Hid (Fm w [(w.heap.size, (c3 ⟨111, #[.pointer (some ⟨bs, 0, none⟩)], 88, #[], 89, #[]⟩).toArray, 55)] y2 ∧ Bx y2 bs #[.int .i64 (4 : Nat)] 3) := ⟨K1.out.1.put 0 _ _ _ _ rfl h2.out, (h2.out.2.2 bs (by have := K1.out.2.2; omega)).trans K1.out.2.1⟩; clear h2))
  exact ret_row rtRw rfl rfl (K2.out.1.bx 0 _ _ _ rfl) rfl rfl ⟨⟨111, #[.pointer (some ⟨bs, 0, none⟩)], 88, #[], 89, #[]⟩, rfl, ⟨bs, rfl, K2.out.2⟩, K2.out.1.low⟩
theorem info_row21 : ∃ i, Tryz.prog.info? 55 = some i ∧ i.zero = some (Value.agg #[.nilFunc, .nilFunc, .nilFunc]) ∧ i.size = 3 ∧ i.bytes = 24 := by
  obtain ⟨i, hi, e⟩ := Option.map_eq_some_iff.1 infoRw
  injection e with e1 e2
  injection e2 with e2 e3
  exact ⟨i, hi, e1, e2, e3⟩
theorem fillR1 (x : Rv) : Instr.fill (fun i => some (i * 3, 3)) ((Array.range (1 * 3)).map ((Value.agg #[.nilFunc, .nilFunc, .nilFunc]).cells[· % (Value.agg #[.nilFunc, .nilFunc, .nilFunc]).cells.size]!)) [(0, .agg (c3 x).toArray)] = some (c3 x).toArray := by kernel_rfl
theorem at_bsR1 {ops : Array Oper} {rest : List Oper} {o : Oper} {a : Act} {w : World} {Q : Exit → Act → World → Prop} (x : Rv) (o0 : Operand) (hgd : o.guard = none) (ho : o.op = .buildSlice 49 1 #[(0, o0)]) (hx : a.eval o0 = .agg (c3 x).toArray)
    (h : wpList Tryz.prog ops Q rest (a.put o.dst (.slice (some ⟨w.heap.size, 0, none⟩) 1 1)) (w.alloc (.cells (c3 x).toArray 55))) : wpList Tryz.prog ops Q (o :: rest) a w := by
  obtain ⟨i, hi, hz0, hz1, hz2⟩ := info_row21
  refine wpList_buildSlice hgd 49 55 1 #[(0, o0)] ho (c3 x).toArray i _ Tryz.underlying49 hi hz0 (by rw [hz1]; decide) (by rw [hz1]; decide) ?_ h
  rw [hz1]
  have e : (#[(0, o0)].map fun (i, x) => (i, a.eval x)).toList = [(0, .agg (c3 x).toArray)] := by simp [hx]
  rw [e]
  exact fillR1 x
theorem fillR20 (x0 x1 x2 x3 x4 x5 x6 x7 x8 x9 x10 x11 x12 x13 x14 x15 x16 x17 x18 x19 : Rv) : Instr.fill (fun i => some (i * 3, 3)) ((Array.range (20 * 3)).map ((Value.agg #[.nilFunc, .nilFunc, .nilFunc]).cells[· % (Value.agg #[.nilFunc, .nilFunc, .nilFunc]).cells.size]!)) [(0, .agg (c3 x0).toArray), (1, .agg (c3 x1).toArray), (2, .agg (c3 x2).toArray), (3, .agg (c3 x3).toArray), (4, .agg (c3 x4).toArray), (5, .agg (c3 x5).toArray), (6, .agg (c3 x6).toArray), (7, .agg (c3 x7).toArray), (8, .agg (c3 x8).toArray), (9, .agg (c3 x9).toArray), (10, .agg (c3 x10).toArray), (11, .agg (c3 x11).toArray), (12, .agg (c3 x12).toArray), (13, .agg (c3 x13).toArray), (14, .agg (c3 x14).toArray), (15, .agg (c3 x15).toArray), (16, .agg (c3 x16).toArray), (17, .agg (c3 x17).toArray), (18, .agg (c3 x18).toArray), (19, .agg (c3 x19).toArray)] = some (rowL c3 [x0, x1, x2, x3, x4, x5, x6, x7, x8, x9, x10, x11, x12, x13, x14, x15, x16, x17, x18, x19]).toArray := by kernel_rfl
theorem at_bsR20 {ops : Array Oper} {rest : List Oper} {o : Oper} {a : Act} {w : World} {Q : Exit → Act → World → Prop} (x0 x1 x2 x3 x4 x5 x6 x7 x8 x9 x10 x11 x12 x13 x14 x15 x16 x17 x18 x19 : Rv) (o0 o1 o2 o3 o4 o5 o6 o7 o8 o9 o10 o11 o12 o13 o14 o15 o16 o17 o18 o19 : Operand) (hgd : o.guard = none) (ho : o.op = .buildSlice 49 20 #[(0, o0), (1, o1), (2, o2), (3, o3), (4, o4), (5, o5), (6, o6), (7, o7), (8, o8), (9, o9), (10, o10), (11, o11), (12, o12), (13, o13), (14, o14), (15, o15), (16, o16), (17, o17), (18, o18), (19, o19)]) (h0 : a.eval o0 = .agg (c3 x0).toArray) (h1 : a.eval o1 = .agg (c3 x1).toArray) (h2 : a.eval o2 = .agg (c3 x2).toArray) (h3 : a.eval o3 = .agg (c3 x3).toArray) (h4 : a.eval o4 = .agg (c3 x4).toArray) (h5 : a.eval o5 = .agg (c3 x5).toArray) (h6 : a.eval o6 = .agg (c3 x6).toArray) (h7 : a.eval o7 = .agg (c3 x7).toArray) (h8 : a.eval o8 = .agg (c3 x8).toArray) (h9 : a.eval o9 = .agg (c3 x9).toArray) (h10 : a.eval o10 = .agg (c3 x10).toArray) (h11 : a.eval o11 = .agg (c3 x11).toArray) (h12 : a.eval o12 = .agg (c3 x12).toArray) (h13 : a.eval o13 = .agg (c3 x13).toArray) (h14 : a.eval o14 = .agg (c3 x14).toArray) (h15 : a.eval o15 = .agg (c3 x15).toArray) (h16 : a.eval o16 = .agg (c3 x16).toArray) (h17 : a.eval o17 = .agg (c3 x17).toArray) (h18 : a.eval o18 = .agg (c3 x18).toArray) (h19 : a.eval o19 = .agg (c3 x19).toArray)
    (h : wpList Tryz.prog ops Q rest (a.put o.dst (.slice (some ⟨w.heap.size, 0, none⟩) 20 20)) (w.alloc (.cells (rowL c3 [x0, x1, x2, x3, x4, x5, x6, x7, x8, x9, x10, x11, x12, x13, x14, x15, x16, x17, x18, x19]).toArray 55))) : wpList Tryz.prog ops Q (o :: rest) a w := by
  obtain ⟨i, hi, hz0, hz1, hz2⟩ := info_row21
  refine wpList_buildSlice hgd 49 55 20 #[(0, o0), (1, o1), (2, o2), (3, o3), (4, o4), (5, o5), (6, o6), (7, o7), (8, o8), (9, o9), (10, o10), (11, o11), (12, o12), (13, o13), (14, o14), (15, o15), (16, o16), (17, o17), (18, o18), (19, o19)] ho (rowL c3 [x0, x1, x2, x3, x4, x5, x6, x7, x8, x9, x10, x11, x12, x13, x14, x15, x16, x17, x18, x19]).toArray i _ Tryz.underlying49 hi hz0 (by rw [hz1]; decide) (by rw [hz1]; decide) ?_ h
  rw [hz1]
  have e : (#[(0, o0), (1, o1), (2, o2), (3, o3), (4, o4), (5, o5), (6, o6), (7, o7), (8, o8), (9, o9), (10, o10), (11, o11), (12, o12), (13, o13), (14, o14), (15, o15), (16, o16), (17, o17), (18, o18), (19, o19)].map fun (i, x) => (i, a.eval x)).toList = [(0, .agg (c3 x0).toArray), (1, .agg (c3 x1).toArray), (2, .agg (c3 x2).toArray), (3, .agg (c3 x3).toArray), (4, .agg (c3 x4).toArray), (5, .agg (c3 x5).toArray), (6, .agg (c3 x6).toArray), (7, .agg (c3 x7).toArray), (8, .agg (c3 x8).toArray), (9, .agg (c3 x9).toArray), (10, .agg (c3 x10).toArray), (11, .agg (c3 x11).toArray), (12, .agg (c3 x12).toArray), (13, .agg (c3 x13).toArray), (14, .agg (c3 x14).toArray), (15, .agg (c3 x15).toArray), (16, .agg (c3 x16).toArray), (17, .agg (c3 x17).toArray), (18, .agg (c3 x18).toArray), (19, .agg (c3 x19).toArray)] := by simp [h0, h1, h2, h3, h4, h5, h6, h7, h8, h9, h10, h11, h12, h13, h14, h15, h16, h17, h18, h19]
  rw [e]
  exact fillR20 x0 x1 x2 x3 x4 x5 x6 x7 x8 x9 x10 x11 x12 x13 x14 x15 x16 x17 x18 x19
/-- Rows made so far: those in the list, and those that are to be put behind. -/
structure RA (w : World) (v : Value) (l m : List Rv) (y : World) : Prop where
  own : OwnL 55 3 c3 w.heap.size y v l
  low : Below w.heap.size w y
  rw : ∀ i x, (l ++ m)[i]? = some x → RwK i x y
  len : (l ++ m).length ≤ 37
theorem RA.more {w : World} {v : Value} {l m : List Rv} {y y' : World} {x : Rv} (h : RA w v l m y) (hb : Below y.heap.size y y') (hx : RwK (l ++ m).length x y') (hl : (l ++ m).length < 37) : RA w v l (m ++ [x]) y' := by
  refine ⟨h.own.below hb, h.low.trans (hb.mono h.low.size), fun i z hi => ?_, by rw [← List.append_assoc, List.length_append]; exact hl⟩
  rw [← List.append_assoc] at hi
  by_cases e : i < (l ++ m).length
  · rw [List.getElem?_append_left e] at hi
    exact (h.rw i z hi).keep (by have := h.len; omega) (KpT.of_below hb)
  · have hi2 : i = (l ++ m).length := by
      have := (List.getElem?_eq_some_iff.1 hi).1
      rw [List.length_append] at this
      simp at this
      simp only [List.length_append] at e ⊢
      omega
    subst hi2
    rw [List.getElem?_append_right (Nat.le_refl _), Nat.sub_self] at hi
    cases hi
    exact hx
theorem RA.app1 {w : World} {v v' : Value} {l : List Rv} {y y2 y3 : World} {x : Rv} {o : Obj} (h : RA w v l [] y) (hb : Below y.heap.size y y2) (hx : RwK l.length x y2) (hl : l.length < 37) (A : App1L 55 3 c3 w.heap.size v l x v' (y2.alloc o) y3) : RA w v' (l ++ [x]) [] y3 := by
  have h2 := h.more (x := x) hb (by rw [List.append_nil]; exact hx) (by rw [List.append_nil]; exact hl)
  have b1 : Below y2.heap.size y2 (y2.alloc o) := below1 y2 o
  have kp : KpT y2 y3 := fun q cs t hq e1 e2 => KpT.of_cu (h2.own.below b1) A.cu (fun g j hF => hF.1) q cs t (KpT.of_below b1 q cs t hq e1 e2) e1 e2
  refine ⟨A.own, h2.low.trans ((b1.mono h2.low.size).trans A.cu.low), fun i z hi => ?_, ?_⟩
  · rw [List.append_nil] at hi
    refine (h2.rw i z hi).keep ?_ kp
    have := (List.getElem?_eq_some_iff.1 hi).1
    rw [List.length_append] at this
    simp at this
    omega
  · have := h2.len
    simp only [List.nil_append, List.length_append, List.length_nil, List.length_cons] at this ⊢
    omega
theorem RA.apps {w : World} {v v' : Value} {l m : List Rv} {y y3 : World} {o : Obj} (h : RA w v l m y) (A : AppNL 55 3 c3 w.heap.size v l m v' (y.alloc o) y3) : RA w v' (l ++ m) [] y3 := by
  have b1 : Below y.heap.size y (y.alloc o) := below1 y o
  have kp : KpT y y3 := fun q cs t hq e1 e2 => KpT.of_cu (h.own.below b1) A.cu (fun g j hF => hF.1) q cs t (KpT.of_below b1 q cs t hq e1 e2) e1 e2
  refine ⟨A.own, h.low.trans ((b1.mono h.low.size).trans A.cu.low), fun i z hi => ?_, by rw [List.append_nil]; exact h.len⟩
  rw [List.append_nil] at hi
  refine (h.rw i z hi).keep ?_ kp
  have := (List.getElem?_eq_some_iff.1 hi).1
  have := h.len
  omega
end Go.Proofs.YtehnhjdjjalifaaGreatDoor
