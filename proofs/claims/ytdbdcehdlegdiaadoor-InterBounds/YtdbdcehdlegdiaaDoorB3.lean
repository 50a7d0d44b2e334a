/- InterBounds: what Bound says of any order. -/
import Derived.Test.YtdbdcehdlegdiaaDoorB1
import Derived.Test.YtdbdcehdlegdiaaDoorB2
namespace Go.Proofs.YtdbdcehdlegdiaaDoor
open Go Go.RowKit
set_option linter.unusedVariables false
set_option maxHeartbeats 1000000
set_option maxRecDepth 100000

theorem bounds_none (w : World) (o p : Od) (ho : OdR o) (T : Hid (Tb w)) (he : (encW o).isSome = false) : Calls Tryd.prog 3 #[.agg (o6 o), .agg (o6 p)] w fun e w' => e = .returned (.bool true) ∧ Below w.heap.size w w' := by
  obtain ⟨op, hpo⟩ : ∃ z, o.op = z := ⟨_, rfl⟩
  obtain ⟨OC, hOC⟩ : ∃ z : Array Value, Hid (z = o6 o) := ⟨_, (rfl : o6 o = o6 o)⟩
  obtain ⟨PC, hPC⟩ : ∃ z : Array Value, Hid (z = o6 p) := ⟨_, (rfl : o6 p = o6 p)⟩
  have sO : Hid (OC.size = 6) := by rw [hOC.out]; exact (rfl : _ = _)
  have h0 : Hid (OC[0]? = some (.int .u8 (op : Int))) := by rw [hOC.out, ← hpo]; exact (rfl : _ = _)
  have iop : (op : Int) < 256 := by have := ho.op; omega
  obtain ⟨V, hV⟩ : ∃ z : Int, ((((encW o).getD 0 : Nat)) : Int) = z := ⟨_, rfl⟩
  have hb : bnd o = 0 := by unfold bnd; rw [he]; rfl
  have hBo : Hid (∀ y, Below w.heap.size w y → Calls Tryd.prog 4 #[.agg OC] y fun e w' => e = .returned (.int .i64 0) ∧ Below y.heap.size y w') := fun y hy => by
    have := bound_any y o ho (T.out.below hy)
    rw [hb] at this
    rw [hOC.out]
    exact this
  have hEo : Hid (∀ y, Calls Tryd.prog 5 #[.agg OC] y fun e w' => e = .returned (.tuple #[.int .u16 V, .int .i64 160]) ∧ Below y.heap.size y w') := fun y => by
    have := rencode_any y o ho
    rw [he, hV] at this
    rw [hOC.out]
    exact this
  rw [← hOC.out, ← hPC.out]
  clear ho he hb hV hpo
  go_enter Tryd.func3, Tryd.ntmps3
  go_wp2_with (first
    | (go_at_call 5; refine (hEo.out y1).mono ?_; rintro e y2 ⟨rfl, H⟩; have K2 : Hid (Fm w [(w.heap.size, OC, 25), (w.heap.size + 1, PC, 25)] y2) := K1.out.below H; clear H; have cO := (K2.out.bx 0 _ _ _ rfl).c 0 _ h0.out)
    | (go_at_call 4; refine (hBo.out y0 K0.out.low).mono ?_; rintro e y1 ⟨rfl, H⟩; have K1 : Hid (Fm w [(w.heap.size, OC, 25), (w.heap.size + 1, PC, 25)] y1) := K0.out.below H; clear H)
    | ((with_reducible refine gen_world ((w.alloc (.cells OC 25)).alloc (.cells PC 25)) (fun y => Fm w [(w.heap.size, OC, 25), (w.heap.size + 1, PC, 25)] y) ?_ ?_); exact Fm.two w _ _ _ _; intro y0 K0)
    | ((with_reducible refine at_load rtO w.heap.size OC ?_ ?_ (.tmp 2) ?_ ?_ ?_ ?_); (first | exact K1.out.bx 0 _ _ _ rfl | exact K0.out.bx 0 _ _ _ rfl); exact sO.out; kernel_rfl; rfl; rfl))
  go_ret
  exact ⟨rfl, K2.out.low⟩
theorem bounds_machine (w : World) (o p : Od) (ho : OdR o) (T : Hid (Tb w)) (he : (encW o).isSome = true) (h1 : o.op = 1) : Calls Tryd.prog 3 #[.agg (o6 o), .agg (o6 p)] w fun e w' => e = .returned (.bool true) ∧ Below w.heap.size w w' := by
  obtain ⟨op, hpo⟩ : ∃ z, o.op = z := ⟨_, rfl⟩
  obtain ⟨OC, hOC⟩ : ∃ z : Array Value, Hid (z = o6 o) := ⟨_, (rfl : o6 o = o6 o)⟩
  obtain ⟨PC, hPC⟩ : ∃ z : Array Value, Hid (z = o6 p) := ⟨_, (rfl : o6 p = o6 p)⟩
  have sO : Hid (OC.size = 6) := by rw [hOC.out]; exact (rfl : _ = _)
  have h0 : Hid (OC[0]? = some (.int .u8 (op : Int))) := by rw [hOC.out, ← hpo]; exact (rfl : _ = _)
  have iop : (op : Int) < 256 := by have := ho.op; omega
  obtain ⟨V, hV⟩ : ∃ z : Int, ((((encW o).getD 0 : Nat)) : Int) = z := ⟨_, rfl⟩
  have hb : bnd o = 0 := by unfold bnd; rw [he, h1]; rfl
  have hBo : Hid (∀ y, Below w.heap.size w y → Calls Tryd.prog 4 #[.agg OC] y fun e w' => e = .returned (.int .i64 0) ∧ Below y.heap.size y w') := fun y hy => by
    have := bound_any y o ho (T.out.below hy)
    rw [hb] at this
    rw [hOC.out]
    exact this
  have hEo : Hid (∀ y, Calls Tryd.prog 5 #[.agg OC] y fun e w' => e = .returned (.tuple #[.int .u16 V, .int .i64 0]) ∧ Below y.heap.size y w') := fun y => by
    have := rencode_any y o ho
    rw [he, hV] at this
    rw [hOC.out]
    exact this
  have q1 : ((op : Int) == 1) = true := by simp; omega
  rw [← hOC.out, ← hPC.out]
  clear ho he hb hV hpo h1
  go_enter Tryd.func3, Tryd.ntmps3
  go_wp2_with (first
    | (go_at_call 5; refine (hEo.out y1).mono ?_; rintro e y2 ⟨rfl, H⟩; have K2 : Hid (Fm w [(w.heap.size, OC, 25), (w.heap.size + 1, PC, 25)] y2) := K1.out.below H; clear H; have cO := (K2.out.bx 0 _ _ _ rfl).c 0 _ h0.out)
    | (go_at_call 4; refine (hBo.out y0 K0.out.low).mono ?_; rintro e y1 ⟨rfl, H⟩; have K1 : Hid (Fm w [(w.heap.size, OC, 25), (w.heap.size + 1, PC, 25)] y1) := K0.out.below H; clear H)
    | ((with_reducible refine gen_world ((w.alloc (.cells OC 25)).alloc (.cells PC 25)) (fun y => Fm w [(w.heap.size, OC, 25), (w.heap.size + 1, PC, 25)] y) ?_ ?_); exact Fm.two w _ _ _ _; intro y0 K0)
    | ((with_reducible refine at_load rtO w.heap.size OC ?_ ?_ (.tmp 2) ?_ ?_ ?_ ?_); (first | exact K1.out.bx 0 _ _ _ rfl | exact K0.out.bx 0 _ _ _ rfl); exact sO.out; kernel_rfl; rfl; rfl))
  go_ret
  exact ⟨rfl, K2.out.low⟩
theorem bounds_clear0 (w : World) (o p : Od) (ho : OdR o) (hp : OdR p) (T : Hid (Tb w)) (he : (encW o).isSome = true) (h1 : o.op ≠ 1) (h2 : o.op = 2) (hpe : (encW { p with op := o.op }).isSome = false) : Calls Tryd.prog 3 #[.agg (o6 o), .agg (o6 p)] w fun e w' => e = .returned (.bool true) ∧ Below w.heap.size w w' := by
  obtain ⟨op, hpo⟩ : ∃ z, o.op = z := ⟨_, rfl⟩
  obtain ⟨OC, hOC⟩ : ∃ z : Array Value, Hid (z = o6 o) := ⟨_, (rfl : o6 o = o6 o)⟩
  obtain ⟨PC, hPC⟩ : ∃ z : Array Value, Hid (z = o6 p) := ⟨_, (rfl : o6 p = o6 p)⟩
  have sO : Hid (OC.size = 6) := by rw [hOC.out]; exact (rfl : _ = _)
  have h0 : Hid (OC[0]? = some (.int .u8 (op : Int))) := by rw [hOC.out, ← hpo]; exact (rfl : _ = _)
  have iop : (op : Int) < 256 := by have := ho.op; omega
  obtain ⟨V, hV⟩ : ∃ z : Int, ((((encW o).getD 0 : Nat)) : Int) = z := ⟨_, rfl⟩
  have hop := enc_op he
  obtain ⟨N, hN⟩ : ∃ z, bndL.getD o.op 0 = z := ⟨_, rfl⟩
  have hb : bnd o = N := by unfold bnd; rw [he, ← hN]; rfl
  have hbp : bnd { p with op := o.op } = 0 := by unfold bnd; rw [hpe]; exact rfl
  have hbb := bnd_pos o.op (by omega) (by omega)
  rw [hN] at hbb
  have hNm : 0 < N ∧ N ≤ 20000 := by
    refine ⟨hbb.1, ?_⟩
    have h := hbb.2
    rw [if_pos (by omega)] at h
    exact h
  have hNp : Hid (0 < N) := hNm.1
  have n1 : (0 : Int) < (N : Int) := by omega
  have n2 : (N : Int) ≤ 20000 := by omega
  have n3 : decide ((0 : Int) < (N : Int)) = true := by simp; omega
  have n4 : decide ((N : Int) ≤ 20000) = true := by simp; omega
  have n5 : ((N : Int) == (N : Int)) = true := by simp
  have hpo' : OdR { p with op := o.op } := ⟨ho.op, hp.x, hp.y, hp.n, hp.b, hp.a⟩
  obtain ⟨QC, hQC⟩ : ∃ z : Array Value, Hid (z = o6 { p with op := o.op }) := ⟨_, (rfl : o6 { p with op := o.op } = o6 { p with op := o.op })⟩
  have hQP : Hid (PC.setIfInBounds 0 (.int .u8 (op : Int)) = QC) := by rw [hPC.out, hQC.out, ← hpo]; exact (rfl : _ = _)
  have sQ : Hid (QC.size = 6) := by rw [hQC.out]; exact (rfl : _ = _)
  obtain ⟨pp, hpp⟩ : ∃ z, p.op = z := ⟨_, rfl⟩
  have hp0 : Hid (PC[0]? = some (.int .u8 (pp : Int))) := by rw [hPC.out, ← hpp]; exact (rfl : _ = _)
  obtain ⟨V2, hV2⟩ : ∃ z : Int, ((((encW { p with op := o.op }).getD 0 : Nat)) : Int) = z := ⟨_, rfl⟩
  have hBo : Hid (∀ y, Below w.heap.size w y → Calls Tryd.prog 4 #[.agg OC] y fun e w' => e = .returned (.int .i64 (N : Int)) ∧ Below y.heap.size y w') := fun y hy => by
    have := bound_any y o ho (T.out.below hy)
    rw [hb] at this
    rw [hOC.out]
    exact this
  have hEo : Hid (∀ y, Calls Tryd.prog 5 #[.agg OC] y fun e w' => e = .returned (.tuple #[.int .u16 V, .int .i64 0]) ∧ Below y.heap.size y w') := fun y => by
    have := rencode_any y o ho
    rw [he, hV] at this
    rw [hOC.out]
    exact this
  have hBp : Hid (∀ y, Below w.heap.size w y → Calls Tryd.prog 4 #[.agg QC] y fun e w' => e = .returned (.int .i64 0) ∧ Below y.heap.size y w') := fun y hy => by
    have := bound_any y _ hpo' (T.out.below hy)
    rw [hbp] at this
    rw [hQC.out]
    exact this
  have hEp : Hid (∀ y, Calls Tryd.prog 5 #[.agg QC] y fun e w' => e = .returned (.tuple #[.int .u16 V2, .int .i64 160]) ∧ Below y.heap.size y w') := fun y => by
    have := rencode_any y _ hpo'
    rw [hpe, hV2] at this
    rw [hQC.out]
    exact this
  have q1 : ((op : Int) == 1) = false := by simp; omega
  have q2 : ((op : Int) == 2) = true := by simp; omega
  rw [← hOC.out, ← hPC.out]
  clear ho hp he hb hV hpo h1 h2 hpe hop hN hbp hbb hNm hpo' hpp hV2
  go_enter Tryd.func3, Tryd.ntmps3
  go_wp2_with (first
    | (go_at_call 4; refine (hBp.out y4 K4.out.low).mono ?_; rintro e y5 ⟨rfl, H⟩; have K5 : Hid (Fm w [(w.heap.size, OC, 25), (w.heap.size + 1, QC, 25)] y5) := K4.out.below H; clear H)
    | (go_at_call 5; refine (hEp.out y3).mono ?_; rintro e y4 ⟨rfl, H⟩; have K4 : Hid (Fm w [(w.heap.size, OC, 25), (w.heap.size + 1, QC, 25)] y4) := K3.out.below H; clear H)
    | ((with_reducible refine gen_world (y2.setCell ⟨w.heap.size + 1, 0, none⟩ (.int .u8 (op : Int))) (fun y => Fm w [(w.heap.size, OC, 25), (w.heap.size + 1, QC, 25)] y) ?_ ?_); (exact K2.out.setCell 1 _ _ _ _ rfl 0 _ hQP.out); intro y3 K3; clear zP)
    | (go_at_call 5; refine (hEo.out y1).mono ?_; rintro e y2 ⟨rfl, H⟩; have K2 : Hid (Fm w [(w.heap.size, OC, 25), (w.heap.size + 1, PC, 25)] y2) := K1.out.below H; clear H; have cO := (K2.out.bx 0 _ _ _ rfl).c 0 _ h0.out; have cP := (K2.out.bx 1 _ _ _ rfl).c 0 _ hp0.out; have zP := (K2.out.bx 1 _ _ _ rfl).fz 0)
    | (go_at_call 4; refine (hBo.out y0 K0.out.low).mono ?_; rintro e y1 ⟨rfl, H⟩; have K1 : Hid (Fm w [(w.heap.size, OC, 25), (w.heap.size + 1, PC, 25)] y1) := K0.out.below H; clear H)
    | ((with_reducible refine gen_world ((w.alloc (.cells OC 25)).alloc (.cells PC 25)) (fun y => Fm w [(w.heap.size, OC, 25), (w.heap.size + 1, PC, 25)] y) ?_ ?_); exact Fm.two w _ _ _ _; intro y0 K0)
    | ((with_reducible refine at_load rtO (w.heap.size + 1) QC ?_ ?_ (.tmp 3) ?_ ?_ ?_ ?_); (first | exact K4.out.bx 1 _ _ _ rfl | exact K3.out.bx 1 _ _ _ rfl); exact sQ.out; kernel_rfl; rfl; rfl)
    | ((with_reducible refine at_load rtO w.heap.size OC ?_ ?_ (.tmp 2) ?_ ?_ ?_ ?_); (first | exact K1.out.bx 0 _ _ _ rfl | exact K0.out.bx 0 _ _ _ rfl); exact sO.out; kernel_rfl; rfl; rfl))
  all_goals first
    | exact absurd hNp.out (by assumption)
    | (go_ret; exact ⟨rfl, K5.out.low⟩)
theorem bounds_clear1 (w : World) (o p : Od) (ho : OdR o) (hp : OdR p) (T : Hid (Tb w)) (he : (encW o).isSome = true) (h1 : o.op ≠ 1) (h2 : o.op = 2) (hpe : (encW { p with op := o.op }).isSome = true) : Calls Tryd.prog 3 #[.agg (o6 o), .agg (o6 p)] w fun e w' => e = .returned (.bool true) ∧ Below w.heap.size w w' := by
  obtain ⟨op, hpo⟩ : ∃ z, o.op = z := ⟨_, rfl⟩
  obtain ⟨OC, hOC⟩ : ∃ z : Array Value, Hid (z = o6 o) := ⟨_, (rfl : o6 o = o6 o)⟩
  obtain ⟨PC, hPC⟩ : ∃ z : Array Value, Hid (z = o6 p) := ⟨_, (rfl : o6 p = o6 p)⟩
  have sO : Hid (OC.size = 6) := by rw [hOC.out]; exact (rfl : _ = _)
  have h0 : Hid (OC[0]? = some (.int .u8 (op : Int))) := by rw [hOC.out, ← hpo]; exact (rfl : _ = _)
  have iop : (op : Int) < 256 := by have := ho.op; omega
  obtain ⟨V, hV⟩ : ∃ z : Int, ((((encW o).getD 0 : Nat)) : Int) = z := ⟨_, rfl⟩
  have hop := enc_op he
  obtain ⟨N, hN⟩ : ∃ z, bndL.getD o.op 0 = z := ⟨_, rfl⟩
  have hb : bnd o = N := by unfold bnd; rw [he, ← hN]; rfl
  have hbp : bnd { p with op := o.op } = N := by unfold bnd; rw [hpe]; exact hN
  have hbb := bnd_pos o.op (by omega) (by omega)
  rw [hN] at hbb
  have hNm : 0 < N ∧ N ≤ 20000 := by
    refine ⟨hbb.1, ?_⟩
    have h := hbb.2
    rw [if_pos (by omega)] at h
    exact h
  have hNp : Hid (0 < N) := hNm.1
  have n1 : (0 : Int) < (N : Int) := by omega
  have n2 : (N : Int) ≤ 20000 := by omega
  have n3 : decide ((0 : Int) < (N : Int)) = true := by simp; omega
  have n4 : decide ((N : Int) ≤ 20000) = true := by simp; omega
  have n5 : ((N : Int) == (N : Int)) = true := by simp
  have hpo' : OdR { p with op := o.op } := ⟨ho.op, hp.x, hp.y, hp.n, hp.b, hp.a⟩
  obtain ⟨QC, hQC⟩ : ∃ z : Array Value, Hid (z = o6 { p with op := o.op }) := ⟨_, (rfl : o6 { p with op := o.op } = o6 { p with op := o.op })⟩
  have hQP : Hid (PC.setIfInBounds 0 (.int .u8 (op : Int)) = QC) := by rw [hPC.out, hQC.out, ← hpo]; exact (rfl : _ = _)
  have sQ : Hid (QC.size = 6) := by rw [hQC.out]; exact (rfl : _ = _)
  obtain ⟨pp, hpp⟩ : ∃ z, p.op = z := ⟨_, rfl⟩
  have hp0 : Hid (PC[0]? = some (.int .u8 (pp : Int))) := by rw [hPC.out, ← hpp]; exact (rfl : _ = _)
  obtain ⟨V2, hV2⟩ : ∃ z : Int, ((((encW { p with op := o.op }).getD 0 : Nat)) : Int) = z := ⟨_, rfl⟩
  have hBo : Hid (∀ y, Below w.heap.size w y → Calls Tryd.prog 4 #[.agg OC] y fun e w' => e = .returned (.int .i64 (N : Int)) ∧ Below y.heap.size y w') := fun y hy => by
    have := bound_any y o ho (T.out.below hy)
    rw [hb] at this
    rw [hOC.out]
    exact this
  have hEo : Hid (∀ y, Calls Tryd.prog 5 #[.agg OC] y fun e w' => e = .returned (.tuple #[.int .u16 V, .int .i64 0]) ∧ Below y.heap.size y w') := fun y => by
    have := rencode_any y o ho
    rw [he, hV] at this
    rw [hOC.out]
    exact this
  have hBp : Hid (∀ y, Below w.heap.size w y → Calls Tryd.prog 4 #[.agg QC] y fun e w' => e = .returned (.int .i64 (N : Int)) ∧ Below y.heap.size y w') := fun y hy => by
    have := bound_any y _ hpo' (T.out.below hy)
    rw [hbp] at this
    rw [hQC.out]
    exact this
  have hEp : Hid (∀ y, Calls Tryd.prog 5 #[.agg QC] y fun e w' => e = .returned (.tuple #[.int .u16 V2, .int .i64 0]) ∧ Below y.heap.size y w') := fun y => by
    have := rencode_any y _ hpo'
    rw [hpe, hV2] at this
    rw [hQC.out]
    exact this
  have q1 : ((op : Int) == 1) = false := by simp; omega
  have q2 : ((op : Int) == 2) = true := by simp; omega
  rw [← hOC.out, ← hPC.out]
  clear ho hp he hb hV hpo h1 h2 hpe hop hN hbp hbb hNm hpo' hpp hV2
  go_enter Tryd.func3, Tryd.ntmps3
  go_wp2_with (first
    | (go_at_call 4; refine (hBp.out y4 K4.out.low).mono ?_; rintro e y5 ⟨rfl, H⟩; have K5 : Hid (Fm w [(w.heap.size, OC, 25), (w.heap.size + 1, QC, 25)] y5) := K4.out.below H; clear H)
    | (go_at_call 5; refine (hEp.out y3).mono ?_; rintro e y4 ⟨rfl, H⟩; have K4 : Hid (Fm w [(w.heap.size, OC, 25), (w.heap.size + 1, QC, 25)] y4) := K3.out.below H; clear H)
    | ((with_reducible refine gen_world (y2.setCell ⟨w.heap.size + 1, 0, none⟩ (.int .u8 (op : Int))) (fun y => Fm w [(w.heap.size, OC, 25), (w.heap.size + 1, QC, 25)] y) ?_ ?_); (exact K2.out.setCell 1 _ _ _ _ rfl 0 _ hQP.out); intro y3 K3; clear zP)
    | (go_at_call 5; refine (hEo.out y1).mono ?_; rintro e y2 ⟨rfl, H⟩; have K2 : Hid (Fm w [(w.heap.size, OC, 25), (w.heap.size + 1, PC, 25)] y2) := K1.out.below H; clear H; have cO := (K2.out.bx 0 _ _ _ rfl).c 0 _ h0.out; have cP := (K2.out.bx 1 _ _ _ rfl).c 0 _ hp0.out; have zP := (K2.out.bx 1 _ _ _ rfl).fz 0)
    | (go_at_call 4; refine (hBo.out y0 K0.out.low).mono ?_; rintro e y1 ⟨rfl, H⟩; have K1 : Hid (Fm w [(w.heap.size, OC, 25), (w.heap.size + 1, PC, 25)] y1) := K0.out.below H; clear H)
    | ((with_reducible refine gen_world ((w.alloc (.cells OC 25)).alloc (.cells PC 25)) (fun y => Fm w [(w.heap.size, OC, 25), (w.heap.size + 1, PC, 25)] y) ?_ ?_); exact Fm.two w _ _ _ _; intro y0 K0)
    | ((with_reducible refine at_load rtO (w.heap.size + 1) QC ?_ ?_ (.tmp 3) ?_ ?_ ?_ ?_); (first | exact K4.out.bx 1 _ _ _ rfl | exact K3.out.bx 1 _ _ _ rfl); exact sQ.out; kernel_rfl; rfl; rfl)
    | ((with_reducible refine at_load rtO w.heap.size OC ?_ ?_ (.tmp 2) ?_ ?_ ?_ ?_); (first | exact K1.out.bx 0 _ _ _ rfl | exact K0.out.bx 0 _ _ _ rfl); exact sO.out; kernel_rfl; rfl; rfl))
  all_goals first
    | exact absurd hNp.out (by assumption)
    | (go_ret; exact ⟨rfl, K5.out.low⟩)
theorem bounds_draw0 (w : World) (o p : Od) (ho : OdR o) (hp : OdR p) (T : Hid (Tb w)) (he : (encW o).isSome = true) (h1 : o.op ≠ 1) (h2 : o.op = 20) (hpe : (encW { p with op := o.op }).isSome = false) : Calls Tryd.prog 3 #[.agg (o6 o), .agg (o6 p)] w fun e w' => e = .returned (.bool true) ∧ Below w.heap.size w w' := by
  obtain ⟨op, hpo⟩ : ∃ z, o.op = z := ⟨_, rfl⟩
  obtain ⟨OC, hOC⟩ : ∃ z : Array Value, Hid (z = o6 o) := ⟨_, (rfl : o6 o = o6 o)⟩
  obtain ⟨PC, hPC⟩ : ∃ z : Array Value, Hid (z = o6 p) := ⟨_, (rfl : o6 p = o6 p)⟩
  have sO : Hid (OC.size = 6) := by rw [hOC.out]; exact (rfl : _ = _)
  have h0 : Hid (OC[0]? = some (.int .u8 (op : Int))) := by rw [hOC.out, ← hpo]; exact (rfl : _ = _)
  have iop : (op : Int) < 256 := by have := ho.op; omega
  obtain ⟨V, hV⟩ : ∃ z : Int, ((((encW o).getD 0 : Nat)) : Int) = z := ⟨_, rfl⟩
  have hop := enc_op he
  obtain ⟨N, hN⟩ : ∃ z, bndL.getD o.op 0 = z := ⟨_, rfl⟩
  have hb : bnd o = N := by unfold bnd; rw [he, ← hN]; rfl
  have hbp : bnd { p with op := o.op } = 0 := by unfold bnd; rw [hpe]; exact rfl
  have hbb := bnd_pos o.op (by omega) (by omega)
  rw [hN] at hbb
  have hNm : 0 < N ∧ N ≤ 20000 := by
    refine ⟨hbb.1, ?_⟩
    have h := hbb.2
    rw [if_pos (by omega)] at h
    exact h
  have hNp : Hid (0 < N) := hNm.1
  have n1 : (0 : Int) < (N : Int) := by omega
  have n2 : (N : Int) ≤ 20000 := by omega
  have n3 : decide ((0 : Int) < (N : Int)) = true := by simp; omega
  have n4 : decide ((N : Int) ≤ 20000) = true := by simp; omega
  have n5 : ((N : Int) == (N : Int)) = true := by simp
  have hpo' : OdR { p with op := o.op } := ⟨ho.op, hp.x, hp.y, hp.n, hp.b, hp.a⟩
  obtain ⟨QC, hQC⟩ : ∃ z : Array Value, Hid (z = o6 { p with op := o.op }) := ⟨_, (rfl : o6 { p with op := o.op } = o6 { p with op := o.op })⟩
  have hQP : Hid (PC.setIfInBounds 0 (.int .u8 (op : Int)) = QC) := by rw [hPC.out, hQC.out, ← hpo]; exact (rfl : _ = _)
  have sQ : Hid (QC.size = 6) := by rw [hQC.out]; exact (rfl : _ = _)
  obtain ⟨pp, hpp⟩ : ∃ z, p.op = z := ⟨_, rfl⟩
  have hp0 : Hid (PC[0]? = some (.int .u8 (pp : Int))) := by rw [hPC.out, ← hpp]; exact (rfl : _ = _)
  obtain ⟨V2, hV2⟩ : ∃ z : Int, ((((encW { p with op := o.op }).getD 0 : Nat)) : Int) = z := ⟨_, rfl⟩
  have hBo : Hid (∀ y, Below w.heap.size w y → Calls Tryd.prog 4 #[.agg OC] y fun e w' => e = .returned (.int .i64 (N : Int)) ∧ Below y.heap.size y w') := fun y hy => by
    have := bound_any y o ho (T.out.below hy)
    rw [hb] at this
    rw [hOC.out]
    exact this
  have hEo : Hid (∀ y, Calls Tryd.prog 5 #[.agg OC] y fun e w' => e = .returned (.tuple #[.int .u16 V, .int .i64 0]) ∧ Below y.heap.size y w') := fun y => by
    have := rencode_any y o ho
    rw [he, hV] at this
    rw [hOC.out]
    exact this
  have hBp : Hid (∀ y, Below w.heap.size w y → Calls Tryd.prog 4 #[.agg QC] y fun e w' => e = .returned (.int .i64 0) ∧ Below y.heap.size y w') := fun y hy => by
    have := bound_any y _ hpo' (T.out.below hy)
    rw [hbp] at this
    rw [hQC.out]
    exact this
  have hEp : Hid (∀ y, Calls Tryd.prog 5 #[.agg QC] y fun e w' => e = .returned (.tuple #[.int .u16 V2, .int .i64 160]) ∧ Below y.heap.size y w') := fun y => by
    have := rencode_any y _ hpo'
    rw [hpe, hV2] at this
    rw [hQC.out]
    exact this
  have q1 : ((op : Int) == 1) = false := by simp; omega
  have q2 : ((op : Int) == 2) = false := by simp; omega
  have q20 : ((op : Int) == 20) = true := by simp; omega
  rw [← hOC.out, ← hPC.out]
  clear ho hp he hb hV hpo h1 h2 hpe hop hN hbp hbb hNm hpo' hpp hV2
  go_enter Tryd.func3, Tryd.ntmps3
  go_wp2_with (first
    | (go_at_call 4; refine (hBp.out y4 K4.out.low).mono ?_; rintro e y5 ⟨rfl, H⟩; have K5 : Hid (Fm w [(w.heap.size, OC, 25), (w.heap.size + 1, QC, 25)] y5) := K4.out.below H; clear H)
    | (go_at_call 5; refine (hEp.out y3).mono ?_; rintro e y4 ⟨rfl, H⟩; have K4 : Hid (Fm w [(w.heap.size, OC, 25), (w.heap.size + 1, QC, 25)] y4) := K3.out.below H; clear H)
    | ((with_reducible refine gen_world (y2.setCell ⟨w.heap.size + 1, 0, none⟩ (.int .u8 (op : Int))) (fun y => Fm w [(w.heap.size, OC, 25), (w.heap.size + 1, QC, 25)] y) ?_ ?_); (exact K2.out.setCell 1 _ _ _ _ rfl 0 _ hQP.out); intro y3 K3; clear zP)
    | (go_at_call 5; refine (hEo.out y1).mono ?_; rintro e y2 ⟨rfl, H⟩; have K2 : Hid (Fm w [(w.heap.size, OC, 25), (w.heap.size + 1, PC, 25)] y2) := K1.out.below H; clear H; have cO := (K2.out.bx 0 _ _ _ rfl).c 0 _ h0.out; have cP := (K2.out.bx 1 _ _ _ rfl).c 0 _ hp0.out; have zP := (K2.out.bx 1 _ _ _ rfl).fz 0)
    | (go_at_call 4; refine (hBo.out y0 K0.out.low).mono ?_; rintro e y1 ⟨rfl, H⟩; have K1 : Hid (Fm w [(w.heap.size, OC, 25), (w.heap.size + 1, PC, 25)] y1) := K0.out.below H; clear H)
    | ((with_reducible refine gen_world ((w.alloc (.cells OC 25)).alloc (.cells PC 25)) (fun y => Fm w [(w.heap.size, OC, 25), (w.heap.size + 1, PC, 25)] y) ?_ ?_); exact Fm.two w _ _ _ _; intro y0 K0)
    | ((with_reducible refine at_load rtO (w.heap.size + 1) QC ?_ ?_ (.tmp 3) ?_ ?_ ?_ ?_); (first | exact K4.out.bx 1 _ _ _ rfl | exact K3.out.bx 1 _ _ _ rfl); exact sQ.out; kernel_rfl; rfl; rfl)
    | ((with_reducible refine at_load rtO w.heap.size OC ?_ ?_ (.tmp 2) ?_ ?_ ?_ ?_); (first | exact K1.out.bx 0 _ _ _ rfl | exact K0.out.bx 0 _ _ _ rfl); exact sO.out; kernel_rfl; rfl; rfl))
  all_goals first
    | exact absurd hNp.out (by assumption)
    | (go_ret; exact ⟨rfl, K5.out.low⟩)
theorem bounds_draw1 (w : World) (o p : Od) (ho : OdR o) (hp : OdR p) (T : Hid (Tb w)) (he : (encW o).isSome = true) (h1 : o.op ≠ 1) (h2 : o.op = 20) (hpe : (encW { p with op := o.op }).isSome = true) : Calls Tryd.prog 3 #[.agg (o6 o), .agg (o6 p)] w fun e w' => e = .returned (.bool true) ∧ Below w.heap.size w w' := by
  obtain ⟨op, hpo⟩ : ∃ z, o.op = z := ⟨_, rfl⟩
  obtain ⟨OC, hOC⟩ : ∃ z : Array Value, Hid (z = o6 o) := ⟨_, (rfl : o6 o = o6 o)⟩
  obtain ⟨PC, hPC⟩ : ∃ z : Array Value, Hid (z = o6 p) := ⟨_, (rfl : o6 p = o6 p)⟩
  have sO : Hid (OC.size = 6) := by rw [hOC.out]; exact (rfl : _ = _)
  have h0 : Hid (OC[0]? = some (.int .u8 (op : Int))) := by rw [hOC.out, ← hpo]; exact (rfl : _ = _)
  have iop : (op : Int) < 256 := by have := ho.op; omega
  obtain ⟨V, hV⟩ : ∃ z : Int, ((((encW o).getD 0 : Nat)) : Int) = z := ⟨_, rfl⟩
  have hop := enc_op he
  obtain ⟨N, hN⟩ : ∃ z, bndL.getD o.op 0 = z := ⟨_, rfl⟩
  have hb : bnd o = N := by unfold bnd; rw [he, ← hN]; rfl
  have hbp : bnd { p with op := o.op } = N := by unfold bnd; rw [hpe]; exact hN
  have hbb := bnd_pos o.op (by omega) (by omega)
  rw [hN] at hbb
  have hNm : 0 < N ∧ N ≤ 20000 := by
    refine ⟨hbb.1, ?_⟩
    have h := hbb.2
    rw [if_pos (by omega)] at h
    exact h
  have hNp : Hid (0 < N) := hNm.1
  have n1 : (0 : Int) < (N : Int) := by omega
  have n2 : (N : Int) ≤ 20000 := by omega
  have n3 : decide ((0 : Int) < (N : Int)) = true := by simp; omega
  have n4 : decide ((N : Int) ≤ 20000) = true := by simp; omega
  have n5 : ((N : Int) == (N : Int)) = true := by simp
  have hpo' : OdR { p with op := o.op } := ⟨ho.op, hp.x, hp.y, hp.n, hp.b, hp.a⟩
  obtain ⟨QC, hQC⟩ : ∃ z : Array Value, Hid (z = o6 { p with op := o.op }) := ⟨_, (rfl : o6 { p with op := o.op } = o6 { p with op := o.op })⟩
  have hQP : Hid (PC.setIfInBounds 0 (.int .u8 (op : Int)) = QC) := by rw [hPC.out, hQC.out, ← hpo]; exact (rfl : _ = _)
  have sQ : Hid (QC.size = 6) := by rw [hQC.out]; exact (rfl : _ = _)
  obtain ⟨pp, hpp⟩ : ∃ z, p.op = z := ⟨_, rfl⟩
  have hp0 : Hid (PC[0]? = some (.int .u8 (pp : Int))) := by rw [hPC.out, ← hpp]; exact (rfl : _ = _)
  obtain ⟨V2, hV2⟩ : ∃ z : Int, ((((encW { p with op := o.op }).getD 0 : Nat)) : Int) = z := ⟨_, rfl⟩
  have hBo : Hid (∀ y, Below w.heap.size w y → Calls Tryd.prog 4 #[.agg OC] y fun e w' => e = .returned (.int .i64 (N : Int)) ∧ Below y.heap.size y w') := fun y hy => by
    have := bound_any y o ho (T.out.below hy)
    rw [hb] at this
    rw [hOC.out]
    exact this
  have hEo : Hid (∀ y, Calls Tryd.prog 5 #[.agg OC] y fun e w' => e = .returned (.tuple #[.int .u16 V, .int .i64 0]) ∧ Below y.heap.size y w') := fun y => by
    have := rencode_any y o ho
    rw [he, hV] at this
    rw [hOC.out]
    exact this
  have hBp : Hid (∀ y, Below w.heap.size w y → Calls Tryd.prog 4 #[.agg QC] y fun e w' => e = .returned (.int .i64 (N : Int)) ∧ Below y.heap.size y w') := fun y hy => by
    have := bound_any y _ hpo' (T.out.below hy)
    rw [hbp] at this
    rw [hQC.out]
    exact this
  have hEp : Hid (∀ y, Calls Tryd.prog 5 #[.agg QC] y fun e w' => e = .returned (.tuple #[.int .u16 V2, .int .i64 0]) ∧ Below y.heap.size y w') := fun y => by
    have := rencode_any y _ hpo'
    rw [hpe, hV2] at this
    rw [hQC.out]
    exact this
  have q1 : ((op : Int) == 1) = false := by simp; omega
  have q2 : ((op : Int) == 2) = false := by simp; omega
  have q20 : ((op : Int) == 20) = true := by simp; omega
  rw [← hOC.out, ← hPC.out]
  clear ho hp he hb hV hpo h1 h2 hpe hop hN hbp hbb hNm hpo' hpp hV2
  go_enter Tryd.func3, Tryd.ntmps3
  go_wp2_with (first
    | (go_at_call 4; refine (hBp.out y4 K4.out.low).mono ?_; rintro e y5 ⟨rfl, H⟩; have K5 : Hid (Fm w [(w.heap.size, OC, 25), (w.heap.size + 1, QC, 25)] y5) := K4.out.below H; clear H)
    | (go_at_call 5; refine (hEp.out y3).mono ?_; rintro e y4 ⟨rfl, H⟩; have K4 : Hid (Fm w [(w.heap.size, OC, 25), (w.heap.size + 1, QC, 25)] y4) := K3.out.below H; clear H)
    | ((with_reducible refine gen_world (y2.setCell ⟨w.heap.size + 1, 0, none⟩ (.int .u8 (op : Int))) (fun y => Fm w [(w.heap.size, OC, 25), (w.heap.size + 1, QC, 25)] y) ?_ ?_); (exact K2.out.setCell 1 _ _ _ _ rfl 0 _ hQP.out); intro y3 K3; clear zP)
    | (go_at_call 5; refine (hEo.out y1).mono ?_; rintro e y2 ⟨rfl, H⟩; have K2 : Hid (Fm w [(w.heap.size, OC, 25), (w.heap.size + 1, PC, 25)] y2) := K1.out.below H; clear H; have cO := (K2.out.bx 0 _ _ _ rfl).c 0 _ h0.out; have cP := (K2.out.bx 1 _ _ _ rfl).c 0 _ hp0.out; have zP := (K2.out.bx 1 _ _ _ rfl).fz 0)
    | (go_at_call 4; refine (hBo.out y0 K0.out.low).mono ?_; rintro e y1 ⟨rfl, H⟩; have K1 : Hid (Fm w [(w.heap.size, OC, 25), (w.heap.size + 1, PC, 25)] y1) := K0.out.below H; clear H)
    | ((with_reducible refine gen_world ((w.alloc (.cells OC 25)).alloc (.cells PC 25)) (fun y => Fm w [(w.heap.size, OC, 25), (w.heap.size + 1, PC, 25)] y) ?_ ?_); exact Fm.two w _ _ _ _; intro y0 K0)
    | ((with_reducible refine at_load rtO (w.heap.size + 1) QC ?_ ?_ (.tmp 3) ?_ ?_ ?_ ?_); (first | exact K4.out.bx 1 _ _ _ rfl | exact K3.out.bx 1 _ _ _ rfl); exact sQ.out; kernel_rfl; rfl; rfl)
    | ((with_reducible refine at_load rtO w.heap.size OC ?_ ?_ (.tmp 2) ?_ ?_ ?_ ?_); (first | exact K1.out.bx 0 _ _ _ rfl | exact K0.out.bx 0 _ _ _ rfl); exact sO.out; kernel_rfl; rfl; rfl))
  all_goals first
    | exact absurd hNp.out (by assumption)
    | (go_ret; exact ⟨rfl, K5.out.low⟩)
theorem bounds_else0 (w : World) (o p : Od) (ho : OdR o) (hp : OdR p) (T : Hid (Tb w)) (he : (encW o).isSome = true) (h1 : o.op ≠ 1) (h2 : o.op ≠ 2) (h20 : o.op ≠ 20) (hpe : (encW { p with op := o.op }).isSome = false) : Calls Tryd.prog 3 #[.agg (o6 o), .agg (o6 p)] w fun e w' => e = .returned (.bool true) ∧ Below w.heap.size w w' := by
  obtain ⟨op, hpo⟩ : ∃ z, o.op = z := ⟨_, rfl⟩
  obtain ⟨OC, hOC⟩ : ∃ z : Array Value, Hid (z = o6 o) := ⟨_, (rfl : o6 o = o6 o)⟩
  obtain ⟨PC, hPC⟩ : ∃ z : Array Value, Hid (z = o6 p) := ⟨_, (rfl : o6 p = o6 p)⟩
  have sO : Hid (OC.size = 6) := by rw [hOC.out]; exact (rfl : _ = _)
  have h0 : Hid (OC[0]? = some (.int .u8 (op : Int))) := by rw [hOC.out, ← hpo]; exact (rfl : _ = _)
  have iop : (op : Int) < 256 := by have := ho.op; omega
  obtain ⟨V, hV⟩ : ∃ z : Int, ((((encW o).getD 0 : Nat)) : Int) = z := ⟨_, rfl⟩
  have hop := enc_op he
  obtain ⟨N, hN⟩ : ∃ z, bndL.getD o.op 0 = z := ⟨_, rfl⟩
  have hb : bnd o = N := by unfold bnd; rw [he, ← hN]; rfl
  have hbp : bnd { p with op := o.op } = 0 := by unfold bnd; rw [hpe]; exact rfl
  have hbb := bnd_pos o.op (by omega) (by omega)
  rw [hN] at hbb
  have hNm : 0 < N ∧ N ≤ 6000 := by
    refine ⟨hbb.1, ?_⟩
    have h := hbb.2
    rw [if_neg (by omega)] at h
    exact h
  have hNp : Hid (0 < N) := hNm.1
  have n1 : (0 : Int) < (N : Int) := by omega
  have n2 : (N : Int) ≤ 6000 := by omega
  have n3 : decide ((0 : Int) < (N : Int)) = true := by simp; omega
  have n4 : decide ((N : Int) ≤ 6000) = true := by simp; omega
  have n5 : ((N : Int) == (N : Int)) = true := by simp
  have hpo' : OdR { p with op := o.op } := ⟨ho.op, hp.x, hp.y, hp.n, hp.b, hp.a⟩
  obtain ⟨QC, hQC⟩ : ∃ z : Array Value, Hid (z = o6 { p with op := o.op }) := ⟨_, (rfl : o6 { p with op := o.op } = o6 { p with op := o.op })⟩
  have hQP : Hid (PC.setIfInBounds 0 (.int .u8 (op : Int)) = QC) := by rw [hPC.out, hQC.out, ← hpo]; exact (rfl : _ = _)
  have sQ : Hid (QC.size = 6) := by rw [hQC.out]; exact (rfl : _ = _)
  obtain ⟨pp, hpp⟩ : ∃ z, p.op = z := ⟨_, rfl⟩
  have hp0 : Hid (PC[0]? = some (.int .u8 (pp : Int))) := by rw [hPC.out, ← hpp]; exact (rfl : _ = _)
  obtain ⟨V2, hV2⟩ : ∃ z : Int, ((((encW { p with op := o.op }).getD 0 : Nat)) : Int) = z := ⟨_, rfl⟩
  have hBo : Hid (∀ y, Below w.heap.size w y → Calls Tryd.prog 4 #[.agg OC] y fun e w' => e = .returned (.int .i64 (N : Int)) ∧ Below y.heap.size y w') := fun y hy => by
    have := bound_any y o ho (T.out.below hy)
    rw [hb] at this
    rw [hOC.out]
    exact this
  have hEo : Hid (∀ y, Calls Tryd.prog 5 #[.agg OC] y fun e w' => e = .returned (.tuple #[.int .u16 V, .int .i64 0]) ∧ Below y.heap.size y w') := fun y => by
    have := rencode_any y o ho
    rw [he, hV] at this
    rw [hOC.out]
    exact this
  have hBp : Hid (∀ y, Below w.heap.size w y → Calls Tryd.prog 4 #[.agg QC] y fun e w' => e = .returned (.int .i64 0) ∧ Below y.heap.size y w') := fun y hy => by
    have := bound_any y _ hpo' (T.out.below hy)
    rw [hbp] at this
    rw [hQC.out]
    exact this
  have hEp : Hid (∀ y, Calls Tryd.prog 5 #[.agg QC] y fun e w' => e = .returned (.tuple #[.int .u16 V2, .int .i64 160]) ∧ Below y.heap.size y w') := fun y => by
    have := rencode_any y _ hpo'
    rw [hpe, hV2] at this
    rw [hQC.out]
    exact this
  have q1 : ((op : Int) == 1) = false := by simp; omega
  have q2 : ((op : Int) == 2) = false := by simp; omega
  have q20 : ((op : Int) == 20) = false := by simp; omega
  rw [← hOC.out, ← hPC.out]
  clear ho hp he hb hV hpo h1 h2 hpe hop hN hbp hbb hNm hpo' hpp hV2 h20
  go_enter Tryd.func3, Tryd.ntmps3
  go_wp2_with (first
    | (go_at_call 4; refine (hBp.out y4 K4.out.low).mono ?_; rintro e y5 ⟨rfl, H⟩; have K5 : Hid (Fm w [(w.heap.size, OC, 25), (w.heap.size + 1, QC, 25)] y5) := K4.out.below H; clear H)
    | (go_at_call 5; refine (hEp.out y3).mono ?_; rintro e y4 ⟨rfl, H⟩; have K4 : Hid (Fm w [(w.heap.size, OC, 25), (w.heap.size + 1, QC, 25)] y4) := K3.out.below H; clear H)
    | ((with_reducible refine gen_world (y2.setCell ⟨w.heap.size + 1, 0, none⟩ (.int .u8 (op : Int))) (fun y => Fm w [(w.heap.size, OC, 25), (w.heap.size + 1, QC, 25)] y) ?_ ?_); (exact K2.out.setCell 1 _ _ _ _ rfl 0 _ hQP.out); intro y3 K3; clear zP)
    | (go_at_call 5; refine (hEo.out y1).mono ?_; rintro e y2 ⟨rfl, H⟩; have K2 : Hid (Fm w [(w.heap.size, OC, 25), (w.heap.size + 1, PC, 25)] y2) := K1.out.below H; clear H; have cO := (K2.out.bx 0 _ _ _ rfl).c 0 _ h0.out; have cP := (K2.out.bx 1 _ _ _ rfl).c 0 _ hp0.out; have zP := (K2.out.bx 1 _ _ _ rfl).fz 0)
    | (go_at_call 4; refine (hBo.out y0 K0.out.low).mono ?_; rintro e y1 ⟨rfl, H⟩; have K1 : Hid (Fm w [(w.heap.size, OC, 25), (w.heap.size + 1, PC, 25)] y1) := K0.out.below H; clear H)
    | ((with_reducible refine gen_world ((w.alloc (.cells OC 25)).alloc (.cells PC 25)) (fun y => Fm w [(w.heap.size, OC, 25), (w.heap.size + 1, PC, 25)] y) ?_ ?_); exact Fm.two w _ _ _ _; intro y0 K0)
    | ((with_reducible refine at_load rtO (w.heap.size + 1) QC ?_ ?_ (.tmp 3) ?_ ?_ ?_ ?_); (first | exact K4.out.bx 1 _ _ _ rfl | exact K3.out.bx 1 _ _ _ rfl); exact sQ.out; kernel_rfl; rfl; rfl)
    | ((with_reducible refine at_load rtO w.heap.size OC ?_ ?_ (.tmp 2) ?_ ?_ ?_ ?_); (first | exact K1.out.bx 0 _ _ _ rfl | exact K0.out.bx 0 _ _ _ rfl); exact sO.out; kernel_rfl; rfl; rfl))
  all_goals first
    | exact absurd hNp.out (by assumption)
    | (go_ret; exact ⟨rfl, K5.out.low⟩)
theorem bounds_else1 (w : World) (o p : Od) (ho : OdR o) (hp : OdR p) (T : Hid (Tb w)) (he : (encW o).isSome = true) (h1 : o.op ≠ 1) (h2 : o.op ≠ 2) (h20 : o.op ≠ 20) (hpe : (encW { p with op := o.op }).isSome = true) : Calls Tryd.prog 3 #[.agg (o6 o), .agg (o6 p)] w fun e w' => e = .returned (.bool true) ∧ Below w.heap.size w w' := by
  obtain ⟨op, hpo⟩ : ∃ z, o.op = z := ⟨_, rfl⟩
  obtain ⟨OC, hOC⟩ : ∃ z : Array Value, Hid (z = o6 o) := ⟨_, (rfl : o6 o = o6 o)⟩
  obtain ⟨PC, hPC⟩ : ∃ z : Array Value, Hid (z = o6 p) := ⟨_, (rfl : o6 p = o6 p)⟩
  have sO : Hid (OC.size = 6) := by rw [hOC.out]; exact (rfl : _ = _)
  have h0 : Hid (OC[0]? = some (.int .u8 (op : Int))) := by rw [hOC.out, ← hpo]; exact (rfl : _ = _)
  have iop : (op : Int) < 256 := by have := ho.op; omega
  obtain ⟨V, hV⟩ : ∃ z : Int, ((((encW o).getD 0 : Nat)) : Int) = z := ⟨_, rfl⟩
  have hop := enc_op he
  obtain ⟨N, hN⟩ : ∃ z, bndL.getD o.op 0 = z := ⟨_, rfl⟩
  have hb : bnd o = N := by unfold bnd; rw [he, ← hN]; rfl
  have hbp : bnd { p with op := o.op } = N := by unfold bnd; rw [hpe]; exact hN
  have hbb := bnd_pos o.op (by omega) (by omega)
  rw [hN] at hbb
  have hNm : 0 < N ∧ N ≤ 6000 := by
    refine ⟨hbb.1, ?_⟩
    have h := hbb.2
    rw [if_neg (by omega)] at h
    exact h
  have hNp : Hid (0 < N) := hNm.1
  have n1 : (0 : Int) < (N : Int) := by omega
  have n2 : (N : Int) ≤ 6000 := by omega
  have n3 : decide ((0 : Int) < (N : Int)) = true := by simp; omega
  have n4 : decide ((N : Int) ≤ 6000) = true := by simp; omega
  have n5 : ((N : Int) == (N : Int)) = true := by simp
  have hpo' : OdR { p with op := o.op } := ⟨ho.op, hp.x, hp.y, hp.n, hp.b, hp.a⟩
  obtain ⟨QC, hQC⟩ : ∃ z : Array Value, Hid (z = o6 { p with op := o.op }) := ⟨_, (rfl : o6 { p with op := o.op } = o6 { p with op := o.op })⟩
  have hQP : Hid (PC.setIfInBounds 0 (.int .u8 (op : Int)) = QC) := by rw [hPC.out, hQC.out, ← hpo]; exact (rfl : _ = _)
  have sQ : Hid (QC.size = 6) := by rw [hQC.out]; exact (rfl : _ = _)
  obtain ⟨pp, hpp⟩ : ∃ z, p.op = z := ⟨_, rfl⟩
  have hp0 : Hid (PC[0]? = some (.int .u8 (pp : Int))) := by rw [hPC.out, ← hpp]; exact (rfl : _ = _)
  obtain ⟨V2, hV2⟩ : ∃ z : Int, ((((encW { p with op := o.op }).getD 0 : Nat)) : Int) = z := ⟨_, rfl⟩
  have hBo : Hid (∀ y, Below w.heap.size w y → Calls Tryd.prog 4 #[.agg OC] y fun e w' => e = .returned (.int .i64 (N : Int)) ∧ Below y.heap.size y w') := fun y hy => by
    have := bound_any y o ho (T.out.below hy)
    rw [hb] at this
    rw [hOC.out]
    exact this
  have hEo : Hid (∀ y, Calls Tryd.prog 5 #[.agg OC] y fun e w' => e = .returned (.tuple #[.int .u16 V, .int .i64 0]) ∧ Below y.heap.size y w') := fun y => by
    have := rencode_any y o ho
    rw [he, hV] at this
    rw [hOC.out]
    exact this
  have hBp : Hid (∀ y, Below w.heap.size w y → Calls Tryd.prog 4 #[.agg QC] y fun e w' => e = .returned (.int .i64 (N : Int)) ∧ Below y.heap.size y w') := fun y hy => by
    have := bound_any y _ hpo' (T.out.below hy)
    rw [hbp] at this
    rw [hQC.out]
    exact this
  have hEp : Hid (∀ y, Calls Tryd.prog 5 #[.agg QC] y fun e w' => e = .returned (.tuple #[.int .u16 V2, .int .i64 0]) ∧ Below y.heap.size y w') := fun y => by
    have := rencode_any y _ hpo'
    rw [hpe, hV2] at this
    rw [hQC.out]
    exact this
  have q1 : ((op : Int) == 1) = false := by simp; omega
  have q2 : ((op : Int) == 2) = false := by simp; omega
  have q20 : ((op : Int) == 20) = false := by simp; omega
  rw [← hOC.out, ← hPC.out]
  clear ho hp he hb hV hpo h1 h2 hpe hop hN hbp hbb hNm hpo' hpp hV2 h20
  go_enter Tryd.func3, Tryd.ntmps3
  go_wp2_with (first
    | (go_at_call 4; refine (hBp.out y4 K4.out.low).mono ?_; rintro e y5 ⟨rfl, H⟩; have K5 : Hid (Fm w [(w.heap.size, OC, 25), (w.heap.size + 1, QC, 25)] y5) := K4.out.below H; clear H)
    | (go_at_call 5; refine (hEp.out y3).mono ?_; rintro e y4 ⟨rfl, H⟩; have K4 : Hid (Fm w [(w.heap.size, OC, 25), (w.heap.size + 1, QC, 25)] y4) := K3.out.below H; clear H)
    | ((with_reducible refine gen_world (y2.setCell ⟨w.heap.size + 1, 0, none⟩ (.int .u8 (op : Int))) (fun y => Fm w [(w.heap.size, OC, 25), (w.heap.size + 1, QC, 25)] y) ?_ ?_); (exact K2.out.setCell 1 _ _ _ _ rfl 0 _ hQP.out); intro y3 K3; clear zP)
    | (go_at_call 5; refine (hEo.out y1).mono ?_; rintro e y2 ⟨rfl, H⟩; have K2 : Hid (Fm w [(w.heap.size, OC, 25), (w.heap.size + 1, PC, 25)] y2) := K1.out.below H; clear H; have cO := (K2.out.bx 0 _ _ _ rfl).c 0 _ h0.out; have cP := (K2.out.bx 1 _ _ _ rfl).c 0 _ hp0.out; have zP := (K2.out.bx 1 _ _ _ rfl).fz 0)
    | (go_at_call 4; refine (hBo.out y0 K0.out.low).mono ?_; rintro e y1 ⟨rfl, H⟩; have K1 : Hid (Fm w [(w.heap.size, OC, 25), (w.heap.size + 1, PC, 25)] y1) := K0.out.below H; clear H)
    | ((with_reducible refine gen_world ((w.alloc (.cells OC 25)).alloc (.cells PC 25)) (fun y => Fm w [(w.heap.size, OC, 25), (w.heap.size + 1, PC, 25)] y) ?_ ?_); exact Fm.two w _ _ _ _; intro y0 K0)
    | ((with_reducible refine at_load rtO (w.heap.size + 1) QC ?_ ?_ (.tmp 3) ?_ ?_ ?_ ?_); (first | exact K4.out.bx 1 _ _ _ rfl | exact K3.out.bx 1 _ _ _ rfl); exact sQ.out; kernel_rfl; rfl; rfl)
    | ((with_reducible refine at_load rtO w.heap.size OC ?_ ?_ (.tmp 2) ?_ ?_ ?_ ?_); (first | exact K1.out.bx 0 _ _ _ rfl | exact K0.out.bx 0 _ _ _ rfl); exact sO.out; kernel_rfl; rfl; rfl))
  all_goals first
    | exact absurd hNp.out (by assumption)
    | (go_ret; exact ⟨rfl, K5.out.low⟩)
theorem bounds_walk (w : World) (T : Tb w) (o p : Od) (ho : OdR o) (hp : OdR p) : Calls Tryd.prog 3 #[.agg (o6 o), .agg (o6 p)] w fun e w' => e = .returned (.bool true) ∧ Below w.heap.size w w' := by
  rcases he : (encW o).isSome with _ | _
  · exact bounds_none w o p ho T he
  · by_cases h1 : o.op = 1
    · exact bounds_machine w o p ho T he h1
    · rcases hpe : (encW { p with op := o.op }).isSome with _ | _
      · by_cases h2 : o.op = 2
        · exact bounds_clear0 w o p ho hp T he h1 h2 hpe
        · by_cases h20 : o.op = 20
          · exact bounds_draw0 w o p ho hp T he h1 h20 hpe
          · exact bounds_else0 w o p ho hp T he h1 h2 h20 hpe
      · by_cases h2 : o.op = 2
        · exact bounds_clear1 w o p ho hp T he h1 h2 hpe
        · by_cases h20 : o.op = 20
          · exact bounds_draw1 w o p ho hp T he h1 h20 hpe
          · exact bounds_else1 w o p ho hp T he h1 h2 h20 hpe
end Go.Proofs.YtdbdcehdlegdiaaDoor
