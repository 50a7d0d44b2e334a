/- Objects that may be, and their labels: the program's answers and the document's. -/
import Derived.Test.YtkpfhnogpcigaaaDoorRJEg
import Derived.Test.YtkpfhnogpcigaaaDoorRJEj
namespace Go.Proofs.YtkpfhnogpcigaaaDoorR
open Go Go.RowKit
set_option linter.unusedVariables false
set_option maxHeartbeats 3000000
set_option maxRecDepth 20000

theorem blk_bounds : ∀ (l : List Bk) (p : Int), 0 ≤ p → blkOk p l = true → ∀ b ∈ l, 0 ≤ b.a ∧ b.a ≤ 65536 ∧ 1 ≤ b.m ∧ b.m ≤ 65536 := by
  intro l
  induction l with
  | nil => intro p _ _ b hb; cases hb
  | cons x r ih =>
    intro p hp h b hb
    unfold blkOk at h
    rw [Bool.and_eq_true, decide_eq_true_eq] at h
    obtain ⟨⟨h1, h2, h3⟩, h4⟩ := h
    rcases List.mem_cons.1 hb with rfl | hb
    · exact ⟨by omega, by omega, by omega, by omega⟩
    · exact ih _ (by omega) h4 b hb
def okO (ob : Oo) : Bool := blkOk 0 (ob.B.map (·.1)) && (mrk (plB ob.B) ob.M && labG [] ob.L)
/-- What Check answers. -/
def chkO (ob : Oo) : Int := if okO ob then 0 else 1
/-- An object whose lists have their room. -/
structure Lco (w : World) (ob : Oo) : Prop where
  lo : Lo w ob
  cb : ∀ x ∈ ob.B, x.1.m ≤ x.1.cap
  cm : ob.M.length ≤ ob.mc
theorem Lco.below {w y : World} {ob : Oo} (h : Lco w ob) (hb : Below w.heap.size w y) : Lco y ob := ⟨h.lo.below hb, h.cb, h.cm⟩
theorem ocheck_any (w : World) (T : Hid (Tabs w)) (ob : Oo) (h : Hid (Lco w ob)) : Calls Tryd.prog 9 #[.agg (oC ob)] w fun e w' => e = .returned (.int .i64 (chkO ob)) ∧ Hid (Below w.heap.size w w') := by
  have K0 : Hid (Fm w [(w.heap.size, oC ob, 26)] (w.alloc (.cells (oC ob) 26))) := Fm.one w _ _
  have hd : Hid (∀ y, Fm w [(w.heap.size, oC ob, 26)] y → y.cell? ⟨w.heap.size, 0, none⟩ = some (.slice ob.bp ob.B.length ob.bc) ∧ y.cell? ⟨w.heap.size, 1, none⟩ = some (.slice ob.mp ob.M.length ob.mc) ∧ y.cell? ⟨w.heap.size, 2, none⟩ = some (.slice ob.lp ob.L.length ob.lc)) := fun y hy => ⟨(hy.bx 0 _ _ _ rfl).c 0 _ rfl, (hy.bx 0 _ _ _ rfl).c 1 _ rfl, (hy.bx 0 _ _ _ rfl).c 2 _ rfl⟩
  obtain ⟨e0, e1, e2⟩ := hd.out _ K0.out
  have hB : Hid (∀ v, Below w.heap.size w v → Calls Tryd.prog 27 #[.slice ob.bp ob.B.length ob.bc] v fun e w' => e = .returned (.bool (blkOk 0 (ob.B.map (·.1)))) ∧ Hid (Below v.heap.size v w')) := fun v hv => by
    have k := blocks_any v ob.bp ob.bc (ob.B.map fun x : Bb => x.1) (h.out.lo.below hv).b (fun b hb => by obtain ⟨x, hx, rfl⟩ := List.mem_map.1 hb; exact h.out.lo.ib x hx) (by rw [List.length_map]; exact h.out.lo.n.1)
    rw [List.length_map] at k
    exact k
  have hM : Hid (blkOk 0 (ob.B.map (·.1)) = true → ∀ v, Below w.heap.size w v → Calls Tryd.prog 28 #[.slice ob.bp ob.B.length ob.bc, .slice ob.mp ob.M.length ob.mc] v fun e w' => e = .returned (.bool (mrk (plB ob.B) ob.M)) ∧ Hid (Below v.heap.size v w')) := fun hb v hv => by
    have hl := h.out.lo.below hv
    refine marks_any v (T.out.below hv) ob.bp ob.bc ob.B ob.mp ob.mc ob.M hl.b (fun x hx => ?_) hl.m hl.im h.out.cm hl.n.1 hl.n.2.1
    obtain ⟨b1, b2, b3, b4⟩ := blk_bounds _ 0 (by decide) hb x.1 (List.mem_map_of_mem hx)
    exact ⟨(hl.g x hx).1, (hl.g x hx).2, h.out.cb x hx, b1, b2, b3, b4⟩
  have hL : Hid (∀ v, Below w.heap.size w v → Calls Tryd.prog 29 #[.slice ob.lp ob.L.length ob.lc] v fun e w' => e = .returned (.bool (labG [] ob.L)) ∧ Hid (Below v.heap.size v w')) := fun v hv => labels_any v (T.out.below hv) ob.lp ob.lc ob.L (h.out.lo.below hv).l (fun x hx => (h.out.lo.il x hx).1) h.out.lo.n.2.2
  obtain ⟨b1, hb1⟩ : ∃ b, blkOk 0 (ob.B.map fun x : Bb => x.1) = b := ⟨_, rfl⟩
  obtain ⟨b2, hb2⟩ : ∃ b, mrk (plB ob.B) ob.M = b := ⟨_, rfl⟩
  obtain ⟨b3, hb3⟩ : ∃ b, labG [] ob.L = b := ⟨_, rfl⟩
  have hR : Hid (chkO ob = if (b1 && (b2 && b3)) then 0 else 1) := by show _ = _; unfold chkO okO; rw [hb1, hb2, hb3]
  rw [hb1] at hB hM
  rw [hb2] at hM
  rw [hb3] at hL
  clear hb1 hb2 hb3
  cases b1
  · have fin : Hid (chkO ob = 1) := hR.out
    go_enter Tryd.func9, Tryd.ntmps9
    go_wp2_with (go_at_call 27; refine (hB.out _ K0.out.low).mono ?_; rintro e y1 ⟨rfl, H1⟩; have K1 : Hid (Fm w [(w.heap.size, oC ob, 26)] y1) := K0.out.below H1.out; clear H1)
    go_ret
    rw [fin.out]
    exact ⟨rfl, K1.out.low⟩
  · have hM2 : Hid (∀ v, Below w.heap.size w v → Calls Tryd.prog 28 #[.slice ob.bp ob.B.length ob.bc, .slice ob.mp ob.M.length ob.mc] v fun e w' => e = .returned (.bool b2) ∧ Hid (Below v.heap.size v w')) := hM.out rfl
    clear hM
    cases b2
    · have fin : Hid (chkO ob = 1) := hR.out
      go_enter Tryd.func9, Tryd.ntmps9
      go_wp2_with (first
        | (go_at_call 27; refine (hB.out _ K0.out.low).mono ?_; rintro e y1 ⟨rfl, H1⟩; have K1 : Hid (Fm w [(w.heap.size, oC ob, 26)] y1) := K0.out.below H1.out; clear H1 e0 e1 e2; obtain ⟨e0, e1, e2⟩ := hd.out _ K1.out)
        | (go_at_call 28; refine (hM2.out _ K1.out.low).mono ?_; rintro e y2 ⟨rfl, H2⟩; have K2 : Hid (Fm w [(w.heap.size, oC ob, 26)] y2) := K1.out.below H2.out; clear H2))
      go_ret
      rw [fin.out]
      exact ⟨rfl, K2.out.low⟩
    · cases b3
      all_goals
        go_enter Tryd.func9, Tryd.ntmps9
        go_wp2_with (first
          | (go_at_call 27; refine (hB.out _ K0.out.low).mono ?_; rintro e y1 ⟨rfl, H1⟩; have K1 : Hid (Fm w [(w.heap.size, oC ob, 26)] y1) := K0.out.below H1.out; clear H1 e0 e1 e2; obtain ⟨e0, e1, e2⟩ := hd.out _ K1.out)
          | (go_at_call 28; refine (hM2.out _ K1.out.low).mono ?_; rintro e y2 ⟨rfl, H2⟩; have K2 : Hid (Fm w [(w.heap.size, oC ob, 26)] y2) := K1.out.below H2.out; clear H2 e0 e1 e2; obtain ⟨e0, e1, e2⟩ := hd.out _ K2.out)
          | (go_at_call 29; refine (hL.out _ K2.out.low).mono ?_; rintro e y3 ⟨rfl, H3⟩; have K3 : Hid (Fm w [(w.heap.size, oC ob, 26)] y3) := K2.out.below H3.out; clear H3))
        go_ret
        rw [hR.out]
        exact ⟨rfl, K3.out.low⟩
theorem rocheck_any (w : World) (ob : Oo) (h : Hid (Lco w ob)) : Calls Tryd.prog 14 #[.agg (oC ob)] w fun e w' => e = .returned (.int .i64 (chkO ob)) ∧ Hid (Below w.heap.size w w') := by
  have K0 : Hid (Fm w [(w.heap.size, oC ob, 26)] (w.alloc (.cells (oC ob) 26))) := Fm.one w _ _
  have hd : Hid (∀ y, Fm w [(w.heap.size, oC ob, 26)] y → y.cell? ⟨w.heap.size, 2, none⟩ = some (.slice ob.lp ob.L.length ob.lc)) := fun y hy => (hy.bx 0 _ _ _ rfl).c 2 _ rfl
  have hB : Hid (∀ v, Below w.heap.size w v → Calls Tryd.prog 31 #[.agg (oC ob)] v fun e w' => e = .returned (.bool (blkOk 0 (ob.B.map (·.1)))) ∧ Hid (Below v.heap.size v w')) := fun v hv => rblocks_any v ob (h.out.lo.below hv)
  have hM : Hid (blkOk 0 (ob.B.map (·.1)) = true → ∀ v, Below w.heap.size w v → Calls Tryd.prog 32 #[.agg (oC ob)] v fun e w' => e = .returned (.bool (mrk (plB ob.B) ob.M)) ∧ Hid (Below v.heap.size v w')) := fun hb v hv => by
    refine rmarks_any v ob (h.out.lo.below hv) (fun x hx => ?_)
    obtain ⟨b1, b2, b3, b4⟩ := blk_bounds _ 0 (by decide) hb x.1 (List.mem_map_of_mem hx)
    exact ⟨h.out.cb x hx, b1, b2, b3, b4⟩
  have hL : Hid (∀ v, Below w.heap.size w v → Calls Tryd.prog 33 #[.slice ob.lp ob.L.length ob.lc] v fun e w' => e = .returned (.bool (labG [] ob.L)) ∧ Hid (Below v.heap.size v w')) := fun v hv => rlabels_any v ob.lp ob.lc ob.L (h.out.lo.below hv).l (fun x hx => (h.out.lo.il x hx).1) h.out.lo.n.2.2
  obtain ⟨b1, hb1⟩ : ∃ b, blkOk 0 (ob.B.map fun x : Bb => x.1) = b := ⟨_, rfl⟩
  obtain ⟨b2, hb2⟩ : ∃ b, mrk (plB ob.B) ob.M = b := ⟨_, rfl⟩
  obtain ⟨b3, hb3⟩ : ∃ b, labG [] ob.L = b := ⟨_, rfl⟩
  have hR : Hid (chkO ob = if (b1 && (b2 && b3)) then 0 else 1) := by show _ = _; unfold chkO okO; rw [hb1, hb2, hb3]
  rw [hb1] at hB hM
  rw [hb2] at hM
  rw [hb3] at hL
  clear hb1 hb2 hb3
  cases b1
  · have fin : Hid (chkO ob = 1) := hR.out
    go_enter Tryd.func14, Tryd.ntmps14
    go_wp2_with (first
      | ((with_reducible refine at_load rtO w.heap.size (oC ob) ?_ ?_ (.tmp 1) ?_ ?_ ?_ ?_); exact K0.out.bx 0 _ _ _ rfl; rfl; rfl; rfl; rfl)
      | (go_at_call 31; refine (hB.out _ K0.out.low).mono ?_; rintro e y1 ⟨rfl, H1⟩; have K1 : Hid (Fm w [(w.heap.size, oC ob, 26)] y1) := K0.out.below H1.out; clear H1))
    go_ret
    rw [fin.out]
    exact ⟨rfl, K1.out.low⟩
  · have hM2 : Hid (∀ v, Below w.heap.size w v → Calls Tryd.prog 32 #[.agg (oC ob)] v fun e w' => e = .returned (.bool b2) ∧ Hid (Below v.heap.size v w')) := hM.out rfl
    clear hM
    cases b2
    · have fin : Hid (chkO ob = 1) := hR.out
      go_enter Tryd.func14, Tryd.ntmps14
      go_wp2_with (first
        | ((with_reducible refine at_load rtO w.heap.size (oC ob) ?_ ?_ (.tmp 1) ?_ ?_ ?_ ?_); (first | exact K1.out.bx 0 _ _ _ rfl | exact K0.out.bx 0 _ _ _ rfl); rfl; (first | rfl | kernel_rfl); rfl; rfl)
        | (go_at_call 31; refine (hB.out _ K0.out.low).mono ?_; rintro e y1 ⟨rfl, H1⟩; have K1 : Hid (Fm w [(w.heap.size, oC ob, 26)] y1) := K0.out.below H1.out; clear H1)
        | (go_at_call 32; refine (hM2.out _ K1.out.low).mono ?_; rintro e y2 ⟨rfl, H2⟩; have K2 : Hid (Fm w [(w.heap.size, oC ob, 26)] y2) := K1.out.below H2.out; clear H2))
      go_ret
      rw [fin.out]
      exact ⟨rfl, K2.out.low⟩
    · cases b3
      all_goals
        go_enter Tryd.func14, Tryd.ntmps14
        go_wp2_with (first
          | ((with_reducible refine at_load rtO w.heap.size (oC ob) ?_ ?_ (.tmp 1) ?_ ?_ ?_ ?_); (first | exact K1.out.bx 0 _ _ _ rfl | exact K0.out.bx 0 _ _ _ rfl); rfl; (first | rfl | kernel_rfl); rfl; rfl)
          | (go_at_call 31; refine (hB.out _ K0.out.low).mono ?_; rintro e y1 ⟨rfl, H1⟩; have K1 : Hid (Fm w [(w.heap.size, oC ob, 26)] y1) := K0.out.below H1.out; clear H1)
          | (go_at_call 32; refine (hM2.out _ K1.out.low).mono ?_; rintro e y2 ⟨rfl, H2⟩; have K2 : Hid (Fm w [(w.heap.size, oC ob, 26)] y2) := K1.out.below H2.out; clear H2; have e2 := hd.out _ K2.out)
          | (go_at_call 33; refine (hL.out _ K2.out.low).mono ?_; rintro e y3 ⟨rfl, H3⟩; have K3 : Hid (Fm w [(w.heap.size, oC ob, 26)] y3) := K2.out.below H3.out; clear H3))
        go_ret
        rw [hR.out]
        exact ⟨rfl, K3.out.low⟩
end Go.Proofs.YtkpfhnogpcigaaaDoorR
