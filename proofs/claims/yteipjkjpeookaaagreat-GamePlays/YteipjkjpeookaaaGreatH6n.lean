/- The document's own: Next. -/
import Derived.Test.YteipjkjpeookaaaGreatH6d
import Derived.Test.YteipjkjpeookaaaGreatH6c
namespace Go.Proofs.YteipjkjpeookaaaGreat
open Go Go.RowKit Go.Shelf
set_option linter.unusedVariables false
set_option maxHeartbeats 1000000
set_option maxRecDepth 20000

theorem oz_one : (#[.int .u8 0, .int .u8 0, .int .u8 0, .int .u8 0, .int .u8 0, .int .u16 0] : Array Value).all (·.oneCell') = true := by simp [Value.oneCell']
theorem rnext_bad (w : World) (C : Array Value) (g : Gm) (hg : Hid (GL w C g)) (hm : Hid (g.may = false)) :
    Calls Tryz.prog 30 #[.agg C] w fun e w' => e = .returned (.tuple #[.agg (o6 od0), .int .u8 0]) ∧ Below w.heap.size w w' := by
  have gC : Hid (C.size = 23) := hg.out.size.1
  obtain ⟨OZ, hOZ⟩ : ∃ x : Array Value, Hid (x = #[.int .u8 0, .int .u8 0, .int .u8 0, .int .u8 0, .int .u8 0, .int .u16 0]) := ⟨(#[.int .u8 0, .int .u8 0, .int .u8 0, .int .u8 0, .int .u8 0, .int .u16 0] : Array Value), (rfl : (#[.int .u8 0, .int .u8 0, .int .u8 0, .int .u8 0, .int .u8 0, .int .u16 0] : Array Value) = #[.int .u8 0, .int .u8 0, .int .u8 0, .int .u8 0, .int .u8 0, .int .u16 0])⟩
  have hOZ' : Hid (OZ.size = 6) := by show _ = _; rw [hOZ.out]; rfl
  go_enter Tryz.func30, Tryz.ntmps30
  go_wp2_with (first
    | (go_at_call 14; refine (rcheck_gl y0 C g (hg.out.below K0.out.low)).mono ?_; rintro e y1 ⟨rfl, H⟩; have K1 : Hid (Fm w [(w.heap.size, C, 27), (w.heap.size + 1, OZ, 60)] y1) := K0.out.below H; rw [hm.out]; clear H)
    | ((with_reducible refine at_st rtO (w.heap.size + 1) OZ #[.int .u8 0, .int .u8 0, .int .u8 0, .int .u8 0, .int .u8 0, .int .u16 0] ?_ ?_ ?_ ?_ (.tmp 2) (.tmp 11) ?_ ?_ ?_ ?_ ?_); exact K1.out.bx 1 _ _ _ rfl; exact hOZ'.out; rfl; exact oz_one; rfl; rfl; rfl; rfl; intro yE HE; have KE : Hid (Fm w [(w.heap.size, C, 27), (w.heap.size + 1, #[.int .u8 0, .int .u8 0, .int .u8 0, .int .u8 0, .int .u8 0, .int .u16 0], 60)] yE) := K1.out.put 1 _ _ _ _ rfl HE.out)
    | ((with_reducible refine at_bu #[] [] #[.int .u8 0, .int .u8 0, .int .u8 0, .int .u8 0, .int .u8 0, .int .u16 0] ?_ ?_ ?_ builtO0 ?_); kernel_rfl; rfl; rfl)
    | ((with_reducible refine gen_world ((w.alloc (.cells C 27)).alloc (.cells #[.int .u8 0, .int .u8 0, .int .u8 0, .int .u8 0, .int .u8 0, .int .u16 0] 60)) (Fm w [(w.heap.size, C, 27), (w.heap.size + 1, OZ, 60)]) ?_ ?_); (rw [hOZ.out]; exact Fm.two w _ _ _ _); intro y0 K0)
    | ((with_reducible refine at_load rtG w.heap.size C ?_ ?_ (.tmp 1) ?_ ?_ ?_ ?_); exact K0.out.bx 0 _ _ _ rfl; exact gC.out; kernel_rfl; rfl; rfl))
  exact ret_two rtO rfl rfl rfl (KE.out.bx 1 _ _ _ rfl) rfl rfl ⟨rfl, KE.out.low⟩
theorem rnext_outa (w : World) (C : Array Value) (g : Gm) (hg : Hid (GL w C g)) (hm : Hid (g.may = true)) (h1 : inM g.pc = false) :
    Calls Tryz.prog 30 #[.agg C] w fun e w' => e = .returned (.tuple #[.agg (o6 od0), .int .u8 7]) ∧ Below w.heap.size w w' := by
  have gC : Hid (C.size = 23) := hg.out.size.1
  obtain ⟨OZ, hOZ⟩ : ∃ x : Array Value, Hid (x = #[.int .u8 0, .int .u8 0, .int .u8 0, .int .u8 0, .int .u8 0, .int .u16 0]) := ⟨(#[.int .u8 0, .int .u8 0, .int .u8 0, .int .u8 0, .int .u8 0, .int .u16 0] : Array Value), (rfl : (#[.int .u8 0, .int .u8 0, .int .u8 0, .int .u8 0, .int .u8 0, .int .u16 0] : Array Value) = #[.int .u8 0, .int .u8 0, .int .u8 0, .int .u8 0, .int .u8 0, .int .u16 0])⟩
  have hOZ' : Hid (OZ.size = 6) := by show _ = _; rw [hOZ.out]; rfl
  have hpc := hg.out.ok.pc
  have fC : Hid (C[17]? = some (.int .u16 (g.pc : Int)) ∧ True) := ⟨by obtain ⟨⟨sS, sP, sM, cS, cP, cM, e, _⟩, _⟩ := hg.out; rw [e]; rfl, trivial⟩
  obtain ⟨p, hp⟩ : ∃ x, g.pc = x := ⟨_, rfl⟩
  rw [hp] at hpc fC h1
  have i0 : (p : Int) < 65536 := by omega
  have im1 := fun y => inmem_any y p (by omega)
  rw [h1] at im1
  replace im1 : Hid (∀ y, Calls Tryz.prog 65 #[.int .i64 (p : Int)] y fun e w' => e = .returned (.bool false) ∧ w' = y) := im1
  clear hpc h1 hp
  go_enter Tryz.func30, Tryz.ntmps30
  go_wp2_with (first
    | (go_at_call 65; (with_reducible refine (im1.out y1).mono ?_); rintro e yp ⟨rfl, ep⟩; replace ep := ep.symm; subst ep)
    | (go_at_call 14; refine (rcheck_gl y0 C g (hg.out.below K0.out.low)).mono ?_; rintro e y1 ⟨rfl, H⟩; have K1 : Hid (Fm w [(w.heap.size, C, 27), (w.heap.size + 1, OZ, 60)] y1) := K0.out.below H; rw [hm.out]; clear H; have c17 := (K1.out.bx 0 _ _ _ rfl).c 17 _ fC.out.1)
    | ((with_reducible refine at_st rtO (w.heap.size + 1) OZ #[.int .u8 0, .int .u8 0, .int .u8 0, .int .u8 0, .int .u8 0, .int .u16 0] ?_ ?_ ?_ ?_ (.tmp 2) (.tmp 24) ?_ ?_ ?_ ?_ ?_); exact K1.out.bx 1 _ _ _ rfl; exact hOZ'.out; rfl; exact oz_one; rfl; rfl; rfl; rfl; intro yE HE; have KE : Hid (Fm w [(w.heap.size, C, 27), (w.heap.size + 1, #[.int .u8 0, .int .u8 0, .int .u8 0, .int .u8 0, .int .u8 0, .int .u16 0], 60)] yE) := K1.out.put 1 _ _ _ _ rfl HE.out)
    | ((with_reducible refine at_bu #[] [] #[.int .u8 0, .int .u8 0, .int .u8 0, .int .u8 0, .int .u8 0, .int .u16 0] ?_ ?_ ?_ builtO0 ?_); kernel_rfl; rfl; rfl)
    | ((with_reducible refine gen_world ((w.alloc (.cells C 27)).alloc (.cells #[.int .u8 0, .int .u8 0, .int .u8 0, .int .u8 0, .int .u8 0, .int .u16 0] 60)) (Fm w [(w.heap.size, C, 27), (w.heap.size + 1, OZ, 60)]) ?_ ?_); (rw [hOZ.out]; exact Fm.two w _ _ _ _); intro y0 K0)
    | ((with_reducible refine at_load rtG w.heap.size C ?_ ?_ (.tmp 1) ?_ ?_ ?_ ?_); exact K0.out.bx 0 _ _ _ rfl; exact gC.out; kernel_rfl; rfl; rfl))
  exact ret_two rtO rfl rfl rfl (KE.out.bx 1 _ _ _ rfl) rfl rfl ⟨rfl, KE.out.low⟩
theorem rnext_outb (w : World) (C : Array Value) (g : Gm) (hg : Hid (GL w C g)) (hm : Hid (g.may = true)) (h1 : inM g.pc = true) (h2 : inM (g.pc + 1) = false) :
    Calls Tryz.prog 30 #[.agg C] w fun e w' => e = .returned (.tuple #[.agg (o6 od0), .int .u8 7]) ∧ Below w.heap.size w w' := by
  have gC : Hid (C.size = 23) := hg.out.size.1
  obtain ⟨OZ, hOZ⟩ : ∃ x : Array Value, Hid (x = #[.int .u8 0, .int .u8 0, .int .u8 0, .int .u8 0, .int .u8 0, .int .u16 0]) := ⟨(#[.int .u8 0, .int .u8 0, .int .u8 0, .int .u8 0, .int .u8 0, .int .u16 0] : Array Value), (rfl : (#[.int .u8 0, .int .u8 0, .int .u8 0, .int .u8 0, .int .u8 0, .int .u16 0] : Array Value) = #[.int .u8 0, .int .u8 0, .int .u8 0, .int .u8 0, .int .u8 0, .int .u16 0])⟩
  have hOZ' : Hid (OZ.size = 6) := by show _ = _; rw [hOZ.out]; rfl
  have hpc := hg.out.ok.pc
  have fC : Hid (C[17]? = some (.int .u16 (g.pc : Int)) ∧ True) := ⟨by obtain ⟨⟨sS, sP, sM, cS, cP, cM, e, _⟩, _⟩ := hg.out; rw [e]; rfl, trivial⟩
  obtain ⟨p, hp⟩ : ∃ x, g.pc = x := ⟨_, rfl⟩
  rw [hp] at hpc fC h1 h2
  have i0 : (p : Int) < 65536 := by omega
  have im1 := fun y => inmem_any y p (by omega)
  rw [h1] at im1
  obtain ⟨p1, hp1⟩ : ∃ x, p + 1 = x := ⟨_, rfl⟩
  have e1 : (p : Int) + 1 = (p1 : Int) := by omega
  have im2 := fun y => inmem_any y p1 (by omega)
  rw [← hp1, h2, hp1] at im2
  replace im1 : Hid (∀ y, Calls Tryz.prog 65 #[.int .i64 (p : Int)] y fun e w' => e = .returned (.bool true) ∧ w' = y) := im1
  replace im2 : Hid (∀ y, Calls Tryz.prog 65 #[.int .i64 (p1 : Int)] y fun e w' => e = .returned (.bool false) ∧ w' = y) := im2
  clear hp1 h2
  clear hpc h1 hp
  go_enter Tryz.func30, Tryz.ntmps30
  go_wp2_with (first
    | (go_at_call 65; (with_reducible refine (im2.out y1).mono ?_); rintro e yp ⟨rfl, ep⟩; replace ep := ep.symm; subst ep)
    | (go_at_call 65; (with_reducible refine (im1.out y1).mono ?_); rintro e yp ⟨rfl, ep⟩; replace ep := ep.symm; subst ep)
    | (go_at_call 14; refine (rcheck_gl y0 C g (hg.out.below K0.out.low)).mono ?_; rintro e y1 ⟨rfl, H⟩; have K1 : Hid (Fm w [(w.heap.size, C, 27), (w.heap.size + 1, OZ, 60)] y1) := K0.out.below H; rw [hm.out]; clear H; have c17 := (K1.out.bx 0 _ _ _ rfl).c 17 _ fC.out.1)
    | ((with_reducible refine at_st rtO (w.heap.size + 1) OZ #[.int .u8 0, .int .u8 0, .int .u8 0, .int .u8 0, .int .u8 0, .int .u16 0] ?_ ?_ ?_ ?_ (.tmp 2) (.tmp 24) ?_ ?_ ?_ ?_ ?_); exact K1.out.bx 1 _ _ _ rfl; exact hOZ'.out; rfl; exact oz_one; rfl; rfl; rfl; rfl; intro yE HE; have KE : Hid (Fm w [(w.heap.size, C, 27), (w.heap.size + 1, #[.int .u8 0, .int .u8 0, .int .u8 0, .int .u8 0, .int .u8 0, .int .u16 0], 60)] yE) := K1.out.put 1 _ _ _ _ rfl HE.out)
    | ((with_reducible refine at_bu #[] [] #[.int .u8 0, .int .u8 0, .int .u8 0, .int .u8 0, .int .u8 0, .int .u16 0] ?_ ?_ ?_ builtO0 ?_); kernel_rfl; rfl; rfl)
    | ((with_reducible refine gen_world ((w.alloc (.cells C 27)).alloc (.cells #[.int .u8 0, .int .u8 0, .int .u8 0, .int .u8 0, .int .u8 0, .int .u16 0] 60)) (Fm w [(w.heap.size, C, 27), (w.heap.size + 1, OZ, 60)]) ?_ ?_); (rw [hOZ.out]; exact Fm.two w _ _ _ _); intro y0 K0)
    | ((with_reducible refine at_load rtG w.heap.size C ?_ ?_ (.tmp 1) ?_ ?_ ?_ ?_); exact K0.out.bx 0 _ _ _ rfl; exact gC.out; kernel_rfl; rfl; rfl))
  exact ret_two rtO rfl rfl rfl (KE.out.bx 1 _ _ _ rfl) rfl rfl ⟨rfl, KE.out.low⟩
theorem rnext_none (w : World) (C : Array Value) (g : Gm) (hg : Hid (GL w C g)) (hm : Hid (g.may = true)) (hf1 : inM g.pc = true) (hf2 : inM (g.pc + 1) = true) (WD : Nat) (OD : Od) (hWD : wordG g = WD) (hOD : decO WD = OD) (hdb : Hid (decB WD = false)) :
    Calls Tryz.prog 30 #[.agg C] w fun e w' => e = .returned (.tuple #[.agg (o6 od0), .int .u8 4]) ∧ Below w.heap.size w w' := by
  have gC : Hid (C.size = 23) := hg.out.size.1
  obtain ⟨OZ, hOZ⟩ : ∃ x : Array Value, Hid (x = #[.int .u8 0, .int .u8 0, .int .u8 0, .int .u8 0, .int .u8 0, .int .u16 0]) := ⟨(#[.int .u8 0, .int .u8 0, .int .u8 0, .int .u8 0, .int .u8 0, .int .u16 0] : Array Value), (rfl : (#[.int .u8 0, .int .u8 0, .int .u8 0, .int .u8 0, .int .u8 0, .int .u16 0] : Array Value) = #[.int .u8 0, .int .u8 0, .int .u8 0, .int .u8 0, .int .u8 0, .int .u16 0])⟩
  have hOZ' : Hid (OZ.size = 6) := by show _ = _; rw [hOZ.out]; rfl
  have hpc := hg.out.ok.pc
  have hml := (may_iff.1 hm.out).2.1
  have hin : 512 ≤ g.pc ∧ g.pc + 1 < 3744 := by unfold inM at hf1 hf2; simp at hf1 hf2; omega
  obtain ⟨⟨sS, sP, sM, cS, cP, cM, hC, h1, h2, h3⟩, ok⟩ := hg.out
  obtain ⟨gM, oM, rfl⟩ := lb_some h3 (by omega)
  have fC : Hid (C[17]? = some (.int .u16 (g.pc : Int)) ∧ C[22]? = some (.slice (some ⟨gM, oM, none⟩) 3232 cM)) := by rw [hC, hml]; exact ⟨rfl, rfl⟩
  obtain ⟨at_, hat⟩ : ∃ x, g.pc - 512 = x := ⟨_, rfl⟩
  obtain ⟨at1, hat1⟩ : ∃ x, at_ + 1 = x := ⟨_, rfl⟩
  have ca := lb_at h3 at_ (by omega)
  have cb := lb_at h3 at1 (by omega)
  obtain ⟨Hh, hH⟩ : ∃ x, (g.me.getD at_ 0).toNat = x := ⟨_, rfl⟩
  obtain ⟨Ll, hL⟩ : ∃ x, (g.me.getD at1 0).toNat = x := ⟨_, rfl⟩
  have lH := (g.me.getD at_ 0).toNat_lt
  have lL := (g.me.getD at1 0).toNat_lt
  rw [hH] at ca lH
  rw [hL] at cb lL
  have eWD : WD = Hh * 256 + Ll := by rw [← hWD]; unfold wordG; rw [show g.pc + 1 - 512 = at1 by omega, hat, hH, hL]
  have hdec := fun y => rdec_any y WD (by omega)
  rw [hdb.out, hOD] at hdec
  replace hdec : Hid (∀ y, Calls Tryz.prog 66 #[.int .u16 (WD : Int)] y fun e w' => e = .returned (.tuple #[.agg (o6 OD), .bool false]) ∧ Below y.heap.size y w') := hdec
  obtain ⟨HH, hHH⟩ : ∃ x, Hh * 256 = x := ⟨_, rfl⟩
  obtain ⟨p, hp⟩ : ∃ x, g.pc = x := ⟨_, rfl⟩
  obtain ⟨p1, hp1⟩ : ∃ x, p + 1 = x := ⟨_, rfl⟩
  rw [hp] at fC hf1 hf2
  have im1 := fun y => inmem_any y p (by omega)
  rw [hf1] at im1
  have im2 := fun y => inmem_any y p1 (by omega)
  rw [← hp1, hf2, hp1] at im2
  replace im1 : Hid (∀ y, Calls Tryz.prog 65 #[.int .i64 (p : Int)] y fun e w' => e = .returned (.bool true) ∧ w' = y) := im1
  replace im2 : Hid (∀ y, Calls Tryz.prog 65 #[.int .i64 (p1 : Int)] y fun e w' => e = .returned (.bool true) ∧ w' = y) := im2
  have ia1 := fun v => idxB .i64 gM oM 3232 cM at_ v (by omega)
  have ia2 := fun v => idxB .i64 gM oM 3232 cM at1 v (by omega)
  have e1 : (p : Int) + 1 = (p1 : Int) := by omega
  have e2 : (p : Int) - 512 = (at_ : Int) := by omega
  have e3 : (p1 : Int) - 512 = (at1 : Int) := by omega
  have e4 : (Hh : Int) * 256 = (HH : Int) := by omega
  have e5 : (HH : Int) + (Ll : Int) = (WD : Int) := by omega
  have i0 : (p : Int) < 65536 := by omega
  have i00 : (p1 : Int) < 65536 := by omega
  have i1 : (at_ : Int) ≤ 3231 := by omega
  have i2 : (at1 : Int) ≤ 3231 := by omega
  have i4 : (Hh : Int) < 256 := by omega
  have i5 : (Ll : Int) < 256 := by omega
  have i6 : (HH : Int) < 65536 := by omega
  have i7 : (WD : Int) < 65536 := by omega
  have cc0 : Hid (w.cell? ⟨gM, oM + at_, none⟩ = some (.int .u8 (Hh : Int)) ∧ w.cell? ⟨gM, oM + at1, none⟩ = some (.int .u8 (Ll : Int)) ∧ gM < w.heap.size) := ⟨ca, cb, World.block_lt_of_cell? w _ ca⟩
  obtain ⟨OO, hOO⟩ : ∃ x, Hid (x = o6 OD) := ⟨_, (rfl : o6 OD = _)⟩
  rw [← hOO.out] at hdec
  have hOO' : Hid (OO.size = 6 ∧ OO.all (·.oneCell') = true ∧ OO[0]? = some (.int .u8 (OD.op : Int))) := by rw [hOO.out]; exact ⟨rfl, o6_one _, rfl⟩
  clear hf1 hf2 hC h1 h2 h3 ok hml hat hat1 ca cb hH hL lH lL hWD eWD hOD hHH hp hp1 hin hpc
  go_enter Tryz.func30, Tryz.ntmps30
  go_upto_region 6 with (first
    | (go_at_call 65; (with_reducible refine (im2.out y1).mono ?_); rintro e yp ⟨rfl, ep⟩; replace ep := ep.symm; subst ep)
    | (go_at_call 65; (with_reducible refine (im1.out y1).mono ?_); rintro e yp ⟨rfl, ep⟩; replace ep := ep.symm; subst ep)
    | (go_at_call 14; refine (rcheck_gl y0 C g (hg.out.below K0.out.low)).mono ?_; rintro e y1 ⟨rfl, H⟩; have K1 : Hid (Fm w [(w.heap.size, C, 27), (w.heap.size + 1, OZ, 60)] y1) := K0.out.below H; rw [hm.out]; clear H; have c17 := (K1.out.bx 0 _ _ _ rfl).c 17 _ fC.out.1)
    | ((with_reducible refine gen_world ((w.alloc (.cells C 27)).alloc (.cells #[.int .u8 0, .int .u8 0, .int .u8 0, .int .u8 0, .int .u8 0, .int .u16 0] 60)) (Fm w [(w.heap.size, C, 27), (w.heap.size + 1, OZ, 60)]) ?_ ?_); (rw [hOZ.out]; exact Fm.two w _ _ _ _); intro y0 K0)
    | ((with_reducible refine at_load rtG w.heap.size C ?_ ?_ (.tmp 1) ?_ ?_ ?_ ?_); exact K0.out.bx 0 _ _ _ rfl; exact gC.out; kernel_rfl; rfl; rfl))
  have d1 := (K1.out.low.cell (p := ⟨gM, oM + at_, none⟩) cc0.out.2.2).trans cc0.out.1
  have d2 := (K1.out.low.cell (p := ⟨gM, oM + at1, none⟩) cc0.out.2.2).trans cc0.out.2.1
  have c22 := (K1.out.bx 0 _ _ _ rfl).c 22 _ fC.out.2
  have K1n : Hid (∀ q, Fm w [(w.heap.size, C, 27), (w.heap.size + 1, OZ, 60)] (y1.drewN q)) := fun q => K1.out.below (below_drewN (Below.refl _ _))
  go_quiet (fail)
  rename_i nq _
  have K2 : Hid (Fm w [(w.heap.size, C, 27), (w.heap.size + 1, OZ, 60)] (y1.drewN nq)) := K1n.out nq
  generalize y1.drewN nq = y2 at K2 ⊢
  clear d1 d2 c22 c17 K1 K1n
  go_wp2_with (first
    | ((with_reducible refine at_st rtO (w.heap.size + 1) OZ #[.int .u8 0, .int .u8 0, .int .u8 0, .int .u8 0, .int .u8 0, .int .u16 0] ?_ ?_ ?_ ?_ (.tmp 2) (.tmp 49) ?_ ?_ ?_ ?_ ?_); exact K5.out.bx 1 _ _ _ rfl; exact hOZ'.out; rfl; exact oz_one; rfl; rfl; rfl; rfl; intro yE HE; have KE : Hid (Fm w [(w.heap.size, C, 27), (w.heap.size + 1, #[.int .u8 0, .int .u8 0, .int .u8 0, .int .u8 0, .int .u8 0, .int .u16 0], 60), (y3.heap.size, OO, 60)] yE) := K5.out.put 1 _ _ _ _ rfl HE.out)
    | ((with_reducible refine at_bu #[] [] #[.int .u8 0, .int .u8 0, .int .u8 0, .int .u8 0, .int .u8 0, .int .u16 0] ?_ ?_ ?_ builtO0 ?_); kernel_rfl; rfl; rfl)
    | ((with_reducible refine at_st rtO y3.heap.size #[.int .u8 0, .int .u8 0, .int .u8 0, .int .u8 0, .int .u8 0, .int .u16 0] OO ?_ ?_ ?_ ?_ (.tmp 6) (.tmp 45) ?_ ?_ ?_ ?_ ?_); exact K4.out.bx 2 _ _ _ rfl; rfl; exact hOO'.out.1; exact hOO'.out.2.1; rfl; rfl; rfl; rfl; intro y5 H5; have K5 : Hid (Fm w [(w.heap.size, C, 27), (w.heap.size + 1, OZ, 60), (y3.heap.size, OO, 60)] y5) := K4.out.put 2 _ _ _ _ rfl H5.out; have cop := (K5.out.bx 2 _ _ _ rfl).c 0 _ hOO'.out.2.2; clear H5)
    | ((with_reducible refine gen_world (y3.alloc (.cells #[.int .u8 0, .int .u8 0, .int .u8 0, .int .u8 0, .int .u8 0, .int .u16 0] 60)) (Fm w [(w.heap.size, C, 27), (w.heap.size + 1, OZ, 60), (y3.heap.size, #[.int .u8 0, .int .u8 0, .int .u8 0, .int .u8 0, .int .u8 0, .int .u16 0], 60)]) ?_ ?_); exact K3.out.new _ _; intro y4 K4)
    | (go_at_call 66; refine (hdec.out y2).mono ?_; rintro e y3 ⟨rfl, H⟩; have K3 : Hid (Fm w [(w.heap.size, C, 27), (w.heap.size + 1, OZ, 60)] y3) := K2.out.below H; clear H))
  exact ret_two rtO rfl rfl rfl (KE.out.bx 1 _ _ _ rfl) rfl rfl ⟨rfl, KE.out.low⟩
theorem rnext_machine (w : World) (C : Array Value) (g : Gm) (hg : Hid (GL w C g)) (hm : Hid (g.may = true)) (hf1 : inM g.pc = true) (hf2 : inM (g.pc + 1) = true) (WD : Nat) (OD : Od) (hWD : wordG g = WD) (hOD : decO WD = OD) (hdb : Hid (decB WD = true)) (hop : Hid (OD.op = 1)) :
    Calls Tryz.prog 30 #[.agg C] w fun e w' => e = .returned (.tuple #[.agg (o6 OD), .int .u8 3]) ∧ Below w.heap.size w w' := by
  have gC : Hid (C.size = 23) := hg.out.size.1
  obtain ⟨OZ, hOZ⟩ : ∃ x : Array Value, Hid (x = #[.int .u8 0, .int .u8 0, .int .u8 0, .int .u8 0, .int .u8 0, .int .u16 0]) := ⟨(#[.int .u8 0, .int .u8 0, .int .u8 0, .int .u8 0, .int .u8 0, .int .u16 0] : Array Value), (rfl : (#[.int .u8 0, .int .u8 0, .int .u8 0, .int .u8 0, .int .u8 0, .int .u16 0] : Array Value) = #[.int .u8 0, .int .u8 0, .int .u8 0, .int .u8 0, .int .u8 0, .int .u16 0])⟩
  have hOZ' : Hid (OZ.size = 6) := by show _ = _; rw [hOZ.out]; rfl
  have hpc := hg.out.ok.pc
  have hml := (may_iff.1 hm.out).2.1
  have hin : 512 ≤ g.pc ∧ g.pc + 1 < 3744 := by unfold inM at hf1 hf2; simp at hf1 hf2; omega
  obtain ⟨⟨sS, sP, sM, cS, cP, cM, hC, h1, h2, h3⟩, ok⟩ := hg.out
  obtain ⟨gM, oM, rfl⟩ := lb_some h3 (by omega)
  have fC : Hid (C[17]? = some (.int .u16 (g.pc : Int)) ∧ C[22]? = some (.slice (some ⟨gM, oM, none⟩) 3232 cM)) := by rw [hC, hml]; exact ⟨rfl, rfl⟩
  obtain ⟨at_, hat⟩ : ∃ x, g.pc - 512 = x := ⟨_, rfl⟩
  obtain ⟨at1, hat1⟩ : ∃ x, at_ + 1 = x := ⟨_, rfl⟩
  have ca := lb_at h3 at_ (by omega)
  have cb := lb_at h3 at1 (by omega)
  obtain ⟨Hh, hH⟩ : ∃ x, (g.me.getD at_ 0).toNat = x := ⟨_, rfl⟩
  obtain ⟨Ll, hL⟩ : ∃ x, (g.me.getD at1 0).toNat = x := ⟨_, rfl⟩
  have lH := (g.me.getD at_ 0).toNat_lt
  have lL := (g.me.getD at1 0).toNat_lt
  rw [hH] at ca lH
  rw [hL] at cb lL
  have eWD : WD = Hh * 256 + Ll := by rw [← hWD]; unfold wordG; rw [show g.pc + 1 - 512 = at1 by omega, hat, hH, hL]
  have hdec := fun y => rdec_any y WD (by omega)
  rw [hdb.out, hOD] at hdec
  replace hdec : Hid (∀ y, Calls Tryz.prog 66 #[.int .u16 (WD : Int)] y fun e w' => e = .returned (.tuple #[.agg (o6 OD), .bool true]) ∧ Below y.heap.size y w') := hdec
  obtain ⟨HH, hHH⟩ : ∃ x, Hh * 256 = x := ⟨_, rfl⟩
  obtain ⟨p, hp⟩ : ∃ x, g.pc = x := ⟨_, rfl⟩
  obtain ⟨p1, hp1⟩ : ∃ x, p + 1 = x := ⟨_, rfl⟩
  rw [hp] at fC hf1 hf2
  have im1 := fun y => inmem_any y p (by omega)
  rw [hf1] at im1
  have im2 := fun y => inmem_any y p1 (by omega)
  rw [← hp1, hf2, hp1] at im2
  replace im1 : Hid (∀ y, Calls Tryz.prog 65 #[.int .i64 (p : Int)] y fun e w' => e = .returned (.bool true) ∧ w' = y) := im1
  replace im2 : Hid (∀ y, Calls Tryz.prog 65 #[.int .i64 (p1 : Int)] y fun e w' => e = .returned (.bool true) ∧ w' = y) := im2
  have ia1 := fun v => idxB .i64 gM oM 3232 cM at_ v (by omega)
  have ia2 := fun v => idxB .i64 gM oM 3232 cM at1 v (by omega)
  have e1 : (p : Int) + 1 = (p1 : Int) := by omega
  have e2 : (p : Int) - 512 = (at_ : Int) := by omega
  have e3 : (p1 : Int) - 512 = (at1 : Int) := by omega
  have e4 : (Hh : Int) * 256 = (HH : Int) := by omega
  have e5 : (HH : Int) + (Ll : Int) = (WD : Int) := by omega
  have i0 : (p : Int) < 65536 := by omega
  have i00 : (p1 : Int) < 65536 := by omega
  have i1 : (at_ : Int) ≤ 3231 := by omega
  have i2 : (at1 : Int) ≤ 3231 := by omega
  have i4 : (Hh : Int) < 256 := by omega
  have i5 : (Ll : Int) < 256 := by omega
  have i6 : (HH : Int) < 65536 := by omega
  have i7 : (WD : Int) < 65536 := by omega
  have cc0 : Hid (w.cell? ⟨gM, oM + at_, none⟩ = some (.int .u8 (Hh : Int)) ∧ w.cell? ⟨gM, oM + at1, none⟩ = some (.int .u8 (Ll : Int)) ∧ gM < w.heap.size) := ⟨ca, cb, World.block_lt_of_cell? w _ ca⟩
  obtain ⟨OO, hOO⟩ : ∃ x, Hid (x = o6 OD) := ⟨_, (rfl : o6 OD = _)⟩
  rw [← hOO.out] at hdec
  have hOO' : Hid (OO.size = 6 ∧ OO.all (·.oneCell') = true ∧ OO[0]? = some (.int .u8 (OD.op : Int))) := by rw [hOO.out]; exact ⟨rfl, o6_one _, rfl⟩
  clear hf1 hf2 hC h1 h2 h3 ok hml hat hat1 ca cb hH hL lH lL hWD eWD hOD hHH hp hp1 hin hpc
  go_enter Tryz.func30, Tryz.ntmps30
  go_upto_region 6 with (first
    | (go_at_call 65; (with_reducible refine (im2.out y1).mono ?_); rintro e yp ⟨rfl, ep⟩; replace ep := ep.symm; subst ep)
    | (go_at_call 65; (with_reducible refine (im1.out y1).mono ?_); rintro e yp ⟨rfl, ep⟩; replace ep := ep.symm; subst ep)
    | (go_at_call 14; refine (rcheck_gl y0 C g (hg.out.below K0.out.low)).mono ?_; rintro e y1 ⟨rfl, H⟩; have K1 : Hid (Fm w [(w.heap.size, C, 27), (w.heap.size + 1, OZ, 60)] y1) := K0.out.below H; rw [hm.out]; clear H; have c17 := (K1.out.bx 0 _ _ _ rfl).c 17 _ fC.out.1)
    | ((with_reducible refine gen_world ((w.alloc (.cells C 27)).alloc (.cells #[.int .u8 0, .int .u8 0, .int .u8 0, .int .u8 0, .int .u8 0, .int .u16 0] 60)) (Fm w [(w.heap.size, C, 27), (w.heap.size + 1, OZ, 60)]) ?_ ?_); (rw [hOZ.out]; exact Fm.two w _ _ _ _); intro y0 K0)
    | ((with_reducible refine at_load rtG w.heap.size C ?_ ?_ (.tmp 1) ?_ ?_ ?_ ?_); exact K0.out.bx 0 _ _ _ rfl; exact gC.out; kernel_rfl; rfl; rfl))
  have d1 := (K1.out.low.cell (p := ⟨gM, oM + at_, none⟩) cc0.out.2.2).trans cc0.out.1
  have d2 := (K1.out.low.cell (p := ⟨gM, oM + at1, none⟩) cc0.out.2.2).trans cc0.out.2.1
  have c22 := (K1.out.bx 0 _ _ _ rfl).c 22 _ fC.out.2
  have K1n : Hid (∀ q, Fm w [(w.heap.size, C, 27), (w.heap.size + 1, OZ, 60)] (y1.drewN q)) := fun q => K1.out.below (below_drewN (Below.refl _ _))
  go_quiet (fail)
  rename_i nq _
  have K2 : Hid (Fm w [(w.heap.size, C, 27), (w.heap.size + 1, OZ, 60)] (y1.drewN nq)) := K1n.out nq
  generalize y1.drewN nq = y2 at K2 ⊢
  clear d1 d2 c22 c17 K1 K1n
  go_wp2_with (first
    | ((with_reducible refine at_st rtO (w.heap.size + 1) OZ OO ?_ ?_ ?_ ?_ (.tmp 2) (.tmp 53) ?_ ?_ ?_ ?_ ?_); exact K5.out.bx 1 _ _ _ rfl; exact hOZ'.out; exact hOO'.out.1; exact hOO'.out.2.1; rfl; rfl; rfl; rfl; intro yE HE; have KE : Hid (Fm w [(w.heap.size, C, 27), (w.heap.size + 1, OO, 60), (y3.heap.size, OO, 60)] yE) := K5.out.put 1 _ _ _ _ rfl HE.out)
    | ((with_reducible refine at_st rtO y3.heap.size #[.int .u8 0, .int .u8 0, .int .u8 0, .int .u8 0, .int .u8 0, .int .u16 0] OO ?_ ?_ ?_ ?_ (.tmp 6) (.tmp 45) ?_ ?_ ?_ ?_ ?_); exact K4.out.bx 2 _ _ _ rfl; rfl; exact hOO'.out.1; exact hOO'.out.2.1; rfl; rfl; rfl; rfl; intro y5 H5; have K5 : Hid (Fm w [(w.heap.size, C, 27), (w.heap.size + 1, OZ, 60), (y3.heap.size, OO, 60)] y5) := K4.out.put 2 _ _ _ _ rfl H5.out; have cop := (K5.out.bx 2 _ _ _ rfl).c 0 _ hOO'.out.2.2; (try rw [hop.out] at cop); clear H5)
    | ((with_reducible refine gen_world (y3.alloc (.cells #[.int .u8 0, .int .u8 0, .int .u8 0, .int .u8 0, .int .u8 0, .int .u16 0] 60)) (Fm w [(w.heap.size, C, 27), (w.heap.size + 1, OZ, 60), (y3.heap.size, #[.int .u8 0, .int .u8 0, .int .u8 0, .int .u8 0, .int .u8 0, .int .u16 0], 60)]) ?_ ?_); exact K3.out.new _ _; intro y4 K4)
    | (go_at_call 66; refine (hdec.out y2).mono ?_; rintro e y3 ⟨rfl, H⟩; have K3 : Hid (Fm w [(w.heap.size, C, 27), (w.heap.size + 1, OZ, 60)] y3) := K2.out.below H; clear H)
    | ((with_reducible refine at_load rtO y3.heap.size OO ?_ ?_ (.tmp 6) ?_ ?_ ?_ ?_); exact K5.out.bx 2 _ _ _ rfl; exact hOO'.out.1; kernel_rfl; rfl; rfl))
  exact ret_two rtO rfl rfl rfl (KE.out.bx 1 _ _ _ rfl) hOO'.out.1 rfl ⟨by rw [hOO.out]; rfl, KE.out.low⟩
theorem rnext_order (w : World) (C : Array Value) (g : Gm) (hg : Hid (GL w C g)) (hm : Hid (g.may = true)) (hf1 : inM g.pc = true) (hf2 : inM (g.pc + 1) = true) (WD : Nat) (OD : Od) (hWD : wordG g = WD) (hOD : decO WD = OD) (hdb : Hid (decB WD = true)) (op : Nat) (hop : Hid (OD.op = op)) (hne : op ≠ 1) :
    Calls Tryz.prog 30 #[.agg C] w fun e w' => e = .returned (.tuple #[.agg (o6 OD), .int .u8 1]) ∧ Below w.heap.size w w' := by
  have gC : Hid (C.size = 23) := hg.out.size.1
  obtain ⟨OZ, hOZ⟩ : ∃ x : Array Value, Hid (x = #[.int .u8 0, .int .u8 0, .int .u8 0, .int .u8 0, .int .u8 0, .int .u16 0]) := ⟨(#[.int .u8 0, .int .u8 0, .int .u8 0, .int .u8 0, .int .u8 0, .int .u16 0] : Array Value), (rfl : (#[.int .u8 0, .int .u8 0, .int .u8 0, .int .u8 0, .int .u8 0, .int .u16 0] : Array Value) = #[.int .u8 0, .int .u8 0, .int .u8 0, .int .u8 0, .int .u8 0, .int .u16 0])⟩
  have hOZ' : Hid (OZ.size = 6) := by show _ = _; rw [hOZ.out]; rfl
  have hpc := hg.out.ok.pc
  have hml := (may_iff.1 hm.out).2.1
  have hin : 512 ≤ g.pc ∧ g.pc + 1 < 3744 := by unfold inM at hf1 hf2; simp at hf1 hf2; omega
  obtain ⟨⟨sS, sP, sM, cS, cP, cM, hC, h1, h2, h3⟩, ok⟩ := hg.out
  obtain ⟨gM, oM, rfl⟩ := lb_some h3 (by omega)
  have fC : Hid (C[17]? = some (.int .u16 (g.pc : Int)) ∧ C[22]? = some (.slice (some ⟨gM, oM, none⟩) 3232 cM)) := by rw [hC, hml]; exact ⟨rfl, rfl⟩
  obtain ⟨at_, hat⟩ : ∃ x, g.pc - 512 = x := ⟨_, rfl⟩
  obtain ⟨at1, hat1⟩ : ∃ x, at_ + 1 = x := ⟨_, rfl⟩
  have ca := lb_at h3 at_ (by omega)
  have cb := lb_at h3 at1 (by omega)
  obtain ⟨Hh, hH⟩ : ∃ x, (g.me.getD at_ 0).toNat = x := ⟨_, rfl⟩
  obtain ⟨Ll, hL⟩ : ∃ x, (g.me.getD at1 0).toNat = x := ⟨_, rfl⟩
  have lH := (g.me.getD at_ 0).toNat_lt
  have lL := (g.me.getD at1 0).toNat_lt
  rw [hH] at ca lH
  rw [hL] at cb lL
  have eWD : WD = Hh * 256 + Ll := by rw [← hWD]; unfold wordG; rw [show g.pc + 1 - 512 = at1 by omega, hat, hH, hL]
  have hdec := fun y => rdec_any y WD (by omega)
  rw [hdb.out, hOD] at hdec
  replace hdec : Hid (∀ y, Calls Tryz.prog 66 #[.int .u16 (WD : Int)] y fun e w' => e = .returned (.tuple #[.agg (o6 OD), .bool true]) ∧ Below y.heap.size y w') := hdec
  obtain ⟨HH, hHH⟩ : ∃ x, Hh * 256 = x := ⟨_, rfl⟩
  obtain ⟨p, hp⟩ : ∃ x, g.pc = x := ⟨_, rfl⟩
  obtain ⟨p1, hp1⟩ : ∃ x, p + 1 = x := ⟨_, rfl⟩
  rw [hp] at fC hf1 hf2
  have im1 := fun y => inmem_any y p (by omega)
  rw [hf1] at im1
  have im2 := fun y => inmem_any y p1 (by omega)
  rw [← hp1, hf2, hp1] at im2
  replace im1 : Hid (∀ y, Calls Tryz.prog 65 #[.int .i64 (p : Int)] y fun e w' => e = .returned (.bool true) ∧ w' = y) := im1
  replace im2 : Hid (∀ y, Calls Tryz.prog 65 #[.int .i64 (p1 : Int)] y fun e w' => e = .returned (.bool true) ∧ w' = y) := im2
  have ia1 := fun v => idxB .i64 gM oM 3232 cM at_ v (by omega)
  have ia2 := fun v => idxB .i64 gM oM 3232 cM at1 v (by omega)
  have e1 : (p : Int) + 1 = (p1 : Int) := by omega
  have e2 : (p : Int) - 512 = (at_ : Int) := by omega
  have e3 : (p1 : Int) - 512 = (at1 : Int) := by omega
  have e4 : (Hh : Int) * 256 = (HH : Int) := by omega
  have e5 : (HH : Int) + (Ll : Int) = (WD : Int) := by omega
  have i0 : (p : Int) < 65536 := by omega
  have i00 : (p1 : Int) < 65536 := by omega
  have i1 : (at_ : Int) ≤ 3231 := by omega
  have i2 : (at1 : Int) ≤ 3231 := by omega
  have i4 : (Hh : Int) < 256 := by omega
  have i5 : (Ll : Int) < 256 := by omega
  have i6 : (HH : Int) < 65536 := by omega
  have i7 : (WD : Int) < 65536 := by omega
  have cc0 : Hid (w.cell? ⟨gM, oM + at_, none⟩ = some (.int .u8 (Hh : Int)) ∧ w.cell? ⟨gM, oM + at1, none⟩ = some (.int .u8 (Ll : Int)) ∧ gM < w.heap.size) := ⟨ca, cb, World.block_lt_of_cell? w _ ca⟩
  obtain ⟨OO, hOO⟩ : ∃ x, Hid (x = o6 OD) := ⟨_, (rfl : o6 OD = _)⟩
  rw [← hOO.out] at hdec
  have hOO' : Hid (OO.size = 6 ∧ OO.all (·.oneCell') = true ∧ OO[0]? = some (.int .u8 (OD.op : Int))) := by rw [hOO.out]; exact ⟨rfl, o6_one _, rfl⟩
  have q9 : ((op : Int) == 1) = false := by simp; omega
  clear hne
  clear hf1 hf2 hC h1 h2 h3 ok hml hat hat1 ca cb hH hL lH lL hWD eWD hOD hHH hp hp1 hin hpc
  go_enter Tryz.func30, Tryz.ntmps30
  go_upto_region 6 with (first
    | (go_at_call 65; (with_reducible refine (im2.out y1).mono ?_); rintro e yp ⟨rfl, ep⟩; replace ep := ep.symm; subst ep)
    | (go_at_call 65; (with_reducible refine (im1.out y1).mono ?_); rintro e yp ⟨rfl, ep⟩; replace ep := ep.symm; subst ep)
    | (go_at_call 14; refine (rcheck_gl y0 C g (hg.out.below K0.out.low)).mono ?_; rintro e y1 ⟨rfl, H⟩; have K1 : Hid (Fm w [(w.heap.size, C, 27), (w.heap.size + 1, OZ, 60)] y1) := K0.out.below H; rw [hm.out]; clear H; have c17 := (K1.out.bx 0 _ _ _ rfl).c 17 _ fC.out.1)
    | ((with_reducible refine gen_world ((w.alloc (.cells C 27)).alloc (.cells #[.int .u8 0, .int .u8 0, .int .u8 0, .int .u8 0, .int .u8 0, .int .u16 0] 60)) (Fm w [(w.heap.size, C, 27), (w.heap.size + 1, OZ, 60)]) ?_ ?_); (rw [hOZ.out]; exact Fm.two w _ _ _ _); intro y0 K0)
    | ((with_reducible refine at_load rtG w.heap.size C ?_ ?_ (.tmp 1) ?_ ?_ ?_ ?_); exact K0.out.bx 0 _ _ _ rfl; exact gC.out; kernel_rfl; rfl; rfl))
  have d1 := (K1.out.low.cell (p := ⟨gM, oM + at_, none⟩) cc0.out.2.2).trans cc0.out.1
  have d2 := (K1.out.low.cell (p := ⟨gM, oM + at1, none⟩) cc0.out.2.2).trans cc0.out.2.1
  have c22 := (K1.out.bx 0 _ _ _ rfl).c 22 _ fC.out.2
  have K1n : Hid (∀ q, Fm w [(w.heap.size, C, 27), (w.heap.size + 1, OZ, 60)] (y1.drewN q)) := fun q => K1.out.below (below_drewN (Below.refl _ _))
  go_quiet (fail)
  rename_i nq _
  have K2 : Hid (Fm w [(w.heap.size, C, 27), (w.heap.size + 1, OZ, 60)] (y1.drewN nq)) := K1n.out nq
  generalize y1.drewN nq = y2 at K2 ⊢
  clear d1 d2 c22 c17 K1 K1n
  go_wp2_with (first
    | ((with_reducible refine at_st rtO (w.heap.size + 1) OZ OO ?_ ?_ ?_ ?_ (.tmp 2) (.tmp 54) ?_ ?_ ?_ ?_ ?_); exact K5.out.bx 1 _ _ _ rfl; exact hOZ'.out; exact hOO'.out.1; exact hOO'.out.2.1; rfl; rfl; rfl; rfl; intro yE HE; have KE : Hid (Fm w [(w.heap.size, C, 27), (w.heap.size + 1, OO, 60), (y3.heap.size, OO, 60)] yE) := K5.out.put 1 _ _ _ _ rfl HE.out)
    | ((with_reducible refine at_st rtO y3.heap.size #[.int .u8 0, .int .u8 0, .int .u8 0, .int .u8 0, .int .u8 0, .int .u16 0] OO ?_ ?_ ?_ ?_ (.tmp 6) (.tmp 45) ?_ ?_ ?_ ?_ ?_); exact K4.out.bx 2 _ _ _ rfl; rfl; exact hOO'.out.1; exact hOO'.out.2.1; rfl; rfl; rfl; rfl; intro y5 H5; have K5 : Hid (Fm w [(w.heap.size, C, 27), (w.heap.size + 1, OZ, 60), (y3.heap.size, OO, 60)] y5) := K4.out.put 2 _ _ _ _ rfl H5.out; have cop := (K5.out.bx 2 _ _ _ rfl).c 0 _ hOO'.out.2.2; (try rw [hop.out] at cop); clear H5)
    | ((with_reducible refine gen_world (y3.alloc (.cells #[.int .u8 0, .int .u8 0, .int .u8 0, .int .u8 0, .int .u8 0, .int .u16 0] 60)) (Fm w [(w.heap.size, C, 27), (w.heap.size + 1, OZ, 60), (y3.heap.size, #[.int .u8 0, .int .u8 0, .int .u8 0, .int .u8 0, .int .u8 0, .int .u16 0], 60)]) ?_ ?_); exact K3.out.new _ _; intro y4 K4)
    | (go_at_call 66; refine (hdec.out y2).mono ?_; rintro e y3 ⟨rfl, H⟩; have K3 : Hid (Fm w [(w.heap.size, C, 27), (w.heap.size + 1, OZ, 60)] y3) := K2.out.below H; clear H)
    | ((with_reducible refine at_load rtO y3.heap.size OO ?_ ?_ (.tmp 6) ?_ ?_ ?_ ?_); exact K5.out.bx 2 _ _ _ rfl; exact hOO'.out.1; kernel_rfl; rfl; rfl))
  exact ret_two rtO rfl rfl rfl (KE.out.bx 1 _ _ _ rfl) hOO'.out.1 rfl ⟨by rw [hOO.out]; rfl, KE.out.low⟩
theorem rnext_any (w : World) (C : Array Value) (g : Gm) (hg : GL w C g) : Calls Tryz.prog 30 #[.agg C] w fun e w' => e = .returned (.tuple #[.agg (o6 (nextG g).1), .int .u8 ((nextG g).2 : Int)]) ∧ Below w.heap.size w w' := by
  rcases hm : g.may with _ | _
  · have e : nextG g = (od0, 0) := by unfold nextG; rw [hm]; rfl
    rw [e]
    exact rnext_bad w C g hg hm
  · rcases h1 : inM g.pc with _ | _
    · have e : nextG g = (od0, 7) := by simp [nextG, hm, h1]
      rw [e]
      exact rnext_outa w C g hg hm h1
    · rcases h2 : inM (g.pc + 1) with _ | _
      · have e : nextG g = (od0, 7) := by simp [nextG, hm, h1, h2]
        rw [e]
        exact rnext_outb w C g hg hm h1 h2
      · rcases hd : decB (wordG g) with _ | _
        · have e : nextG g = (od0, 4) := by simp [nextG, hm, h1, h2, hd]
          rw [e]
          exact rnext_none w C g hg hm h1 h2 _ _ rfl rfl hd
        · by_cases ho : (decO (wordG g)).op = 1
          · have e : nextG g = (decO (wordG g), 3) := by simp [nextG, hm, h1, h2, hd, ho]
            rw [e]
            exact rnext_machine w C g hg hm h1 h2 _ _ rfl rfl hd ho
          · have e : nextG g = (decO (wordG g), 1) := by simp [nextG, hm, h1, h2, hd, ho]
            rw [e]
            exact rnext_order w C g hg hm h1 h2 _ _ rfl rfl hd _ rfl ho
end Go.Proofs.YteipjkjpeookaaaGreat
