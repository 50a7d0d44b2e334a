/- The document's own: Step. -/
import Derived.Test.YteipjkjpeookaaaGreatR17
import Derived.Test.YteipjkjpeookaaaGreatH6n
namespace Go.Proofs.YteipjkjpeookaaaGreat
open Go Go.RowKit Go.Shelf
set_option linter.unusedVariables false
set_option maxHeartbeats 1000000
set_option maxRecDepth 100000

theorem Fm.bk {w y y' : World} {l : List (Nat × Array Value × TypeId)} {B : Nat} (h : Fm w l y) (k : BK B y y') (hB : w.heap.size ≤ B) (hl : (l.all fun p => !(Nat.beq p.2.2 5 || Nat.beq p.2.2 23)) = true) : Fm w l y' := by
  refine ⟨fun i b cs t e => ?_, h.ge, h.ne, h.low.trans (k.low.mono hB)⟩
  have hm := List.all_eq_true.1 hl (b, cs, t) (List.mem_of_getElem? e)
  simp only [Bool.not_eq_true', Bool.or_eq_false_iff] at hm
  exact k.kp b cs t (h.get i b cs t e) (fun e' => by rw [e'] at hm; exact absurd hm.1 (by decide)) (fun e' => by rw [e'] at hm; exact absurd hm.2 (by decide))
theorem rstep_bad (w : World) (C D : Array Value) (g : Gm) (f : Fo) (d : Fd) (hg : Hid (GL w C g)) (hf : Hid (FL w D f)) (hd : Hid d.Ok) (hs : Hid (smaG g f)) (hm : Hid (g.may = false)) :
    Calls Tryz.prog 19 #[.agg C, .agg D, .agg (dCs d)] w fun e w' => ∃ C', e = .returned (.tuple #[.agg C', .int .u8 0, .int .i64 180]) ∧ GO w.heap.size w' C' gz ∧ Below w.heap.size w w' := by
  have gC : Hid (C.size = 23) := hg.out.size.1
  have gD : Hid (D.size = 18) := hf.out.size
  obtain ⟨Z, hZ⟩ : ∃ x : Array Value, Hid (x = gZ) := ⟨_, (rfl : gZ = gZ)⟩
  have hZ' : Hid (Z.size = 23) := by show _ = _; rw [hZ.out]; rfl
  have hby : Hid (f.by_.length ≤ 4000000000) := by show _ ≤ _; have := hs.out; unfold smaG at this; omega
  have nst : Hid (g.st.length ≤ 4000000000 ∧ g.pg.length ≤ 4000000000 ∧ g.me.length ≤ 4000000000) := by have := hs.out; unfold smaG at this; exact ⟨by omega, by omega, by omega⟩
  go_enter Tryz.func19, Tryz.ntmps19
  go_wp2_with (first
    | ((with_reducible refine gen_world ((((w.alloc (.cells C 27)).alloc (.cells D 30)).alloc (.cells (dCs d) 38)).alloc (.cells z23A 27)) (fun y => Fm w [(w.heap.size, C, 27), (w.heap.size + 1, D, 30), (w.heap.size + 2, (dCs d), 38), (w.heap.size + 3, Z, 27)] y ∧ y.heap.size = w.heap.size + 4) ?_ ?_); (rw [hZ.out]; unfold gZ; exact ⟨Fm.four w _ _ _ _ _ _ _ _, by simp [World.size_alloc]⟩); intro y0 K0)
    | ((with_reducible refine at_load rtG w.heap.size C ?_ ?_ (.tmp 3) ?_ ?_ ?_ ?_); (first | exact K0.out.1.bx 0 _ _ _ rfl); exact gC.out; kernel_rfl; rfl; rfl)
    | (go_at_call 14; refine (rcheck_gl y0 C g (hg.out.below K0.out.1.low)).mono ?_; rintro e y1 ⟨rfl, H1⟩; have K1 : Hid (Fm w [(w.heap.size, C, 27), (w.heap.size + 1, D, 30), (w.heap.size + 2, (dCs d), 38), (w.heap.size + 3, Z, 27)] y1 ∧ w.heap.size + 4 ≤ y1.heap.size) := ⟨K0.out.1.below H1, (by have := H1.size; rw [K0.out.2] at this; exact this)⟩; rw [hm.out])
    | ((with_reducible refine at_bu #[] [] gZ ?_ ?_ ?_ builtG0 ?_); kernel_rfl; rfl; rfl)
    | ((with_reducible refine at_st rtG (w.heap.size + 3) Z gZ ?_ ?_ ?_ ?_ (.tmp 6) (.tmp 17) ?_ ?_ ?_ ?_ ?_); exact K1.out.1.bx 3 _ _ _ rfl; exact hZ'.out; rfl; kernel_rfl; rfl; rfl; rfl; rfl; intro yE HE; have KE : Hid (Fm w [(w.heap.size, C, 27), (w.heap.size + 1, D, 30), (w.heap.size + 2, (dCs d), 38), (w.heap.size + 3, gZ, 27)] yE) := K1.out.1.put 3 _ _ _ _ rfl HE.out))
  exact ret_three rtG rfl rfl rfl rfl (KE.out.bx 3 _ _ _ rfl) rfl rfl ⟨gZ, rfl, GO.zero _ _, KE.out.low⟩
theorem rstep_font (w : World) (C D : Array Value) (g : Gm) (f : Fo) (d : Fd) (hg : Hid (GL w C g)) (hf : Hid (FL w D f)) (hd : Hid d.Ok) (hs : Hid (smaG g f)) (hm : Hid (g.may = true)) (hfo : Hid (fontG f = false)) :
    Calls Tryz.prog 19 #[.agg C, .agg D, .agg (dCs d)] w fun e w' => ∃ C', e = .returned (.tuple #[.agg C', .int .u8 0, .int .i64 1]) ∧ GO w.heap.size w' C' gz ∧ Below w.heap.size w w' := by
  have gC : Hid (C.size = 23) := hg.out.size.1
  have gD : Hid (D.size = 18) := hf.out.size
  obtain ⟨Z, hZ⟩ : ∃ x : Array Value, Hid (x = gZ) := ⟨_, (rfl : gZ = gZ)⟩
  have hZ' : Hid (Z.size = 23) := by show _ = _; rw [hZ.out]; rfl
  have hby : Hid (f.by_.length ≤ 4000000000) := by show _ ≤ _; have := hs.out; unfold smaG at this; omega
  have nst : Hid (g.st.length ≤ 4000000000 ∧ g.pg.length ≤ 4000000000 ∧ g.me.length ≤ 4000000000) := by have := hs.out; unfold smaG at this; exact ⟨by omega, by omega, by omega⟩
  obtain ⟨kk, hkk⟩ : ∃ k, d.ky = k := ⟨_, rfl⟩
  have hky : Hid (d.ky = kk) := hkk
  clear hkk
  go_enter Tryz.func19, Tryz.ntmps19
  go_wp2_with (first
    | ((with_reducible refine gen_world ((((w.alloc (.cells C 27)).alloc (.cells D 30)).alloc (.cells (dCs d) 38)).alloc (.cells z23A 27)) (fun y => Fm w [(w.heap.size, C, 27), (w.heap.size + 1, D, 30), (w.heap.size + 2, (dCs d), 38), (w.heap.size + 3, Z, 27)] y ∧ y.heap.size = w.heap.size + 4) ?_ ?_); (rw [hZ.out]; unfold gZ; exact ⟨Fm.four w _ _ _ _ _ _ _ _, by simp [World.size_alloc]⟩); intro y0 K0)
    | ((with_reducible refine at_load rtG w.heap.size C ?_ ?_ (.tmp 3) ?_ ?_ ?_ ?_); (first | exact K0.out.1.bx 0 _ _ _ rfl); exact gC.out; kernel_rfl; rfl; rfl)
    | (go_at_call 14; refine (rcheck_gl y0 C g (hg.out.below K0.out.1.low)).mono ?_; rintro e y1 ⟨rfl, H1⟩; have K1 : Hid (Fm w [(w.heap.size, C, 27), (w.heap.size + 1, D, 30), (w.heap.size + 2, (dCs d), 38), (w.heap.size + 3, Z, 27)] y1 ∧ w.heap.size + 4 ≤ y1.heap.size) := ⟨K0.out.1.below H1, (by have := H1.size; rw [K0.out.2] at this; exact this)⟩; rw [hm.out]; have ky := (K1.out.1.bx 2 _ _ _ rfl).c 2 (.int .i64 d.ky) rfl; rw [hky.out] at ky)
    | ((with_reducible refine at_load rtFn (w.heap.size + 1) D ?_ ?_ (.tmp 4) ?_ ?_ ?_ ?_); (first | exact K8.out.1.bx 1 _ _ _ rfl | exact K1.out.1.bx 1 _ _ _ rfl); exact gD.out; kernel_rfl; rfl; rfl)
    | (go_at_call 29; refine (fontmay_any y1 D f (hf.out.below K1.out.1.low) hby.out).mono ?_; rintro e y2 ⟨rfl, H2⟩; have K2 : Hid (Fm w [(w.heap.size, C, 27), (w.heap.size + 1, D, 30), (w.heap.size + 2, (dCs d), 38), (w.heap.size + 3, Z, 27)] y2 ∧ w.heap.size + 4 ≤ y2.heap.size) := ⟨K1.out.1.below H2, Nat.le_trans K1.out.2 H2.size⟩; rw [hfo.out]; have ky2 := (K2.out.1.bx 2 _ _ _ rfl).c 2 (.int .i64 d.ky) rfl; rw [hky.out] at ky2)
    | ((with_reducible refine at_bu #[] [] gZ ?_ ?_ ?_ builtG0 ?_); kernel_rfl; rfl; rfl)
    | ((with_reducible refine at_st rtG (w.heap.size + 3) Z gZ ?_ ?_ ?_ ?_ (.tmp 6) (.tmp 27) ?_ ?_ ?_ ?_ ?_); exact K2.out.1.bx 3 _ _ _ rfl; exact hZ'.out; rfl; kernel_rfl; rfl; rfl; rfl; rfl; intro yE HE; have KE : Hid (Fm w [(w.heap.size, C, 27), (w.heap.size + 1, D, 30), (w.heap.size + 2, (dCs d), 38), (w.heap.size + 3, gZ, 27)] yE) := K2.out.1.put 3 _ _ _ _ rfl HE.out))
  exact ret_three rtG rfl rfl rfl rfl (KE.out.bx 3 _ _ _ rfl) rfl rfl ⟨gZ, rfl, GO.zero _ _, KE.out.low⟩
theorem rstep_key (w : World) (C D : Array Value) (g : Gm) (f : Fo) (d : Fd) (hg : Hid (GL w C g)) (hf : Hid (FL w D f)) (hd : Hid d.Ok) (hs : Hid (smaG g f)) (hm : Hid (g.may = true)) (hfo : Hid (fontG f = true)) (h15 : 15 < d.ky) :
    Calls Tryz.prog 19 #[.agg C, .agg D, .agg (dCs d)] w fun e w' => ∃ C', e = .returned (.tuple #[.agg C', .int .u8 0, .int .i64 1]) ∧ GO w.heap.size w' C' gz ∧ Below w.heap.size w w' := by
  have gC : Hid (C.size = 23) := hg.out.size.1
  have gD : Hid (D.size = 18) := hf.out.size
  obtain ⟨Z, hZ⟩ : ∃ x : Array Value, Hid (x = gZ) := ⟨_, (rfl : gZ = gZ)⟩
  have hZ' : Hid (Z.size = 23) := by show _ = _; rw [hZ.out]; rfl
  have hby : Hid (f.by_.length ≤ 4000000000) := by show _ ≤ _; have := hs.out; unfold smaG at this; omega
  have nst : Hid (g.st.length ≤ 4000000000 ∧ g.pg.length ≤ 4000000000 ∧ g.me.length ≤ 4000000000) := by have := hs.out; unfold smaG at this; exact ⟨by omega, by omega, by omega⟩
  obtain ⟨kk, hkk⟩ : ∃ k, d.ky = k := ⟨_, rfl⟩
  have hky : Hid (d.ky = kk) := hkk
  have q1 : decide ((15 : Int) < kk) = true := by rw [← hkk]; simpa using h15
  clear hkk h15
  go_enter Tryz.func19, Tryz.ntmps19
  go_wp2_with (first
    | ((with_reducible refine gen_world ((((w.alloc (.cells C 27)).alloc (.cells D 30)).alloc (.cells (dCs d) 38)).alloc (.cells z23A 27)) (fun y => Fm w [(w.heap.size, C, 27), (w.heap.size + 1, D, 30), (w.heap.size + 2, (dCs d), 38), (w.heap.size + 3, Z, 27)] y ∧ y.heap.size = w.heap.size + 4) ?_ ?_); (rw [hZ.out]; unfold gZ; exact ⟨Fm.four w _ _ _ _ _ _ _ _, by simp [World.size_alloc]⟩); intro y0 K0)
    | ((with_reducible refine at_load rtG w.heap.size C ?_ ?_ (.tmp 3) ?_ ?_ ?_ ?_); (first | exact K0.out.1.bx 0 _ _ _ rfl); exact gC.out; kernel_rfl; rfl; rfl)
    | (go_at_call 14; refine (rcheck_gl y0 C g (hg.out.below K0.out.1.low)).mono ?_; rintro e y1 ⟨rfl, H1⟩; have K1 : Hid (Fm w [(w.heap.size, C, 27), (w.heap.size + 1, D, 30), (w.heap.size + 2, (dCs d), 38), (w.heap.size + 3, Z, 27)] y1 ∧ w.heap.size + 4 ≤ y1.heap.size) := ⟨K0.out.1.below H1, (by have := H1.size; rw [K0.out.2] at this; exact this)⟩; rw [hm.out]; have ky := (K1.out.1.bx 2 _ _ _ rfl).c 2 (.int .i64 d.ky) rfl; rw [hky.out] at ky)
    | ((with_reducible refine at_load rtFn (w.heap.size + 1) D ?_ ?_ (.tmp 4) ?_ ?_ ?_ ?_); (first | exact K8.out.1.bx 1 _ _ _ rfl | exact K1.out.1.bx 1 _ _ _ rfl); exact gD.out; kernel_rfl; rfl; rfl)
    | (go_at_call 29; refine (fontmay_any y1 D f (hf.out.below K1.out.1.low) hby.out).mono ?_; rintro e y2 ⟨rfl, H2⟩; have K2 : Hid (Fm w [(w.heap.size, C, 27), (w.heap.size + 1, D, 30), (w.heap.size + 2, (dCs d), 38), (w.heap.size + 3, Z, 27)] y2 ∧ w.heap.size + 4 ≤ y2.heap.size) := ⟨K1.out.1.below H2, Nat.le_trans K1.out.2 H2.size⟩; rw [hfo.out]; have ky2 := (K2.out.1.bx 2 _ _ _ rfl).c 2 (.int .i64 d.ky) rfl; rw [hky.out] at ky2)
    | ((with_reducible refine at_bu #[] [] gZ ?_ ?_ ?_ builtG0 ?_); kernel_rfl; rfl; rfl)
    | ((with_reducible refine at_st rtG (w.heap.size + 3) Z gZ ?_ ?_ ?_ ?_ (.tmp 6) (.tmp 27) ?_ ?_ ?_ ?_ ?_); exact K2.out.1.bx 3 _ _ _ rfl; exact hZ'.out; rfl; kernel_rfl; rfl; rfl; rfl; rfl; intro yE HE; have KE : Hid (Fm w [(w.heap.size, C, 27), (w.heap.size + 1, D, 30), (w.heap.size + 2, (dCs d), 38), (w.heap.size + 3, gZ, 27)] yE) := K2.out.1.put 3 _ _ _ _ rfl HE.out))
  exact ret_three rtG rfl rfl rfl rfl (KE.out.bx 3 _ _ _ rfl) rfl rfl ⟨gZ, rfl, GO.zero _ _, KE.out.low⟩
theorem rstep_plain (w : World) (C D : Array Value) (g : Gm) (f : Fo) (d : Fd) (hg : Hid (GL w C g)) (hf : Hid (FL w D f)) (hd : Hid d.Ok) (hs : Hid (smaG g f)) (hm : Hid (g.may = true)) (hfo : Hid (fontG f = true)) (h15 : d.ky ≤ 15) (OD : Od) (q : Nat) (hnx : Hid (∀ y, Below w.heap.size w y → Calls Tryz.prog 30 #[.agg C] y fun e w' => e = .returned (.tuple #[.agg (o6 OD), .int .u8 (q : Int)]) ∧ Below y.heap.size y w')) (hq : q ≠ 1) :
    Calls Tryz.prog 19 #[.agg C, .agg D, .agg (dCs d)] w fun e w' => ∃ C', e = .returned (.tuple #[.agg C', .int .u8 (q : Int), .int .i64 0]) ∧ GO w.heap.size w' C' g ∧ Below w.heap.size w w' := by
  have gC : Hid (C.size = 23) := hg.out.size.1
  have gD : Hid (D.size = 18) := hf.out.size
  obtain ⟨Z, hZ⟩ : ∃ x : Array Value, Hid (x = gZ) := ⟨_, (rfl : gZ = gZ)⟩
  have hZ' : Hid (Z.size = 23) := by show _ = _; rw [hZ.out]; rfl
  have hby : Hid (f.by_.length ≤ 4000000000) := by show _ ≤ _; have := hs.out; unfold smaG at this; omega
  have nst : Hid (g.st.length ≤ 4000000000 ∧ g.pg.length ≤ 4000000000 ∧ g.me.length ≤ 4000000000) := by have := hs.out; unfold smaG at this; exact ⟨by omega, by omega, by omega⟩
  obtain ⟨kk, hkk⟩ : ∃ k, d.ky = k := ⟨_, rfl⟩
  have hky : Hid (d.ky = kk) := hkk
  have q1 : decide ((15 : Int) < kk) = false := by rw [← hkk]; simp; omega
  have q2 : ((q : Int) != 1) = true := by simp; omega
  clear hkk h15 hq
  go_enter Tryz.func19, Tryz.ntmps19
  go_wp2_with (first
    | ((with_reducible refine gen_world ((((w.alloc (.cells C 27)).alloc (.cells D 30)).alloc (.cells (dCs d) 38)).alloc (.cells z23A 27)) (fun y => Fm w [(w.heap.size, C, 27), (w.heap.size + 1, D, 30), (w.heap.size + 2, (dCs d), 38), (w.heap.size + 3, Z, 27)] y ∧ y.heap.size = w.heap.size + 4) ?_ ?_); (rw [hZ.out]; unfold gZ; exact ⟨Fm.four w _ _ _ _ _ _ _ _, by simp [World.size_alloc]⟩); intro y0 K0)
    | ((with_reducible refine at_load rtG w.heap.size C ?_ ?_ (.tmp 3) ?_ ?_ ?_ ?_); (first | exact K5.out.1.bx 0 _ _ _ rfl | exact K2.out.1.bx 0 _ _ _ rfl | exact K0.out.1.bx 0 _ _ _ rfl); exact gC.out; kernel_rfl; rfl; rfl)
    | (go_at_call 14; refine (rcheck_gl y0 C g (hg.out.below K0.out.1.low)).mono ?_; rintro e y1 ⟨rfl, H1⟩; have K1 : Hid (Fm w [(w.heap.size, C, 27), (w.heap.size + 1, D, 30), (w.heap.size + 2, (dCs d), 38), (w.heap.size + 3, Z, 27)] y1 ∧ w.heap.size + 4 ≤ y1.heap.size) := ⟨K0.out.1.below H1, (by have := H1.size; rw [K0.out.2] at this; exact this)⟩; rw [hm.out]; have ky := (K1.out.1.bx 2 _ _ _ rfl).c 2 (.int .i64 d.ky) rfl; rw [hky.out] at ky)
    | ((with_reducible refine at_load rtFn (w.heap.size + 1) D ?_ ?_ (.tmp 4) ?_ ?_ ?_ ?_); (first | exact K8.out.1.bx 1 _ _ _ rfl | exact K1.out.1.bx 1 _ _ _ rfl); exact gD.out; kernel_rfl; rfl; rfl)
    | (go_at_call 29; refine (fontmay_any y1 D f (hf.out.below K1.out.1.low) hby.out).mono ?_; rintro e y2 ⟨rfl, H2⟩; have K2 : Hid (Fm w [(w.heap.size, C, 27), (w.heap.size + 1, D, 30), (w.heap.size + 2, (dCs d), 38), (w.heap.size + 3, Z, 27)] y2 ∧ w.heap.size + 4 ≤ y2.heap.size) := ⟨K1.out.1.below H2, Nat.le_trans K1.out.2 H2.size⟩; rw [hfo.out]; have ky2 := (K2.out.1.bx 2 _ _ _ rfl).c 2 (.int .i64 d.ky) rfl; rw [hky.out] at ky2)
    | (go_at_call 30; refine (hnx.out y2 K2.out.1.low).mono ?_; rintro e y3 ⟨rfl, H3⟩; have K3 : Hid (Fm w [(w.heap.size, C, 27), (w.heap.size + 1, D, 30), (w.heap.size + 2, (dCs d), 38), (w.heap.size + 3, Z, 27)] y3 ∧ w.heap.size + 4 ≤ y3.heap.size) := ⟨K2.out.1.below H3, Nat.le_trans K2.out.2 H3.size⟩)
    | ((with_reducible refine gen_world (y3.alloc (.cells z6A 60)) (fun y => Fm w [(w.heap.size, C, 27), (w.heap.size + 1, D, 30), (w.heap.size + 2, (dCs d), 38), (w.heap.size + 3, Z, 27), (y3.heap.size, z6A, 60)] y ∧ y3.heap.size < y.heap.size) ?_ ?_); (exact ⟨K3.out.1.new _ _, by simp [World.size_alloc]⟩); intro y4 K4)
    | ((with_reducible refine at_st rtO y3.heap.size z6A (o6 OD) ?_ ?_ ?_ ?_ (.tmp 10) (.tmp 31) ?_ ?_ ?_ ?_ ?_); exact K4.out.1.bx 4 _ _ _ rfl; rfl; rfl; exact o6_one OD; rfl; rfl; rfl; rfl; intro y5 H5; obtain ⟨bo, hbo⟩ : ∃ x, y3.heap.size = x := ⟨_, rfl⟩; have K5 : Hid (Fm w [(w.heap.size, C, 27), (w.heap.size + 1, D, 30), (w.heap.size + 2, (dCs d), 38), (w.heap.size + 3, Z, 27), (bo, o6 OD, 60)] y5 ∧ w.heap.size + 4 ≤ bo) := (by rw [← hbo]; exact ⟨K4.out.1.put 4 _ _ _ _ rfl H5.out, K3.out.2⟩); rw [hbo]; clear hbo H5)
    | (go_at_call 25; refine (copied_any y5 C g (hg.out.below K5.out.1.low) nst.out.1 nst.out.2.1 nst.out.2.2).mono ?_; rintro e y6 ⟨C2, rfl, H6⟩; have K6 : Hid (Fm w [(w.heap.size, C, 27), (w.heap.size + 1, D, 30), (w.heap.size + 2, (dCs d), 38), (w.heap.size + 3, Z, 27), (bo, o6 OD, 60)] y6 ∧ GO (w.heap.size + 4) y6 C2 g) := ⟨K5.out.1.below H6.out.2, H6.out.1.weak (by have h1 := heap_lt (K5.out.1.bx 4 _ _ _ rfl); have h2 := K5.out.2; omega)⟩; clear H6)
    | ((with_reducible refine at_st rtG (w.heap.size + 3) Z C2 ?_ ?_ ?_ ?_ (.tmp 6) (.tmp 36) ?_ ?_ ?_ ?_ ?_); exact K6.out.1.bx 3 _ _ _ rfl; exact hZ'.out; exact K6.out.2.lies.size.1; exact K6.out.2.lies.size.2.1; rfl; rfl; rfl; rfl; intro yE HE; have KE : Hid (Bx yE (w.heap.size + 3) C2 27 ∧ GO (w.heap.size + 4) yE C2 g ∧ Below w.heap.size w yE) := ⟨HE.out.1, K6.out.2.offT (K6.out.1.bx 3 _ _ _ rfl) (by decide) (by decide) HE.out.2.2, K6.out.1.low.trans (HE.out.2.1 _ (Nat.le_add_right _ _))⟩; clear HE))
  exact ret_three rtG rfl rfl rfl rfl KE.out.1 KE.out.2.1.lies.size.1 rfl ⟨C2, rfl, KE.out.2.1.weak (by omega), KE.out.2.2⟩
theorem rstep_not (w : World) (C D : Array Value) (g : Gm) (f : Fo) (d : Fd) (hg : Hid (GL w C g)) (hf : Hid (FL w D f)) (hd : Hid d.Ok) (hs : Hid (smaG g f)) (hm : Hid (g.may = true)) (hfo : Hid (fontG f = true)) (h15 : d.ky ≤ 15) (OD : Od) (hnx : Hid (∀ y, Below w.heap.size w y → Calls Tryz.prog 30 #[.agg C] y fun e w' => e = .returned (.tuple #[.agg (o6 OD), .int .u8 1]) ∧ Below y.heap.size y w')) (hod : OD.x < 16 ∧ OD.y < 16 ∧ OD.n < 16 ∧ OD.b < 256 ∧ OD.a < 65536) (hop : 2 ≤ OD.op ∧ OD.op ≤ 31) (g2 : Gm) (r : Nat) (hdo : doG g.on OD f d = (g2, r)) (hr : r ≠ 1) :
    Calls Tryz.prog 19 #[.agg C, .agg D, .agg (dCs d)] w fun e w' => ∃ C', e = .returned (.tuple #[.agg C', .int .u8 (r : Int), .int .i64 0]) ∧ GO w.heap.size w' C' g ∧ Below w.heap.size w w' := by
  have gC : Hid (C.size = 23) := hg.out.size.1
  have gD : Hid (D.size = 18) := hf.out.size
  obtain ⟨Z, hZ⟩ : ∃ x : Array Value, Hid (x = gZ) := ⟨_, (rfl : gZ = gZ)⟩
  have hZ' : Hid (Z.size = 23) := by show _ = _; rw [hZ.out]; rfl
  have hby : Hid (f.by_.length ≤ 4000000000) := by show _ ≤ _; have := hs.out; unfold smaG at this; omega
  have nst : Hid (g.st.length ≤ 4000000000 ∧ g.pg.length ≤ 4000000000 ∧ g.me.length ≤ 4000000000) := by have := hs.out; unfold smaG at this; exact ⟨by omega, by omega, by omega⟩
  obtain ⟨kk, hkk⟩ : ∃ k, d.ky = k := ⟨_, rfl⟩
  have hky : Hid (d.ky = kk) := hkk
  have q1 : decide ((15 : Int) < kk) = false := by rw [← hkk]; simp; omega
  have q2 : ((r : Int) != 1) = true := by simp; omega
  have h15' : Hid (d.ky ≤ 15) := h15
  have hmay : Hid (g.me.length = 3232 ∧ g.pg.length = 256 ∧ g.st.length ≤ 12) := by have := hm.out; unfold Gm.may at this; simp at this; exact ⟨by omega, by omega, by omega⟩
  obtain ⟨P2, hP2⟩ : ∃ z, (g.pc + 2) % 65536 = z := ⟨_, rfl⟩
  have ipc : (g.pc : Int) < 65536 := by have := hg.out.ok.pc; omega
  have wP : IntKind.u16.wrap ((g.pc : Int) + 2) = (P2 : Int) := by rw [IntKind.wrap_u16]; omega
  have wP' : ((g.pc : Int) + 2) % 65536 = (P2 : Int) := by omega
  have hP3 : Hid (P2 < 65536) := by show _ < _; omega
  have hon : Hid (g.on = { g with pc := P2 }) := by show _ = _; unfold Gm.on; rw [hP2]
  have hDo : Hid (∀ (B : Nat) (u : World) (C3 : Array Value), GO B u C3 { g with pc := P2 } → B ≤ u.heap.size → FL u D f → Calls Tryz.prog 31 #[.agg C3, .agg (o6 OD), .agg D, .agg (dCs d)] u (fun e u' => ∃ C', e = .returned (.tuple #[.agg C', .int .u8 (r : Int)]) ∧ Hid (GO B u' C' g2 ∧ BK B u u'))) := fun B u C3 k1 k2 k3 => by
    have h := rdo_any u B C3 D g.on f d (by rw [hon.out]; exact k1) k2 k3 hd OD hod hop hmay.out.1 hmay.out.2.1 hmay.out.2.2 hby.out h15'.out
    rw [hdo] at h
    exact h

  clear hkk h15 hP2 hod hop hdo hr
  go_enter Tryz.func19, Tryz.ntmps19
  go_wp2_with (first
    | (go_at_call 25; refine (copied_any yb C g (hg.out.below Kb.out.1.low) nst.out.1 nst.out.2.1 nst.out.2.2).mono ?_; rintro e yc ⟨C5, rfl, Hc⟩; have Kc : Hid (Fm w [(w.heap.size, C, 27), (w.heap.size + 1, D, 30), (w.heap.size + 2, (dCs d), 38), (w.heap.size + 3, Z, 27), (bo, o6 OD, 60), (bn, C4, 27)] yc ∧ GO (w.heap.size + 4) yc C5 g) := ⟨Kb.out.1.below Hc.out.2, Hc.out.1.weak (by have h1 := heap_lt (Kb.out.1.bx 3 _ _ _ rfl); omega)⟩; clear Hc)
    | ((with_reducible refine at_st rtG (w.heap.size + 3) Z C5 ?_ ?_ ?_ ?_ (.tmp 6) (.tmp 55) ?_ ?_ ?_ ?_ ?_); exact Kc.out.1.bx 3 _ _ _ rfl; exact hZ'.out; exact Kc.out.2.lies.size.1; exact Kc.out.2.lies.size.2.1; rfl; rfl; rfl; rfl; intro yE HE; have KE : Hid (Bx yE (w.heap.size + 3) C5 27 ∧ GO (w.heap.size + 4) yE C5 g ∧ Below w.heap.size w yE) := ⟨HE.out.1, Kc.out.2.offT (Kc.out.1.bx 3 _ _ _ rfl) (by decide) (by decide) HE.out.2.2, Kc.out.1.low.trans (HE.out.2.1 _ (Nat.le_add_right _ _))⟩; clear HE)
    | ((with_reducible refine at_st rtG bn C3 C4 ?_ ?_ ?_ ?_ (.tmp 12) (.tmp 50) ?_ ?_ ?_ ?_ ?_); exact K9.out.1.bx 5 _ _ _ rfl; exact hS3.out; exact K9.out.2.lies.size.1; exact K9.out.2.lies.size.2.1; rfl; rfl; rfl; rfl; intro yb Hb; have Kb : Hid (Fm w [(w.heap.size, C, 27), (w.heap.size + 1, D, 30), (w.heap.size + 2, (dCs d), 38), (w.heap.size + 3, Z, 27), (bo, o6 OD, 60), (bn, C4, 27)] yb ∧ GO (w.heap.size + 4) yb C4 g2) := ⟨K9.out.1.put 5 _ _ _ _ rfl Hb.out, (K9.out.2.offT (K9.out.1.bx 5 _ _ _ rfl) (by decide) (by decide) Hb.out.2.2).weak (by have := K6.out.2.2; omega)⟩; clear Hb; have hS4 : Hid (C4.size = 23) := Kb.out.2.lies.size.1)
    | (go_at_call 31; refine (hDo.out B5 y8 C3 K8.out.2 (Nat.le_trans hBn.out.2 (Nat.le_of_lt (heap_lt (K8.out.1.bx 5 _ _ _ rfl)))) (hf.out.below K8.out.1.low)).mono ?_; rintro e y9 ⟨C4, rfl, H9⟩; have K9 : Hid (Fm w [(w.heap.size, C, 27), (w.heap.size + 1, D, 30), (w.heap.size + 2, (dCs d), 38), (w.heap.size + 3, Z, 27), (bo, o6 OD, 60), (bn, C3, 27)] y9 ∧ GO B5 y9 C4 g2) := ⟨K8.out.1.bk H9.out.2 hBn.out.1 rfl, H9.out.1⟩; clear H9)
    | ((with_reducible refine at_load rtG bn C3 ?_ ?_ (.tmp 12) ?_ ?_ ?_ ?_); exact K8.out.1.bx 5 _ _ _ rfl; exact hS3.out; kernel_rfl; rfl; rfl)
    | ((with_reducible refine at_load rtO bo (o6 OD) ?_ ?_ (.tmp 10) ?_ ?_ ?_ ?_); exact K8.out.1.bx 4 _ _ _ rfl; rfl; kernel_rfl; rfl; rfl)
    | ((with_reducible refine at_load rtFd (w.heap.size + 2) (dCs d) ?_ ?_ (.tmp 5) ?_ ?_ ?_ ?_); exact K8.out.1.bx 2 _ _ _ rfl; rfl; kernel_rfl; rfl; rfl)
    | ((with_reducible refine gen_world (ya.setCell ⟨bn, 17, none⟩ (.int .u16 (P2 : Int))) (fun yy => Fm w [(w.heap.size, C, 27), (w.heap.size + 1, D, 30), (w.heap.size + 2, (dCs d), 38), (w.heap.size + 3, Z, 27), (bo, o6 OD, 60), (bn, C3, 27)] yy ∧ GO B5 yy C3 { g with pc := P2 }) ?_ ?_); (exact ⟨Ka.out.1.setCell 5 _ _ _ _ rfl 17 _ hC3.out.symm, (by have h := (Ka.out.2).offT (Ka.out.1.bx 5 _ _ _ rfl) (by decide) (by decide) (fun q' hq' => heap_setCell_other ya ⟨bn, 17, none⟩ q' (.int .u16 (P2 : Int)) hq'); have h' := h.rpc P2 hP3.out; rw [hC3.out]; exact h')⟩); intro y8 K8; clear z17; have hS3 : Hid (C3.size = 23) := K8.out.2.lies.size.1)
    | ((with_reducible refine at_st rtG y6.heap.size Z C2 ?_ ?_ ?_ ?_ (.tmp 12) (.tmp 39) ?_ ?_ ?_ ?_ ?_); exact K7.out.1.bx 5 _ _ _ rfl; exact hZ'.out; exact K7.out.2.lies.size.1; exact K7.out.2.lies.size.2.1; rfl; rfl; rfl; rfl; intro ya Ha; have hBn : Hid (w.heap.size ≤ B5 ∧ B5 ≤ y6.heap.size) := ⟨by have := K6.out.2.2; omega, K6.out.2.2.2.2⟩; obtain ⟨bn, hbn⟩ : ∃ z, y6.heap.size = z := ⟨_, rfl⟩; have Ka : Hid (Fm w [(w.heap.size, C, 27), (w.heap.size + 1, D, 30), (w.heap.size + 2, (dCs d), 38), (w.heap.size + 3, Z, 27), (bo, o6 OD, 60), (bn, C2, 27)] ya ∧ GO B5 ya C2 g) := (by rw [← hbn]; exact ⟨K7.out.1.put 5 _ _ _ _ rfl Ha.out, K7.out.2.offT (K7.out.1.bx 5 _ _ _ rfl) (by decide) (by decide) Ha.out.2.2⟩); rw [hbn] at hBn ⊢; clear Ha hbn; have s17 := (Ka.out.1.bx 5 _ _ _ rfl).c 17 _ Ka.out.2.rest.2.1; have z17 := (Ka.out.1.bx 5 _ _ _ rfl).fz 17; obtain ⟨C3, hC3⟩ : ∃ z, Hid (z = C2.setIfInBounds 17 (.int .u16 (P2 : Int))) := ⟨_, (rfl : C2.setIfInBounds 17 (.int .u16 (P2 : Int)) = _)⟩)
    | ((with_reducible refine gen_world (y6.alloc (.cells z23A 27)) (fun y => Fm w [(w.heap.size, C, 27), (w.heap.size + 1, D, 30), (w.heap.size + 2, (dCs d), 38), (w.heap.size + 3, Z, 27), (bo, o6 OD, 60), (y6.heap.size, Z, 27)] y ∧ GO B5 y C2 g) ?_ ?_); (rw [hZ.out] at K6 ⊢; unfold gZ at K6 ⊢; exact ⟨K6.out.1.new _ _, K6.out.2.1.below (below1 y6 _)⟩); intro y7 K7)
    | (go_at_call 25; refine (copied_any y5 C g (hg.out.below K5.out.1.low) nst.out.1 nst.out.2.1 nst.out.2.2).mono ?_; rintro e y6 ⟨C2, rfl, H6⟩; have K6 : Hid (Fm w [(w.heap.size, C, 27), (w.heap.size + 1, D, 30), (w.heap.size + 2, (dCs d), 38), (w.heap.size + 3, Z, 27), (bo, o6 OD, 60)] y6 ∧ GO y5.heap.size y6 C2 g ∧ w.heap.size + 4 ≤ bo ∧ bo < y5.heap.size ∧ y5.heap.size ≤ y6.heap.size) := ⟨K5.out.1.below H6.out.2, H6.out.1, K5.out.2, heap_lt (K5.out.1.bx 4 _ _ _ rfl), H6.out.2.size⟩; clear H6; obtain ⟨B5, hB5⟩ : ∃ z, y5.heap.size = z := ⟨_, rfl⟩; rw [hB5] at K6; clear hB5)
    | ((with_reducible refine gen_world ((((w.alloc (.cells C 27)).alloc (.cells D 30)).alloc (.cells (dCs d) 38)).alloc (.cells z23A 27)) (fun y => Fm w [(w.heap.size, C, 27), (w.heap.size + 1, D, 30), (w.heap.size + 2, (dCs d), 38), (w.heap.size + 3, Z, 27)] y ∧ y.heap.size = w.heap.size + 4) ?_ ?_); (rw [hZ.out]; unfold gZ; exact ⟨Fm.four w _ _ _ _ _ _ _ _, by simp [World.size_alloc]⟩); intro y0 K0)
    | ((with_reducible refine at_load rtG w.heap.size C ?_ ?_ (.tmp 3) ?_ ?_ ?_ ?_); (first | exact Kb.out.1.bx 0 _ _ _ rfl | exact K5.out.1.bx 0 _ _ _ rfl | exact K2.out.1.bx 0 _ _ _ rfl | exact K0.out.1.bx 0 _ _ _ rfl); exact gC.out; kernel_rfl; rfl; rfl)
    | (go_at_call 14; refine (rcheck_gl y0 C g (hg.out.below K0.out.1.low)).mono ?_; rintro e y1 ⟨rfl, H1⟩; have K1 : Hid (Fm w [(w.heap.size, C, 27), (w.heap.size + 1, D, 30), (w.heap.size + 2, (dCs d), 38), (w.heap.size + 3, Z, 27)] y1 ∧ w.heap.size + 4 ≤ y1.heap.size) := ⟨K0.out.1.below H1, (by have := H1.size; rw [K0.out.2] at this; exact this)⟩; rw [hm.out]; have ky := (K1.out.1.bx 2 _ _ _ rfl).c 2 (.int .i64 d.ky) rfl; rw [hky.out] at ky)
    | ((with_reducible refine at_load rtFn (w.heap.size + 1) D ?_ ?_ (.tmp 4) ?_ ?_ ?_ ?_); (first | exact K8.out.1.bx 1 _ _ _ rfl | exact K1.out.1.bx 1 _ _ _ rfl); exact gD.out; kernel_rfl; rfl; rfl)
    | (go_at_call 29; refine (fontmay_any y1 D f (hf.out.below K1.out.1.low) hby.out).mono ?_; rintro e y2 ⟨rfl, H2⟩; have K2 : Hid (Fm w [(w.heap.size, C, 27), (w.heap.size + 1, D, 30), (w.heap.size + 2, (dCs d), 38), (w.heap.size + 3, Z, 27)] y2 ∧ w.heap.size + 4 ≤ y2.heap.size) := ⟨K1.out.1.below H2, Nat.le_trans K1.out.2 H2.size⟩; rw [hfo.out]; have ky2 := (K2.out.1.bx 2 _ _ _ rfl).c 2 (.int .i64 d.ky) rfl; rw [hky.out] at ky2)
    | (go_at_call 30; refine (hnx.out y2 K2.out.1.low).mono ?_; rintro e y3 ⟨rfl, H3⟩; have K3 : Hid (Fm w [(w.heap.size, C, 27), (w.heap.size + 1, D, 30), (w.heap.size + 2, (dCs d), 38), (w.heap.size + 3, Z, 27)] y3 ∧ w.heap.size + 4 ≤ y3.heap.size) := ⟨K2.out.1.below H3, Nat.le_trans K2.out.2 H3.size⟩)
    | ((with_reducible refine gen_world (y3.alloc (.cells z6A 60)) (fun y => Fm w [(w.heap.size, C, 27), (w.heap.size + 1, D, 30), (w.heap.size + 2, (dCs d), 38), (w.heap.size + 3, Z, 27), (y3.heap.size, z6A, 60)] y ∧ y3.heap.size < y.heap.size) ?_ ?_); (exact ⟨K3.out.1.new _ _, by simp [World.size_alloc]⟩); intro y4 K4)
    | ((with_reducible refine at_st rtO y3.heap.size z6A (o6 OD) ?_ ?_ ?_ ?_ (.tmp 10) (.tmp 31) ?_ ?_ ?_ ?_ ?_); exact K4.out.1.bx 4 _ _ _ rfl; rfl; rfl; exact o6_one OD; rfl; rfl; rfl; rfl; intro y5 H5; obtain ⟨bo, hbo⟩ : ∃ x, y3.heap.size = x := ⟨_, rfl⟩; have K5 : Hid (Fm w [(w.heap.size, C, 27), (w.heap.size + 1, D, 30), (w.heap.size + 2, (dCs d), 38), (w.heap.size + 3, Z, 27), (bo, o6 OD, 60)] y5 ∧ w.heap.size + 4 ≤ bo) := (by rw [← hbo]; exact ⟨K4.out.1.put 4 _ _ _ _ rfl H5.out, K3.out.2⟩); rw [hbo]; clear hbo H5))
  exact ret_three rtG rfl rfl rfl rfl KE.out.1 KE.out.2.1.lies.size.1 rfl ⟨C5, rfl, KE.out.2.1.weak (by omega), KE.out.2.2⟩
theorem rstep_done (w : World) (C D : Array Value) (g : Gm) (f : Fo) (d : Fd) (hg : Hid (GL w C g)) (hf : Hid (FL w D f)) (hd : Hid d.Ok) (hs : Hid (smaG g f)) (hm : Hid (g.may = true)) (hfo : Hid (fontG f = true)) (h15 : d.ky ≤ 15) (OD : Od) (hnx : Hid (∀ y, Below w.heap.size w y → Calls Tryz.prog 30 #[.agg C] y fun e w' => e = .returned (.tuple #[.agg (o6 OD), .int .u8 1]) ∧ Below y.heap.size y w')) (hod : OD.x < 16 ∧ OD.y < 16 ∧ OD.n < 16 ∧ OD.b < 256 ∧ OD.a < 65536) (hop : 2 ≤ OD.op ∧ OD.op ≤ 31) (g2 : Gm) (r : Nat) (hdo : doG g.on OD f d = (g2, r)) (hr : r = 1) :
    Calls Tryz.prog 19 #[.agg C, .agg D, .agg (dCs d)] w fun e w' => ∃ C', e = .returned (.tuple #[.agg C', .int .u8 1, .int .i64 0]) ∧ GO w.heap.size w' C' g2 ∧ Below w.heap.size w w' := by
  have gC : Hid (C.size = 23) := hg.out.size.1
  have gD : Hid (D.size = 18) := hf.out.size
  obtain ⟨Z, hZ⟩ : ∃ x : Array Value, Hid (x = gZ) := ⟨_, (rfl : gZ = gZ)⟩
  have hZ' : Hid (Z.size = 23) := by show _ = _; rw [hZ.out]; rfl
  have hby : Hid (f.by_.length ≤ 4000000000) := by show _ ≤ _; have := hs.out; unfold smaG at this; omega
  have nst : Hid (g.st.length ≤ 4000000000 ∧ g.pg.length ≤ 4000000000 ∧ g.me.length ≤ 4000000000) := by have := hs.out; unfold smaG at this; exact ⟨by omega, by omega, by omega⟩
  obtain ⟨kk, hkk⟩ : ∃ k, d.ky = k := ⟨_, rfl⟩
  have hky : Hid (d.ky = kk) := hkk
  have q1 : decide ((15 : Int) < kk) = false := by rw [← hkk]; simp; omega
  have q2 : ((r : Int) != 1) = false := by simp; omega
  have h15' : Hid (d.ky ≤ 15) := h15
  have hmay : Hid (g.me.length = 3232 ∧ g.pg.length = 256 ∧ g.st.length ≤ 12) := by have := hm.out; unfold Gm.may at this; simp at this; exact ⟨by omega, by omega, by omega⟩
  obtain ⟨P2, hP2⟩ : ∃ z, (g.pc + 2) % 65536 = z := ⟨_, rfl⟩
  have ipc : (g.pc : Int) < 65536 := by have := hg.out.ok.pc; omega
  have wP : IntKind.u16.wrap ((g.pc : Int) + 2) = (P2 : Int) := by rw [IntKind.wrap_u16]; omega
  have wP' : ((g.pc : Int) + 2) % 65536 = (P2 : Int) := by omega
  have hP3 : Hid (P2 < 65536) := by show _ < _; omega
  have hon : Hid (g.on = { g with pc := P2 }) := by show _ = _; unfold Gm.on; rw [hP2]
  have hDo : Hid (∀ (B : Nat) (u : World) (C3 : Array Value), GO B u C3 { g with pc := P2 } → B ≤ u.heap.size → FL u D f → Calls Tryz.prog 31 #[.agg C3, .agg (o6 OD), .agg D, .agg (dCs d)] u (fun e u' => ∃ C', e = .returned (.tuple #[.agg C', .int .u8 (r : Int)]) ∧ Hid (GO B u' C' g2 ∧ BK B u u'))) := fun B u C3 k1 k2 k3 => by
    have h := rdo_any u B C3 D g.on f d (by rw [hon.out]; exact k1) k2 k3 hd OD hod hop hmay.out.1 hmay.out.2.1 hmay.out.2.2 hby.out h15'.out
    rw [hdo] at h
    exact h
  subst hr
  clear hkk h15 hP2 hod hop hdo
  go_enter Tryz.func19, Tryz.ntmps19
  go_wp2_with (first
    | ((with_reducible refine at_load rtG bn C4 ?_ ?_ (.tmp 12) ?_ ?_ ?_ ?_); exact Kb.out.1.bx 5 _ _ _ rfl; exact hS4.out; kernel_rfl; rfl; rfl)
    | ((with_reducible refine at_st rtG (w.heap.size + 3) Z C4 ?_ ?_ ?_ ?_ (.tmp 6) (.tmp 57) ?_ ?_ ?_ ?_ ?_); exact Kb.out.1.bx 3 _ _ _ rfl; exact hZ'.out; exact Kb.out.2.lies.size.1; exact Kb.out.2.lies.size.2.1; rfl; rfl; rfl; rfl; intro yE HE; have KE : Hid (Bx yE (w.heap.size + 3) C4 27 ∧ GO (w.heap.size + 4) yE C4 g2 ∧ Below w.heap.size w yE) := ⟨HE.out.1, Kb.out.2.offT (Kb.out.1.bx 3 _ _ _ rfl) (by decide) (by decide) HE.out.2.2, Kb.out.1.low.trans (HE.out.2.1 _ (Nat.le_add_right _ _))⟩; clear HE)
    | ((with_reducible refine at_st rtG bn C3 C4 ?_ ?_ ?_ ?_ (.tmp 12) (.tmp 50) ?_ ?_ ?_ ?_ ?_); exact K9.out.1.bx 5 _ _ _ rfl; exact hS3.out; exact K9.out.2.lies.size.1; exact K9.out.2.lies.size.2.1; rfl; rfl; rfl; rfl; intro yb Hb; have Kb : Hid (Fm w [(w.heap.size, C, 27), (w.heap.size + 1, D, 30), (w.heap.size + 2, (dCs d), 38), (w.heap.size + 3, Z, 27), (bo, o6 OD, 60), (bn, C4, 27)] yb ∧ GO (w.heap.size + 4) yb C4 g2) := ⟨K9.out.1.put 5 _ _ _ _ rfl Hb.out, (K9.out.2.offT (K9.out.1.bx 5 _ _ _ rfl) (by decide) (by decide) Hb.out.2.2).weak (by have := K6.out.2.2; omega)⟩; clear Hb; have hS4 : Hid (C4.size = 23) := Kb.out.2.lies.size.1)
    | (go_at_call 31; refine (hDo.out B5 y8 C3 K8.out.2 (Nat.le_trans hBn.out.2 (Nat.le_of_lt (heap_lt (K8.out.1.bx 5 _ _ _ rfl)))) (hf.out.below K8.out.1.low)).mono ?_; rintro e y9 ⟨C4, rfl, H9⟩; have K9 : Hid (Fm w [(w.heap.size, C, 27), (w.heap.size + 1, D, 30), (w.heap.size + 2, (dCs d), 38), (w.heap.size + 3, Z, 27), (bo, o6 OD, 60), (bn, C3, 27)] y9 ∧ GO B5 y9 C4 g2) := ⟨K8.out.1.bk H9.out.2 hBn.out.1 rfl, H9.out.1⟩; clear H9)
    | ((with_reducible refine at_load rtG bn C3 ?_ ?_ (.tmp 12) ?_ ?_ ?_ ?_); exact K8.out.1.bx 5 _ _ _ rfl; exact hS3.out; kernel_rfl; rfl; rfl)
    | ((with_reducible refine at_load rtO bo (o6 OD) ?_ ?_ (.tmp 10) ?_ ?_ ?_ ?_); exact K8.out.1.bx 4 _ _ _ rfl; rfl; kernel_rfl; rfl; rfl)
    | ((with_reducible refine at_load rtFd (w.heap.size + 2) (dCs d) ?_ ?_ (.tmp 5) ?_ ?_ ?_ ?_); exact K8.out.1.bx 2 _ _ _ rfl; rfl; kernel_rfl; rfl; rfl)
    | ((with_reducible refine gen_world (ya.setCell ⟨bn, 17, none⟩ (.int .u16 (P2 : Int))) (fun yy => Fm w [(w.heap.size, C, 27), (w.heap.size + 1, D, 30), (w.heap.size + 2, (dCs d), 38), (w.heap.size + 3, Z, 27), (bo, o6 OD, 60), (bn, C3, 27)] yy ∧ GO B5 yy C3 { g with pc := P2 }) ?_ ?_); (exact ⟨Ka.out.1.setCell 5 _ _ _ _ rfl 17 _ hC3.out.symm, (by have h := (Ka.out.2).offT (Ka.out.1.bx 5 _ _ _ rfl) (by decide) (by decide) (fun q' hq' => heap_setCell_other ya ⟨bn, 17, none⟩ q' (.int .u16 (P2 : Int)) hq'); have h' := h.rpc P2 hP3.out; rw [hC3.out]; exact h')⟩); intro y8 K8; clear z17; have hS3 : Hid (C3.size = 23) := K8.out.2.lies.size.1)
    | ((with_reducible refine at_st rtG y6.heap.size Z C2 ?_ ?_ ?_ ?_ (.tmp 12) (.tmp 39) ?_ ?_ ?_ ?_ ?_); exact K7.out.1.bx 5 _ _ _ rfl; exact hZ'.out; exact K7.out.2.lies.size.1; exact K7.out.2.lies.size.2.1; rfl; rfl; rfl; rfl; intro ya Ha; have hBn : Hid (w.heap.size ≤ B5 ∧ B5 ≤ y6.heap.size) := ⟨by have := K6.out.2.2; omega, K6.out.2.2.2.2⟩; obtain ⟨bn, hbn⟩ : ∃ z, y6.heap.size = z := ⟨_, rfl⟩; have Ka : Hid (Fm w [(w.heap.size, C, 27), (w.heap.size + 1, D, 30), (w.heap.size + 2, (dCs d), 38), (w.heap.size + 3, Z, 27), (bo, o6 OD, 60), (bn, C2, 27)] ya ∧ GO B5 ya C2 g) := (by rw [← hbn]; exact ⟨K7.out.1.put 5 _ _ _ _ rfl Ha.out, K7.out.2.offT (K7.out.1.bx 5 _ _ _ rfl) (by decide) (by decide) Ha.out.2.2⟩); rw [hbn] at hBn ⊢; clear Ha hbn; have s17 := (Ka.out.1.bx 5 _ _ _ rfl).c 17 _ Ka.out.2.rest.2.1; have z17 := (Ka.out.1.bx 5 _ _ _ rfl).fz 17; obtain ⟨C3, hC3⟩ : ∃ z, Hid (z = C2.setIfInBounds 17 (.int .u16 (P2 : Int))) := ⟨_, (rfl : C2.setIfInBounds 17 (.int .u16 (P2 : Int)) = _)⟩)
    | ((with_reducible refine gen_world (y6.alloc (.cells z23A 27)) (fun y => Fm w [(w.heap.size, C, 27), (w.heap.size + 1, D, 30), (w.heap.size + 2, (dCs d), 38), (w.heap.size + 3, Z, 27), (bo, o6 OD, 60), (y6.heap.size, Z, 27)] y ∧ GO B5 y C2 g) ?_ ?_); (rw [hZ.out] at K6 ⊢; unfold gZ at K6 ⊢; exact ⟨K6.out.1.new _ _, K6.out.2.1.below (below1 y6 _)⟩); intro y7 K7)
    | (go_at_call 25; refine (copied_any y5 C g (hg.out.below K5.out.1.low) nst.out.1 nst.out.2.1 nst.out.2.2).mono ?_; rintro e y6 ⟨C2, rfl, H6⟩; have K6 : Hid (Fm w [(w.heap.size, C, 27), (w.heap.size + 1, D, 30), (w.heap.size + 2, (dCs d), 38), (w.heap.size + 3, Z, 27), (bo, o6 OD, 60)] y6 ∧ GO y5.heap.size y6 C2 g ∧ w.heap.size + 4 ≤ bo ∧ bo < y5.heap.size ∧ y5.heap.size ≤ y6.heap.size) := ⟨K5.out.1.below H6.out.2, H6.out.1, K5.out.2, heap_lt (K5.out.1.bx 4 _ _ _ rfl), H6.out.2.size⟩; clear H6; obtain ⟨B5, hB5⟩ : ∃ z, y5.heap.size = z := ⟨_, rfl⟩; rw [hB5] at K6; clear hB5)
    | ((with_reducible refine gen_world ((((w.alloc (.cells C 27)).alloc (.cells D 30)).alloc (.cells (dCs d) 38)).alloc (.cells z23A 27)) (fun y => Fm w [(w.heap.size, C, 27), (w.heap.size + 1, D, 30), (w.heap.size + 2, (dCs d), 38), (w.heap.size + 3, Z, 27)] y ∧ y.heap.size = w.heap.size + 4) ?_ ?_); (rw [hZ.out]; unfold gZ; exact ⟨Fm.four w _ _ _ _ _ _ _ _, by simp [World.size_alloc]⟩); intro y0 K0)
    | ((with_reducible refine at_load rtG w.heap.size C ?_ ?_ (.tmp 3) ?_ ?_ ?_ ?_); (first | exact K5.out.1.bx 0 _ _ _ rfl | exact K2.out.1.bx 0 _ _ _ rfl | exact K0.out.1.bx 0 _ _ _ rfl); exact gC.out; kernel_rfl; rfl; rfl)
    | (go_at_call 14; refine (rcheck_gl y0 C g (hg.out.below K0.out.1.low)).mono ?_; rintro e y1 ⟨rfl, H1⟩; have K1 : Hid (Fm w [(w.heap.size, C, 27), (w.heap.size + 1, D, 30), (w.heap.size + 2, (dCs d), 38), (w.heap.size + 3, Z, 27)] y1 ∧ w.heap.size + 4 ≤ y1.heap.size) := ⟨K0.out.1.below H1, (by have := H1.size; rw [K0.out.2] at this; exact this)⟩; rw [hm.out]; have ky := (K1.out.1.bx 2 _ _ _ rfl).c 2 (.int .i64 d.ky) rfl; rw [hky.out] at ky)
    | ((with_reducible refine at_load rtFn (w.heap.size + 1) D ?_ ?_ (.tmp 4) ?_ ?_ ?_ ?_); (first | exact K8.out.1.bx 1 _ _ _ rfl | exact K1.out.1.bx 1 _ _ _ rfl); exact gD.out; kernel_rfl; rfl; rfl)
    | (go_at_call 29; refine (fontmay_any y1 D f (hf.out.below K1.out.1.low) hby.out).mono ?_; rintro e y2 ⟨rfl, H2⟩; have K2 : Hid (Fm w [(w.heap.size, C, 27), (w.heap.size + 1, D, 30), (w.heap.size + 2, (dCs d), 38), (w.heap.size + 3, Z, 27)] y2 ∧ w.heap.size + 4 ≤ y2.heap.size) := ⟨K1.out.1.below H2, Nat.le_trans K1.out.2 H2.size⟩; rw [hfo.out]; have ky2 := (K2.out.1.bx 2 _ _ _ rfl).c 2 (.int .i64 d.ky) rfl; rw [hky.out] at ky2)
    | (go_at_call 30; refine (hnx.out y2 K2.out.1.low).mono ?_; rintro e y3 ⟨rfl, H3⟩; have K3 : Hid (Fm w [(w.heap.size, C, 27), (w.heap.size + 1, D, 30), (w.heap.size + 2, (dCs d), 38), (w.heap.size + 3, Z, 27)] y3 ∧ w.heap.size + 4 ≤ y3.heap.size) := ⟨K2.out.1.below H3, Nat.le_trans K2.out.2 H3.size⟩)
    | ((with_reducible refine gen_world (y3.alloc (.cells z6A 60)) (fun y => Fm w [(w.heap.size, C, 27), (w.heap.size + 1, D, 30), (w.heap.size + 2, (dCs d), 38), (w.heap.size + 3, Z, 27), (y3.heap.size, z6A, 60)] y ∧ y3.heap.size < y.heap.size) ?_ ?_); (exact ⟨K3.out.1.new _ _, by simp [World.size_alloc]⟩); intro y4 K4)
    | ((with_reducible refine at_st rtO y3.heap.size z6A (o6 OD) ?_ ?_ ?_ ?_ (.tmp 10) (.tmp 31) ?_ ?_ ?_ ?_ ?_); exact K4.out.1.bx 4 _ _ _ rfl; rfl; rfl; exact o6_one OD; rfl; rfl; rfl; rfl; intro y5 H5; obtain ⟨bo, hbo⟩ : ∃ x, y3.heap.size = x := ⟨_, rfl⟩; have K5 : Hid (Fm w [(w.heap.size, C, 27), (w.heap.size + 1, D, 30), (w.heap.size + 2, (dCs d), 38), (w.heap.size + 3, Z, 27), (bo, o6 OD, 60)] y5 ∧ w.heap.size + 4 ≤ bo) := (by rw [← hbo]; exact ⟨K4.out.1.put 4 _ _ _ _ rfl H5.out, K3.out.2⟩); rw [hbo]; clear hbo H5))
  exact ret_three rtG rfl rfl rfl rfl KE.out.1 KE.out.2.1.lies.size.1 rfl ⟨C4, rfl, KE.out.2.1.weak (by omega), KE.out.2.2⟩
theorem rstep_any (w : World) (C D : Array Value) (g : Gm) (f : Fo) (d : Fd) (hg : GL w C g) (hf : FL w D f) (hd : d.Ok) (hs : smaG g f) :
    Calls Tryz.prog 19 #[.agg C, .agg D, .agg (dCs d)] w fun e w' => ∃ C', e = .returned (.tuple #[.agg C', .int .u8 ((stepG g f d).2.1 : Int), .int .i64 ((stepG g f d).2.2 : Int)]) ∧ GO w.heap.size w' C' (stepG g f d).1 ∧ Below w.heap.size w w' := by
  rcases hm : g.may with _ | _
  · have e : stepG g f d = (gz, 0, 180) := by unfold stepG; rw [hm]; rfl
    rw [e]
    exact rstep_bad w C D g f d hg hf hd hs hm
  · rcases hfo : fontG f with _ | _
    · have e := step_arg (d := d) hm (by rw [hfo]; rfl)
      rw [e]
      exact rstep_font w C D g f d hg hf hd hs hm hfo
    · by_cases hk : d.ky ≤ 15
      · have hnx : Hid (∀ y, Below w.heap.size w y → Calls Tryz.prog 30 #[.agg C] y fun e w' => e = .returned (.tuple #[.agg (o6 (nextG g).1), .int .u8 ((nextG g).2 : Int)]) ∧ Below y.heap.size y w') := fun y hy => rnext_any y C g (hg.below hy)
        have e0 : stepG g f d = if (nextG g).2 = 1 then if (doG g.on (nextG g).1 f d).2 = 1 then ((doG g.on (nextG g).1 f d).1, 1, 0) else (g, (doG g.on (nextG g).1 f d).2, 0) else (g, (nextG g).2, 0) := by
          unfold stepG
          rw [if_pos hm, if_pos (by rw [hfo]; simpa using hk)]
        by_cases h1 : (nextG g).2 = 1
        · rw [if_pos h1] at e0
          obtain ⟨_, _, _, hdb, eo, hop⟩ := next_done h1
          have hb := dec_op _ hdb
          rw [← eo] at hb hop
          have hok : (nextG g).1.Ok := by rw [eo]; exact dec_ok _
          rw [h1] at hnx
          obtain ⟨g2, r, hdo⟩ : ∃ g2 r, doG g.on (nextG g).1 f d = (g2, r) := ⟨_, _, rfl⟩
          rw [hdo] at e0
          by_cases h2 : r = 1
          · rw [if_pos h2] at e0
            rw [e0]
            exact rstep_done w C D g f d hg hf hd hs hm hfo hk (nextG g).1 hnx ⟨hok.x, hok.y, hok.n, hok.b, hok.a⟩ (by omega) g2 r hdo h2
          · rw [if_neg h2] at e0
            rw [e0]
            exact rstep_not w C D g f d hg hf hd hs hm hfo hk (nextG g).1 hnx ⟨hok.x, hok.y, hok.n, hok.b, hok.a⟩ (by omega) g2 r hdo h2
        · rw [if_neg h1] at e0
          rw [e0]
          exact rstep_plain w C D g f d hg hf hd hs hm hfo hk (nextG g).1 (nextG g).2 hnx h1
      · have e := step_arg (f := f) (d := d) hm (by rw [hfo]; simpa using hk)
        rw [e]
        exact rstep_key w C D g f d hg hf hd hs hm hfo (by omega)
end Go.Proofs.YteipjkjpeookaaaGreat
