/- The document's own: a machine a sixtieth of a second later. -/
import Derived.Test.YteipjkjpeookaaaGreatJ8
namespace Go.Proofs.YteipjkjpeookaaaGreat
open Go Go.RowKit Go.Shelf
set_option linter.unusedVariables false
set_option maxHeartbeats 1000000
set_option maxRecDepth 20000

theorem rcheck_gl (w : World) (C : Array Value) (g : Gm) (h : GL w C g) : Calls Tryz.prog 14 #[.agg C] w fun e w' => e = .returned (.int .i64 (if g.may then 0 else 180)) ∧ Below w.heap.size w w' := by
  obtain ⟨⟨sS, sP, sM, cS, cP, cM, rfl, h1, h2, h3⟩, ok⟩ := h
  exact rcheck_any w _ _ _ _ _ _ _ _ _ _ _ _ _ _
theorem GO.keep {B : Nat} {x y : World} {C : Array Value} {g : Gm} (h : GO B x C g) (k : ∀ q, B ≤ q → y.heap[q]? = x.heap[q]?) : GO B y C g := by
  obtain ⟨⟨vS, vP, vM, e, h1, h2, h3, h4⟩, ok⟩ := h
  exact ⟨⟨vS, vP, vM, e, h1.keepB fun q hq => k q (h1.lt q hq).1, h2.keepB fun q hq => k q (h2.lt q hq).1, h3.keepB fun q hq => k q (h3.lt q hq).1, h4⟩, ok⟩
theorem GO.zero (B : Nat) (w : World) : GO B w gZ gz := ⟨⟨.slice none 0 0, .slice none 0 0, .slice none 0 0, rfl, OwnL.nil _ _, OwnL.nil _ _, OwnL.nil _ _, fun q hq => by simp [Value.ownBlock] at hq⟩, gz_ok⟩
theorem GO.de {B : Nat} {w : World} {C : Array Value} {g : Gm} (h : GO B w C g) (d : UInt8) : GO B w (C.setIfInBounds 19 (byV d)) { g with de := d } := by
  obtain ⟨⟨vS, vP, vM, e, h1, h2, h3, h4⟩, ok⟩ := h
  exact ⟨⟨vS, vP, vM, by rw [e, gCs_de], h1, h2, h3, h4⟩, ⟨ok.v, ok.i, ok.pc, ok.st⟩⟩
theorem GO.so {B : Nat} {w : World} {C : Array Value} {g : Gm} (h : GO B w C g) (d : UInt8) : GO B w (C.setIfInBounds 20 (byV d)) { g with so := d } := by
  obtain ⟨⟨vS, vP, vM, e, h1, h2, h3, h4⟩, ok⟩ := h
  exact ⟨⟨vS, vP, vM, by rw [e, gCs_so], h1, h2, h3, h4⟩, ⟨ok.v, ok.i, ok.pc, ok.st⟩⟩
theorem GO.timers {B : Nat} {w : World} {C : Array Value} {g : Gm} (h : GO B w C g) : C[19]? = some (byV g.de) ∧ C[20]? = some (byV g.so) := by
  obtain ⟨⟨vS, vP, vM, e, h1, h2, h3, h4⟩, ok⟩ := h
  rw [e]
  exact ⟨rfl, rfl⟩
theorem GO.weak {B B' : Nat} {w : World} {C : Array Value} {g : Gm} (h : GO B w C g) (hB : B' ≤ B) : GO B' w C g := by
  obtain ⟨⟨vS, vP, vM, e, h1, h2, h3, h4⟩, ok⟩ := h
  exact ⟨⟨vS, vP, vM, e, h1.weak hB, h2.weak hB, h3.weak hB, h4⟩, ok⟩
theorem dec1 (d : UInt8) (h : d ≠ 0) : ((d.toNat : Int) - 1) % 256 = ((d - 1).toNat : Int) ∧ decide (0 < d.toNat) = true := by
  have h0 : d.toNat ≠ 0 := fun e => h (UInt8.toNat_inj.1 e)
  have h1 := d.toNat_lt
  have e : (d - 1).toNat = d.toNat - 1 := by
    rw [UInt8.toNat_sub_of_le]
    · rfl
    · rw [UInt8.le_iff_toNat_le]
      show 1 ≤ d.toNat
      omega
  refine ⟨?_, by simp; omega⟩
  rw [e]
  omega
theorem rtick_any (w : World) (C : Array Value) (g : Gm) (hg : Hid (GL w C g)) (n1 : Hid (g.st.length ≤ 4000000000)) (n2 : Hid (g.pg.length ≤ 4000000000)) (n3 : Hid (g.me.length ≤ 4000000000)) :
    Calls Tryz.prog 11 #[.agg C] w fun e w' => ∃ C', e = .returned (.agg C') ∧ Hid (GO w.heap.size w' C' (tickG g) ∧ Below w.heap.size w w') := by
  have gC : Hid (C.size = 23) := hg.out.size.1
  obtain ⟨Z, hZ⟩ : ∃ x : Array Value, Hid (x = gZ) := ⟨_, (rfl : gZ = gZ)⟩
  have hZ' : Hid (Z.size = 23) := by show _ = _; rw [hZ.out]; rfl
  rcases hm0 : g.may with _ | _
  · have hm : Hid (g.may = false) := hm0
    have e0 : tickG g = gz := by unfold tickG; rw [hm0]; rfl
    rw [e0]
    clear hm0 e0
    go_enter Tryz.func11, Tryz.ntmps11
    go_wp2_with (first
      | ((with_reducible refine gen_world ((w.alloc (.cells C 27)).alloc (.cells #[.int .u8 0, .int .u8 0, .int .u8 0, .int .u8 0, .int .u8 0, .int .u8 0, .int .u8 0, .int .u8 0, .int .u8 0, .int .u8 0, .int .u8 0, .int .u8 0, .int .u8 0, .int .u8 0, .int .u8 0, .int .u8 0, .int .u16 0, .int .u16 0, .slice none 0 0, .int .u8 0, .int .u8 0, .slice none 0 0, .slice none 0 0] 27)) (Fm w [(w.heap.size, C, 27), (w.heap.size + 1, Z, 27)]) ?_ ?_); (rw [hZ.out]; unfold gZ; exact Fm.two w _ _ _ _); intro y0 K0)
      | ((with_reducible refine at_load rtG w.heap.size C ?_ ?_ (.tmp 1) ?_ ?_ ?_ ?_); (first | exact K0.out.bx 0 _ _ _ rfl | exact K1.out.bx 0 _ _ _ rfl); exact gC.out; kernel_rfl; rfl; rfl)
      | (go_at_call 14; refine (rcheck_gl y0 C g (hg.out.below K0.out.low)).mono ?_; rintro e y1 ⟨rfl, H1⟩; have K1 : Hid (Fm w [(w.heap.size, C, 27), (w.heap.size + 1, Z, 27)] y1) := K0.out.below H1; rw [hm.out])
      | ((with_reducible refine at_bu #[] [] gZ ?_ ?_ ?_ builtG0 ?_); kernel_rfl; rfl; rfl)
      | ((with_reducible refine at_st rtG (w.heap.size + 1) Z gZ ?_ ?_ ?_ ?_ (.tmp 2) (.tmp 6) ?_ ?_ ?_ ?_ ?_); exact K1.out.bx 1 _ _ _ rfl; exact hZ'.out; rfl; kernel_rfl; rfl; rfl; rfl; rfl; intro y2 H2; have K2 : Hid (Fm w [(w.heap.size, C, 27), (w.heap.size + 1, gZ, 27)] y2) := K1.out.put 1 _ _ _ _ rfl H2.out))
    exact ret_row rtG rfl rfl (K2.out.bx 1 _ _ _ rfl) rfl rfl ⟨_, rfl, ⟨GO.zero _ _, K2.out.low⟩⟩
  · have hm : Hid (g.may = true) := hm0
    obtain ⟨x, hx0⟩ : ∃ x, g.de.toNat = x := ⟨_, rfl⟩
    obtain ⟨y, hy0⟩ : ∃ x, g.so.toNat = x := ⟨_, rfl⟩
    have hx : Hid (g.de.toNat = x) := hx0
    have hy : Hid (g.so.toNat = y) := hy0
    by_cases d0 : g.de = 0
    · by_cases s0 : g.so = 0
      · have q1 : decide (0 < x) = false := by rw [← hx0, d0]; rfl
        have q3 : decide (0 < y) = false := by rw [← hy0, s0]; rfl
        have e0 : tickG g = g := by unfold tickG; rw [if_pos hm0]; simp only [d0, s0] <;> first | rfl | (cases g; simp_all)
        rw [e0]
        clear hm0 hx0 hy0 e0 d0 s0
        go_enter Tryz.func11, Tryz.ntmps11
        go_wp2_with (first
          | ((with_reducible refine gen_world ((w.alloc (.cells C 27)).alloc (.cells #[.int .u8 0, .int .u8 0, .int .u8 0, .int .u8 0, .int .u8 0, .int .u8 0, .int .u8 0, .int .u8 0, .int .u8 0, .int .u8 0, .int .u8 0, .int .u8 0, .int .u8 0, .int .u8 0, .int .u8 0, .int .u8 0, .int .u16 0, .int .u16 0, .slice none 0 0, .int .u8 0, .int .u8 0, .slice none 0 0, .slice none 0 0] 27)) (Fm w [(w.heap.size, C, 27), (w.heap.size + 1, Z, 27)]) ?_ ?_); (rw [hZ.out]; unfold gZ; exact Fm.two w _ _ _ _); intro y0 K0)
          | ((with_reducible refine at_load rtG w.heap.size C ?_ ?_ (.tmp 1) ?_ ?_ ?_ ?_); (first | exact K0.out.bx 0 _ _ _ rfl | exact K1.out.bx 0 _ _ _ rfl); exact gC.out; kernel_rfl; rfl; rfl)
          | (go_at_call 14; refine (rcheck_gl y0 C g (hg.out.below K0.out.low)).mono ?_; rintro e y1 ⟨rfl, H1⟩; have K1 : Hid (Fm w [(w.heap.size, C, 27), (w.heap.size + 1, Z, 27)] y1) := K0.out.below H1; rw [hm.out])
          | (go_at_call 25; refine (copied_any y1 C g (hg.out.below K1.out.low) n1.out n2.out n3.out).mono ?_; rintro e y2 ⟨C1, rfl, H2⟩; have K2 : Hid (Fm w [(w.heap.size, C, 27), (w.heap.size + 1, Z, 27)] y2) := K1.out.below H2.out.2; have B2 : Hid (w.heap.size + 1 < y1.heap.size) := heap_lt (K1.out.bx 1 _ _ _ rfl))
          | ((with_reducible refine at_st rtG w.heap.size C C1 ?_ ?_ ?_ ?_ (.tmp 1) (.tmp 8) ?_ ?_ ?_ ?_ ?_); exact K2.out.bx 0 _ _ _ rfl; exact gC.out; exact H2.out.1.lies.size.1; exact H2.out.1.lies.size.2.1; rfl; rfl; rfl; rfl; intro y3 H3; have K3 : Hid (Fm w [(w.heap.size, C1, 27), (w.heap.size + 1, Z, 27)] y3) := K2.out.put 0 _ _ _ _ rfl H3.out; have J3 : Hid (GO y1.heap.size y3 C1 g) := H2.out.1.keep fun q hq => H3.out.2.2 q (by have := B2.out; omega); have t19 := (K3.out.bx 0 _ _ _ rfl).c 19 _ J3.out.timers.1; have t20 := (K3.out.bx 0 _ _ _ rfl).c 20 _ J3.out.timers.2; have z19 := (K3.out.bx 0 _ _ _ rfl).fz 19; have z20 := (K3.out.bx 0 _ _ _ rfl).fz 20; unfold byV at t19 t20; rw [hx.out] at t19; rw [hy.out] at t20)
          | ((with_reducible refine at_load rtG w.heap.size C1 ?_ ?_ (.tmp 1) ?_ ?_ ?_ ?_); exact K3.out.bx 0 _ _ _ rfl; exact J3.out.lies.size.1; kernel_rfl; rfl; rfl)
          | ((with_reducible refine at_st rtG (w.heap.size + 1) Z C1 ?_ ?_ ?_ ?_ (.tmp 2) (.tmp 23) ?_ ?_ ?_ ?_ ?_); exact K3.out.bx 1 _ _ _ rfl; exact hZ'.out; exact J3.out.lies.size.1; exact J3.out.lies.size.2.1; rfl; rfl; rfl; rfl; intro y9 H9; have K9 : Hid (Fm w [(w.heap.size, C1, 27), (w.heap.size + 1, C1, 27)] y9) := K3.out.put 1 _ _ _ _ rfl H9.out; have J9 := J3.out.keep (y := y9) fun q hq => H9.out.2.2 q (by have := B2.out; omega)))
        exact ret_row rtG rfl rfl (K9.out.bx 1 _ _ _ rfl) J9.lies.size.1 rfl ⟨_, rfl, ⟨J9.weak (by have := B2.out; omega), K9.out.low⟩⟩
      · have q1 : decide (0 < x) = false := by rw [← hx0, d0]; rfl
        obtain ⟨y2', hy2⟩ : ∃ q, (g.so - 1).toNat = q := ⟨_, rfl⟩
        have q3 : decide (0 < y) = true := by rw [← hy0]; exact (dec1 _ s0).2
        have q4 : ((y : Int) - 1) % 256 = (y2' : Int) := by rw [← hy0, ← hy2]; exact (dec1 _ s0).1
        have hyy : Hid ((g.so - 1).toNat = y2') := hy2
        have e0 : tickG g = { g with so := g.so - 1 } := by unfold tickG; rw [if_pos hm0]; simp only [d0, if_neg s0] <;> first | rfl | (cases g; simp_all)
        rw [e0]
        clear hm0 hx0 hy0 e0 d0 s0 hy2
        go_enter Tryz.func11, Tryz.ntmps11
        go_wp2_with (first
          | ((with_reducible refine gen_world ((w.alloc (.cells C 27)).alloc (.cells #[.int .u8 0, .int .u8 0, .int .u8 0, .int .u8 0, .int .u8 0, .int .u8 0, .int .u8 0, .int .u8 0, .int .u8 0, .int .u8 0, .int .u8 0, .int .u8 0, .int .u8 0, .int .u8 0, .int .u8 0, .int .u8 0, .int .u16 0, .int .u16 0, .slice none 0 0, .int .u8 0, .int .u8 0, .slice none 0 0, .slice none 0 0] 27)) (Fm w [(w.heap.size, C, 27), (w.heap.size + 1, Z, 27)]) ?_ ?_); (rw [hZ.out]; unfold gZ; exact Fm.two w _ _ _ _); intro y0 K0)
          | ((with_reducible refine at_load rtG w.heap.size C ?_ ?_ (.tmp 1) ?_ ?_ ?_ ?_); (first | exact K0.out.bx 0 _ _ _ rfl | exact K1.out.bx 0 _ _ _ rfl); exact gC.out; kernel_rfl; rfl; rfl)
          | (go_at_call 14; refine (rcheck_gl y0 C g (hg.out.below K0.out.low)).mono ?_; rintro e y1 ⟨rfl, H1⟩; have K1 : Hid (Fm w [(w.heap.size, C, 27), (w.heap.size + 1, Z, 27)] y1) := K0.out.below H1; rw [hm.out])
          | (go_at_call 25; refine (copied_any y1 C g (hg.out.below K1.out.low) n1.out n2.out n3.out).mono ?_; rintro e y2 ⟨C1, rfl, H2⟩; have K2 : Hid (Fm w [(w.heap.size, C, 27), (w.heap.size + 1, Z, 27)] y2) := K1.out.below H2.out.2; have B2 : Hid (w.heap.size + 1 < y1.heap.size) := heap_lt (K1.out.bx 1 _ _ _ rfl))
          | ((with_reducible refine at_st rtG w.heap.size C C1 ?_ ?_ ?_ ?_ (.tmp 1) (.tmp 8) ?_ ?_ ?_ ?_ ?_); exact K2.out.bx 0 _ _ _ rfl; exact gC.out; exact H2.out.1.lies.size.1; exact H2.out.1.lies.size.2.1; rfl; rfl; rfl; rfl; intro y3 H3; have K3 : Hid (Fm w [(w.heap.size, C1, 27), (w.heap.size + 1, Z, 27)] y3) := K2.out.put 0 _ _ _ _ rfl H3.out; have J3 : Hid (GO y1.heap.size y3 C1 g) := H2.out.1.keep fun q hq => H3.out.2.2 q (by have := B2.out; omega); have t19 := (K3.out.bx 0 _ _ _ rfl).c 19 _ J3.out.timers.1; have t20 := (K3.out.bx 0 _ _ _ rfl).c 20 _ J3.out.timers.2; have z19 := (K3.out.bx 0 _ _ _ rfl).fz 19; have z20 := (K3.out.bx 0 _ _ _ rfl).fz 20; unfold byV at t19 t20; rw [hx.out] at t19; rw [hy.out] at t20)
          | ((with_reducible refine gen_world (y3.setCell ⟨w.heap.size, 20, none⟩ (.int .u8 (y2' : Int))) (fun z => ∃ C', Fm w [(w.heap.size, C', 27), (w.heap.size + 1, Z, 27)] z ∧ GO y1.heap.size z C' { g with so := g.so - 1 }) ?_ ?_); (refine ⟨_, K3.out.setCell 0 _ _ _ _ rfl 20 _ rfl, ?_⟩; have := (J3.out.so (g.so - 1)); unfold byV at this; rw [hyy.out] at this; exact this.keep fun q hq => heap_setCell_other y3 ⟨w.heap.size, 20, none⟩ q _ (by have := B2.out; show q ≠ w.heap.size; omega)); (intro y5 K5x; obtain ⟨K5C, K5k, K5j⟩ := K5x.out; have K5 : Hid (Fm w [(w.heap.size, K5C, 27), (w.heap.size + 1, Z, 27)] y5) := K5k; have J5 : Hid (GO y1.heap.size y5 K5C { g with so := g.so - 1 }) := K5j; clear K5x K5k K5j))
          | ((with_reducible refine at_load rtG w.heap.size K5C ?_ ?_ (.tmp 1) ?_ ?_ ?_ ?_); exact K5.out.bx 0 _ _ _ rfl; exact J5.out.lies.size.1; kernel_rfl; rfl; rfl)
          | ((with_reducible refine at_st rtG (w.heap.size + 1) Z K5C ?_ ?_ ?_ ?_ (.tmp 2) (.tmp 23) ?_ ?_ ?_ ?_ ?_); exact K5.out.bx 1 _ _ _ rfl; exact hZ'.out; exact J5.out.lies.size.1; exact J5.out.lies.size.2.1; rfl; rfl; rfl; rfl; intro y9 H9; have K9 : Hid (Fm w [(w.heap.size, K5C, 27), (w.heap.size + 1, K5C, 27)] y9) := K5.out.put 1 _ _ _ _ rfl H9.out; have J9 := J5.out.keep (y := y9) fun q hq => H9.out.2.2 q (by have := B2.out; omega)))
        exact ret_row rtG rfl rfl (K9.out.bx 1 _ _ _ rfl) J9.lies.size.1 rfl ⟨_, rfl, ⟨J9.weak (by have := B2.out; omega), K9.out.low⟩⟩
    · by_cases s0 : g.so = 0
      · obtain ⟨x2, hx2⟩ : ∃ q, (g.de - 1).toNat = q := ⟨_, rfl⟩
        have q1 : decide (0 < x) = true := by rw [← hx0]; exact (dec1 _ d0).2
        have q2 : ((x : Int) - 1) % 256 = (x2 : Int) := by rw [← hx0, ← hx2]; exact (dec1 _ d0).1
        have hxx : Hid ((g.de - 1).toNat = x2) := hx2
        have q3 : decide (0 < y) = false := by rw [← hy0, s0]; rfl
        have e0 : tickG g = { g with de := g.de - 1 } := by unfold tickG; rw [if_pos hm0]; simp only [if_neg d0, s0] <;> first | rfl | (cases g; simp_all)
        rw [e0]
        clear hm0 hx0 hy0 e0 d0 s0 hx2
        go_enter Tryz.func11, Tryz.ntmps11
        go_wp2_with (first
          | ((with_reducible refine gen_world ((w.alloc (.cells C 27)).alloc (.cells #[.int .u8 0, .int .u8 0, .int .u8 0, .int .u8 0, .int .u8 0, .int .u8 0, .int .u8 0, .int .u8 0, .int .u8 0, .int .u8 0, .int .u8 0, .int .u8 0, .int .u8 0, .int .u8 0, .int .u8 0, .int .u8 0, .int .u16 0, .int .u16 0, .slice none 0 0, .int .u8 0, .int .u8 0, .slice none 0 0, .slice none 0 0] 27)) (Fm w [(w.heap.size, C, 27), (w.heap.size + 1, Z, 27)]) ?_ ?_); (rw [hZ.out]; unfold gZ; exact Fm.two w _ _ _ _); intro y0 K0)
          | ((with_reducible refine at_load rtG w.heap.size C ?_ ?_ (.tmp 1) ?_ ?_ ?_ ?_); (first | exact K0.out.bx 0 _ _ _ rfl | exact K1.out.bx 0 _ _ _ rfl); exact gC.out; kernel_rfl; rfl; rfl)
          | (go_at_call 14; refine (rcheck_gl y0 C g (hg.out.below K0.out.low)).mono ?_; rintro e y1 ⟨rfl, H1⟩; have K1 : Hid (Fm w [(w.heap.size, C, 27), (w.heap.size + 1, Z, 27)] y1) := K0.out.below H1; rw [hm.out])
          | (go_at_call 25; refine (copied_any y1 C g (hg.out.below K1.out.low) n1.out n2.out n3.out).mono ?_; rintro e y2 ⟨C1, rfl, H2⟩; have K2 : Hid (Fm w [(w.heap.size, C, 27), (w.heap.size + 1, Z, 27)] y2) := K1.out.below H2.out.2; have B2 : Hid (w.heap.size + 1 < y1.heap.size) := heap_lt (K1.out.bx 1 _ _ _ rfl))
          | ((with_reducible refine at_st rtG w.heap.size C C1 ?_ ?_ ?_ ?_ (.tmp 1) (.tmp 8) ?_ ?_ ?_ ?_ ?_); exact K2.out.bx 0 _ _ _ rfl; exact gC.out; exact H2.out.1.lies.size.1; exact H2.out.1.lies.size.2.1; rfl; rfl; rfl; rfl; intro y3 H3; have K3 : Hid (Fm w [(w.heap.size, C1, 27), (w.heap.size + 1, Z, 27)] y3) := K2.out.put 0 _ _ _ _ rfl H3.out; have J3 : Hid (GO y1.heap.size y3 C1 g) := H2.out.1.keep fun q hq => H3.out.2.2 q (by have := B2.out; omega); have t19 := (K3.out.bx 0 _ _ _ rfl).c 19 _ J3.out.timers.1; have t20 := (K3.out.bx 0 _ _ _ rfl).c 20 _ J3.out.timers.2; have z19 := (K3.out.bx 0 _ _ _ rfl).fz 19; have z20 := (K3.out.bx 0 _ _ _ rfl).fz 20; unfold byV at t19 t20; rw [hx.out] at t19; rw [hy.out] at t20)
          | ((with_reducible refine gen_world (y3.setCell ⟨w.heap.size, 19, none⟩ (.int .u8 (x2 : Int))) (fun z => ∃ C', Fm w [(w.heap.size, C', 27), (w.heap.size + 1, Z, 27)] z ∧ GO y1.heap.size z C' { g with de := g.de - 1 }) ?_ ?_); (refine ⟨_, K3.out.setCell 0 _ _ _ _ rfl 19 _ rfl, ?_⟩; have := (J3.out.de (g.de - 1)); unfold byV at this; rw [hxx.out] at this; exact this.keep fun q hq => heap_setCell_other y3 ⟨w.heap.size, 19, none⟩ q _ (by have := B2.out; show q ≠ w.heap.size; omega)); (intro y4 K4x; obtain ⟨K4C, K4k, K4j⟩ := K4x.out; have K4 : Hid (Fm w [(w.heap.size, K4C, 27), (w.heap.size + 1, Z, 27)] y4) := K4k; have J4 : Hid (GO y1.heap.size y4 K4C { g with de := g.de - 1 }) := K4j; clear K4x K4k K4j; have u20 := (K4.out.bx 0 _ _ _ rfl).c 20 _ J4.out.timers.2; have v20 := (K4.out.bx 0 _ _ _ rfl).fz 20; unfold byV at u20; rw [hy.out] at u20))
          | ((with_reducible refine at_load rtG w.heap.size K4C ?_ ?_ (.tmp 1) ?_ ?_ ?_ ?_); exact K4.out.bx 0 _ _ _ rfl; exact J4.out.lies.size.1; kernel_rfl; rfl; rfl)
          | ((with_reducible refine at_st rtG (w.heap.size + 1) Z K4C ?_ ?_ ?_ ?_ (.tmp 2) (.tmp 23) ?_ ?_ ?_ ?_ ?_); exact K4.out.bx 1 _ _ _ rfl; exact hZ'.out; exact J4.out.lies.size.1; exact J4.out.lies.size.2.1; rfl; rfl; rfl; rfl; intro y9 H9; have K9 : Hid (Fm w [(w.heap.size, K4C, 27), (w.heap.size + 1, K4C, 27)] y9) := K4.out.put 1 _ _ _ _ rfl H9.out; have J9 := J4.out.keep (y := y9) fun q hq => H9.out.2.2 q (by have := B2.out; omega)))
        exact ret_row rtG rfl rfl (K9.out.bx 1 _ _ _ rfl) J9.lies.size.1 rfl ⟨_, rfl, ⟨J9.weak (by have := B2.out; omega), K9.out.low⟩⟩
      · obtain ⟨x2, hx2⟩ : ∃ q, (g.de - 1).toNat = q := ⟨_, rfl⟩
        have q1 : decide (0 < x) = true := by rw [← hx0]; exact (dec1 _ d0).2
        have q2 : ((x : Int) - 1) % 256 = (x2 : Int) := by rw [← hx0, ← hx2]; exact (dec1 _ d0).1
        have hxx : Hid ((g.de - 1).toNat = x2) := hx2
        obtain ⟨y2', hy2⟩ : ∃ q, (g.so - 1).toNat = q := ⟨_, rfl⟩
        have q3 : decide (0 < y) = true := by rw [← hy0]; exact (dec1 _ s0).2
        have q4 : ((y : Int) - 1) % 256 = (y2' : Int) := by rw [← hy0, ← hy2]; exact (dec1 _ s0).1
        have hyy : Hid ((g.so - 1).toNat = y2') := hy2
        have e0 : tickG g = { ({ g with de := g.de - 1 } : Gm) with so := g.so - 1 } := by unfold tickG; rw [if_pos hm0]; simp only [if_neg d0, if_neg s0] <;> first | rfl | (cases g; simp_all)
        rw [e0]
        clear hm0 hx0 hy0 e0 d0 s0 hx2 hy2
        go_enter Tryz.func11, Tryz.ntmps11
        go_wp2_with (first
          | ((with_reducible refine gen_world ((w.alloc (.cells C 27)).alloc (.cells #[.int .u8 0, .int .u8 0, .int .u8 0, .int .u8 0, .int .u8 0, .int .u8 0, .int .u8 0, .int .u8 0, .int .u8 0, .int .u8 0, .int .u8 0, .int .u8 0, .int .u8 0, .int .u8 0, .int .u8 0, .int .u8 0, .int .u16 0, .int .u16 0, .slice none 0 0, .int .u8 0, .int .u8 0, .slice none 0 0, .slice none 0 0] 27)) (Fm w [(w.heap.size, C, 27), (w.heap.size + 1, Z, 27)]) ?_ ?_); (rw [hZ.out]; unfold gZ; exact Fm.two w _ _ _ _); intro y0 K0)
          | ((with_reducible refine at_load rtG w.heap.size C ?_ ?_ (.tmp 1) ?_ ?_ ?_ ?_); (first | exact K0.out.bx 0 _ _ _ rfl | exact K1.out.bx 0 _ _ _ rfl); exact gC.out; kernel_rfl; rfl; rfl)
          | (go_at_call 14; refine (rcheck_gl y0 C g (hg.out.below K0.out.low)).mono ?_; rintro e y1 ⟨rfl, H1⟩; have K1 : Hid (Fm w [(w.heap.size, C, 27), (w.heap.size + 1, Z, 27)] y1) := K0.out.below H1; rw [hm.out])
          | (go_at_call 25; refine (copied_any y1 C g (hg.out.below K1.out.low) n1.out n2.out n3.out).mono ?_; rintro e y2 ⟨C1, rfl, H2⟩; have K2 : Hid (Fm w [(w.heap.size, C, 27), (w.heap.size + 1, Z, 27)] y2) := K1.out.below H2.out.2; have B2 : Hid (w.heap.size + 1 < y1.heap.size) := heap_lt (K1.out.bx 1 _ _ _ rfl))
          | ((with_reducible refine at_st rtG w.heap.size C C1 ?_ ?_ ?_ ?_ (.tmp 1) (.tmp 8) ?_ ?_ ?_ ?_ ?_); exact K2.out.bx 0 _ _ _ rfl; exact gC.out; exact H2.out.1.lies.size.1; exact H2.out.1.lies.size.2.1; rfl; rfl; rfl; rfl; intro y3 H3; have K3 : Hid (Fm w [(w.heap.size, C1, 27), (w.heap.size + 1, Z, 27)] y3) := K2.out.put 0 _ _ _ _ rfl H3.out; have J3 : Hid (GO y1.heap.size y3 C1 g) := H2.out.1.keep fun q hq => H3.out.2.2 q (by have := B2.out; omega); have t19 := (K3.out.bx 0 _ _ _ rfl).c 19 _ J3.out.timers.1; have t20 := (K3.out.bx 0 _ _ _ rfl).c 20 _ J3.out.timers.2; have z19 := (K3.out.bx 0 _ _ _ rfl).fz 19; have z20 := (K3.out.bx 0 _ _ _ rfl).fz 20; unfold byV at t19 t20; rw [hx.out] at t19; rw [hy.out] at t20)
          | ((with_reducible refine gen_world (y3.setCell ⟨w.heap.size, 19, none⟩ (.int .u8 (x2 : Int))) (fun z => ∃ C', Fm w [(w.heap.size, C', 27), (w.heap.size + 1, Z, 27)] z ∧ GO y1.heap.size z C' { g with de := g.de - 1 }) ?_ ?_); (refine ⟨_, K3.out.setCell 0 _ _ _ _ rfl 19 _ rfl, ?_⟩; have := (J3.out.de (g.de - 1)); unfold byV at this; rw [hxx.out] at this; exact this.keep fun q hq => heap_setCell_other y3 ⟨w.heap.size, 19, none⟩ q _ (by have := B2.out; show q ≠ w.heap.size; omega)); (intro y4 K4x; obtain ⟨K4C, K4k, K4j⟩ := K4x.out; have K4 : Hid (Fm w [(w.heap.size, K4C, 27), (w.heap.size + 1, Z, 27)] y4) := K4k; have J4 : Hid (GO y1.heap.size y4 K4C { g with de := g.de - 1 }) := K4j; clear K4x K4k K4j; have u20 := (K4.out.bx 0 _ _ _ rfl).c 20 _ J4.out.timers.2; have v20 := (K4.out.bx 0 _ _ _ rfl).fz 20; unfold byV at u20; rw [hy.out] at u20))
          | ((with_reducible refine gen_world (y4.setCell ⟨w.heap.size, 20, none⟩ (.int .u8 (y2' : Int))) (fun z => ∃ C', Fm w [(w.heap.size, C', 27), (w.heap.size + 1, Z, 27)] z ∧ GO y1.heap.size z C' { ({ g with de := g.de - 1 } : Gm) with so := g.so - 1 }) ?_ ?_); (refine ⟨_, K4.out.setCell 0 _ _ _ _ rfl 20 _ rfl, ?_⟩; have := (J4.out.so (g.so - 1)); unfold byV at this; rw [hyy.out] at this; exact this.keep fun q hq => heap_setCell_other y4 ⟨w.heap.size, 20, none⟩ q _ (by have := B2.out; show q ≠ w.heap.size; omega)); (intro y5 K5x; obtain ⟨K5C, K5k, K5j⟩ := K5x.out; have K5 : Hid (Fm w [(w.heap.size, K5C, 27), (w.heap.size + 1, Z, 27)] y5) := K5k; have J5 : Hid (GO y1.heap.size y5 K5C { ({ g with de := g.de - 1 } : Gm) with so := g.so - 1 }) := K5j; clear K5x K5k K5j))
          | ((with_reducible refine at_load rtG w.heap.size K5C ?_ ?_ (.tmp 1) ?_ ?_ ?_ ?_); exact K5.out.bx 0 _ _ _ rfl; exact J5.out.lies.size.1; kernel_rfl; rfl; rfl)
          | ((with_reducible refine at_st rtG (w.heap.size + 1) Z K5C ?_ ?_ ?_ ?_ (.tmp 2) (.tmp 23) ?_ ?_ ?_ ?_ ?_); exact K5.out.bx 1 _ _ _ rfl; exact hZ'.out; exact J5.out.lies.size.1; exact J5.out.lies.size.2.1; rfl; rfl; rfl; rfl; intro y9 H9; have K9 : Hid (Fm w [(w.heap.size, K5C, 27), (w.heap.size + 1, K5C, 27)] y9) := K5.out.put 1 _ _ _ _ rfl H9.out; have J9 := J5.out.keep (y := y9) fun q hq => H9.out.2.2 q (by have := B2.out; omega)))
        exact ret_row rtG rfl rfl (K9.out.bx 1 _ _ _ rfl) J9.lies.size.1 rfl ⟨_, rfl, ⟨J9.weak (by have := B2.out; omega), K9.out.low⟩⟩
end Go.Proofs.YteipjkjpeookaaaGreat
