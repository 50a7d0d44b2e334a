/- The program's own: a machine a sixtieth of a second later. -/
import Derived.Test.YtilflcffcocncaaG24
namespace Go.Proofs.Ytilflcffcocncaa
open Go Go.RowKit Go.Shelf
set_option linter.unusedVariables false
set_option maxHeartbeats 1000000
set_option maxRecDepth 20000

theorem GO.put {B : Nat} {w y : World} {C : Array Value} {g : Gm} (h : GO B w C g) {b : Nat} (hb : b < B) (hk : ∀ q, q ≠ b → y.heap[q]? = w.heap[q]?) : GO B y C g := h.keep fun q hq => hk q (by omega)
theorem tick_any (w : World) (C : Array Value) (g : Gm) (hg : Hid (GL w C g)) (n1 : Hid (g.st.length ≤ 4000000000)) (n2 : Hid (g.pg.length ≤ 4000000000)) (n3 : Hid (g.me.length ≤ 4000000000)) :
    Calls Try.prog 23 #[.agg C] w fun e w' => ∃ C', e = .returned (.agg C') ∧ Hid (GO w.heap.size w' C' (tickG g) ∧ Below w.heap.size w w') := by
  have gC : Hid (C.size = 23) := hg.out.size.1
  obtain ⟨Z, hZ⟩ : ∃ x : Array Value, Hid (x = gZ) := ⟨_, (rfl : gZ = gZ)⟩
  have hZ' : Hid (Z.size = 23) := by show _ = _; rw [hZ.out]; rfl
  rcases hm0 : g.may with _ | _
  · have hm : Hid (g.may = false) := hm0
    have e0 : tickG g = gz := by unfold tickG; rw [hm0]; rfl
    rw [e0]
    clear hm0 e0
    go_enter Try.func23, Try.ntmps23
    go_wp2_with (first
      | ((with_reducible refine gen_world ((w.alloc (.cells C 29)).alloc (.cells #[.int .u8 0, .int .u8 0, .int .u8 0, .int .u8 0, .int .u8 0, .int .u8 0, .int .u8 0, .int .u8 0, .int .u8 0, .int .u8 0, .int .u8 0, .int .u8 0, .int .u8 0, .int .u8 0, .int .u8 0, .int .u8 0, .int .u16 0, .int .u16 0, .slice none 0 0, .int .u8 0, .int .u8 0, .slice none 0 0, .slice none 0 0] 29)) (Fm w [(w.heap.size, C, 29), (w.heap.size + 1, Z, 29)]) ?_ ?_); (rw [hZ.out]; unfold gZ; exact Fm.two w _ _ _ _); intro y0 K0)
      | ((with_reducible refine at_load rtG w.heap.size C ?_ ?_ (.tmp 1) ?_ ?_ ?_ ?_); exact K0.out.bx 0 _ _ _ rfl; exact gC.out; kernel_rfl; rfl; rfl)
      | (go_at_call 17; refine (check_gl y0 C g (hg.out.below K0.out.low)).mono ?_; rintro e y1 ⟨rfl, H1⟩; have K1 : Hid (Fm w [(w.heap.size, C, 29), (w.heap.size + 1, Z, 29)] y1) := K0.out.below H1; rw [hm.out])
      | ((with_reducible refine at_bu #[] [] gZ ?_ ?_ ?_ builtG0 ?_); kernel_rfl; rfl; rfl)
      | ((with_reducible refine at_st rtG (w.heap.size + 1) Z gZ ?_ ?_ ?_ ?_ (.tmp 2) (.tmp 6) ?_ ?_ ?_ ?_ ?_); exact K1.out.bx 1 _ _ _ rfl; exact hZ'.out; rfl; kernel_rfl; rfl; rfl; rfl; rfl; intro y2 H2; have K2 : Hid (Fm w [(w.heap.size, C, 29), (w.heap.size + 1, gZ, 29)] y2) := K1.out.put 1 _ _ _ _ rfl H2.out))
    exact ret_row rtG rfl rfl (K2.out.bx 1 _ _ _ rfl) rfl rfl ⟨_, rfl, ⟨GO.zero _ _, K2.out.low⟩⟩
  · have hm : Hid (g.may = true) := hm0
    have e0 : tickG g = { { g with de := (if g.de = 0 then 0 else g.de - 1) } with so := (if g.so = 0 then 0 else g.so - 1) } := by unfold tickG; rw [if_pos hm0]
    rw [e0]
    have k1 := fun y => counted_any y g.de
    have k2 := fun y => counted_any y g.so
    obtain ⟨de, hde⟩ : ∃ x : UInt8, (if g.de = 0 then 0 else g.de - 1) = x := ⟨_, rfl⟩
    obtain ⟨so, hso⟩ : ∃ x : UInt8, (if g.so = 0 then 0 else g.so - 1) = x := ⟨_, rfl⟩
    rw [hde, hso]
    simp only [hde] at k1
    simp only [hso] at k2
    obtain ⟨x0, hx0⟩ : ∃ x, g.de.toNat = x := ⟨_, rfl⟩
    obtain ⟨y0', hy0⟩ : ∃ x, g.so.toNat = x := ⟨_, rfl⟩
    obtain ⟨dN, hdN⟩ : ∃ x, de.toNat = x := ⟨_, rfl⟩
    obtain ⟨sN, hsN⟩ : ∃ x, so.toNat = x := ⟨_, rfl⟩
    rw [hx0, hdN] at k1
    rw [hy0, hsN] at k2
    have hx : Hid (g.de.toNat = x0 ∧ g.so.toNat = y0' ∧ de.toNat = dN ∧ so.toNat = sN) := ⟨hx0, hy0, hdN, hsN⟩
    clear hm0 e0 hde hso hx0 hy0 hdN hsN
    go_enter Try.func23, Try.ntmps23
    go_wp2_with (first
      | ((with_reducible refine gen_world ((w.alloc (.cells C 29)).alloc (.cells #[.int .u8 0, .int .u8 0, .int .u8 0, .int .u8 0, .int .u8 0, .int .u8 0, .int .u8 0, .int .u8 0, .int .u8 0, .int .u8 0, .int .u8 0, .int .u8 0, .int .u8 0, .int .u8 0, .int .u8 0, .int .u8 0, .int .u16 0, .int .u16 0, .slice none 0 0, .int .u8 0, .int .u8 0, .slice none 0 0, .slice none 0 0] 29)) (fun y => Fm w [(w.heap.size, C, 29), (w.heap.size + 1, Z, 29)] y ∧ y.heap.size = w.heap.size + 2) ?_ ?_); (rw [hZ.out]; unfold gZ; exact ⟨Fm.two w _ _ _ _, by simp [World.size_alloc]⟩); intro y0 K0)
      | ((with_reducible refine at_load rtG w.heap.size C ?_ ?_ (.tmp 1) ?_ ?_ ?_ ?_); (first | exact K1.out.1.bx 0 _ _ _ rfl | exact K0.out.1.bx 0 _ _ _ rfl); exact gC.out; kernel_rfl; rfl; rfl)
      | (go_at_call 17; refine (check_gl y0 C g (hg.out.below K0.out.1.low)).mono ?_; rintro e y1 ⟨rfl, H1⟩; have K1 : Hid (Fm w [(w.heap.size, C, 29), (w.heap.size + 1, Z, 29)] y1 ∧ w.heap.size + 2 ≤ y1.heap.size) := ⟨K0.out.1.below H1, (by have := H1.size; rw [K0.out.2] at this; exact this)⟩; rw [hm.out])
      | (go_at_call 33; refine (pcopied_any y1 C g (hg.out.below K1.out.1.low) n1.out n2.out n3.out).mono ?_; rintro e y2 ⟨C2, rfl, H2⟩; have K2 : Hid (Fm w [(w.heap.size, C, 29), (w.heap.size + 1, Z, 29)] y2 ∧ GO (w.heap.size + 2) y2 C2 g) := ⟨K1.out.1.below H2.out.2, H2.out.1.weak K1.out.2⟩; clear H2)
      | ((with_reducible refine at_st rtG w.heap.size C C2 ?_ ?_ ?_ ?_ (.tmp 1) (.tmp 8) ?_ ?_ ?_ ?_ ?_); exact K2.out.1.bx 0 _ _ _ rfl; exact gC.out; exact K2.out.2.lies.size.1; exact K2.out.2.lies.size.2.1; rfl; rfl; rfl; rfl; intro y3 H3; have K3 : Hid (Fm w [(w.heap.size, C2, 29), (w.heap.size + 1, Z, 29)] y3 ∧ GO (w.heap.size + 2) y3 C2 g) := ⟨K2.out.1.put 0 _ _ _ _ rfl H3.out, K2.out.2.put (by omega) H3.out.2.2⟩; clear H3; have c19 := (K3.out.1.bx 0 _ _ _ rfl).c 19 _ K3.out.2.timers.1; have c20 := (K3.out.1.bx 0 _ _ _ rfl).c 20 _ K3.out.2.timers.2; unfold byV at c19 c20; rw [hx.out.1] at c19; rw [hx.out.2.1] at c20; have z19 := (K3.out.1.bx 0 _ _ _ rfl).fz 19; have z20 := (K3.out.1.bx 0 _ _ _ rfl).fz 20))
    try simp only [Act.put]
    refine region_class_tail 7 (fun y => ∃ n, y = y3.drewN n) (by kernel_rfl) (by kernel_rfl) ⟨1, rfl⟩ ?_
    dsimp only [List.take, List.drop]
    repeat (go_big_quiet_step ((first | (go_at_call_of 35 (Value.int IntKind.u8 (x0 : Int)); exact Calls.quiet_of_same (k1 _)) | (go_at_call 35; exact Calls.quiet_of_same (k2 _)))))
    refine wpQuiet_nil ?_
    rintro _ ⟨nq, rfl⟩
    obtain ⟨D1, hD1⟩ : ∃ x, Hid (x = C2.setIfInBounds 19 (.int .u8 (dN : Int))) := ⟨_, (rfl : C2.setIfInBounds 19 (.int .u8 (dN : Int)) = _)⟩
    obtain ⟨D2, hD2⟩ : ∃ x, Hid (x = D1.setIfInBounds 20 (.int .u8 (sN : Int))) := ⟨_, (rfl : D1.setIfInBounds 20 (.int .u8 (sN : Int)) = _)⟩
    have K4 : Hid (Fm w [(w.heap.size, D1, 29), (w.heap.size + 1, Z, 29)] ((y3.drewN nq).setCell ⟨w.heap.size, 19, none⟩ (.int .u8 (dN : Int)))) := Fm.setCell (K3.out.1.below (below_drewN (Below.refl _ _))) 0 _ _ _ _ rfl 19 _ hD1.out.symm
    have K5 : Hid (Fm w [(w.heap.size, D2, 29), (w.heap.size + 1, Z, 29)] (((y3.drewN nq).setCell ⟨w.heap.size, 19, none⟩ (.int .u8 (dN : Int))).setCell ⟨w.heap.size, 20, none⟩ (.int .u8 (sN : Int)))) := K4.out.setCell 0 _ _ _ _ rfl 20 _ hD2.out.symm
    have d20 := (K4.out.bx 0 _ _ _ rfl).c 20 (.int .u8 (y0' : Int)) (by rw [hD1.out, Array.getElem?_setIfInBounds_ne (by decide)]; have := K3.out.2.timers.2; rw [this]; unfold byV; rw [hx.out.2.1])
    have zd20 := (K4.out.bx 0 _ _ _ rfl).fz 20
    have J5 : Hid (GO (w.heap.size + 2) (((y3.drewN nq).setCell ⟨w.heap.size, 19, none⟩ (.int .u8 (dN : Int))).setCell ⟨w.heap.size, 20, none⟩ (.int .u8 (sN : Int))) D2 { { g with de := de } with so := so }) := by
      have h0 := (K3.out.2.de de).so so
      have e1 : (C2.setIfInBounds 19 (byV de)).setIfInBounds 20 (byV so) = D2 := by rw [hD2.out, hD1.out, ← hx.out.2.2.1, ← hx.out.2.2.2]; rfl
      rw [e1] at h0
      exact h0.put (b := w.heap.size) (by omega) (fun q hq => (heap_setCell_other _ ⟨w.heap.size, 20, none⟩ q _ hq).trans (heap_setCell_other _ ⟨w.heap.size, 19, none⟩ q _ hq))
    obtain ⟨Y5, hY5⟩ : ∃ Y, Hid (((y3.drewN nq).setCell ⟨w.heap.size, 19, none⟩ (.int .u8 (dN : Int))).setCell ⟨w.heap.size, 20, none⟩ (.int .u8 (sN : Int)) = Y) := ⟨_, (rfl : ((y3.drewN nq).setCell ⟨w.heap.size, 19, none⟩ (.int .u8 (dN : Int))).setCell ⟨w.heap.size, 20, none⟩ (.int .u8 (sN : Int)) = _)⟩
    rw [hY5.out] at K5 J5
    go_wp2_with (first
      | ((with_reducible refine gen_world (((y3.drewN nq).setCell ⟨w.heap.size, 19, none⟩ (.int .u8 (dN : Int))).setCell ⟨w.heap.size, 20, none⟩ (.int .u8 (sN : Int))) (fun y => y = Y5) ?_ ?_); exact hY5.out; intro y5 E5; obtain rfl := E5.out)
      | ((with_reducible refine at_load rtG w.heap.size D2 ?_ ?_ (.tmp 1) ?_ ?_ ?_ ?_); exact K5.out.bx 0 _ _ _ rfl; exact J5.out.lies.size.1; kernel_rfl; rfl; rfl)
      | ((with_reducible refine at_st rtG (w.heap.size + 1) Z D2 ?_ ?_ ?_ ?_ (.tmp 2) (.tmp 17) ?_ ?_ ?_ ?_ ?_); exact K5.out.bx 1 _ _ _ rfl; exact hZ'.out; exact J5.out.lies.size.1; exact J5.out.lies.size.2.1; rfl; rfl; rfl; rfl; intro y6 H6; have K6 : Hid (Fm w [(w.heap.size, D2, 29), (w.heap.size + 1, D2, 29)] y6 ∧ GO (w.heap.size + 2) y6 D2 { { g with de := de } with so := so }) := ⟨K5.out.put 1 _ _ _ _ rfl H6.out, J5.out.put (by omega) H6.out.2.2⟩))
    exact ret_row rtG rfl rfl (K6.out.1.bx 1 _ _ _ rfl) K6.out.2.lies.size.1 rfl ⟨_, rfl, ⟨K6.out.2.weak (by omega), K6.out.1.low⟩⟩
end Go.Proofs.Ytilflcffcocncaa
