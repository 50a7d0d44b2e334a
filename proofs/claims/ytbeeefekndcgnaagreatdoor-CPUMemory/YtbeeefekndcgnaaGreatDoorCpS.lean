/- The document's processor: the byte that it puts on the bus itself The document's processor: what an instruction's cycle does to the bus The document's processor: what it does to the bus -/
import Derived.Test.YtbeeefekndcgnaaGreatDoorCpP
import Derived.Test.YtbeeefekndcgnaaGreatDoorLa
import Derived.Test.YtbeeefekndcgnaaGreatDoorLg
import Derived.Test.YtbeeefekndcgnaaGreatDoorCpF
import Derived.Test.YtbeeefekndcgnaaGreatDoorDr
import Derived.Test.YtbeeefekndcgnaaGreatDoorDb
import Derived.Test.YtbeeefekndcgnaaGreatDoorTail
import Derived.Test.YtbeeefekndcgnaaGreatDoorYo
namespace Go.Proofs.YtbeeefekndcgnaaGreatDoor
open Go Go.RowKit
set_option linter.unusedVariables false
set_option maxHeartbeats 1000000
set_option maxRecDepth 20000

theorem Fm.one1 (w : World) (c : Cp) : Fm w [(w.heap.size, cpC c, 26)] (w.alloc (.cells (cpC c) 26)) := by
  have h := (Fm.nil w).new (cpC c) 26
  simpa using h
theorem rown_73 (w : World) (c : Cp) (hc : c.wf) (hP : c.P < 16) (hX : c.X < 16) (h : c.Op / 16 = 7) (h' : c.Op % 16 = 3) : Calls Tryz.prog 40 #[.agg (cpC c)] w fun e w' => e = .returned (.int .u8 (c.D)) ∧ Below w.heap.size w w' := by
  have hn := fun v => rn_any v c hc
  rw [h'] at hn
  have e2 : (c.Op : Int).tdiv 16 = 7 := by rw [Int.tdiv_eq_ediv_of_nonneg (by omega)]; omega
  have hF : Hid (Fm w [(w.heap.size, cpC c, 26)] (w.alloc (.cells (cpC c) 26))) := Fm.one1 w c
  obtain ⟨o, ho⟩ : ∃ o : Int, (c.Op : Int) = o := ⟨_, rfl⟩
  rw [ho] at e2
  replace ho : Hid _ := ho
  clear hc hP hX h h'
  go_enter Tryz.func40, Tryz.ntmps40
  go_wp2_with (first
    | (refine gen_world (w.alloc (.cells (cpC c) 26)) (Fm w [(w.heap.size, cpC c, 26)]) hF.out ?_; intro y K0; have d23 := BoxC.fOp (K0.out.get 0 _ _ _ rfl); rw [ho.out] at d23; have d16 := BoxC.fD (K0.out.get 0 _ _ _ rfl); have d20 := BoxC.fT (K0.out.get 0 _ _ _ rfl); have d18 := BoxC.fP (K0.out.get 0 _ _ _ rfl); have d19 := BoxC.fX (K0.out.get 0 _ _ _ rfl))
    | (go_at_call 27; refine (hn _).mono ?_; rintro e v2 ⟨rfl, hb2⟩; have K2 : Hid _ := K1.out.below hb2; replace K0 : Hid (Fm w [(w.heap.size, cpC c, 26)] v2) := K2; have d23 := BoxC.fOp (K0.out.get 0 _ _ _ rfl); rw [ho.out] at d23; have d16 := BoxC.fD (K0.out.get 0 _ _ _ rfl); have d20 := BoxC.fT (K0.out.get 0 _ _ _ rfl); have d18 := BoxC.fP (K0.out.get 0 _ _ _ rfl); have d19 := BoxC.fX (K0.out.get 0 _ _ _ rfl))
    | (go_at_call 27; refine (hn _).mono ?_; rintro e v1 ⟨rfl, hb1⟩; have K1 : Hid _ := K0.out.below hb1; replace K0 : Hid (Fm w [(w.heap.size, cpC c, 26)] v1) := K1; have d23 := BoxC.fOp (K0.out.get 0 _ _ _ rfl); rw [ho.out] at d23; have d16 := BoxC.fD (K0.out.get 0 _ _ _ rfl); have d20 := BoxC.fT (K0.out.get 0 _ _ _ rfl); have d18 := BoxC.fP (K0.out.get 0 _ _ _ rfl); have d19 := BoxC.fX (K0.out.get 0 _ _ _ rfl))
    | (go_at_call 46; refine (hl _).mono ?_; rintro e v3 ⟨rfl, rfl⟩)
    | (go_at_call 47; refine (hl _).mono ?_; rintro e v3 ⟨rfl, rfl⟩)
    | (refine at_loadC w.heap.size c (K0.out.get 0 _ _ _ rfl) _ rfl rfl rfl ?_))
  go_ret
  exact ⟨ret_u8 (by first | rfl | omega | simp), K0.out.low⟩
theorem rown_78 (w : World) (c : Cp) (hc : c.wf) (hP : c.P < 16) (hX : c.X < 16) (h : c.Op / 16 = 7) (h' : c.Op % 16 = 8) : Calls Tryz.prog 40 #[.agg (cpC c)] w fun e w' => e = .returned (.int .u8 (c.T)) ∧ Below w.heap.size w w' := by
  have hn := fun v => rn_any v c hc
  rw [h'] at hn
  have e2 : (c.Op : Int).tdiv 16 = 7 := by rw [Int.tdiv_eq_ediv_of_nonneg (by omega)]; omega
  have hF : Hid (Fm w [(w.heap.size, cpC c, 26)] (w.alloc (.cells (cpC c) 26))) := Fm.one1 w c
  obtain ⟨o, ho⟩ : ∃ o : Int, (c.Op : Int) = o := ⟨_, rfl⟩
  rw [ho] at e2
  replace ho : Hid _ := ho
  clear hc hP hX h h'
  go_enter Tryz.func40, Tryz.ntmps40
  go_wp2_with (first
    | (refine gen_world (w.alloc (.cells (cpC c) 26)) (Fm w [(w.heap.size, cpC c, 26)]) hF.out ?_; intro y K0; have d23 := BoxC.fOp (K0.out.get 0 _ _ _ rfl); rw [ho.out] at d23; have d16 := BoxC.fD (K0.out.get 0 _ _ _ rfl); have d20 := BoxC.fT (K0.out.get 0 _ _ _ rfl); have d18 := BoxC.fP (K0.out.get 0 _ _ _ rfl); have d19 := BoxC.fX (K0.out.get 0 _ _ _ rfl))
    | (go_at_call 27; refine (hn _).mono ?_; rintro e v2 ⟨rfl, hb2⟩; have K2 : Hid _ := K1.out.below hb2; replace K0 : Hid (Fm w [(w.heap.size, cpC c, 26)] v2) := K2; have d23 := BoxC.fOp (K0.out.get 0 _ _ _ rfl); rw [ho.out] at d23; have d16 := BoxC.fD (K0.out.get 0 _ _ _ rfl); have d20 := BoxC.fT (K0.out.get 0 _ _ _ rfl); have d18 := BoxC.fP (K0.out.get 0 _ _ _ rfl); have d19 := BoxC.fX (K0.out.get 0 _ _ _ rfl))
    | (go_at_call 27; refine (hn _).mono ?_; rintro e v1 ⟨rfl, hb1⟩; have K1 : Hid _ := K0.out.below hb1; replace K0 : Hid (Fm w [(w.heap.size, cpC c, 26)] v1) := K1; have d23 := BoxC.fOp (K0.out.get 0 _ _ _ rfl); rw [ho.out] at d23; have d16 := BoxC.fD (K0.out.get 0 _ _ _ rfl); have d20 := BoxC.fT (K0.out.get 0 _ _ _ rfl); have d18 := BoxC.fP (K0.out.get 0 _ _ _ rfl); have d19 := BoxC.fX (K0.out.get 0 _ _ _ rfl))
    | (go_at_call 46; refine (hl _).mono ?_; rintro e v3 ⟨rfl, rfl⟩)
    | (go_at_call 47; refine (hl _).mono ?_; rintro e v3 ⟨rfl, rfl⟩)
    | (refine at_loadC w.heap.size c (K0.out.get 0 _ _ _ rfl) _ rfl rfl rfl ?_))
  go_ret
  exact ⟨ret_u8 (by first | rfl | omega | simp), K0.out.low⟩
theorem rown_79 (w : World) (c : Cp) (hc : c.wf) (hP : c.P < 16) (hX : c.X < 16) (h : c.Op / 16 = 7) (h' : c.Op % 16 ≠ 3 ∧ c.Op % 16 ≠ 8) : Calls Tryz.prog 40 #[.agg (cpC c)] w fun e w' => e = .returned (.int .u8 (16 * (c.X : Int) + c.P)) ∧ Below w.heap.size w w' := by
  have hn := fun v => rn_any v c hc
  obtain ⟨k, hk⟩ : ∃ k, c.Op % 16 = k := ⟨_, rfl⟩
  rw [hk] at hn
  have e2 : (c.Op : Int).tdiv 16 = 7 := by rw [Int.tdiv_eq_ediv_of_nonneg (by omega)]; omega
  have r3 : ((k : Int) == 3) = false := by simp; omega
  have r8 : ((k : Int) == 8) = false := by simp; omega
  have v1' : IntKind.u8.wrap (16 * (c.X : Int)) = 16 * (c.X : Int) := by rw [IntKind.wrap_u8]; omega
  have v2' : IntKind.u8.wrap (16 * (c.X : Int) + (c.P : Int)) = 16 * (c.X : Int) + c.P := by rw [IntKind.wrap_u8]; omega
  clear hk
  have hF : Hid (Fm w [(w.heap.size, cpC c, 26)] (w.alloc (.cells (cpC c) 26))) := Fm.one1 w c
  obtain ⟨o, ho⟩ : ∃ o : Int, (c.Op : Int) = o := ⟨_, rfl⟩
  rw [ho] at e2
  replace ho : Hid _ := ho
  clear hc hP hX h h'
  go_enter Tryz.func40, Tryz.ntmps40
  go_wp2_with (first
    | (refine gen_world (w.alloc (.cells (cpC c) 26)) (Fm w [(w.heap.size, cpC c, 26)]) hF.out ?_; intro y K0; have d23 := BoxC.fOp (K0.out.get 0 _ _ _ rfl); rw [ho.out] at d23; have d16 := BoxC.fD (K0.out.get 0 _ _ _ rfl); have d20 := BoxC.fT (K0.out.get 0 _ _ _ rfl); have d18 := BoxC.fP (K0.out.get 0 _ _ _ rfl); have d19 := BoxC.fX (K0.out.get 0 _ _ _ rfl))
    | (go_at_call 27; refine (hn _).mono ?_; rintro e v2 ⟨rfl, hb2⟩; have K2 : Hid _ := K1.out.below hb2; replace K0 : Hid (Fm w [(w.heap.size, cpC c, 26)] v2) := K2; have d23 := BoxC.fOp (K0.out.get 0 _ _ _ rfl); rw [ho.out] at d23; have d16 := BoxC.fD (K0.out.get 0 _ _ _ rfl); have d20 := BoxC.fT (K0.out.get 0 _ _ _ rfl); have d18 := BoxC.fP (K0.out.get 0 _ _ _ rfl); have d19 := BoxC.fX (K0.out.get 0 _ _ _ rfl))
    | (go_at_call 27; refine (hn _).mono ?_; rintro e v1 ⟨rfl, hb1⟩; have K1 : Hid _ := K0.out.below hb1; replace K0 : Hid (Fm w [(w.heap.size, cpC c, 26)] v1) := K1; have d23 := BoxC.fOp (K0.out.get 0 _ _ _ rfl); rw [ho.out] at d23; have d16 := BoxC.fD (K0.out.get 0 _ _ _ rfl); have d20 := BoxC.fT (K0.out.get 0 _ _ _ rfl); have d18 := BoxC.fP (K0.out.get 0 _ _ _ rfl); have d19 := BoxC.fX (K0.out.get 0 _ _ _ rfl))
    | (go_at_call 46; refine (hl _).mono ?_; rintro e v3 ⟨rfl, rfl⟩)
    | (go_at_call 47; refine (hl _).mono ?_; rintro e v3 ⟨rfl, rfl⟩)
    | (refine at_loadC w.heap.size c (K0.out.get 0 _ _ _ rfl) _ rfl rfl rfl ?_))
  go_ret
  exact ⟨ret_u8 (by first | rfl | omega | simp), K0.out.low⟩
theorem rown_8 (w : World) (c : Cp) (hc : c.wf) (hP : c.P < 16) (hX : c.X < 16) (h : c.Op / 16 = 8) (k : Nat) (hk : c.Op % 16 = k) : Calls Tryz.prog 40 #[.agg (cpC c)] w fun e w' => e = .returned (.int .u8 (c.R k % 256)) ∧ Below w.heap.size w w' := by
  have hn := fun v => rn_any v c hc
  rw [hk] at hn
  have e2 : (c.Op : Int).tdiv 16 = 8 := by rw [Int.tdiv_eq_ediv_of_nonneg (by omega)]; omega
  have hk16 : k < 16 := by omega
  have hr := hc.R k
  have ix := fun v => idx (g := w.heap.size) (off := 0) (N := 16) Tryz.underlying23 infoR .i64 k v hk16
  simp only [Nat.zero_add, Nat.mul_one] at ix
  have hR : Hid (∀ b x, BoxC x b c → x.cell? ⟨b, k, none⟩ = some (.int .u16 (c.R k))) := fun b x h => h.r k hk16
  have hl := fun v => rlow_any (c.R k) hr.1 hr.2 v
  have hF : Hid (Fm w [(w.heap.size, cpC c, 26)] (w.alloc (.cells (cpC c) 26))) := Fm.one1 w c
  obtain ⟨o, ho⟩ : ∃ o : Int, (c.Op : Int) = o := ⟨_, rfl⟩
  rw [ho] at e2
  replace ho : Hid _ := ho
  clear hc hP hX h hk hr
  go_enter Tryz.func40, Tryz.ntmps40
  go_wp2_with (first
    | (refine gen_world (w.alloc (.cells (cpC c) 26)) (Fm w [(w.heap.size, cpC c, 26)]) hF.out ?_; intro y K0; have d23 := BoxC.fOp (K0.out.get 0 _ _ _ rfl); rw [ho.out] at d23; have d16 := BoxC.fD (K0.out.get 0 _ _ _ rfl); have d20 := BoxC.fT (K0.out.get 0 _ _ _ rfl); have d18 := BoxC.fP (K0.out.get 0 _ _ _ rfl); have d19 := BoxC.fX (K0.out.get 0 _ _ _ rfl); have dR := hR.out _ _ (K0.out.get 0 _ _ _ rfl))
    | (go_at_call 27; refine (hn _).mono ?_; rintro e v2 ⟨rfl, hb2⟩; have K2 : Hid _ := K1.out.below hb2; replace K0 : Hid (Fm w [(w.heap.size, cpC c, 26)] v2) := K2; have d23 := BoxC.fOp (K0.out.get 0 _ _ _ rfl); rw [ho.out] at d23; have d16 := BoxC.fD (K0.out.get 0 _ _ _ rfl); have d20 := BoxC.fT (K0.out.get 0 _ _ _ rfl); have d18 := BoxC.fP (K0.out.get 0 _ _ _ rfl); have d19 := BoxC.fX (K0.out.get 0 _ _ _ rfl); have dR := hR.out _ _ (K0.out.get 0 _ _ _ rfl))
    | (go_at_call 27; refine (hn _).mono ?_; rintro e v1 ⟨rfl, hb1⟩; have K1 : Hid _ := K0.out.below hb1; replace K0 : Hid (Fm w [(w.heap.size, cpC c, 26)] v1) := K1; have d23 := BoxC.fOp (K0.out.get 0 _ _ _ rfl); rw [ho.out] at d23; have d16 := BoxC.fD (K0.out.get 0 _ _ _ rfl); have d20 := BoxC.fT (K0.out.get 0 _ _ _ rfl); have d18 := BoxC.fP (K0.out.get 0 _ _ _ rfl); have d19 := BoxC.fX (K0.out.get 0 _ _ _ rfl); have dR := hR.out _ _ (K0.out.get 0 _ _ _ rfl))
    | (go_at_call 46; refine (hl _).mono ?_; rintro e v3 ⟨rfl, rfl⟩)
    | (go_at_call 47; refine (hl _).mono ?_; rintro e v3 ⟨rfl, rfl⟩)
    | (refine at_loadC w.heap.size c (K0.out.get 0 _ _ _ rfl) _ rfl rfl rfl ?_))
  go_ret
  exact ⟨ret_u8 (by first | rfl | omega | simp), K0.out.low⟩
theorem rown_9 (w : World) (c : Cp) (hc : c.wf) (hP : c.P < 16) (hX : c.X < 16) (h : c.Op / 16 = 9) (k : Nat) (hk : c.Op % 16 = k) : Calls Tryz.prog 40 #[.agg (cpC c)] w fun e w' => e = .returned (.int .u8 (c.R k / 256)) ∧ Below w.heap.size w w' := by
  have hn := fun v => rn_any v c hc
  rw [hk] at hn
  have e2 : (c.Op : Int).tdiv 16 = 9 := by rw [Int.tdiv_eq_ediv_of_nonneg (by omega)]; omega
  have hk16 : k < 16 := by omega
  have hr := hc.R k
  have ix := fun v => idx (g := w.heap.size) (off := 0) (N := 16) Tryz.underlying23 infoR .i64 k v hk16
  simp only [Nat.zero_add, Nat.mul_one] at ix
  have hR : Hid (∀ b x, BoxC x b c → x.cell? ⟨b, k, none⟩ = some (.int .u16 (c.R k))) := fun b x h => h.r k hk16
  have hl := fun v => rhigh_any (c.R k) hr.1 hr.2 v
  have hF : Hid (Fm w [(w.heap.size, cpC c, 26)] (w.alloc (.cells (cpC c) 26))) := Fm.one1 w c
  obtain ⟨o, ho⟩ : ∃ o : Int, (c.Op : Int) = o := ⟨_, rfl⟩
  rw [ho] at e2
  replace ho : Hid _ := ho
  clear hc hP hX h hk hr
  go_enter Tryz.func40, Tryz.ntmps40
  go_wp2_with (first
    | (refine gen_world (w.alloc (.cells (cpC c) 26)) (Fm w [(w.heap.size, cpC c, 26)]) hF.out ?_; intro y K0; have d23 := BoxC.fOp (K0.out.get 0 _ _ _ rfl); rw [ho.out] at d23; have d16 := BoxC.fD (K0.out.get 0 _ _ _ rfl); have d20 := BoxC.fT (K0.out.get 0 _ _ _ rfl); have d18 := BoxC.fP (K0.out.get 0 _ _ _ rfl); have d19 := BoxC.fX (K0.out.get 0 _ _ _ rfl); have dR := hR.out _ _ (K0.out.get 0 _ _ _ rfl))
    | (go_at_call 27; refine (hn _).mono ?_; rintro e v2 ⟨rfl, hb2⟩; have K2 : Hid _ := K1.out.below hb2; replace K0 : Hid (Fm w [(w.heap.size, cpC c, 26)] v2) := K2; have d23 := BoxC.fOp (K0.out.get 0 _ _ _ rfl); rw [ho.out] at d23; have d16 := BoxC.fD (K0.out.get 0 _ _ _ rfl); have d20 := BoxC.fT (K0.out.get 0 _ _ _ rfl); have d18 := BoxC.fP (K0.out.get 0 _ _ _ rfl); have d19 := BoxC.fX (K0.out.get 0 _ _ _ rfl); have dR := hR.out _ _ (K0.out.get 0 _ _ _ rfl))
    | (go_at_call 27; refine (hn _).mono ?_; rintro e v1 ⟨rfl, hb1⟩; have K1 : Hid _ := K0.out.below hb1; replace K0 : Hid (Fm w [(w.heap.size, cpC c, 26)] v1) := K1; have d23 := BoxC.fOp (K0.out.get 0 _ _ _ rfl); rw [ho.out] at d23; have d16 := BoxC.fD (K0.out.get 0 _ _ _ rfl); have d20 := BoxC.fT (K0.out.get 0 _ _ _ rfl); have d18 := BoxC.fP (K0.out.get 0 _ _ _ rfl); have d19 := BoxC.fX (K0.out.get 0 _ _ _ rfl); have dR := hR.out _ _ (K0.out.get 0 _ _ _ rfl))
    | (go_at_call 46; refine (hl _).mono ?_; rintro e v3 ⟨rfl, rfl⟩)
    | (go_at_call 47; refine (hl _).mono ?_; rintro e v3 ⟨rfl, rfl⟩)
    | (refine at_loadC w.heap.size c (K0.out.get 0 _ _ _ rfl) _ rfl rfl rfl ?_))
  go_ret
  exact ⟨ret_u8 (by first | rfl | omega | simp), K0.out.low⟩
theorem rown_13 (w : World) (c : Cp) (hc : c.wf) (hP : c.P < 16) (hX : c.X < 16) (h : c.Op / 16 = 13) (k : Nat) (hk : c.Op % 16 = k) : Calls Tryz.prog 40 #[.agg (cpC c)] w fun e w' => e = .returned (.int .u8 (17 * (k : Int))) ∧ Below w.heap.size w w' := by
  have hn := fun v => rn_any v c hc
  rw [hk] at hn
  have e2 : (c.Op : Int).tdiv 16 = 13 := by rw [Int.tdiv_eq_ediv_of_nonneg (by omega)]; omega
  have hk16 : k < 16 := by omega
  have v1' : IntKind.u8.wrap (k : Int) = k := by rw [IntKind.wrap_u8]; omega
  have v2' : IntKind.u8.wrap (17 * (k : Int)) = 17 * (k : Int) := by rw [IntKind.wrap_u8]; omega
  have hF : Hid (Fm w [(w.heap.size, cpC c, 26)] (w.alloc (.cells (cpC c) 26))) := Fm.one1 w c
  obtain ⟨o, ho⟩ : ∃ o : Int, (c.Op : Int) = o := ⟨_, rfl⟩
  rw [ho] at e2
  replace ho : Hid _ := ho
  clear hc hP hX h hk
  go_enter Tryz.func40, Tryz.ntmps40
  go_wp2_with (first
    | (refine gen_world (w.alloc (.cells (cpC c) 26)) (Fm w [(w.heap.size, cpC c, 26)]) hF.out ?_; intro y K0; have d23 := BoxC.fOp (K0.out.get 0 _ _ _ rfl); rw [ho.out] at d23; have d16 := BoxC.fD (K0.out.get 0 _ _ _ rfl); have d20 := BoxC.fT (K0.out.get 0 _ _ _ rfl); have d18 := BoxC.fP (K0.out.get 0 _ _ _ rfl); have d19 := BoxC.fX (K0.out.get 0 _ _ _ rfl))
    | (go_at_call 27; refine (hn _).mono ?_; rintro e v2 ⟨rfl, hb2⟩; have K2 : Hid _ := K1.out.below hb2; replace K0 : Hid (Fm w [(w.heap.size, cpC c, 26)] v2) := K2; have d23 := BoxC.fOp (K0.out.get 0 _ _ _ rfl); rw [ho.out] at d23; have d16 := BoxC.fD (K0.out.get 0 _ _ _ rfl); have d20 := BoxC.fT (K0.out.get 0 _ _ _ rfl); have d18 := BoxC.fP (K0.out.get 0 _ _ _ rfl); have d19 := BoxC.fX (K0.out.get 0 _ _ _ rfl))
    | (go_at_call 27; refine (hn _).mono ?_; rintro e v1 ⟨rfl, hb1⟩; have K1 : Hid _ := K0.out.below hb1; replace K0 : Hid (Fm w [(w.heap.size, cpC c, 26)] v1) := K1; have d23 := BoxC.fOp (K0.out.get 0 _ _ _ rfl); rw [ho.out] at d23; have d16 := BoxC.fD (K0.out.get 0 _ _ _ rfl); have d20 := BoxC.fT (K0.out.get 0 _ _ _ rfl); have d18 := BoxC.fP (K0.out.get 0 _ _ _ rfl); have d19 := BoxC.fX (K0.out.get 0 _ _ _ rfl))
    | (go_at_call 46; refine (hl _).mono ?_; rintro e v3 ⟨rfl, rfl⟩)
    | (go_at_call 47; refine (hl _).mono ?_; rintro e v3 ⟨rfl, rfl⟩)
    | (refine at_loadC w.heap.size c (K0.out.get 0 _ _ _ rfl) _ rfl rfl rfl ?_))
  go_ret
  exact ⟨ret_u8 (by first | rfl | omega | simp), K0.out.low⟩
theorem rown_14 (w : World) (c : Cp) (hc : c.wf) (hP : c.P < 16) (hX : c.X < 16) (h : c.Op / 16 = 14) (k : Nat) (hk : c.Op % 16 = k) : Calls Tryz.prog 40 #[.agg (cpC c)] w fun e w' => e = .returned (.int .u8 (17 * (k : Int))) ∧ Below w.heap.size w w' := by
  have hn := fun v => rn_any v c hc
  rw [hk] at hn
  have e2 : (c.Op : Int).tdiv 16 = 14 := by rw [Int.tdiv_eq_ediv_of_nonneg (by omega)]; omega
  have hk16 : k < 16 := by omega
  have v1' : IntKind.u8.wrap (k : Int) = k := by rw [IntKind.wrap_u8]; omega
  have v2' : IntKind.u8.wrap (17 * (k : Int)) = 17 * (k : Int) := by rw [IntKind.wrap_u8]; omega
  have hF : Hid (Fm w [(w.heap.size, cpC c, 26)] (w.alloc (.cells (cpC c) 26))) := Fm.one1 w c
  obtain ⟨o, ho⟩ : ∃ o : Int, (c.Op : Int) = o := ⟨_, rfl⟩
  rw [ho] at e2
  replace ho : Hid _ := ho
  clear hc hP hX h hk
  go_enter Tryz.func40, Tryz.ntmps40
  go_wp2_with (first
    | (refine gen_world (w.alloc (.cells (cpC c) 26)) (Fm w [(w.heap.size, cpC c, 26)]) hF.out ?_; intro y K0; have d23 := BoxC.fOp (K0.out.get 0 _ _ _ rfl); rw [ho.out] at d23; have d16 := BoxC.fD (K0.out.get 0 _ _ _ rfl); have d20 := BoxC.fT (K0.out.get 0 _ _ _ rfl); have d18 := BoxC.fP (K0.out.get 0 _ _ _ rfl); have d19 := BoxC.fX (K0.out.get 0 _ _ _ rfl))
    | (go_at_call 27; refine (hn _).mono ?_; rintro e v2 ⟨rfl, hb2⟩; have K2 : Hid _ := K1.out.below hb2; replace K0 : Hid (Fm w [(w.heap.size, cpC c, 26)] v2) := K2; have d23 := BoxC.fOp (K0.out.get 0 _ _ _ rfl); rw [ho.out] at d23; have d16 := BoxC.fD (K0.out.get 0 _ _ _ rfl); have d20 := BoxC.fT (K0.out.get 0 _ _ _ rfl); have d18 := BoxC.fP (K0.out.get 0 _ _ _ rfl); have d19 := BoxC.fX (K0.out.get 0 _ _ _ rfl))
    | (go_at_call 27; refine (hn _).mono ?_; rintro e v1 ⟨rfl, hb1⟩; have K1 : Hid _ := K0.out.below hb1; replace K0 : Hid (Fm w [(w.heap.size, cpC c, 26)] v1) := K1; have d23 := BoxC.fOp (K0.out.get 0 _ _ _ rfl); rw [ho.out] at d23; have d16 := BoxC.fD (K0.out.get 0 _ _ _ rfl); have d20 := BoxC.fT (K0.out.get 0 _ _ _ rfl); have d18 := BoxC.fP (K0.out.get 0 _ _ _ rfl); have d19 := BoxC.fX (K0.out.get 0 _ _ _ rfl))
    | (go_at_call 46; refine (hl _).mono ?_; rintro e v3 ⟨rfl, rfl⟩)
    | (go_at_call 47; refine (hl _).mono ?_; rintro e v3 ⟨rfl, rfl⟩)
    | (refine at_loadC w.heap.size c (K0.out.get 0 _ _ _ rfl) _ rfl rfl rfl ?_))
  go_ret
  exact ⟨ret_u8 (by first | rfl | omega | simp), K0.out.low⟩
theorem rown_else (w : World) (c : Cp) (hc : c.wf) (hP : c.P < 16) (hX : c.X < 16) (h : c.Op / 16 ≠ 7 ∧ c.Op / 16 ≠ 8 ∧ c.Op / 16 ≠ 9 ∧ c.Op / 16 ≠ 13 ∧ c.Op / 16 ≠ 14) : Calls Tryz.prog 40 #[.agg (cpC c)] w fun e w' => e = .returned (.int .u8 (c.D)) ∧ Below w.heap.size w w' := by
  have hn := fun v => rn_any v c hc
  have hO := hc.Op
  obtain ⟨g, hg⟩ : ∃ g : Int, (c.Op : Int) / 16 = g := ⟨_, rfl⟩
  have g0 : 0 ≤ g := by omega
  have g1 : g ≤ 15 := by omega
  have e2 : (c.Op : Int).tdiv 16 = g := by rw [Int.tdiv_eq_ediv_of_nonneg (by omega)]; exact hg
  have r7 : (g == 7) = false := by simp; omega
  have r8 : (g == 8) = false := by simp; omega
  have r9 : (g == 9) = false := by simp; omega
  have r13 : (g == 13) = false := by simp; omega
  have r14 : (g == 14) = false := by simp; omega
  clear hO
  clear hg
  have hF : Hid (Fm w [(w.heap.size, cpC c, 26)] (w.alloc (.cells (cpC c) 26))) := Fm.one1 w c
  obtain ⟨o, ho⟩ : ∃ o : Int, (c.Op : Int) = o := ⟨_, rfl⟩
  rw [ho] at e2
  replace ho : Hid _ := ho
  clear hc hP hX h
  go_enter Tryz.func40, Tryz.ntmps40
  go_wp2_with (first
    | (refine gen_world (w.alloc (.cells (cpC c) 26)) (Fm w [(w.heap.size, cpC c, 26)]) hF.out ?_; intro y K0; have d23 := BoxC.fOp (K0.out.get 0 _ _ _ rfl); rw [ho.out] at d23; have d16 := BoxC.fD (K0.out.get 0 _ _ _ rfl); have d20 := BoxC.fT (K0.out.get 0 _ _ _ rfl); have d18 := BoxC.fP (K0.out.get 0 _ _ _ rfl); have d19 := BoxC.fX (K0.out.get 0 _ _ _ rfl))
    | (go_at_call 27; refine (hn _).mono ?_; rintro e v2 ⟨rfl, hb2⟩; have K2 : Hid _ := K1.out.below hb2; replace K0 : Hid (Fm w [(w.heap.size, cpC c, 26)] v2) := K2; have d23 := BoxC.fOp (K0.out.get 0 _ _ _ rfl); rw [ho.out] at d23; have d16 := BoxC.fD (K0.out.get 0 _ _ _ rfl); have d20 := BoxC.fT (K0.out.get 0 _ _ _ rfl); have d18 := BoxC.fP (K0.out.get 0 _ _ _ rfl); have d19 := BoxC.fX (K0.out.get 0 _ _ _ rfl))
    | (go_at_call 27; refine (hn _).mono ?_; rintro e v1 ⟨rfl, hb1⟩; have K1 : Hid _ := K0.out.below hb1; replace K0 : Hid (Fm w [(w.heap.size, cpC c, 26)] v1) := K1; have d23 := BoxC.fOp (K0.out.get 0 _ _ _ rfl); rw [ho.out] at d23; have d16 := BoxC.fD (K0.out.get 0 _ _ _ rfl); have d20 := BoxC.fT (K0.out.get 0 _ _ _ rfl); have d18 := BoxC.fP (K0.out.get 0 _ _ _ rfl); have d19 := BoxC.fX (K0.out.get 0 _ _ _ rfl))
    | (go_at_call 46; refine (hl _).mono ?_; rintro e v3 ⟨rfl, rfl⟩)
    | (go_at_call 47; refine (hl _).mono ?_; rintro e v3 ⟨rfl, rfl⟩)
    | (refine at_loadC w.heap.size c (K0.out.get 0 _ _ _ rfl) _ rfl rfl rfl ?_))
  go_ret
  exact ⟨ret_u8 (by first | rfl | omega | simp), K0.out.low⟩
theorem rown_any (w : World) (c : Cp) (hc : c.wf) (hP : c.P < 16) (hX : c.X < 16) : Calls Tryz.prog 40 #[.agg (cpC c)] w fun e w' => e = .returned (.int .u8 (ownM c)) ∧ Below w.heap.size w w' := by
  unfold ownM
  by_cases h7 : c.Op / 16 = 7
  · rw [if_pos h7]
    by_cases h3 : c.Op % 16 = 3
    · rw [if_pos h3]; exact rown_73 w c hc hP hX h7 h3
    · rw [if_neg h3]
      by_cases h8 : c.Op % 16 = 8
      · rw [if_pos h8]; exact rown_78 w c hc hP hX h7 h8
      · rw [if_neg h8]; exact rown_79 w c hc hP hX h7 ⟨h3, h8⟩
  · rw [if_neg h7]
    by_cases h8 : c.Op / 16 = 8
    · rw [if_pos h8]; exact rown_8 w c hc hP hX h8 _ rfl
    · rw [if_neg h8]
      by_cases h9 : c.Op / 16 = 9
      · rw [if_pos h9]; exact rown_9 w c hc hP hX h9 _ rfl
      · rw [if_neg h9]
        by_cases h13 : c.Op / 16 = 13
        · rw [if_pos (.inl h13)]; exact rown_13 w c hc hP hX h13 _ rfl
        · by_cases h14 : c.Op / 16 = 14
          · rw [if_pos (.inr h14)]; exact rown_14 w c hc hP hX h14 _ rfl
          · rw [if_neg (fun h => h.elim h13 h14)]; exact rown_else w c hc hP hX ⟨h7, h8, h9, h13, h14⟩
end Go.Proofs.YtbeeefekndcgnaaGreatDoor

namespace Go.Proofs.YtbeeefekndcgnaaGreatDoor
open Go Go.RowKit
set_option linter.unusedVariables false
set_option maxHeartbeats 1000000
set_option maxRecDepth 20000

theorem rbus_eq (n : Nat) (b : Bool) (hb : b = true → n / 16 = 12) : busV n b = .agg (useC (rptI n) (rrdB n) (rwrB n) (rowB n) (if n / 16 = 6 then ((n % 8 : Nat) : Int) else 0)) := by
  unfold busV useC
  rw [if_neg (by rintro ⟨h1, h2⟩; exact h2 (hb h1))]
  by_cases h : n / 16 = 6
  · rw [if_pos h, if_pos h]
  · rw [if_neg h, if_neg h]; rfl
theorem rexec0 (w : World) (c : Cp) (hc : c.wf) (tb : Tabs w) (hP : c.P < 16) (hX : c.X < 16) (sec : Bool) (hs : sec = true → c.Op / 16 = 12) (hw : rowB c.Op = false) : Calls Tryz.prog 26 #[.agg (cpC c), .bool sec] w fun e w' => e = .returned (.agg (dvC (execM c))) ∧ Below w.heap.size w w' := by
  have hBu := fun v (t : Tabs v) => rbus_any c.Op sec v hc.Op
  rw [rbus_eq c.Op sec hs] at hBu
  rw [hw] at hBu
  have hA := rptI_le c.Op hc.Op
  have hp := fun v => raddress_any v c hc hP hX (rptI c.Op) hA
  unfold execM
  rw [hw]
  obtain ⟨A, hAe⟩ : ∃ A, rptI c.Op = A := ⟨_, rfl⟩
  rw [hAe] at hBu hp ⊢
  obtain ⟨AD, hADe⟩ : ∃ AD, addrM c A = AD := ⟨_, rfl⟩
  rw [hADe] at hp ⊢
  obtain ⟨r, hre⟩ : ∃ r, rrdB c.Op = r := ⟨_, rfl⟩
  obtain ⟨wr, hwe⟩ : ∃ r, rwrB c.Op = r := ⟨_, rfl⟩
  obtain ⟨T, hTe⟩ : ∃ T : Int, (if c.Op / 16 = 6 then ((c.Op % 8 : Nat) : Int) else 0) = T := ⟨_, rfl⟩
  rw [hre, hwe, hTe] at hBu ⊢
  have tb' : Hid (Tabs w) := tb
  rw [if_neg (by simp)]
  have zz := zeroVD
  have zu := zeroVU
  have hF : Hid (Ge w w.heap.size c (w.heap.size + 1) zeroD ((w.alloc (.cells (cpC c) 26)).alloc (.cells (dvC zeroD) 33))) := Ge.start w c
  clear hc tb hP hX hs hw hA hAe hADe hre hwe hTe
  go_enter Tryz.func26, Tryz.ntmps26
  go_wp2_with (first
    | (refine gen_world ((w.alloc (.cells (cpC c) 26)).alloc (.cells (dvC zeroD) 33)) (Ge w w.heap.size c (w.heap.size + 1) zeroD) hF.out ?_; intro y K; have d23 := K.out.c.fOp)
    | (go_at_call 38; refine (hBu _ (tb'.out.below K.out.low)).mono ?_; rintro e v1 ⟨rfl, hb1⟩; replace K : Hid _ := K.out.below hb1)
    | (refine gen_world (v1.alloc (.cells (useC 0 false false false 0) 64)) (Gu w w.heap.size c (w.heap.size + 1) zeroD v1.heap.size (useC 0 false false false 0)) (Gu.new K.out _) ?_; intro y2 K2)
    | (refine at_storeU v1.heap.size (useC 0 false false false 0) (useC A r wr false T) rfl rfl (useC_one _ _ _ _ _) K2.out.u _ _ rfl rfl rfl rfl ?_; intro y3 hw3; have K3 : Hid (Gu w w.heap.size c (w.heap.size + 1) zeroD v1.heap.size (useC A r wr false T) y3) := K2.out.putU hw3.out))
  refine wp_region_held_drew (S := Gu w w.heap.size c (w.heap.size + 1) zeroD v1.heap.size (useC A r wr false T)) (by kernel_rfl) (K3.out.below (below_drew (Below.refl _ _))) (fun hH => ?_)
  generalize y3.drew = z0 at hH ⊢
  clear K3 hw3
  refine wpAnyH_take (i := 0) (v := .agg (cpC c)) rfl (by kernel_rfl) (by kernel_rfl) (by kernel_rfl) (fun _ _ _ h => h) (yieldsC w.heap.size c (fun _ h => h.f.c) _ rfl rfl rfl) hH ?_
  simp only [Act.put, List.setIfInBounds_toArray]
  refine wpAnyH_take (i := 1) (v := .pointer (some ⟨v1.heap.size, 0, none⟩)) rfl (by kernel_rfl) (by kernel_rfl) (by kernel_rfl) (fun _ _ _ h => h) (.inl ⟨by rfl, fun u hu => by go_simp⟩) hH ?_
  simp only [Act.put]
  refine wpAnyH_take (i := 2) (v := .int .u8 A) rfl (by kernel_rfl) (by kernel_rfl) (by kernel_rfl) (fun _ _ _ h => h) (.inl ⟨by rfl, fun u hu => by have d := (show BoxU _ v1.heap.size A r wr false T from hu.u).f0; go_simp⟩) hH ?_
  simp only [Act.put]
  refine wpAnyH_take (i := 4) (v := .pointer (some ⟨v1.heap.size, 1, none⟩)) rfl (by kernel_rfl) (by kernel_rfl) (by kernel_rfl) (fun _ _ _ h => h) (.inl ⟨by rfl, fun u hu => by go_simp⟩) hH ?_
  simp only [Act.put]
  refine wpAnyH_take (i := 5) (v := .bool r) rfl (by kernel_rfl) (by kernel_rfl) (by kernel_rfl) (fun _ _ _ h => h) (.inl ⟨by rfl, fun u hu => by have d := (show BoxU _ v1.heap.size A r wr false T from hu.u).f1; go_simp⟩) hH ?_
  simp only [Act.put]
  refine wpAnyH_take (i := 6) (v := .pointer (some ⟨v1.heap.size, 2, none⟩)) rfl (by kernel_rfl) (by kernel_rfl) (by kernel_rfl) (fun _ _ _ h => h) (.inl ⟨by rfl, fun u hu => by go_simp⟩) hH ?_
  simp only [Act.put]
  refine wpAnyH_take (i := 7) (v := .bool wr) rfl (by kernel_rfl) (by kernel_rfl) (by kernel_rfl) (fun _ _ _ h => h) (.inl ⟨by rfl, fun u hu => by have d := (show BoxU _ v1.heap.size A r wr false T from hu.u).f2; go_simp⟩) hH ?_
  simp only [Act.put]
  refine wpAnyH_take (i := 8) (v := .pointer (some ⟨v1.heap.size, 3, none⟩)) rfl (by kernel_rfl) (by kernel_rfl) (by kernel_rfl) (fun _ _ _ h => h) (.inl ⟨by rfl, fun u hu => by go_simp⟩) hH ?_
  simp only [Act.put]
  refine wpAnyH_take (i := 9) (v := .bool false) rfl (by kernel_rfl) (by kernel_rfl) (by kernel_rfl) (fun _ _ _ h => h) (.inl ⟨by rfl, fun u hu => by have d := (show BoxU _ v1.heap.size A r wr false T from hu.u).f3; go_simp⟩) hH ?_
  simp only [Act.put]
  refine wpAnyH_take (i := 10) (v := .pointer (some ⟨v1.heap.size, 4, none⟩)) rfl (by kernel_rfl) (by kernel_rfl) (by kernel_rfl) (fun _ _ _ h => h) (.inl ⟨by rfl, fun u hu => by go_simp⟩) hH ?_
  simp only [Act.put]
  refine wpAnyH_take (i := 11) (v := .int .u8 T) rfl (by kernel_rfl) (by kernel_rfl) (by kernel_rfl) (fun _ _ _ h => h) (.inl ⟨by rfl, fun u hu => by have d := (show BoxU _ v1.heap.size A r wr false T from hu.u).f4; go_simp⟩) hH ?_
  simp only [Act.put]
  refine wpAnyH_ready (rs := [3, 13]) (by kernel_rfl) (by simp) (AllReadyH.cons rfl (fun K hK => ?_) (AllReadyH.cons rfl (fun K hK => ?_) AllReadyH.nil))
  · rw [if_pos (by rfl)]
    go_wp2_with (go_at_call 39; refine (hp _).mono ?_; rintro e v5 ⟨rfl, hb5⟩)
    refine hK.out _ _ (hH.below hb5) (fun hH => ?_)
    clear hK K
    try simp only [Act.put, List.setIfInBounds_toArray, List.set_cons_zero, List.set_cons_succ]
    refine wpAnyH_take (i := 12) (v := .agg (dvC ⟨1, AD, r, wr, false, 0, T, true⟩)) rfl (by kernel_rfl) (by kernel_rfl) (by kernel_rfl) (fun _ _ _ h => h) (yieldsD _ [(0, .int .u8 1), (1, .int .u16 AD), (2, .bool r), (3, .bool wr), (4, .bool false), (6, .int .u8 T), (7, .bool true)] ⟨1, AD, r, wr, false, 0, T, true⟩ (by rfl) rfl (by first | (simp [Act.eval]; done) | (go_simp; done)) (by kernel_rfl)) hH ?_
    try simp only [Act.put, List.setIfInBounds_toArray]
    refine wpAnyH_ready (rs := [13]) (by kernel_rfl) (by simp) (AllReadyH.cons rfl (fun K hK => ?_) AllReadyH.nil)
    rw [if_pos (by rfl)]
    go_wp2
    have K4 : Gv w w.heap.size c (w.heap.size + 1) zeroD v1.heap.size (useC A r wr false T) v5.heap.size zeroD (v5.alloc (.cells (dvC zeroD) 33)) := Gv.new hH zeroD
    refine hK.out _ _ K4.g (fun hH => ?_)
    clear hK K
    try simp only [Act.put, List.setIfInBounds_toArray, List.set_cons_zero, List.set_cons_succ]
    generalize v5.heap.size = bl at K4 ⊢
    generalize v5.alloc _ = y4 at K4 hH ⊢
    refine wpAnyH_ready (rs := [14]) (by kernel_rfl) (by simp) (AllReadyH.cons rfl (fun K hK => ?_) AllReadyH.nil)
    rw [if_pos (by rfl)]
    refine wp_storeD bl zeroD ⟨1, AD, r, wr, false, 0, T, true⟩ K4.l _ _ rfl rfl rfl ?_
    intro y5 hw5
    have K5 : Hid (Gv w w.heap.size c (w.heap.size + 1) zeroD v1.heap.size (useC A r wr false T) bl (⟨1, AD, r, wr, false, 0, T, true⟩ : Dv) y5) := K4.putL hw5.out
    refine hK.out _ _ K5.out.g (fun _ => ?_)
    clear hK K hH K4 hw5
    try simp only [Act.put, List.setIfInBounds_toArray]
    refine wpAnyH_done (by kernel_rfl) ?_ _
    have d3 : y5.cell? ⟨v1.heap.size, 3, none⟩ = some (.bool false) := (show BoxU _ v1.heap.size A r wr false T from K5.out.g.u).f3
    go_wp2_with (first
      | (refine at_loadD bl _ K5.out.l _ rfl rfl rfl ?_)
      | (refine at_storeD (w.heap.size + 1) zeroD _ K5.out.g.f.z _ _ rfl rfl rfl rfl ?_; intro w2 hw2))
    refine retD Tryz.results26 rfl hw2.out.1 rfl ⟨rfl, K5.out.g.f.low.trans (hw2.out.2.1 _ K5.out.g.f.l2)⟩
  · rw [if_pos (by rfl)]
    go_wp2
    have K4 : Gv w w.heap.size c (w.heap.size + 1) zeroD v1.heap.size (useC A r wr false T) z0.heap.size zeroD (z0.alloc (.cells (dvC zeroD) 33)) := Gv.new hH zeroD
    refine hK.out _ _ K4.g (fun hH => ?_)
    clear hK K
    try simp only [Act.put, List.setIfInBounds_toArray, List.set_cons_zero, List.set_cons_succ]
    generalize z0.heap.size = bl at K4 ⊢
    generalize z0.alloc _ = y4 at K4 hH ⊢
    refine wpAnyH_ready (rs := [3]) (by kernel_rfl) (by simp) (AllReadyH.cons rfl (fun K hK => ?_) AllReadyH.nil)
    rw [if_pos (by rfl)]
    go_wp2_with (go_at_call 39; refine (hp _).mono ?_; rintro e v5 ⟨rfl, hb5⟩)
    replace K4 := K4.below hb5
    refine hK.out _ _ K4.g (fun hH => ?_)
    clear hK K
    try simp only [Act.put, List.setIfInBounds_toArray, List.set_cons_zero, List.set_cons_succ]
    refine wpAnyH_take (i := 12) (v := .agg (dvC ⟨1, AD, r, wr, false, 0, T, true⟩)) rfl (by kernel_rfl) (by kernel_rfl) (by kernel_rfl) (fun _ _ _ h => h) (yieldsD _ [(0, .int .u8 1), (1, .int .u16 AD), (2, .bool r), (3, .bool wr), (4, .bool false), (6, .int .u8 T), (7, .bool true)] ⟨1, AD, r, wr, false, 0, T, true⟩ (by rfl) rfl (by first | (simp [Act.eval]; done) | (go_simp; done)) (by kernel_rfl)) hH ?_
    try simp only [Act.put, List.setIfInBounds_toArray]
    refine wpAnyH_ready (rs := [14]) (by kernel_rfl) (by simp) (AllReadyH.cons rfl (fun K hK => ?_) AllReadyH.nil)
    rw [if_pos (by rfl)]
    refine wp_storeD bl zeroD ⟨1, AD, r, wr, false, 0, T, true⟩ K4.l _ _ rfl rfl rfl ?_
    intro y5 hw5
    have K5 : Hid (Gv w w.heap.size c (w.heap.size + 1) zeroD v1.heap.size (useC A r wr false T) bl (⟨1, AD, r, wr, false, 0, T, true⟩ : Dv) y5) := K4.putL hw5.out
    refine hK.out _ _ K5.out.g (fun _ => ?_)
    clear hK K hH K4 hw5
    try simp only [Act.put]
    refine wpAnyH_done (by kernel_rfl) ?_ _
    have d3 : y5.cell? ⟨v1.heap.size, 3, none⟩ = some (.bool false) := (show BoxU _ v1.heap.size A r wr false T from K5.out.g.u).f3
    go_wp2_with (first
      | (refine at_loadD bl _ K5.out.l _ rfl rfl rfl ?_)
      | (refine at_storeD (w.heap.size + 1) zeroD _ K5.out.g.f.z _ _ rfl rfl rfl rfl ?_; intro w2 hw2))
    refine retD Tryz.results26 rfl hw2.out.1 rfl ⟨rfl, K5.out.g.f.low.trans (hw2.out.2.1 _ K5.out.g.f.l2)⟩

theorem rexec1 (w : World) (c : Cp) (hc : c.wf) (tb : Tabs w) (hP : c.P < 16) (hX : c.X < 16) (sec : Bool) (hs : sec = true → c.Op / 16 = 12) (hw : rowB c.Op = true) : Calls Tryz.prog 26 #[.agg (cpC c), .bool sec] w fun e w' => e = .returned (.agg (dvC (execM c))) ∧ Below w.heap.size w w' := by
  have hBu := fun v (t : Tabs v) => rbus_any c.Op sec v hc.Op
  rw [rbus_eq c.Op sec hs] at hBu
  rw [hw] at hBu
  have hA := rptI_le c.Op hc.Op
  have hp := fun v => raddress_any v c hc hP hX (rptI c.Op) hA
  unfold execM
  rw [hw]
  obtain ⟨A, hAe⟩ : ∃ A, rptI c.Op = A := ⟨_, rfl⟩
  rw [hAe] at hBu hp ⊢
  obtain ⟨AD, hADe⟩ : ∃ AD, addrM c A = AD := ⟨_, rfl⟩
  rw [hADe] at hp ⊢
  obtain ⟨r, hre⟩ : ∃ r, rrdB c.Op = r := ⟨_, rfl⟩
  obtain ⟨wr, hwe⟩ : ∃ r, rwrB c.Op = r := ⟨_, rfl⟩
  obtain ⟨T, hTe⟩ : ∃ T : Int, (if c.Op / 16 = 6 then ((c.Op % 8 : Nat) : Int) else 0) = T := ⟨_, rfl⟩
  rw [hre, hwe, hTe] at hBu ⊢
  have tb' : Hid (Tabs w) := tb
  rw [if_pos rfl]
  have hf := fun v => rown_any v c hc hP hX
  obtain ⟨O, hOe⟩ : ∃ O, ownM c = O := ⟨_, rfl⟩
  rw [hOe] at hf ⊢
  have zz := zeroVD
  have zu := zeroVU
  have hF : Hid (Ge w w.heap.size c (w.heap.size + 1) zeroD ((w.alloc (.cells (cpC c) 26)).alloc (.cells (dvC zeroD) 33))) := Ge.start w c
  clear hc tb hP hX hs hw hA hAe hADe hre hwe hTe hOe
  go_enter Tryz.func26, Tryz.ntmps26
  go_wp2_with (first
    | (refine gen_world ((w.alloc (.cells (cpC c) 26)).alloc (.cells (dvC zeroD) 33)) (Ge w w.heap.size c (w.heap.size + 1) zeroD) hF.out ?_; intro y K; have d23 := K.out.c.fOp)
    | (go_at_call 38; refine (hBu _ (tb'.out.below K.out.low)).mono ?_; rintro e v1 ⟨rfl, hb1⟩; replace K : Hid _ := K.out.below hb1)
    | (refine gen_world (v1.alloc (.cells (useC 0 false false false 0) 64)) (Gu w w.heap.size c (w.heap.size + 1) zeroD v1.heap.size (useC 0 false false false 0)) (Gu.new K.out _) ?_; intro y2 K2)
    | (refine at_storeU v1.heap.size (useC 0 false false false 0) (useC A r wr true T) rfl rfl (useC_one _ _ _ _ _) K2.out.u _ _ rfl rfl rfl rfl ?_; intro y3 hw3; have K3 : Hid (Gu w w.heap.size c (w.heap.size + 1) zeroD v1.heap.size (useC A r wr true T) y3) := K2.out.putU hw3.out))
  refine wp_region_held_drew (S := Gu w w.heap.size c (w.heap.size + 1) zeroD v1.heap.size (useC A r wr true T)) (by kernel_rfl) (K3.out.below (below_drew (Below.refl _ _))) (fun hH => ?_)
  generalize y3.drew = z0 at hH ⊢
  clear K3 hw3
  refine wpAnyH_take (i := 0) (v := .agg (cpC c)) rfl (by kernel_rfl) (by kernel_rfl) (by kernel_rfl) (fun _ _ _ h => h) (yieldsC w.heap.size c (fun _ h => h.f.c) _ rfl rfl rfl) hH ?_
  simp only [Act.put, List.setIfInBounds_toArray]
  refine wpAnyH_take (i := 1) (v := .pointer (some ⟨v1.heap.size, 0, none⟩)) rfl (by kernel_rfl) (by kernel_rfl) (by kernel_rfl) (fun _ _ _ h => h) (.inl ⟨by rfl, fun u hu => by go_simp⟩) hH ?_
  simp only [Act.put]
  refine wpAnyH_take (i := 2) (v := .int .u8 A) rfl (by kernel_rfl) (by kernel_rfl) (by kernel_rfl) (fun _ _ _ h => h) (.inl ⟨by rfl, fun u hu => by have d := (show BoxU _ v1.heap.size A r wr true T from hu.u).f0; go_simp⟩) hH ?_
  simp only [Act.put]
  refine wpAnyH_take (i := 4) (v := .pointer (some ⟨v1.heap.size, 1, none⟩)) rfl (by kernel_rfl) (by kernel_rfl) (by kernel_rfl) (fun _ _ _ h => h) (.inl ⟨by rfl, fun u hu => by go_simp⟩) hH ?_
  simp only [Act.put]
  refine wpAnyH_take (i := 5) (v := .bool r) rfl (by kernel_rfl) (by kernel_rfl) (by kernel_rfl) (fun _ _ _ h => h) (.inl ⟨by rfl, fun u hu => by have d := (show BoxU _ v1.heap.size A r wr true T from hu.u).f1; go_simp⟩) hH ?_
  simp only [Act.put]
  refine wpAnyH_take (i := 6) (v := .pointer (some ⟨v1.heap.size, 2, none⟩)) rfl (by kernel_rfl) (by kernel_rfl) (by kernel_rfl) (fun _ _ _ h => h) (.inl ⟨by rfl, fun u hu => by go_simp⟩) hH ?_
  simp only [Act.put]
  refine wpAnyH_take (i := 7) (v := .bool wr) rfl (by kernel_rfl) (by kernel_rfl) (by kernel_rfl) (fun _ _ _ h => h) (.inl ⟨by rfl, fun u hu => by have d := (show BoxU _ v1.heap.size A r wr true T from hu.u).f2; go_simp⟩) hH ?_
  simp only [Act.put]
  refine wpAnyH_take (i := 8) (v := .pointer (some ⟨v1.heap.size, 3, none⟩)) rfl (by kernel_rfl) (by kernel_rfl) (by kernel_rfl) (fun _ _ _ h => h) (.inl ⟨by rfl, fun u hu => by go_simp⟩) hH ?_
  simp only [Act.put]
  refine wpAnyH_take (i := 9) (v := .bool true) rfl (by kernel_rfl) (by kernel_rfl) (by kernel_rfl) (fun _ _ _ h => h) (.inl ⟨by rfl, fun u hu => by have d := (show BoxU _ v1.heap.size A r wr true T from hu.u).f3; go_simp⟩) hH ?_
  simp only [Act.put]
  refine wpAnyH_take (i := 10) (v := .pointer (some ⟨v1.heap.size, 4, none⟩)) rfl (by kernel_rfl) (by kernel_rfl) (by kernel_rfl) (fun _ _ _ h => h) (.inl ⟨by rfl, fun u hu => by go_simp⟩) hH ?_
  simp only [Act.put]
  refine wpAnyH_take (i := 11) (v := .int .u8 T) rfl (by kernel_rfl) (by kernel_rfl) (by kernel_rfl) (fun _ _ _ h => h) (.inl ⟨by rfl, fun u hu => by have d := (show BoxU _ v1.heap.size A r wr true T from hu.u).f4; go_simp⟩) hH ?_
  simp only [Act.put]
  refine wpAnyH_ready (rs := [3, 13]) (by kernel_rfl) (by simp) (AllReadyH.cons rfl (fun K hK => ?_) (AllReadyH.cons rfl (fun K hK => ?_) AllReadyH.nil))
  · rw [if_pos (by rfl)]
    go_wp2_with (go_at_call 39; refine (hp _).mono ?_; rintro e v5 ⟨rfl, hb5⟩)
    refine hK.out _ _ (hH.below hb5) (fun hH => ?_)
    clear hK K
    try simp only [Act.put, List.setIfInBounds_toArray, List.set_cons_zero, List.set_cons_succ]
    refine wpAnyH_take (i := 12) (v := .agg (dvC ⟨1, AD, r, wr, true, 0, T, true⟩)) rfl (by kernel_rfl) (by kernel_rfl) (by kernel_rfl) (fun _ _ _ h => h) (yieldsD _ [(0, .int .u8 1), (1, .int .u16 AD), (2, .bool r), (3, .bool wr), (4, .bool true), (6, .int .u8 T), (7, .bool true)] ⟨1, AD, r, wr, true, 0, T, true⟩ (by rfl) rfl (by first | (simp [Act.eval]; done) | (go_simp; done)) (by kernel_rfl)) hH ?_
    try simp only [Act.put, List.setIfInBounds_toArray]
    refine wpAnyH_ready (rs := [13]) (by kernel_rfl) (by simp) (AllReadyH.cons rfl (fun K hK => ?_) AllReadyH.nil)
    rw [if_pos (by rfl)]
    go_wp2
    have K4 : Gv w w.heap.size c (w.heap.size + 1) zeroD v1.heap.size (useC A r wr true T) v5.heap.size zeroD (v5.alloc (.cells (dvC zeroD) 33)) := Gv.new hH zeroD
    refine hK.out _ _ K4.g (fun hH => ?_)
    clear hK K
    try simp only [Act.put, List.setIfInBounds_toArray, List.set_cons_zero, List.set_cons_succ]
    generalize v5.heap.size = bl at K4 ⊢
    generalize v5.alloc _ = y4 at K4 hH ⊢
    refine wpAnyH_ready (rs := [14]) (by kernel_rfl) (by simp) (AllReadyH.cons rfl (fun K hK => ?_) AllReadyH.nil)
    rw [if_pos (by rfl)]
    refine wp_storeD bl zeroD ⟨1, AD, r, wr, true, 0, T, true⟩ K4.l _ _ rfl rfl rfl ?_
    intro y5 hw5
    have K5 : Hid (Gv w w.heap.size c (w.heap.size + 1) zeroD v1.heap.size (useC A r wr true T) bl (⟨1, AD, r, wr, true, 0, T, true⟩ : Dv) y5) := K4.putL hw5.out
    refine hK.out _ _ K5.out.g (fun _ => ?_)
    clear hK K hH K4 hw5
    try simp only [Act.put, List.setIfInBounds_toArray]
    refine wpAnyH_done (by kernel_rfl) ?_ _
    have d3 : y5.cell? ⟨v1.heap.size, 3, none⟩ = some (.bool true) := (show BoxU _ v1.heap.size A r wr true T from K5.out.g.u).f3
    go_wp2_with (first
      | (refine at_loadC w.heap.size c K5.out.g.f.c _ rfl rfl rfl ?_)
      | (go_at_call 40; refine (hf _).mono ?_; rintro e z6 ⟨rfl, hb6⟩; have Q6 : Hid (Gv w w.heap.size c (w.heap.size + 1) zeroD v1.heap.size (useC A r wr true T) bl (⟨1, AD, r, wr, true, 0, T, true⟩ : Dv) z6) := K5.out.below hb6; have d5 := Q6.out.l.f5; have f5 := Q6.out.l.fz 5; have K7 : Hid (Gv w w.heap.size c (w.heap.size + 1) zeroD v1.heap.size (useC A r wr true T) bl (⟨1, AD, r, wr, true, O, T, true⟩ : Dv) (z6.setCell ⟨bl, 5, none⟩ (.int .u8 O))) := Q6.out.setL 5 _ rfl)
      | (refine at_loadD bl _ K7.out.l _ rfl rfl rfl ?_)
      | (refine at_storeD (w.heap.size + 1) zeroD _ K7.out.g.f.z _ _ rfl rfl rfl rfl ?_; intro w2 hw2))
    refine retD Tryz.results26 rfl hw2.out.1 rfl ⟨rfl, K7.out.g.f.low.trans (hw2.out.2.1 _ K7.out.g.f.l2)⟩
  · rw [if_pos (by rfl)]
    go_wp2
    have K4 : Gv w w.heap.size c (w.heap.size + 1) zeroD v1.heap.size (useC A r wr true T) z0.heap.size zeroD (z0.alloc (.cells (dvC zeroD) 33)) := Gv.new hH zeroD
    refine hK.out _ _ K4.g (fun hH => ?_)
    clear hK K
    try simp only [Act.put, List.setIfInBounds_toArray, List.set_cons_zero, List.set_cons_succ]
    generalize z0.heap.size = bl at K4 ⊢
    generalize z0.alloc _ = y4 at K4 hH ⊢
    refine wpAnyH_ready (rs := [3]) (by kernel_rfl) (by simp) (AllReadyH.cons rfl (fun K hK => ?_) AllReadyH.nil)
    rw [if_pos (by rfl)]
    go_wp2_with (go_at_call 39; refine (hp _).mono ?_; rintro e v5 ⟨rfl, hb5⟩)
    replace K4 := K4.below hb5
    refine hK.out _ _ K4.g (fun hH => ?_)
    clear hK K
    try simp only [Act.put, List.setIfInBounds_toArray, List.set_cons_zero, List.set_cons_succ]
    refine wpAnyH_take (i := 12) (v := .agg (dvC ⟨1, AD, r, wr, true, 0, T, true⟩)) rfl (by kernel_rfl) (by kernel_rfl) (by kernel_rfl) (fun _ _ _ h => h) (yieldsD _ [(0, .int .u8 1), (1, .int .u16 AD), (2, .bool r), (3, .bool wr), (4, .bool true), (6, .int .u8 T), (7, .bool true)] ⟨1, AD, r, wr, true, 0, T, true⟩ (by rfl) rfl (by first | (simp [Act.eval]; done) | (go_simp; done)) (by kernel_rfl)) hH ?_
    try simp only [Act.put, List.setIfInBounds_toArray]
    refine wpAnyH_ready (rs := [14]) (by kernel_rfl) (by simp) (AllReadyH.cons rfl (fun K hK => ?_) AllReadyH.nil)
    rw [if_pos (by rfl)]
    refine wp_storeD bl zeroD ⟨1, AD, r, wr, true, 0, T, true⟩ K4.l _ _ rfl rfl rfl ?_
    intro y5 hw5
    have K5 : Hid (Gv w w.heap.size c (w.heap.size + 1) zeroD v1.heap.size (useC A r wr true T) bl (⟨1, AD, r, wr, true, 0, T, true⟩ : Dv) y5) := K4.putL hw5.out
    refine hK.out _ _ K5.out.g (fun _ => ?_)
    clear hK K hH K4 hw5
    try simp only [Act.put]
    refine wpAnyH_done (by kernel_rfl) ?_ _
    have d3 : y5.cell? ⟨v1.heap.size, 3, none⟩ = some (.bool true) := (show BoxU _ v1.heap.size A r wr true T from K5.out.g.u).f3
    go_wp2_with (first
      | (refine at_loadC w.heap.size c K5.out.g.f.c _ rfl rfl rfl ?_)
      | (go_at_call 40; refine (hf _).mono ?_; rintro e z6 ⟨rfl, hb6⟩; have Q6 : Hid (Gv w w.heap.size c (w.heap.size + 1) zeroD v1.heap.size (useC A r wr true T) bl (⟨1, AD, r, wr, true, 0, T, true⟩ : Dv) z6) := K5.out.below hb6; have d5 := Q6.out.l.f5; have f5 := Q6.out.l.fz 5; have K7 : Hid (Gv w w.heap.size c (w.heap.size + 1) zeroD v1.heap.size (useC A r wr true T) bl (⟨1, AD, r, wr, true, O, T, true⟩ : Dv) (z6.setCell ⟨bl, 5, none⟩ (.int .u8 O))) := Q6.out.setL 5 _ rfl)
      | (refine at_loadD bl _ K7.out.l _ rfl rfl rfl ?_)
      | (refine at_storeD (w.heap.size + 1) zeroD _ K7.out.g.f.z _ _ rfl rfl rfl rfl ?_; intro w2 hw2))
    refine retD Tryz.results26 rfl hw2.out.1 rfl ⟨rfl, K7.out.g.f.low.trans (hw2.out.2.1 _ K7.out.g.f.l2)⟩

theorem rexec_any (w : World) (c : Cp) (hc : c.wf) (tb : Tabs w) (hP : c.P < 16) (hX : c.X < 16) (sec : Bool) (hs : sec = true → c.Op / 16 = 12) : Calls Tryz.prog 26 #[.agg (cpC c), .bool sec] w fun e w' => e = .returned (.agg (dvC (execM c))) ∧ Below w.heap.size w w' := by
  rcases hw : rowB c.Op with _ | _
  · exact rexec0 w c hc tb hP hX sec hs hw
  · exact rexec1 w c hc tb hP hX sec hs hw
end Go.Proofs.YtbeeefekndcgnaaGreatDoor

namespace Go.Proofs.YtbeeefekndcgnaaGreatDoor
open Go Go.RowKit
set_option linter.unusedVariables false
set_option maxHeartbeats 1000000
set_option maxRecDepth 20000

theorem Fm.cd (w : World) (c : Cp) : Fm w [(w.heap.size, cpC c, 26), (w.heap.size + 1, dvC zeroD, 33)] ((w.alloc (.cells (cpC c) 26)).alloc (.cells (dvC zeroD) 33)) := by
  have h := ((Fm.nil w).new (cpC c) 26).new (dvC zeroD) 33
  simpa using h
theorem rrun_1 (w : World) (c : Cp) (hc : c.wf) (tb : Tabs w) (hP : c.P < 16) (hX : c.X < 16) (h : c.Ph = 1) (k : Nat) (hk : c.P = k) : Calls Tryz.prog 19 #[.agg (cpC c)] w fun e w' => e = .returned (.agg (dvC (⟨0, c.R k, true, false, false, 0, 0, true⟩ : Dv))) ∧ Below w.heap.size w w' := by
  have hph : (c.Ph : Int) = 1 := by omega
  have hk16 : k < 16 := by omega
  have ix := fun v => idx (g := w.heap.size) (off := 0) (N := 16) Tryz.underlying23 infoR .u8 k v hk16
  simp only [Nat.zero_add, Nat.mul_one] at ix
  have hR : Hid (∀ b x, BoxC x b c → x.cell? ⟨b, k, none⟩ = some (.int .u16 (c.R k))) := fun b x h => h.r k hk16
  have hPe : Hid ((c.P : Int) = (k : Int)) := (by omega : (c.P : Int) = (k : Int))
  have zd := zeroVD
  have tb' : Hid (Tabs w) := tb
  have hF : Hid (Fm w [(w.heap.size, cpC c, 26), (w.heap.size + 1, dvC zeroD, 33)] ((w.alloc (.cells (cpC c) 26)).alloc (.cells (dvC zeroD) 33))) := Fm.cd w c
  have hb : Hid (Tryz.prog.built 33 [(0, .int .u8 0), (1, .int .u16 (c.R k)), (2, .bool true), (7, .bool true)] = some (dvC (⟨0, c.R k, true, false, false, 0, 0, true⟩ : Dv))) := (by kernel_rfl : Tryz.prog.built 33 [(0, .int .u8 0), (1, .int .u16 (c.R k)), (2, .bool true), (7, .bool true)] = some (dvC (⟨0, c.R k, true, false, false, 0, 0, true⟩ : Dv)))
  obtain ⟨D, hDe⟩ : ∃ D : Dv, (⟨0, c.R k, true, false, false, 0, 0, true⟩ : Dv) = D := ⟨_, rfl⟩
  rw [hDe] at hb ⊢
  clear hDe
  replace hph : Hid _ := hph
  clear hc tb hP hX h hk
  go_enter Tryz.func19, Tryz.ntmps19
  go_wp2_with (first
    | (refine gen_world ((w.alloc (.cells (cpC c) 26)).alloc (.cells (dvC zeroD) 33)) (Fm w [(w.heap.size, cpC c, 26), (w.heap.size + 1, dvC zeroD, 33)]) hF.out ?_; intro y K0; have d25 := BoxC.fPh (K0.out.get 0 _ _ _ rfl); rw [hph.out] at d25; have dP := BoxC.fP (K0.out.get 0 _ _ _ rfl); rw [hPe.out] at dP; have dR := hR.out _ _ (K0.out.get 0 _ _ _ rfl))
    | (refine at_buildD _ [(0, .int .u8 0), (1, .int .u16 (c.R k)), (2, .bool true), (7, .bool true)] D rfl rfl (by first | (simp [Act.eval]; done) | (go_simp; done)) hb.out _ rfl ?_)
    | (refine at_storeD (w.heap.size + 1) zeroD D (K0.out.get 1 _ _ _ rfl) _ _ rfl rfl rfl rfl ?_; intro w2 hw2)
    | (refine at_loadC w.heap.size c (K0.out.get 0 _ _ _ rfl) _ rfl rfl rfl ?_))
  refine retD Tryz.results19 rfl hw2.out.1 rfl ⟨rfl, K0.out.low.trans (hw2.out.2.1 _ (by omega))⟩
theorem rrun_2 (w : World) (c : Cp) (hc : c.wf) (tb : Tabs w) (hP : c.P < 16) (hX : c.X < 16) (h : c.Ph = 2) : Calls Tryz.prog 19 #[.agg (cpC c)] w fun e w' => e = .returned (.agg (dvC (execM c))) ∧ Below w.heap.size w w' := by
  have hph : (c.Ph : Int) = 2 := by omega
  have hx := fun v t => rexec_any v c hc t hP hX false (fun h => by cases h)
  have zd := zeroVD
  have tb' : Hid (Tabs w) := tb
  have hF : Hid (Fm w [(w.heap.size, cpC c, 26), (w.heap.size + 1, dvC zeroD, 33)] ((w.alloc (.cells (cpC c) 26)).alloc (.cells (dvC zeroD) 33))) := Fm.cd w c
  obtain ⟨D, hDe⟩ : ∃ D : Dv, (execM c) = D := ⟨_, rfl⟩
  rw [hDe] at hx ⊢
  clear hDe
  replace hph : Hid _ := hph
  clear hc tb hP hX h
  go_enter Tryz.func19, Tryz.ntmps19
  go_wp2_with (first
    | (refine gen_world ((w.alloc (.cells (cpC c) 26)).alloc (.cells (dvC zeroD) 33)) (Fm w [(w.heap.size, cpC c, 26), (w.heap.size + 1, dvC zeroD, 33)]) hF.out ?_; intro y K0; have d25 := BoxC.fPh (K0.out.get 0 _ _ _ rfl); rw [hph.out] at d25)
    | (go_at_call 26; refine (hx _ (tb'.out.below K0.out.low)).mono ?_; rintro e v1 ⟨rfl, hb1⟩; replace K0 : Hid (Fm w [(w.heap.size, cpC c, 26), (w.heap.size + 1, dvC zeroD, 33)] v1) := K0.out.below hb1)
    | (refine at_storeD (w.heap.size + 1) zeroD D (K0.out.get 1 _ _ _ rfl) _ _ rfl rfl rfl rfl ?_; intro w2 hw2)
    | (refine at_loadC w.heap.size c (K0.out.get 0 _ _ _ rfl) _ rfl rfl rfl ?_))
  refine retD Tryz.results19 rfl hw2.out.1 rfl ⟨rfl, K0.out.low.trans (hw2.out.2.1 _ (by omega))⟩
theorem rrun_3 (w : World) (c : Cp) (hc : c.wf) (tb : Tabs w) (hP : c.P < 16) (hX : c.X < 16) (h : c.Ph = 3) (hk : c.Op / 16 = 12) : Calls Tryz.prog 19 #[.agg (cpC c)] w fun e w' => e = .returned (.agg (dvC (execM c))) ∧ Below w.heap.size w w' := by
  have hph : (c.Ph : Int) = 3 := by omega
  have hx := fun v t => rexec_any v c hc t hP hX true (fun _ => hk)
  have zd := zeroVD
  have tb' : Hid (Tabs w) := tb
  have hF : Hid (Fm w [(w.heap.size, cpC c, 26), (w.heap.size + 1, dvC zeroD, 33)] ((w.alloc (.cells (cpC c) 26)).alloc (.cells (dvC zeroD) 33))) := Fm.cd w c
  obtain ⟨D, hDe⟩ : ∃ D : Dv, (execM c) = D := ⟨_, rfl⟩
  rw [hDe] at hx ⊢
  clear hDe
  replace hph : Hid _ := hph
  clear hc tb hP hX h hk
  go_enter Tryz.func19, Tryz.ntmps19
  go_wp2_with (first
    | (refine gen_world ((w.alloc (.cells (cpC c) 26)).alloc (.cells (dvC zeroD) 33)) (Fm w [(w.heap.size, cpC c, 26), (w.heap.size + 1, dvC zeroD, 33)]) hF.out ?_; intro y K0; have d25 := BoxC.fPh (K0.out.get 0 _ _ _ rfl); rw [hph.out] at d25)
    | (go_at_call 26; refine (hx _ (tb'.out.below K0.out.low)).mono ?_; rintro e v1 ⟨rfl, hb1⟩; replace K0 : Hid (Fm w [(w.heap.size, cpC c, 26), (w.heap.size + 1, dvC zeroD, 33)] v1) := K0.out.below hb1)
    | (refine at_storeD (w.heap.size + 1) zeroD D (K0.out.get 1 _ _ _ rfl) _ _ rfl rfl rfl rfl ?_; intro w2 hw2)
    | (refine at_loadC w.heap.size c (K0.out.get 0 _ _ _ rfl) _ rfl rfl rfl ?_))
  refine retD Tryz.results19 rfl hw2.out.1 rfl ⟨rfl, K0.out.low.trans (hw2.out.2.1 _ (by omega))⟩
theorem rrun_4 (w : World) (c : Cp) (hc : c.wf) (tb : Tabs w) (hP : c.P < 16) (hX : c.X < 16) (h : c.Ph = 4) : Calls Tryz.prog 19 #[.agg (cpC c)] w fun e w' => e = .returned (.agg (dvC (⟨1, c.R 0, true, false, false, 0, 0, true⟩ : Dv))) ∧ Below w.heap.size w w' := by
  have hph : (c.Ph : Int) = 4 := by omega
  have ix0 : ∀ g v, (Instr.indexAt 23 (.pointer (some ⟨g, 0, none⟩)) (.int .i64 0)).run Tryz.prog v = .ok (.pointer (some ⟨g, 0, none⟩)) v := fun g v => by have := idx (g := g) (off := 0) (N := 16) Tryz.underlying23 infoR .i64 0 v (by decide); simpa using this
  have zd := zeroVD
  have tb' : Hid (Tabs w) := tb
  have hF : Hid (Fm w [(w.heap.size, cpC c, 26), (w.heap.size + 1, dvC zeroD, 33)] ((w.alloc (.cells (cpC c) 26)).alloc (.cells (dvC zeroD) 33))) := Fm.cd w c
  have hb : Hid (Tryz.prog.built 33 [(0, .int .u8 1), (1, .int .u16 (c.R 0)), (2, .bool true), (7, .bool true)] = some (dvC (⟨1, c.R 0, true, false, false, 0, 0, true⟩ : Dv))) := (by kernel_rfl : Tryz.prog.built 33 [(0, .int .u8 1), (1, .int .u16 (c.R 0)), (2, .bool true), (7, .bool true)] = some (dvC (⟨1, c.R 0, true, false, false, 0, 0, true⟩ : Dv)))
  obtain ⟨D, hDe⟩ : ∃ D : Dv, (⟨1, c.R 0, true, false, false, 0, 0, true⟩ : Dv) = D := ⟨_, rfl⟩
  rw [hDe] at hb ⊢
  clear hDe
  replace hph : Hid _ := hph
  clear hc tb hP hX h
  go_enter Tryz.func19, Tryz.ntmps19
  go_wp2_with (first
    | (refine gen_world ((w.alloc (.cells (cpC c) 26)).alloc (.cells (dvC zeroD) 33)) (Fm w [(w.heap.size, cpC c, 26), (w.heap.size + 1, dvC zeroD, 33)]) hF.out ?_; intro y K0; have d25 := BoxC.fPh (K0.out.get 0 _ _ _ rfl); rw [hph.out] at d25; have dR := BoxC.r (K0.out.get 0 _ _ _ rfl) 0 (by decide))
    | (refine at_buildD _ [(0, .int .u8 1), (1, .int .u16 (c.R 0)), (2, .bool true), (7, .bool true)] D rfl rfl (by first | (simp [Act.eval]; done) | (go_simp; done)) hb.out _ rfl ?_)
    | (refine at_storeD (w.heap.size + 1) zeroD D (K0.out.get 1 _ _ _ rfl) _ _ rfl rfl rfl rfl ?_; intro w2 hw2)
    | (refine at_loadC w.heap.size c (K0.out.get 0 _ _ _ rfl) _ rfl rfl rfl ?_))
  refine retD Tryz.results19 rfl hw2.out.1 rfl ⟨rfl, K0.out.low.trans (hw2.out.2.1 _ (by omega))⟩
theorem rrun_5 (w : World) (c : Cp) (hc : c.wf) (tb : Tabs w) (hP : c.P < 16) (hX : c.X < 16) (h : c.Ph = 5) : Calls Tryz.prog 19 #[.agg (cpC c)] w fun e w' => e = .returned (.agg (dvC (⟨1, c.R 0, false, false, false, 0, 0, true⟩ : Dv))) ∧ Below w.heap.size w w' := by
  have hph : (c.Ph : Int) = 5 := by omega
  have ix0 : ∀ g v, (Instr.indexAt 23 (.pointer (some ⟨g, 0, none⟩)) (.int .i64 0)).run Tryz.prog v = .ok (.pointer (some ⟨g, 0, none⟩)) v := fun g v => by have := idx (g := g) (off := 0) (N := 16) Tryz.underlying23 infoR .i64 0 v (by decide); simpa using this
  have zd := zeroVD
  have tb' : Hid (Tabs w) := tb
  have hF : Hid (Fm w [(w.heap.size, cpC c, 26), (w.heap.size + 1, dvC zeroD, 33)] ((w.alloc (.cells (cpC c) 26)).alloc (.cells (dvC zeroD) 33))) := Fm.cd w c
  have hb : Hid (Tryz.prog.built 33 [(0, .int .u8 1), (1, .int .u16 (c.R 0)), (7, .bool true)] = some (dvC (⟨1, c.R 0, false, false, false, 0, 0, true⟩ : Dv))) := (by kernel_rfl : Tryz.prog.built 33 [(0, .int .u8 1), (1, .int .u16 (c.R 0)), (7, .bool true)] = some (dvC (⟨1, c.R 0, false, false, false, 0, 0, true⟩ : Dv)))
  obtain ⟨D, hDe⟩ : ∃ D : Dv, (⟨1, c.R 0, false, false, false, 0, 0, true⟩ : Dv) = D := ⟨_, rfl⟩
  rw [hDe] at hb ⊢
  clear hDe
  replace hph : Hid _ := hph
  clear hc tb hP hX h
  go_enter Tryz.func19, Tryz.ntmps19
  go_wp2_with (first
    | (refine gen_world ((w.alloc (.cells (cpC c) 26)).alloc (.cells (dvC zeroD) 33)) (Fm w [(w.heap.size, cpC c, 26), (w.heap.size + 1, dvC zeroD, 33)]) hF.out ?_; intro y K0; have d25 := BoxC.fPh (K0.out.get 0 _ _ _ rfl); rw [hph.out] at d25; have dR := BoxC.r (K0.out.get 0 _ _ _ rfl) 0 (by decide))
    | (refine at_buildD _ [(0, .int .u8 1), (1, .int .u16 (c.R 0)), (7, .bool true)] D rfl rfl (by first | (simp [Act.eval]; done) | (go_simp; done)) hb.out _ rfl ?_)
    | (refine at_storeD (w.heap.size + 1) zeroD D (K0.out.get 1 _ _ _ rfl) _ _ rfl rfl rfl rfl ?_; intro w2 hw2)
    | (refine at_loadC w.heap.size c (K0.out.get 0 _ _ _ rfl) _ rfl rfl rfl ?_))
  refine retD Tryz.results19 rfl hw2.out.1 rfl ⟨rfl, K0.out.low.trans (hw2.out.2.1 _ (by omega))⟩
theorem rrun_6 (w : World) (c : Cp) (hc : c.wf) (tb : Tabs w) (hP : c.P < 16) (hX : c.X < 16) (h : c.Ph = 6) : Calls Tryz.prog 19 #[.agg (cpC c)] w fun e w' => e = .returned (.agg (dvC (⟨2, c.R 0, false, true, false, 0, 0, true⟩ : Dv))) ∧ Below w.heap.size w w' := by
  have hph : (c.Ph : Int) = 6 := by omega
  have ix0 : ∀ g v, (Instr.indexAt 23 (.pointer (some ⟨g, 0, none⟩)) (.int .i64 0)).run Tryz.prog v = .ok (.pointer (some ⟨g, 0, none⟩)) v := fun g v => by have := idx (g := g) (off := 0) (N := 16) Tryz.underlying23 infoR .i64 0 v (by decide); simpa using this
  have zd := zeroVD
  have tb' : Hid (Tabs w) := tb
  have hF : Hid (Fm w [(w.heap.size, cpC c, 26), (w.heap.size + 1, dvC zeroD, 33)] ((w.alloc (.cells (cpC c) 26)).alloc (.cells (dvC zeroD) 33))) := Fm.cd w c
  have hb : Hid (Tryz.prog.built 33 [(0, .int .u8 2), (1, .int .u16 (c.R 0)), (3, .bool true), (7, .bool true)] = some (dvC (⟨2, c.R 0, false, true, false, 0, 0, true⟩ : Dv))) := (by kernel_rfl : Tryz.prog.built 33 [(0, .int .u8 2), (1, .int .u16 (c.R 0)), (3, .bool true), (7, .bool true)] = some (dvC (⟨2, c.R 0, false, true, false, 0, 0, true⟩ : Dv)))
  obtain ⟨D, hDe⟩ : ∃ D : Dv, (⟨2, c.R 0, false, true, false, 0, 0, true⟩ : Dv) = D := ⟨_, rfl⟩
  rw [hDe] at hb ⊢
  clear hDe
  replace hph : Hid _ := hph
  clear hc tb hP hX h
  go_enter Tryz.func19, Tryz.ntmps19
  go_wp2_with (first
    | (refine gen_world ((w.alloc (.cells (cpC c) 26)).alloc (.cells (dvC zeroD) 33)) (Fm w [(w.heap.size, cpC c, 26), (w.heap.size + 1, dvC zeroD, 33)]) hF.out ?_; intro y K0; have d25 := BoxC.fPh (K0.out.get 0 _ _ _ rfl); rw [hph.out] at d25; have dR := BoxC.r (K0.out.get 0 _ _ _ rfl) 0 (by decide))
    | (refine at_buildD _ [(0, .int .u8 2), (1, .int .u16 (c.R 0)), (3, .bool true), (7, .bool true)] D rfl rfl (by first | (simp [Act.eval]; done) | (go_simp; done)) hb.out _ rfl ?_)
    | (refine at_storeD (w.heap.size + 1) zeroD D (K0.out.get 1 _ _ _ rfl) _ _ rfl rfl rfl rfl ?_; intro w2 hw2)
    | (refine at_loadC w.heap.size c (K0.out.get 0 _ _ _ rfl) _ rfl rfl rfl ?_))
  refine retD Tryz.results19 rfl hw2.out.1 rfl ⟨rfl, K0.out.low.trans (hw2.out.2.1 _ (by omega))⟩
theorem rrun_7 (w : World) (c : Cp) (hc : c.wf) (tb : Tabs w) (hP : c.P < 16) (hX : c.X < 16) (h : c.Ph = 7) : Calls Tryz.prog 19 #[.agg (cpC c)] w fun e w' => e = .returned (.agg (dvC (⟨2, c.R 0, true, false, false, 0, 0, true⟩ : Dv))) ∧ Below w.heap.size w w' := by
  have hph : (c.Ph : Int) = 7 := by omega
  have ix0 : ∀ g v, (Instr.indexAt 23 (.pointer (some ⟨g, 0, none⟩)) (.int .i64 0)).run Tryz.prog v = .ok (.pointer (some ⟨g, 0, none⟩)) v := fun g v => by have := idx (g := g) (off := 0) (N := 16) Tryz.underlying23 infoR .i64 0 v (by decide); simpa using this
  have zd := zeroVD
  have tb' : Hid (Tabs w) := tb
  have hF : Hid (Fm w [(w.heap.size, cpC c, 26), (w.heap.size + 1, dvC zeroD, 33)] ((w.alloc (.cells (cpC c) 26)).alloc (.cells (dvC zeroD) 33))) := Fm.cd w c
  have hb : Hid (Tryz.prog.built 33 [(0, .int .u8 2), (1, .int .u16 (c.R 0)), (2, .bool true), (7, .bool true)] = some (dvC (⟨2, c.R 0, true, false, false, 0, 0, true⟩ : Dv))) := (by kernel_rfl : Tryz.prog.built 33 [(0, .int .u8 2), (1, .int .u16 (c.R 0)), (2, .bool true), (7, .bool true)] = some (dvC (⟨2, c.R 0, true, false, false, 0, 0, true⟩ : Dv)))
  obtain ⟨D, hDe⟩ : ∃ D : Dv, (⟨2, c.R 0, true, false, false, 0, 0, true⟩ : Dv) = D := ⟨_, rfl⟩
  rw [hDe] at hb ⊢
  clear hDe
  replace hph : Hid _ := hph
  clear hc tb hP hX h
  go_enter Tryz.func19, Tryz.ntmps19
  go_wp2_with (first
    | (refine gen_world ((w.alloc (.cells (cpC c) 26)).alloc (.cells (dvC zeroD) 33)) (Fm w [(w.heap.size, cpC c, 26), (w.heap.size + 1, dvC zeroD, 33)]) hF.out ?_; intro y K0; have d25 := BoxC.fPh (K0.out.get 0 _ _ _ rfl); rw [hph.out] at d25; have dR := BoxC.r (K0.out.get 0 _ _ _ rfl) 0 (by decide))
    | (refine at_buildD _ [(0, .int .u8 2), (1, .int .u16 (c.R 0)), (2, .bool true), (7, .bool true)] D rfl rfl (by first | (simp [Act.eval]; done) | (go_simp; done)) hb.out _ rfl ?_)
    | (refine at_storeD (w.heap.size + 1) zeroD D (K0.out.get 1 _ _ _ rfl) _ _ rfl rfl rfl rfl ?_; intro w2 hw2)
    | (refine at_loadC w.heap.size c (K0.out.get 0 _ _ _ rfl) _ rfl rfl rfl ?_))
  refine retD Tryz.results19 rfl hw2.out.1 rfl ⟨rfl, K0.out.low.trans (hw2.out.2.1 _ (by omega))⟩
theorem rrun_8 (w : World) (c : Cp) (hc : c.wf) (tb : Tabs w) (hP : c.P < 16) (hX : c.X < 16) (h : c.Ph = 8) (k : Nat) (hk : c.Op % 16 = k) : Calls Tryz.prog 19 #[.agg (cpC c)] w fun e w' => e = .returned (.agg (dvC (⟨3, c.R k, false, false, false, 0, 0, true⟩ : Dv))) ∧ Below w.heap.size w w' := by
  have hph : (c.Ph : Int) = 8 := by omega
  have hn := fun v => rn_any v c hc
  rw [hk] at hn
  have hk16 : k < 16 := by omega
  have ix := fun v => idx (g := w.heap.size) (off := 0) (N := 16) Tryz.underlying23 infoR .i64 k v hk16
  simp only [Nat.zero_add, Nat.mul_one] at ix
  have hR : Hid (∀ b x, BoxC x b c → x.cell? ⟨b, k, none⟩ = some (.int .u16 (c.R k))) := fun b x h => h.r k hk16
  have zd := zeroVD
  have tb' : Hid (Tabs w) := tb
  have hF : Hid (Fm w [(w.heap.size, cpC c, 26), (w.heap.size + 1, dvC zeroD, 33)] ((w.alloc (.cells (cpC c) 26)).alloc (.cells (dvC zeroD) 33))) := Fm.cd w c
  have hb : Hid (Tryz.prog.built 33 [(0, .int .u8 3), (1, .int .u16 (c.R k)), (7, .bool true)] = some (dvC (⟨3, c.R k, false, false, false, 0, 0, true⟩ : Dv))) := (by kernel_rfl : Tryz.prog.built 33 [(0, .int .u8 3), (1, .int .u16 (c.R k)), (7, .bool true)] = some (dvC (⟨3, c.R k, false, false, false, 0, 0, true⟩ : Dv)))
  obtain ⟨D, hDe⟩ : ∃ D : Dv, (⟨3, c.R k, false, false, false, 0, 0, true⟩ : Dv) = D := ⟨_, rfl⟩
  rw [hDe] at hb ⊢
  clear hDe
  replace hph : Hid _ := hph
  clear hc tb hP hX h hk
  go_enter Tryz.func19, Tryz.ntmps19
  go_wp2_with (first
    | (refine gen_world ((w.alloc (.cells (cpC c) 26)).alloc (.cells (dvC zeroD) 33)) (Fm w [(w.heap.size, cpC c, 26), (w.heap.size + 1, dvC zeroD, 33)]) hF.out ?_; intro y K0; have d25 := BoxC.fPh (K0.out.get 0 _ _ _ rfl); rw [hph.out] at d25)
    | (go_at_call 27; refine (hn _).mono ?_; rintro e v1 ⟨rfl, hb1⟩; replace K0 : Hid (Fm w [(w.heap.size, cpC c, 26), (w.heap.size + 1, dvC zeroD, 33)] v1) := K0.out.below hb1; have dR := hR.out _ _ (K0.out.get 0 _ _ _ rfl))
    | (refine at_buildD _ [(0, .int .u8 3), (1, .int .u16 (c.R k)), (7, .bool true)] D rfl rfl (by first | (simp [Act.eval]; done) | (go_simp; done)) hb.out _ rfl ?_)
    | (refine at_storeD (w.heap.size + 1) zeroD D (K0.out.get 1 _ _ _ rfl) _ _ rfl rfl rfl rfl ?_; intro w2 hw2)
    | (refine at_loadC w.heap.size c (K0.out.get 0 _ _ _ rfl) _ rfl rfl rfl ?_))
  refine retD Tryz.results19 rfl hw2.out.1 rfl ⟨rfl, K0.out.low.trans (hw2.out.2.1 _ (by omega))⟩
theorem rrun_any (w : World) (c : Cp) (hc : c.wf) (tb : Tabs w) (hch : checkB c = true) : Calls Tryz.prog 19 #[.agg (cpC c)] w fun e w' => e = .returned (.agg (dvC (runM c))) ∧ Below w.heap.size w w' := by
  obtain ⟨h1, h2, h3, h4, h5, h6, h7⟩ := (checkB_iff c).1 hch
  have hP : c.P < 16 := by omega
  have hX : c.X < 16 := by omega
  unfold runM
  rcases (show c.Ph = 1 ∨ c.Ph = 2 ∨ c.Ph = 3 ∨ c.Ph = 4 ∨ c.Ph = 5 ∨ c.Ph = 6 ∨ c.Ph = 7 ∨ c.Ph = 8 by omega) with h | h | h | h | h | h | h | h <;> simp only [h]
  · exact rrun_1 w c hc tb hP hX h _ rfl
  · exact rrun_2 w c hc tb hP hX h
  · exact rrun_3 w c hc tb hP hX h (h5 h)
  · exact rrun_4 w c hc tb hP hX h
  · exact rrun_5 w c hc tb hP hX h
  · exact rrun_6 w c hc tb hP hX h
  · exact rrun_7 w c hc tb hP hX h
  · exact rrun_8 w c hc tb hP hX h _ rfl
theorem rdrive_no (w : World) (c : Cp) (hc : c.wf) (tb : Tabs w) (m : Nat) (hm : m < 256) (hch : checkB c = false) : Calls Tryz.prog 10 #[.agg (cpC c), .int .u8 (m : Int)] w fun e w' => e = .returned (.agg (dvC zeroD)) ∧ Below w.heap.size w w' := by
  have hk := fun v => rcheck_any v c hc
  have ek : checkM c = 40 := by unfold checkM; rw [hch]; rfl
  rw [ek] at hk
  clear ek
  obtain ⟨M, hM⟩ : ∃ M : Int, (m : Int) = M := ⟨_, rfl⟩
  rw [hM]
  clear hM
  have zd := zeroVD
  have tb' : Hid (Tabs w) := tb
  have hF : Hid (Fm w [(w.heap.size, cpC c, 26), (w.heap.size + 1, dvC zeroD, 33)] ((w.alloc (.cells (cpC c) 26)).alloc (.cells (dvC zeroD) 33))) := Fm.cd w c
  clear hc tb hm hch
  go_enter Tryz.func10, Tryz.ntmps10
  go_wp2_with (first
    | (refine gen_world ((w.alloc (.cells (cpC c) 26)).alloc (.cells (dvC zeroD) 33)) (Fm w [(w.heap.size, cpC c, 26), (w.heap.size + 1, dvC zeroD, 33)]) hF.out ?_; intro y K0)
    | (go_at_call 8; refine (hk _).mono ?_; rintro e v1 ⟨rfl, hb1⟩; replace K0 : Hid (Fm w [(w.heap.size, cpC c, 26), (w.heap.size + 1, dvC zeroD, 33)] v1) := K0.out.below hb1)
    | (refine at_buildD _ [] zeroD rfl rfl (by first | (simp [Act.eval]; done) | (go_simp; done)) (by kernel_rfl) _ rfl ?_)
    | (refine at_loadC w.heap.size c (K0.out.get 0 _ _ _ rfl) _ rfl rfl rfl ?_)
    | (refine at_storeD (w.heap.size + 1) zeroD _ (K0.out.get 1 _ _ _ rfl) _ _ rfl rfl rfl rfl ?_; intro w2 hw2))
  refine retD Tryz.results10 rfl hw2.out.1 rfl ⟨rfl, K0.out.low.trans (hw2.out.2.1 _ (by omega))⟩
theorem rdrive_big (w : World) (c : Cp) (hc : c.wf) (tb : Tabs w) (m : Nat) (hm : m < 256) (hch : checkB c = true) (h : 3 < m) : Calls Tryz.prog 10 #[.agg (cpC c), .int .u8 (m : Int)] w fun e w' => e = .returned (.agg (dvC zeroD)) ∧ Below w.heap.size w w' := by
  have hk := fun v => rcheck_any v c hc
  have ek : checkM c = 0 := by unfold checkM; rw [hch]; rfl
  rw [ek] at hk
  clear ek
  obtain ⟨M, hM⟩ : ∃ M : Int, (m : Int) = M := ⟨_, rfl⟩
  have r3 : decide ((3 : Int) < M) = true := by simp; omega
  rw [hM]
  clear hM
  have zd := zeroVD
  have tb' : Hid (Tabs w) := tb
  have hF : Hid (Fm w [(w.heap.size, cpC c, 26), (w.heap.size + 1, dvC zeroD, 33)] ((w.alloc (.cells (cpC c) 26)).alloc (.cells (dvC zeroD) 33))) := Fm.cd w c
  clear hc tb hm hch h
  go_enter Tryz.func10, Tryz.ntmps10
  go_wp2_with (first
    | (refine gen_world ((w.alloc (.cells (cpC c) 26)).alloc (.cells (dvC zeroD) 33)) (Fm w [(w.heap.size, cpC c, 26), (w.heap.size + 1, dvC zeroD, 33)]) hF.out ?_; intro y K0)
    | (go_at_call 8; refine (hk _).mono ?_; rintro e v1 ⟨rfl, hb1⟩; replace K0 : Hid (Fm w [(w.heap.size, cpC c, 26), (w.heap.size + 1, dvC zeroD, 33)] v1) := K0.out.below hb1)
    | (refine at_buildD _ [] zeroD rfl rfl (by first | (simp [Act.eval]; done) | (go_simp; done)) (by kernel_rfl) _ rfl ?_)
    | (refine at_loadC w.heap.size c (K0.out.get 0 _ _ _ rfl) _ rfl rfl rfl ?_)
    | (refine at_storeD (w.heap.size + 1) zeroD _ (K0.out.get 1 _ _ _ rfl) _ _ rfl rfl rfl rfl ?_; intro w2 hw2))
  refine retD Tryz.results10 rfl hw2.out.1 rfl ⟨rfl, K0.out.low.trans (hw2.out.2.1 _ (by omega))⟩
theorem rdrive_2 (w : World) (c : Cp) (hc : c.wf) (tb : Tabs w) (m : Nat) (hm : m < 256) (hch : checkB c = true) (h : m = 2) : Calls Tryz.prog 10 #[.agg (cpC c), .int .u8 (m : Int)] w fun e w' => e = .returned (.agg (dvC ⟨1, c.R 0, false, false, true, 0, 0, false⟩)) ∧ Below w.heap.size w w' := by
  have hk := fun v => rcheck_any v c hc
  have ek : checkM c = 0 := by unfold checkM; rw [hch]; rfl
  rw [ek] at hk
  clear ek
  have hm' : (m : Int) = 2 := by omega
  rw [hm']
  clear hm'
  have ix0 : ∀ g v, (Instr.indexAt 23 (.pointer (some ⟨g, 0, none⟩)) (.int .i64 0)).run Tryz.prog v = .ok (.pointer (some ⟨g, 0, none⟩)) v := fun g v => by have := idx (g := g) (off := 0) (N := 16) Tryz.underlying23 infoR .i64 0 v (by decide); simpa using this
  have zd := zeroVD
  have tb' : Hid (Tabs w) := tb
  have hF : Hid (Fm w [(w.heap.size, cpC c, 26), (w.heap.size + 1, dvC zeroD, 33)] ((w.alloc (.cells (cpC c) 26)).alloc (.cells (dvC zeroD) 33))) := Fm.cd w c
  clear hc tb hm hch h
  go_enter Tryz.func10, Tryz.ntmps10
  go_wp2_with (first
    | (refine gen_world ((w.alloc (.cells (cpC c) 26)).alloc (.cells (dvC zeroD) 33)) (Fm w [(w.heap.size, cpC c, 26), (w.heap.size + 1, dvC zeroD, 33)]) hF.out ?_; intro y K0)
    | (go_at_call 8; refine (hk _).mono ?_; rintro e v1 ⟨rfl, hb1⟩; replace K0 : Hid (Fm w [(w.heap.size, cpC c, 26), (w.heap.size + 1, dvC zeroD, 33)] v1) := K0.out.below hb1; have dR := BoxC.r (K0.out.get 0 _ _ _ rfl) 0 (by decide))
    | (refine at_buildD _ [(0, .int .u8 1), (1, .int .u16 (c.R 0)), (4, .bool true)] ⟨1, c.R 0, false, false, true, 0, 0, false⟩ rfl rfl (by first | (simp [Act.eval]; done) | (go_simp; done)) (by kernel_rfl) _ rfl ?_)
    | (refine at_loadC w.heap.size c (K0.out.get 0 _ _ _ rfl) _ rfl rfl rfl ?_)
    | (refine at_storeD (w.heap.size + 1) zeroD _ (K0.out.get 1 _ _ _ rfl) _ _ rfl rfl rfl rfl ?_; intro w2 hw2))
  refine retD Tryz.results10 rfl hw2.out.1 rfl ⟨rfl, K0.out.low.trans (hw2.out.2.1 _ (by omega))⟩
theorem rdrive_0 (w : World) (c : Cp) (hc : c.wf) (tb : Tabs w) (m : Nat) (hm : m < 256) (hch : checkB c = true) (h : m = 0) : Calls Tryz.prog 10 #[.agg (cpC c), .int .u8 (m : Int)] w fun e w' => e = .returned (.agg (dvC (runM c))) ∧ Below w.heap.size w w' := by
  have hk := fun v => rcheck_any v c hc
  have ek : checkM c = 0 := by unfold checkM; rw [hch]; rfl
  rw [ek] at hk
  clear ek
  have hx := fun v t => rrun_any v c hc t hch
  obtain ⟨D, hDe⟩ : ∃ D : Dv, runM c = D := ⟨_, rfl⟩
  rw [hDe] at hx ⊢
  clear hDe
  have hm' : (m : Int) = 0 := by omega
  rw [hm']
  clear hm'
  have zd := zeroVD
  have tb' : Hid (Tabs w) := tb
  have hF : Hid (Fm w [(w.heap.size, cpC c, 26), (w.heap.size + 1, dvC zeroD, 33)] ((w.alloc (.cells (cpC c) 26)).alloc (.cells (dvC zeroD) 33))) := Fm.cd w c
  clear hc tb hm hch h
  go_enter Tryz.func10, Tryz.ntmps10
  go_wp2_with (first
    | (refine gen_world ((w.alloc (.cells (cpC c) 26)).alloc (.cells (dvC zeroD) 33)) (Fm w [(w.heap.size, cpC c, 26), (w.heap.size + 1, dvC zeroD, 33)]) hF.out ?_; intro y K0)
    | (go_at_call 8; refine (hk _).mono ?_; rintro e v1 ⟨rfl, hb1⟩; replace K0 : Hid (Fm w [(w.heap.size, cpC c, 26), (w.heap.size + 1, dvC zeroD, 33)] v1) := K0.out.below hb1)
    | (go_at_call 19; refine (hx _ (tb'.out.below K0.out.low)).mono ?_; rintro e v2 ⟨rfl, hb2⟩; have K2 : Hid (Fm w [(w.heap.size, cpC c, 26), (w.heap.size + 1, dvC zeroD, 33)] v2) := K0.out.below hb2)
    | (refine at_loadC w.heap.size c (K0.out.get 0 _ _ _ rfl) _ rfl rfl rfl ?_)
    | (refine at_storeD (w.heap.size + 1) zeroD _ (K2.out.get 1 _ _ _ rfl) _ _ rfl rfl rfl rfl ?_; intro w2 hw2))
  refine retD Tryz.results10 rfl hw2.out.1 rfl ⟨rfl, K2.out.low.trans (hw2.out.2.1 _ (by omega))⟩
theorem rdrive_1 (w : World) (c : Cp) (hc : c.wf) (tb : Tabs w) (m : Nat) (hm : m < 256) (hch : checkB c = true) (h : m = 1) : Calls Tryz.prog 10 #[.agg (cpC c), .int .u8 (m : Int)] w fun e w' => e = .returned (.agg (dvC ⟨(runM c).Code, (runM c).Addr, false, false, false, 0, 0, false⟩)) ∧ Below w.heap.size w w' := by
  have hk := fun v => rcheck_any v c hc
  have ek : checkM c = 0 := by unfold checkM; rw [hch]; rfl
  rw [ek] at hk
  clear ek
  have hx := fun v t => rrun_any v c hc t hch
  obtain ⟨D, hDe⟩ : ∃ D : Dv, runM c = D := ⟨_, rfl⟩
  rw [hDe] at hx ⊢
  clear hDe
  have hm' : (m : Int) = 1 := by omega
  rw [hm']
  clear hm'
  have zd := zeroVD
  have tb' : Hid (Tabs w) := tb
  have hF : Hid (Fm w [(w.heap.size, cpC c, 26), (w.heap.size + 1, dvC zeroD, 33)] ((w.alloc (.cells (cpC c) 26)).alloc (.cells (dvC zeroD) 33))) := Fm.cd w c
  clear hc tb hm hch h
  go_enter Tryz.func10, Tryz.ntmps10
  go_wp2_with (first
    | (refine gen_world ((w.alloc (.cells (cpC c) 26)).alloc (.cells (dvC zeroD) 33)) (Fm w [(w.heap.size, cpC c, 26), (w.heap.size + 1, dvC zeroD, 33)]) hF.out ?_; intro y K0)
    | (go_at_call 8; refine (hk _).mono ?_; rintro e v1 ⟨rfl, hb1⟩; replace K0 : Hid (Fm w [(w.heap.size, cpC c, 26), (w.heap.size + 1, dvC zeroD, 33)] v1) := K0.out.below hb1)
    | (go_at_call 19; refine (hx _ (tb'.out.below K0.out.low)).mono ?_; rintro e v2 ⟨rfl, hb2⟩; have K2 : Hid (Fm w [(w.heap.size, cpC c, 26), (w.heap.size + 1, dvC zeroD, 33)] v2) := K0.out.below hb2)
    | (refine gen_world (v2.alloc (.cells (dvC zeroD) 33)) (Fm w [(w.heap.size, cpC c, 26), (w.heap.size + 1, dvC zeroD, 33), (v2.heap.size, dvC zeroD, 33)]) (K2.out.new _ _) ?_; intro y3 K3)
    | (refine at_storeD v2.heap.size zeroD D (K3.out.get 2 _ _ _ rfl) _ _ rfl rfl rfl rfl ?_; intro y4 hw4; have K4 : Hid (Fm w [(w.heap.size, cpC c, 26), (w.heap.size + 1, dvC zeroD, 33), (v2.heap.size, dvC D, 33)] y4) := K3.out.put 2 _ _ _ _ rfl hw4.out; have f0 := BoxD.f0 (K4.out.get 2 _ _ _ rfl); have f1 := BoxD.f1 (K4.out.get 2 _ _ _ rfl))
    | (refine at_buildD _ [(0, .int .u8 D.Code), (1, .int .u16 D.Addr)] ⟨D.Code, D.Addr, false, false, false, 0, 0, false⟩ rfl rfl (by first | (simp [Act.eval]; done) | (go_simp; done)) (by kernel_rfl) _ rfl ?_)
    | (refine at_loadC w.heap.size c (K0.out.get 0 _ _ _ rfl) _ rfl rfl rfl ?_)
    | (refine at_storeD (w.heap.size + 1) zeroD _ (K4.out.get 1 _ _ _ rfl) _ _ rfl rfl rfl rfl ?_; intro w2 hw2))
  refine retD Tryz.results10 rfl hw2.out.1 rfl ⟨rfl, K4.out.low.trans (hw2.out.2.1 _ (by omega))⟩
theorem rdrive_35 (w : World) (c : Cp) (hc : c.wf) (tb : Tabs w) (m : Nat) (hm : m < 256) (hch : checkB c = true) (h : m = 3) (h5 : c.Ph = 5) : Calls Tryz.prog 10 #[.agg (cpC c), .int .u8 (m : Int)] w fun e w' => e = .returned (.agg (dvC (runM c))) ∧ Below w.heap.size w w' := by
  have hk := fun v => rcheck_any v c hc
  have ek : checkM c = 0 := by unfold checkM; rw [hch]; rfl
  rw [ek] at hk
  clear ek
  have hx := fun v t => rrun_any v c hc t hch
  obtain ⟨D, hDe⟩ : ∃ D : Dv, runM c = D := ⟨_, rfl⟩
  rw [hDe] at hx ⊢
  clear hDe
  have hm' : (m : Int) = 3 := by omega
  rw [hm']
  clear hm'
  have hph : (c.Ph : Int) = 5 := by omega
  replace hph : Hid _ := hph
  have zd := zeroVD
  have tb' : Hid (Tabs w) := tb
  have hF : Hid (Fm w [(w.heap.size, cpC c, 26), (w.heap.size + 1, dvC zeroD, 33)] ((w.alloc (.cells (cpC c) 26)).alloc (.cells (dvC zeroD) 33))) := Fm.cd w c
  clear hc tb hm hch h h5
  go_enter Tryz.func10, Tryz.ntmps10
  go_wp2_with (first
    | (refine gen_world ((w.alloc (.cells (cpC c) 26)).alloc (.cells (dvC zeroD) 33)) (Fm w [(w.heap.size, cpC c, 26), (w.heap.size + 1, dvC zeroD, 33)]) hF.out ?_; intro y K0)
    | (go_at_call 8; refine (hk _).mono ?_; rintro e v1 ⟨rfl, hb1⟩; replace K0 : Hid (Fm w [(w.heap.size, cpC c, 26), (w.heap.size + 1, dvC zeroD, 33)] v1) := K0.out.below hb1; have d25 := BoxC.fPh (K0.out.get 0 _ _ _ rfl); rw [hph.out] at d25)
    | (go_at_call 19; refine (hx _ (tb'.out.below K0.out.low)).mono ?_; rintro e v2 ⟨rfl, hb2⟩; have K2 : Hid (Fm w [(w.heap.size, cpC c, 26), (w.heap.size + 1, dvC zeroD, 33)] v2) := K0.out.below hb2)
    | (refine at_loadC w.heap.size c (K0.out.get 0 _ _ _ rfl) _ rfl rfl rfl ?_)
    | (refine at_storeD (w.heap.size + 1) zeroD _ (K2.out.get 1 _ _ _ rfl) _ _ rfl rfl rfl rfl ?_; intro w2 hw2))
  refine retD Tryz.results10 rfl hw2.out.1 rfl ⟨rfl, K2.out.low.trans (hw2.out.2.1 _ (by omega))⟩
theorem rdrive_36 (w : World) (c : Cp) (hc : c.wf) (tb : Tabs w) (m : Nat) (hm : m < 256) (hch : checkB c = true) (h : m = 3) (h5 : c.Ph = 6) : Calls Tryz.prog 10 #[.agg (cpC c), .int .u8 (m : Int)] w fun e w' => e = .returned (.agg (dvC (runM c))) ∧ Below w.heap.size w w' := by
  have hk := fun v => rcheck_any v c hc
  have ek : checkM c = 0 := by unfold checkM; rw [hch]; rfl
  rw [ek] at hk
  clear ek
  have hx := fun v t => rrun_any v c hc t hch
  obtain ⟨D, hDe⟩ : ∃ D : Dv, runM c = D := ⟨_, rfl⟩
  rw [hDe] at hx ⊢
  clear hDe
  have hm' : (m : Int) = 3 := by omega
  rw [hm']
  clear hm'
  have hph : (c.Ph : Int) = 6 := by omega
  replace hph : Hid _ := hph
  have zd := zeroVD
  have tb' : Hid (Tabs w) := tb
  have hF : Hid (Fm w [(w.heap.size, cpC c, 26), (w.heap.size + 1, dvC zeroD, 33)] ((w.alloc (.cells (cpC c) 26)).alloc (.cells (dvC zeroD) 33))) := Fm.cd w c
  clear hc tb hm hch h h5
  go_enter Tryz.func10, Tryz.ntmps10
  go_wp2_with (first
    | (refine gen_world ((w.alloc (.cells (cpC c) 26)).alloc (.cells (dvC zeroD) 33)) (Fm w [(w.heap.size, cpC c, 26), (w.heap.size + 1, dvC zeroD, 33)]) hF.out ?_; intro y K0)
    | (go_at_call 8; refine (hk _).mono ?_; rintro e v1 ⟨rfl, hb1⟩; replace K0 : Hid (Fm w [(w.heap.size, cpC c, 26), (w.heap.size + 1, dvC zeroD, 33)] v1) := K0.out.below hb1; have d25 := BoxC.fPh (K0.out.get 0 _ _ _ rfl); rw [hph.out] at d25)
    | (go_at_call 19; refine (hx _ (tb'.out.below K0.out.low)).mono ?_; rintro e v2 ⟨rfl, hb2⟩; have K2 : Hid (Fm w [(w.heap.size, cpC c, 26), (w.heap.size + 1, dvC zeroD, 33)] v2) := K0.out.below hb2)
    | (refine at_loadC w.heap.size c (K0.out.get 0 _ _ _ rfl) _ rfl rfl rfl ?_)
    | (refine at_storeD (w.heap.size + 1) zeroD _ (K2.out.get 1 _ _ _ rfl) _ _ rfl rfl rfl rfl ?_; intro w2 hw2))
  refine retD Tryz.results10 rfl hw2.out.1 rfl ⟨rfl, K2.out.low.trans (hw2.out.2.1 _ (by omega))⟩
theorem rdrive_3 (w : World) (c : Cp) (hc : c.wf) (tb : Tabs w) (m : Nat) (hm : m < 256) (hch : checkB c = true) (h : m = 3) (h5 : c.Ph ≠ 5) (h6 : c.Ph ≠ 6) : Calls Tryz.prog 10 #[.agg (cpC c), .int .u8 (m : Int)] w fun e w' => e = .returned (.agg (dvC ⟨1, c.R 0, true, false, false, 0, 0, true⟩)) ∧ Below w.heap.size w w' := by
  have hk := fun v => rcheck_any v c hc
  have ek : checkM c = 0 := by unfold checkM; rw [hch]; rfl
  rw [ek] at hk
  clear ek
  have hm' : (m : Int) = 3 := by omega
  rw [hm']
  clear hm'
  obtain ⟨ph, hph⟩ : ∃ x : Int, (c.Ph : Int) = x := ⟨_, rfl⟩
  have q5 : (ph == 5) = false := by simp; omega
  have q6 : (ph == 6) = false := by simp; omega
  have n5 : (ph != 5) = true := by simp; omega
  have n6 : (ph != 6) = true := by simp; omega
  replace hph : Hid _ := hph
  have ix0 : ∀ g v, (Instr.indexAt 23 (.pointer (some ⟨g, 0, none⟩)) (.int .i64 0)).run Tryz.prog v = .ok (.pointer (some ⟨g, 0, none⟩)) v := fun g v => by have := idx (g := g) (off := 0) (N := 16) Tryz.underlying23 infoR .i64 0 v (by decide); simpa using this
  have zd := zeroVD
  have tb' : Hid (Tabs w) := tb
  have hF : Hid (Fm w [(w.heap.size, cpC c, 26), (w.heap.size + 1, dvC zeroD, 33)] ((w.alloc (.cells (cpC c) 26)).alloc (.cells (dvC zeroD) 33))) := Fm.cd w c
  clear hc tb hm hch h h5 h6
  go_enter Tryz.func10, Tryz.ntmps10
  go_wp2_with (first
    | (refine gen_world ((w.alloc (.cells (cpC c) 26)).alloc (.cells (dvC zeroD) 33)) (Fm w [(w.heap.size, cpC c, 26), (w.heap.size + 1, dvC zeroD, 33)]) hF.out ?_; intro y K0)
    | (go_at_call 8; refine (hk _).mono ?_; rintro e v1 ⟨rfl, hb1⟩; replace K0 : Hid (Fm w [(w.heap.size, cpC c, 26), (w.heap.size + 1, dvC zeroD, 33)] v1) := K0.out.below hb1; have dR := BoxC.r (K0.out.get 0 _ _ _ rfl) 0 (by decide); have d25 := BoxC.fPh (K0.out.get 0 _ _ _ rfl); rw [hph.out] at d25)
    | (refine at_buildD _ [(0, .int .u8 1), (1, .int .u16 (c.R 0)), (2, .bool true), (7, .bool true)] ⟨1, c.R 0, true, false, false, 0, 0, true⟩ rfl rfl (by first | (simp [Act.eval]; done) | (go_simp; done)) (by kernel_rfl) _ rfl ?_)
    | (refine at_loadC w.heap.size c (K0.out.get 0 _ _ _ rfl) _ rfl rfl rfl ?_)
    | (refine at_storeD (w.heap.size + 1) zeroD _ (K0.out.get 1 _ _ _ rfl) _ _ rfl rfl rfl rfl ?_; intro w2 hw2))
  refine retD Tryz.results10 rfl hw2.out.1 rfl ⟨rfl, K0.out.low.trans (hw2.out.2.1 _ (by omega))⟩
theorem rdrive_any (w : World) (c : Cp) (hc : c.wf) (tb : Tabs w) (m : Nat) (hm : m < 256) : Calls Tryz.prog 10 #[.agg (cpC c), .int .u8 (m : Int)] w fun e w' => e = .returned (.agg (dvC (driveM c m))) ∧ Below w.heap.size w w' := by
  unfold driveM
  rcases hch : checkB c with _ | _
  · exact rdrive_no w c hc tb m hm hch
  rw [if_pos rfl]
  by_cases m0 : m = 0
  · rw [if_pos m0]; exact rdrive_0 w c hc tb m hm hch m0
  rw [if_neg m0]
  by_cases m1 : m = 1
  · rw [if_pos m1]; exact rdrive_1 w c hc tb m hm hch m1
  rw [if_neg m1]
  by_cases m2 : m = 2
  · rw [if_pos m2]; exact rdrive_2 w c hc tb m hm hch m2
  rw [if_neg m2]
  by_cases m3 : m = 3
  · rw [if_pos m3]
    by_cases h5 : c.Ph = 5
    · rw [if_pos (.inl h5)]; exact rdrive_35 w c hc tb m hm hch m3 h5
    · by_cases h6 : c.Ph = 6
      · rw [if_pos (.inr h6)]; exact rdrive_36 w c hc tb m hm hch m3 h6
      · rw [if_neg (fun h => h.elim h5 h6)]; exact rdrive_3 w c hc tb m hm hch m3 h5 h6
  · rw [if_neg m3]; exact rdrive_big w c hc tb m hm hch (by omega)
end Go.Proofs.YtbeeefekndcgnaaGreatDoor
