/- The document's processor: long. The document's processor: long's second cycle. The document's processor: long's second cycle, where it does not branch; all of it. -/
import Derived.Test.YtbeeefekndcgnaaGreatDoorCpC
import Derived.StillTailTactics
namespace Go.Proofs.YtbeeefekndcgnaaGreatDoor
open Go Go.RowKit
set_option linter.unusedVariables false
set_option maxHeartbeats 1000000
set_option maxRecDepth 20000

theorem rlong1_any (w : World) (c : Cp) (hc : c.wf) (hP : c.P < 16) (p : Pn) (hp : p.wf) : Calls Tryz.prog 33 #[.agg (cpC c), .agg (pnC p), .bool false] w fun e w' => e = .returned (.agg (cpC (long1M c p))) ∧ Below w.heap.size w w' := by
  have hf := fun v => rform_any c.Op v hc.Op
  have hg := fun v => rgoes_any v c hc
  have hu := fun v => rup_any v c hc c.P hP
  have hu' := fun v => rup_any v { c with B := p.Data } (hc.setB hp.Data) c.P hP
  have zz := zeroVC
  have hF : Hid (Fr w w.heap.size c (w.heap.size + 1) p (w.heap.size + 1 + 1) zeroC (((w.alloc (.cells (cpC c) 26)).alloc (.cells (pnC p) 38)).alloc (.cells (cpC zeroC) 26))) := Fr.start w c p
  unfold long1M
  obtain ⟨F, hFe⟩ : ∃ F, rfmI c.Op = F := ⟨_, rfl⟩
  rw [hFe] at hf ⊢
  by_cases h6 : F = 6
  · subst h6
    rw [if_pos rfl]
    clear hc hp hg hu hFe
    go_enter Tryz.func33, Tryz.ntmps33
    go_wp2_with (first
      | (refine gen_world (((w.alloc (.cells (cpC c) 26)).alloc (.cells (pnC p) 38)).alloc (.cells (cpC zeroC) 26)) (Fr w w.heap.size c (w.heap.size + 1) p (w.heap.size + 1 + 1) zeroC) hF.out ?_; intro y K; have d23 := K.out.c.fOp; have d24 := K.out.c.fB; have f24 := K.out.c.fz 24; have d1 := K.out.p.fData; have K1 : Hid (Fr w w.heap.size { c with B := p.Data } (w.heap.size + 1) p (w.heap.size + 1 + 1) zeroC (y.setCell ⟨w.heap.size, 24, none⟩ (.int .u8 p.Data))) := K.out.setC 24 _ (cpC_setB c p.Data); have d18 := K1.out.c.fP)
      | (refine at_loadC w.heap.size { c with B := p.Data } K1.out.c _ rfl rfl rfl ?_)
      | (go_at_call 50; refine (hf _).mono ?_; rintro e v1 ⟨rfl, rfl⟩)
      | (go_at_call 30; refine (hu' _).mono ?_; rintro e v2 ⟨rfl, hb⟩; have K2 : Hid _ := K1.out.below hb)
      | (refine at_storeC (w.heap.size + 1 + 1) zeroC ({ c with B := p.Data }.up c.P) K2.out.z _ _ rfl rfl rfl rfl ?_; intro w2 hw2))
    refine retC Tryz.results33 rfl hw2.out.1 rfl ⟨rfl, K2.out.low.trans (hw2.out.2.1 _ K2.out.l2)⟩
  · rw [if_neg h6]
    have h6' : (F == 6) = false := by simpa using h6
    obtain ⟨G, hGe⟩ : ∃ G, goesM c = G := ⟨_, rfl⟩
    rw [hGe] at hg ⊢
    clear hc hp hu' hFe hGe h6
    cases G with
    | true =>
      rw [if_pos rfl]
      go_enter Tryz.func33, Tryz.ntmps33
      go_wp2_with (first
        | (refine gen_world (((w.alloc (.cells (cpC c) 26)).alloc (.cells (pnC p) 38)).alloc (.cells (cpC zeroC) 26)) (Fr w w.heap.size c (w.heap.size + 1) p (w.heap.size + 1 + 1) zeroC) hF.out ?_; intro y K; have d23 := K.out.c.fOp)
        | (refine at_loadCg w.heap.size c K.out.c _ rfl rfl rfl ?_)
        | (go_at_call 50; refine (hf _).mono ?_; rintro e v1 ⟨rfl, rfl⟩)
        | (go_at_call 51; refine (hg _).mono ?_; rintro e v1 ⟨rfl, hb1⟩; replace K : Hid _ := K.out.below hb1; have d18 := K.out.c.fP)
        | (go_at_call 30; refine (hu _).mono ?_; rintro e v2 ⟨rfl, hb⟩; replace K : Hid _ := K.out.below hb)
        | (refine at_storeC (w.heap.size + 1 + 1) zeroC (c.up c.P) K.out.z _ _ rfl rfl rfl rfl ?_; intro w2 hw2))
      refine retC Tryz.results33 rfl hw2.out.1 rfl ⟨rfl, K.out.low.trans (hw2.out.2.1 _ K.out.l2)⟩
    | false =>
      rw [if_neg (by simp)]
      go_enter Tryz.func33, Tryz.ntmps33
      go_wp2_with (first
        | (refine gen_world (((w.alloc (.cells (cpC c) 26)).alloc (.cells (pnC p) 38)).alloc (.cells (cpC zeroC) 26)) (Fr w w.heap.size c (w.heap.size + 1) p (w.heap.size + 1 + 1) zeroC) hF.out ?_; intro y K; have d23 := K.out.c.fOp)
        | (refine at_loadCg w.heap.size c K.out.c _ rfl rfl rfl ?_)
        | (go_at_call 50; refine (hf _).mono ?_; rintro e v1 ⟨rfl, rfl⟩)
        | (go_at_call 51; refine (hg _).mono ?_; rintro e v1 ⟨rfl, hb1⟩; replace K : Hid _ := K.out.below hb1)
        | (refine at_storeC (w.heap.size + 1 + 1) zeroC c K.out.z _ _ rfl rfl rfl rfl ?_; intro w2 hw2))
      refine retC Tryz.results33 rfl hw2.out.1 rfl ⟨rfl, K.out.low.trans (hw2.out.2.1 _ K.out.l2)⟩
end Go.Proofs.YtbeeefekndcgnaaGreatDoor

namespace Go.Proofs.YtbeeefekndcgnaaGreatDoor
open Go Go.RowKit
set_option linter.unusedVariables false
set_option maxHeartbeats 1000000
set_option maxRecDepth 20000

theorem rlong2_go (w : World) (c : Cp) (hc : c.wf) (hP : c.P < 16) (p : Pn) (hp : p.wf) (h6 : rfmI c.Op = 6) (hG : goesM c = true) : Calls Tryz.prog 33 #[.agg (cpC c), .agg (pnC p), .bool true] w fun e w' => e = .returned (.agg (cpC { (c.setR c.P (c.B * 256 + p.Data)) with B := 0 })) ∧ Below w.heap.size w w' := by
  have hf := fun v => rform_any c.Op v hc.Op
  rw [h6] at hf
  have hg := fun v => rgoes_any v c hc
  rw [hG] at hg
  have zz := zeroVC
  have hF : Hid (Fr w w.heap.size c (w.heap.size + 1) p (w.heap.size + 1 + 1) zeroC (((w.alloc (.cells (cpC c) 26)).alloc (.cells (pnC p) 38)).alloc (.cells (cpC zeroC) 26))) := Fr.start w c p
  have hwd := fun v => rword_any c.B p.Data hc.B.1 hc.B.2 hp.Data.1 hp.Data.2 v
  have ix := fun v => idx (g := w.heap.size) (off := 0) (N := 16) Tryz.underlying23 infoR .u8 c.P v hP
  simp only [Nat.zero_add, Nat.mul_one] at ix
  have hP' : Hid (c.P < 16) := hP
  clear hc hp hP h6 hG
  go_enter Tryz.func33, Tryz.ntmps33
  go_wp2_with (first
    | (refine gen_world (((w.alloc (.cells (cpC c) 26)).alloc (.cells (pnC p) 38)).alloc (.cells (cpC zeroC) 26)) (Fr w w.heap.size c (w.heap.size + 1) p (w.heap.size + 1 + 1) zeroC) hF.out ?_; intro y K; have d23 := K.out.c.fOp)
    | (refine at_loadCg w.heap.size c K.out.c _ rfl rfl rfl ?_)
    | (go_at_call 50; refine (hf _).mono ?_; rintro e v1 ⟨rfl, rfl⟩)
    | (go_at_call 51; refine (hg _).mono ?_; rintro e v2 ⟨rfl, hb1⟩; replace K : Hid _ := K.out.below hb1))
  have K1 : Hid (Fr w w.heap.size c (w.heap.size + 1) p (w.heap.size + 1 + 1) zeroC v2.drew) := K.out.below (below_drew (Below.refl _ _))
  refine wp_region_still_tail 9 (by kernel_rfl) (by kernel_rfl) ?_
  change wpStill Tryz.prog _ v2.drew (fun a' => wpList Tryz.prog _ _ _ a' v2.drew) _ _
  generalize v2.drew = y3 at K1 ⊢
  have d18 := K1.out.c.fP
  have d24 := K1.out.c.fB
  have d1 := K1.out.p.fData
  have dR := K1.out.c.r c.P hP'.out
  have fR := K1.out.c.fz c.P
  have K2 : Hid (Fr w w.heap.size (c.setR c.P (c.B * 256 + p.Data)) (w.heap.size + 1) p (w.heap.size + 1 + 1) zeroC (y3.setCell ⟨w.heap.size, c.P, none⟩ (.int .u16 (c.B * 256 + p.Data)))) := K1.out.setC c.P _ (cpC_setR c c.P hP'.out _)
  have e24 : (y3.setCell ⟨w.heap.size, c.P, none⟩ (.int .u16 (c.B * 256 + p.Data))).cell? ⟨w.heap.size, 24, none⟩ = some (.int .u8 c.B) := K2.out.c.fB
  have f24 := K2.out.c.fz 24
  have K3 : Hid (Fr w w.heap.size { (c.setR c.P (c.B * 256 + p.Data)) with B := 0 } (w.heap.size + 1) p (w.heap.size + 1 + 1) zeroC ((y3.setCell ⟨w.heap.size, c.P, none⟩ (.int .u16 (c.B * 256 + p.Data))).setCell ⟨w.heap.size, 24, none⟩ (.int .u8 0))) := K2.out.setC 24 _ (cpC_setB _ 0)
  clear hf hg hF hP' K K1 K2 zz hb1
  simp only [List.take_succ_cons, List.take_zero, List.drop_succ_cons, List.drop_zero]
  iterate 6 still_step
  still_call (hwd _)
  iterate 2 still_step
  refine wpStill_nil ?_
  go_wp2_with (first
    | (refine at_loadC w.heap.size { (c.setR c.P (c.B * 256 + p.Data)) with B := 0 } K3.out.c _ rfl rfl rfl ?_)
    | (refine at_storeC (w.heap.size + 1 + 1) zeroC { (c.setR c.P (c.B * 256 + p.Data)) with B := 0 } K3.out.z _ _ rfl rfl rfl rfl ?_; intro w2 hw2))
  refine retC Tryz.results33 rfl hw2.out.1 rfl ⟨rfl, K3.out.low.trans (hw2.out.2.1 _ K3.out.l2)⟩
end Go.Proofs.YtbeeefekndcgnaaGreatDoor

namespace Go.Proofs.YtbeeefekndcgnaaGreatDoor
open Go Go.RowKit
set_option linter.unusedVariables false
set_option maxHeartbeats 1000000
set_option maxRecDepth 20000

theorem rlong2_stay (w : World) (c : Cp) (hc : c.wf) (hP : c.P < 16) (p : Pn) (h6 : rfmI c.Op = 6) (hG : goesM c = false) : Calls Tryz.prog 33 #[.agg (cpC c), .agg (pnC p), .bool true] w fun e w' => e = .returned (.agg (cpC { (c.up c.P) with B := 0 })) ∧ Below w.heap.size w w' := by
  have hf := fun v => rform_any c.Op v hc.Op
  rw [h6] at hf
  have hg := fun v => rgoes_any v c hc
  rw [hG] at hg
  have hu := fun v => rup_any v c hc c.P hP
  have zz := zeroVC
  have hF : Hid (Fr w w.heap.size c (w.heap.size + 1) p (w.heap.size + 1 + 1) zeroC (((w.alloc (.cells (cpC c) 26)).alloc (.cells (pnC p) 38)).alloc (.cells (cpC zeroC) 26))) := Fr.start w c p
  clear hc hP h6 hG
  go_enter Tryz.func33, Tryz.ntmps33
  go_wp2_with (first
    | (refine gen_world (((w.alloc (.cells (cpC c) 26)).alloc (.cells (pnC p) 38)).alloc (.cells (cpC zeroC) 26)) (Fr w w.heap.size c (w.heap.size + 1) p (w.heap.size + 1 + 1) zeroC) hF.out ?_; intro y K; have d23 := K.out.c.fOp; have d24 := K.out.c.fB; have f24 := K.out.c.fz 24)
    | (refine at_loadC w.heap.size { (c.up c.P) with B := 0 } K6.out.c _ rfl rfl rfl ?_)
    | (refine at_loadCg w.heap.size c K.out.c _ rfl rfl rfl ?_)
    | (go_at_call 50; refine (hf _).mono ?_; rintro e v1 ⟨rfl, rfl⟩)
    | (go_at_call 51; refine (hg _).mono ?_; rintro e v2 ⟨rfl, hb1⟩; replace K : Hid _ := K.out.below hb1; have d18 := K.out.c.fP)
    | (go_at_call 30; refine (hu _).mono ?_; rintro e v3 ⟨rfl, hb2⟩; replace K : Hid _ := K.out.below hb2)
    | (refine at_storeC w.heap.size c (c.up c.P) K.out.c _ _ rfl rfl rfl rfl ?_; intro y5 hw5; have K5 : Hid (Fr w w.heap.size (c.up c.P) (w.heap.size + 1) p (w.heap.size + 1 + 1) zeroC y5) := K.out.putC hw5.out; have e24 : y5.cell? ⟨w.heap.size, 24, none⟩ = some (.int .u8 c.B) := K5.out.c.fB; have g24 := K5.out.c.fz 24; have K6 : Hid (Fr w w.heap.size { (c.up c.P) with B := 0 } (w.heap.size + 1) p (w.heap.size + 1 + 1) zeroC (y5.setCell ⟨w.heap.size, 24, none⟩ (.int .u8 0))) := K5.out.setC 24 _ (cpC_setB _ 0))
    | (refine at_storeC (w.heap.size + 1 + 1) zeroC { (c.up c.P) with B := 0 } K6.out.z _ _ rfl rfl rfl rfl ?_; intro w2 hw2))
  refine retC Tryz.results33 rfl hw2.out.1 rfl ⟨rfl, K6.out.low.trans (hw2.out.2.1 _ K6.out.l2)⟩

theorem rlong2_skip (w : World) (c : Cp) (hc : c.wf) (hP : c.P < 16) (p : Pn) (h6 : rfmI c.Op ≠ 6) (hG : goesM c = true) : Calls Tryz.prog 33 #[.agg (cpC c), .agg (pnC p), .bool true] w fun e w' => e = .returned (.agg (cpC { (c.up c.P) with B := 0 })) ∧ Below w.heap.size w w' := by
  have hf := fun v => rform_any c.Op v hc.Op
  obtain ⟨F, hFe⟩ : ∃ F, rfmI c.Op = F := ⟨_, rfl⟩
  rw [hFe] at hf h6
  have h6' : (F == 6) = false := by simpa using h6
  clear hFe
  have hg := fun v => rgoes_any v c hc
  rw [hG] at hg
  have hu := fun v => rup_any v c hc c.P hP
  have zz := zeroVC
  have hF : Hid (Fr w w.heap.size c (w.heap.size + 1) p (w.heap.size + 1 + 1) zeroC (((w.alloc (.cells (cpC c) 26)).alloc (.cells (pnC p) 38)).alloc (.cells (cpC zeroC) 26))) := Fr.start w c p
  clear hc hP h6 hG
  go_enter Tryz.func33, Tryz.ntmps33
  go_wp2_with (first
    | (refine gen_world (((w.alloc (.cells (cpC c) 26)).alloc (.cells (pnC p) 38)).alloc (.cells (cpC zeroC) 26)) (Fr w w.heap.size c (w.heap.size + 1) p (w.heap.size + 1 + 1) zeroC) hF.out ?_; intro y K; have d23 := K.out.c.fOp; have d24 := K.out.c.fB; have f24 := K.out.c.fz 24)
    | (refine at_loadC w.heap.size { (c.up c.P) with B := 0 } K6.out.c _ rfl rfl rfl ?_)
    | (refine at_loadCg w.heap.size c K.out.c _ rfl rfl rfl ?_)
    | (go_at_call 50; refine (hf _).mono ?_; rintro e v1 ⟨rfl, rfl⟩)
    | (go_at_call 51; refine (hg _).mono ?_; rintro e v2 ⟨rfl, hb1⟩; replace K : Hid _ := K.out.below hb1; have d18 := K.out.c.fP)
    | (go_at_call 30; refine (hu _).mono ?_; rintro e v3 ⟨rfl, hb2⟩; replace K : Hid _ := K.out.below hb2)
    | (refine at_storeC w.heap.size c (c.up c.P) K.out.c _ _ rfl rfl rfl rfl ?_; intro y5 hw5; have K5 : Hid (Fr w w.heap.size (c.up c.P) (w.heap.size + 1) p (w.heap.size + 1 + 1) zeroC y5) := K.out.putC hw5.out; have e24 : y5.cell? ⟨w.heap.size, 24, none⟩ = some (.int .u8 c.B) := K5.out.c.fB; have g24 := K5.out.c.fz 24; have K6 : Hid (Fr w w.heap.size { (c.up c.P) with B := 0 } (w.heap.size + 1) p (w.heap.size + 1 + 1) zeroC (y5.setCell ⟨w.heap.size, 24, none⟩ (.int .u8 0))) := K5.out.setC 24 _ (cpC_setB _ 0))
    | (refine at_storeC (w.heap.size + 1 + 1) zeroC { (c.up c.P) with B := 0 } K6.out.z _ _ rfl rfl rfl rfl ?_; intro w2 hw2))
  refine retC Tryz.results33 rfl hw2.out.1 rfl ⟨rfl, K6.out.low.trans (hw2.out.2.1 _ K6.out.l2)⟩

theorem rlong2_no (w : World) (c : Cp) (hc : c.wf) (p : Pn) (h6 : rfmI c.Op ≠ 6) (hG : goesM c = false) : Calls Tryz.prog 33 #[.agg (cpC c), .agg (pnC p), .bool true] w fun e w' => e = .returned (.agg (cpC { c with B := 0 })) ∧ Below w.heap.size w w' := by
  have hf := fun v => rform_any c.Op v hc.Op
  obtain ⟨F, hFe⟩ : ∃ F, rfmI c.Op = F := ⟨_, rfl⟩
  rw [hFe] at hf h6
  have h6' : (F == 6) = false := by simpa using h6
  clear hFe
  have hg := fun v => rgoes_any v c hc
  rw [hG] at hg
  have zz := zeroVC
  have hF : Hid (Fr w w.heap.size c (w.heap.size + 1) p (w.heap.size + 1 + 1) zeroC (((w.alloc (.cells (cpC c) 26)).alloc (.cells (pnC p) 38)).alloc (.cells (cpC zeroC) 26))) := Fr.start w c p
  clear hc h6 hG
  go_enter Tryz.func33, Tryz.ntmps33
  go_wp2_with (first
    | (refine gen_world (((w.alloc (.cells (cpC c) 26)).alloc (.cells (pnC p) 38)).alloc (.cells (cpC zeroC) 26)) (Fr w w.heap.size c (w.heap.size + 1) p (w.heap.size + 1 + 1) zeroC) hF.out ?_; intro y K; have d23 := K.out.c.fOp; have d24 := K.out.c.fB; have f24 := K.out.c.fz 24)
    | (refine at_loadC w.heap.size { c with B := 0 } K6.out.c _ rfl rfl rfl ?_)
    | (refine at_loadCg w.heap.size c K.out.c _ rfl rfl rfl ?_)
    | (go_at_call 50; refine (hf _).mono ?_; rintro e v1 ⟨rfl, rfl⟩)
    | (go_at_call 51; refine (hg _).mono ?_; rintro e v2 ⟨rfl, hb1⟩; replace K : Hid _ := K.out.below hb1; have e24 := K.out.c.fB; have g24 := K.out.c.fz 24; have K6 : Hid (Fr w w.heap.size { c with B := 0 } (w.heap.size + 1) p (w.heap.size + 1 + 1) zeroC (v2.setCell ⟨w.heap.size, 24, none⟩ (.int .u8 0))) := K.out.setC 24 _ (cpC_setB _ 0))
    | (refine at_storeC (w.heap.size + 1 + 1) zeroC { c with B := 0 } K6.out.z _ _ rfl rfl rfl rfl ?_; intro w2 hw2))
  refine retC Tryz.results33 rfl hw2.out.1 rfl ⟨rfl, K6.out.low.trans (hw2.out.2.1 _ K6.out.l2)⟩

theorem rlong2_any (w : World) (c : Cp) (hc : c.wf) (hP : c.P < 16) (p : Pn) (hp : p.wf) : Calls Tryz.prog 33 #[.agg (cpC c), .agg (pnC p), .bool true] w fun e w' => e = .returned (.agg (cpC (long2M c p))) ∧ Below w.heap.size w w' := by
  unfold long2M
  by_cases h6 : rfmI c.Op = 6
  · cases hG : goesM c with
    | true => rw [if_pos ⟨h6, rfl⟩]; exact rlong2_go w c hc hP p hp h6 hG
    | false => rw [if_neg (fun h => by simp at h), if_pos (.inl h6)]; exact rlong2_stay w c hc hP p h6 hG
  · cases hG : goesM c with
    | true => rw [if_neg (fun h => h6 h.1), if_pos (.inr rfl)]; exact rlong2_skip w c hc hP p h6 hG
    | false => rw [if_neg (fun h => h6 h.1), if_neg (fun h => by simp [h6] at h)]; exact rlong2_no w c hc p h6 hG
end Go.Proofs.YtbeeefekndcgnaaGreatDoor
