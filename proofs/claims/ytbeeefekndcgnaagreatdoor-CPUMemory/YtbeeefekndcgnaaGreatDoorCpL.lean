/- The document's processor: control, but for the three ops that add and go on. The document's processor: control's three ops that add and go on. The document's processor: control's RET, DIS, LDXA, MARK; all of control. -/
import Derived.Test.YtbeeefekndcgnaaGreatDoorCpC
import Derived.Test.YtbeeefekndcgnaaGreatDoorTail
namespace Go.Proofs.YtbeeefekndcgnaaGreatDoor
open Go Go.RowKit
set_option linter.unusedVariables false
set_option maxHeartbeats 1000000
set_option maxRecDepth 20000

theorem rctrl3 (w : World) (c : Cp) (hc : c.wf) (hX : c.X < 16) (p : Pn) (hp : p.wf) (h : c.Op % 16 = 3) : Calls Tryz.prog 45 #[.agg (cpC c), .agg (pnC p)] w fun e w' => e = .returned (.agg (cpC (c.down c.X))) ∧ Below w.heap.size w w' := by
  have hn := fun v => rn_any v c hc
  rw [h] at hn
  have hd := fun v => rdown_any v c hc c.X hX
  have zz := zeroVC
  have hF : Hid (Fr w w.heap.size c (w.heap.size + 1) p (w.heap.size + 1 + 1) zeroC (((w.alloc (.cells (cpC c) 26)).alloc (.cells (pnC p) 38)).alloc (.cells (cpC zeroC) 26))) := Fr.start w c p
  clear hc hp h
  go_enter Tryz.func45, Tryz.ntmps45
  go_wp2_with (first
    | (refine gen_world (((w.alloc (.cells (cpC c) 26)).alloc (.cells (pnC p) 38)).alloc (.cells (cpC zeroC) 26)) (Fr w w.heap.size c (w.heap.size + 1) p (w.heap.size + 1 + 1) zeroC) hF.out ?_; intro y K)
    | (refine at_loadC w.heap.size (c.down c.X) K5.out.c _ rfl rfl rfl ?_)
    | (refine at_loadC w.heap.size c K.out.c _ rfl rfl rfl ?_)
    | (go_at_call 27; refine (hn _).mono ?_; rintro e v1 ⟨rfl, hb⟩; replace K : Hid _ := K.out.below hb; have d19 := K.out.c.fX)
    | (go_at_call 42; refine (hd _).mono ?_; rintro e v2 ⟨rfl, hb2⟩; replace K : Hid _ := K.out.below hb2)
    | (refine at_storeC w.heap.size c (c.down c.X) K.out.c _ _ rfl rfl rfl rfl ?_; intro y5 hw5; have K5 : Hid (Fr w w.heap.size (c.down c.X) (w.heap.size + 1) p (w.heap.size + 1 + 1) zeroC y5) := K.out.putC hw5.out)
    | (refine at_storeC (w.heap.size + 1 + 1) zeroC (c.down c.X) K5.out.z _ _ rfl rfl rfl rfl ?_; intro w2 hw2))
  refine retC Tryz.results45 rfl hw2.out.1 rfl ⟨rfl, K5.out.low.trans (hw2.out.2.1 _ K5.out.l2)⟩

theorem rctrl4 (w : World) (c : Cp) (hc : c.wf) (p : Pn) (hp : p.wf) (h : c.Op % 16 = 4) : Calls Tryz.prog 45 #[.agg (cpC c), .agg (pnC p)] w fun e w' => e = .returned (.agg (cpC (sumM c 5 p.Data))) ∧ Below w.heap.size w w' := by
  have hn := fun v => rn_any v c hc
  rw [h] at hn
  have hd := fun v => rsum_any v c hc 5 p.Data hp.Data
  have zz := zeroVC
  have hF : Hid (Fr w w.heap.size c (w.heap.size + 1) p (w.heap.size + 1 + 1) zeroC (((w.alloc (.cells (cpC c) 26)).alloc (.cells (pnC p) 38)).alloc (.cells (cpC zeroC) 26))) := Fr.start w c p
  clear hc hp h
  go_enter Tryz.func45, Tryz.ntmps45
  go_wp2_with (first
    | (refine gen_world (((w.alloc (.cells (cpC c) 26)).alloc (.cells (pnC p) 38)).alloc (.cells (cpC zeroC) 26)) (Fr w w.heap.size c (w.heap.size + 1) p (w.heap.size + 1 + 1) zeroC) hF.out ?_; intro y K)
    | (refine at_loadC w.heap.size (sumM c 5 p.Data) K5.out.c _ rfl rfl rfl ?_)
    | (refine at_loadC w.heap.size c K.out.c _ rfl rfl rfl ?_)
    | (go_at_call 27; refine (hn _).mono ?_; rintro e v1 ⟨rfl, hb⟩; replace K : Hid _ := K.out.below hb; have d1 := K.out.p.fData)
    | (go_at_call 80; refine (hd _).mono ?_; rintro e v2 ⟨rfl, hb2⟩; replace K : Hid _ := K.out.below hb2)
    | (refine at_storeC w.heap.size c (sumM c 5 p.Data) K.out.c _ _ rfl rfl rfl rfl ?_; intro y5 hw5; have K5 : Hid (Fr w w.heap.size (sumM c 5 p.Data) (w.heap.size + 1) p (w.heap.size + 1 + 1) zeroC y5) := K.out.putC hw5.out)
    | (refine at_storeC (w.heap.size + 1 + 1) zeroC (sumM c 5 p.Data) K5.out.z _ _ rfl rfl rfl rfl ?_; intro w2 hw2))
  refine retC Tryz.results45 rfl hw2.out.1 rfl ⟨rfl, K5.out.low.trans (hw2.out.2.1 _ K5.out.l2)⟩

theorem rctrl5 (w : World) (c : Cp) (hc : c.wf) (p : Pn) (hp : p.wf) (h : c.Op % 16 = 5) : Calls Tryz.prog 45 #[.agg (cpC c), .agg (pnC p)] w fun e w' => e = .returned (.agg (cpC (sumM c 7 p.Data))) ∧ Below w.heap.size w w' := by
  have hn := fun v => rn_any v c hc
  rw [h] at hn
  have hd := fun v => rsum_any v c hc 7 p.Data hp.Data
  have zz := zeroVC
  have hF : Hid (Fr w w.heap.size c (w.heap.size + 1) p (w.heap.size + 1 + 1) zeroC (((w.alloc (.cells (cpC c) 26)).alloc (.cells (pnC p) 38)).alloc (.cells (cpC zeroC) 26))) := Fr.start w c p
  clear hc hp h
  go_enter Tryz.func45, Tryz.ntmps45
  go_wp2_with (first
    | (refine gen_world (((w.alloc (.cells (cpC c) 26)).alloc (.cells (pnC p) 38)).alloc (.cells (cpC zeroC) 26)) (Fr w w.heap.size c (w.heap.size + 1) p (w.heap.size + 1 + 1) zeroC) hF.out ?_; intro y K)
    | (refine at_loadC w.heap.size (sumM c 7 p.Data) K5.out.c _ rfl rfl rfl ?_)
    | (refine at_loadC w.heap.size c K.out.c _ rfl rfl rfl ?_)
    | (go_at_call 27; refine (hn _).mono ?_; rintro e v1 ⟨rfl, hb⟩; replace K : Hid _ := K.out.below hb; have d1 := K.out.p.fData)
    | (go_at_call 80; refine (hd _).mono ?_; rintro e v2 ⟨rfl, hb2⟩; replace K : Hid _ := K.out.below hb2)
    | (refine at_storeC w.heap.size c (sumM c 7 p.Data) K.out.c _ _ rfl rfl rfl rfl ?_; intro y5 hw5; have K5 : Hid (Fr w w.heap.size (sumM c 7 p.Data) (w.heap.size + 1) p (w.heap.size + 1 + 1) zeroC y5) := K.out.putC hw5.out)
    | (refine at_storeC (w.heap.size + 1 + 1) zeroC (sumM c 7 p.Data) K5.out.z _ _ rfl rfl rfl rfl ?_; intro w2 hw2))
  refine retC Tryz.results45 rfl hw2.out.1 rfl ⟨rfl, K5.out.low.trans (hw2.out.2.1 _ K5.out.l2)⟩

theorem rctrl7 (w : World) (c : Cp) (hc : c.wf) (p : Pn) (hp : p.wf) (h : c.Op % 16 = 7) : Calls Tryz.prog 45 #[.agg (cpC c), .agg (pnC p)] w fun e w' => e = .returned (.agg (cpC (sumM c 9 p.Data))) ∧ Below w.heap.size w w' := by
  have hn := fun v => rn_any v c hc
  rw [h] at hn
  have hd := fun v => rsum_any v c hc 9 p.Data hp.Data
  have zz := zeroVC
  have hF : Hid (Fr w w.heap.size c (w.heap.size + 1) p (w.heap.size + 1 + 1) zeroC (((w.alloc (.cells (cpC c) 26)).alloc (.cells (pnC p) 38)).alloc (.cells (cpC zeroC) 26))) := Fr.start w c p
  clear hc hp h
  go_enter Tryz.func45, Tryz.ntmps45
  go_wp2_with (first
    | (refine gen_world (((w.alloc (.cells (cpC c) 26)).alloc (.cells (pnC p) 38)).alloc (.cells (cpC zeroC) 26)) (Fr w w.heap.size c (w.heap.size + 1) p (w.heap.size + 1 + 1) zeroC) hF.out ?_; intro y K)
    | (refine at_loadC w.heap.size (sumM c 9 p.Data) K5.out.c _ rfl rfl rfl ?_)
    | (refine at_loadC w.heap.size c K.out.c _ rfl rfl rfl ?_)
    | (go_at_call 27; refine (hn _).mono ?_; rintro e v1 ⟨rfl, hb⟩; replace K : Hid _ := K.out.below hb; have d1 := K.out.p.fData)
    | (go_at_call 80; refine (hd _).mono ?_; rintro e v2 ⟨rfl, hb2⟩; replace K : Hid _ := K.out.below hb2)
    | (refine at_storeC w.heap.size c (sumM c 9 p.Data) K.out.c _ _ rfl rfl rfl rfl ?_; intro y5 hw5; have K5 : Hid (Fr w w.heap.size (sumM c 9 p.Data) (w.heap.size + 1) p (w.heap.size + 1 + 1) zeroC y5) := K.out.putC hw5.out)
    | (refine at_storeC (w.heap.size + 1 + 1) zeroC (sumM c 9 p.Data) K5.out.z _ _ rfl rfl rfl rfl ?_; intro w2 hw2))
  refine retC Tryz.results45 rfl hw2.out.1 rfl ⟨rfl, K5.out.low.trans (hw2.out.2.1 _ K5.out.l2)⟩

theorem rctrl6 (w : World) (c : Cp) (hc : c.wf) (p : Pn) (hp : p.wf) (h : c.Op % 16 = 6) : Calls Tryz.prog 45 #[.agg (cpC c), .agg (pnC p)] w fun e w' => e = .returned (.agg (cpC (sumM c 11 0))) ∧ Below w.heap.size w w' := by
  have hn := fun v => rn_any v c hc
  rw [h] at hn
  have hd := fun v => rsum_any v c hc 11 0 (by omega)
  have zz := zeroVC
  have hF : Hid (Fr w w.heap.size c (w.heap.size + 1) p (w.heap.size + 1 + 1) zeroC (((w.alloc (.cells (cpC c) 26)).alloc (.cells (pnC p) 38)).alloc (.cells (cpC zeroC) 26))) := Fr.start w c p
  clear hc hp h
  go_enter Tryz.func45, Tryz.ntmps45
  go_wp2_with (first
    | (refine gen_world (((w.alloc (.cells (cpC c) 26)).alloc (.cells (pnC p) 38)).alloc (.cells (cpC zeroC) 26)) (Fr w w.heap.size c (w.heap.size + 1) p (w.heap.size + 1 + 1) zeroC) hF.out ?_; intro y K)
    | (refine at_loadC w.heap.size (sumM c 11 0) K5.out.c _ rfl rfl rfl ?_)
    | (refine at_loadC w.heap.size c K.out.c _ rfl rfl rfl ?_)
    | (go_at_call 27; refine (hn _).mono ?_; rintro e v1 ⟨rfl, hb⟩; replace K : Hid _ := K.out.below hb)
    | (go_at_call 80; refine (hd _).mono ?_; rintro e v2 ⟨rfl, hb2⟩; replace K : Hid _ := K.out.below hb2)
    | (refine at_storeC w.heap.size c (sumM c 11 0) K.out.c _ _ rfl rfl rfl rfl ?_; intro y5 hw5; have K5 : Hid (Fr w w.heap.size (sumM c 11 0) (w.heap.size + 1) p (w.heap.size + 1 + 1) zeroC y5) := K.out.putC hw5.out)
    | (refine at_storeC (w.heap.size + 1 + 1) zeroC (sumM c 11 0) K5.out.z _ _ rfl rfl rfl rfl ?_; intro w2 hw2))
  refine retC Tryz.results45 rfl hw2.out.1 rfl ⟨rfl, K5.out.low.trans (hw2.out.2.1 _ K5.out.l2)⟩

theorem rctrl14 (w : World) (c : Cp) (hc : c.wf) (p : Pn) (hp : p.wf) (h : c.Op % 16 = 14) : Calls Tryz.prog 45 #[.agg (cpC c), .agg (pnC p)] w fun e w' => e = .returned (.agg (cpC (sumM c 13 0))) ∧ Below w.heap.size w w' := by
  have hn := fun v => rn_any v c hc
  rw [h] at hn
  have hd := fun v => rsum_any v c hc 13 0 (by omega)
  have zz := zeroVC
  have hF : Hid (Fr w w.heap.size c (w.heap.size + 1) p (w.heap.size + 1 + 1) zeroC (((w.alloc (.cells (cpC c) 26)).alloc (.cells (pnC p) 38)).alloc (.cells (cpC zeroC) 26))) := Fr.start w c p
  clear hc hp h
  go_enter Tryz.func45, Tryz.ntmps45
  go_wp2_with (first
    | (refine gen_world (((w.alloc (.cells (cpC c) 26)).alloc (.cells (pnC p) 38)).alloc (.cells (cpC zeroC) 26)) (Fr w w.heap.size c (w.heap.size + 1) p (w.heap.size + 1 + 1) zeroC) hF.out ?_; intro y K)
    | (refine at_loadC w.heap.size (sumM c 13 0) K5.out.c _ rfl rfl rfl ?_)
    | (refine at_loadC w.heap.size c K.out.c _ rfl rfl rfl ?_)
    | (go_at_call 27; refine (hn _).mono ?_; rintro e v1 ⟨rfl, hb⟩; replace K : Hid _ := K.out.below hb)
    | (go_at_call 80; refine (hd _).mono ?_; rintro e v2 ⟨rfl, hb2⟩; replace K : Hid _ := K.out.below hb2)
    | (refine at_storeC w.heap.size c (sumM c 13 0) K.out.c _ _ rfl rfl rfl rfl ?_; intro y5 hw5; have K5 : Hid (Fr w w.heap.size (sumM c 13 0) (w.heap.size + 1) p (w.heap.size + 1 + 1) zeroC y5) := K.out.putC hw5.out)
    | (refine at_storeC (w.heap.size + 1 + 1) zeroC (sumM c 13 0) K5.out.z _ _ rfl rfl rfl rfl ?_; intro w2 hw2))
  refine retC Tryz.results45 rfl hw2.out.1 rfl ⟨rfl, K5.out.low.trans (hw2.out.2.1 _ K5.out.l2)⟩

theorem rctrl10 (w : World) (c : Cp) (hc : c.wf) (p : Pn) (hp : p.wf) (h : c.Op % 16 = 10) : Calls Tryz.prog 45 #[.agg (cpC c), .agg (pnC p)] w fun e w' => e = .returned (.agg (cpC ({ c with Q := false }))) ∧ Below w.heap.size w w' := by
  have hn := fun v => rn_any v c hc
  rw [h] at hn
  have zz := zeroVC
  have hF : Hid (Fr w w.heap.size c (w.heap.size + 1) p (w.heap.size + 1 + 1) zeroC (((w.alloc (.cells (cpC c) 26)).alloc (.cells (pnC p) 38)).alloc (.cells (cpC zeroC) 26))) := Fr.start w c p
  clear hc hp h
  go_enter Tryz.func45, Tryz.ntmps45
  go_wp2_with (first
    | (refine gen_world (((w.alloc (.cells (cpC c) 26)).alloc (.cells (pnC p) 38)).alloc (.cells (cpC zeroC) 26)) (Fr w w.heap.size c (w.heap.size + 1) p (w.heap.size + 1 + 1) zeroC) hF.out ?_; intro y K)
    | (refine at_loadC w.heap.size ({ c with Q := false }) K5.out.c _ rfl rfl rfl ?_)
    | (refine at_loadC w.heap.size c K.out.c _ rfl rfl rfl ?_)
    | (go_at_call 27; refine (hn _).mono ?_; rintro e v1 ⟨rfl, hb⟩; replace K : Hid _ := K.out.below hb; have d22 := K.out.c.fQ; have f22 := K.out.c.fz 22; have K5 : Hid (Fr w w.heap.size { c with Q := false } (w.heap.size + 1) p (w.heap.size + 1 + 1) zeroC (v1.setCell ⟨w.heap.size, 22, none⟩ (.bool false))) := K.out.setC 22 _ (cpC_setQ c false))
    | (refine at_storeC (w.heap.size + 1 + 1) zeroC ({ c with Q := false }) K5.out.z _ _ rfl rfl rfl rfl ?_; intro w2 hw2))
  refine retC Tryz.results45 rfl hw2.out.1 rfl ⟨rfl, K5.out.low.trans (hw2.out.2.1 _ K5.out.l2)⟩

theorem rctrl11 (w : World) (c : Cp) (hc : c.wf) (p : Pn) (hp : p.wf) (h : c.Op % 16 = 11) : Calls Tryz.prog 45 #[.agg (cpC c), .agg (pnC p)] w fun e w' => e = .returned (.agg (cpC ({ c with Q := true }))) ∧ Below w.heap.size w w' := by
  have hn := fun v => rn_any v c hc
  rw [h] at hn
  have zz := zeroVC
  have hF : Hid (Fr w w.heap.size c (w.heap.size + 1) p (w.heap.size + 1 + 1) zeroC (((w.alloc (.cells (cpC c) 26)).alloc (.cells (pnC p) 38)).alloc (.cells (cpC zeroC) 26))) := Fr.start w c p
  clear hc hp h
  go_enter Tryz.func45, Tryz.ntmps45
  go_wp2_with (first
    | (refine gen_world (((w.alloc (.cells (cpC c) 26)).alloc (.cells (pnC p) 38)).alloc (.cells (cpC zeroC) 26)) (Fr w w.heap.size c (w.heap.size + 1) p (w.heap.size + 1 + 1) zeroC) hF.out ?_; intro y K)
    | (refine at_loadC w.heap.size ({ c with Q := true }) K5.out.c _ rfl rfl rfl ?_)
    | (refine at_loadC w.heap.size c K.out.c _ rfl rfl rfl ?_)
    | (go_at_call 27; refine (hn _).mono ?_; rintro e v1 ⟨rfl, hb⟩; replace K : Hid _ := K.out.below hb; have d22 := K.out.c.fQ; have f22 := K.out.c.fz 22; have K5 : Hid (Fr w w.heap.size { c with Q := true } (w.heap.size + 1) p (w.heap.size + 1 + 1) zeroC (v1.setCell ⟨w.heap.size, 22, none⟩ (.bool true))) := K.out.setC 22 _ (cpC_setQ c true))
    | (refine at_storeC (w.heap.size + 1 + 1) zeroC ({ c with Q := true }) K5.out.z _ _ rfl rfl rfl rfl ?_; intro w2 hw2))
  refine retC Tryz.results45 rfl hw2.out.1 rfl ⟨rfl, K5.out.low.trans (hw2.out.2.1 _ K5.out.l2)⟩

theorem rctrl8 (w : World) (c : Cp) (hc : c.wf) (p : Pn) (hp : p.wf) (h : c.Op % 16 = 8) : Calls Tryz.prog 45 #[.agg (cpC c), .agg (pnC p)] w fun e w' => e = .returned (.agg (cpC (c))) ∧ Below w.heap.size w w' := by
  have hn := fun v => rn_any v c hc
  rw [h] at hn
  have zz := zeroVC
  have hF : Hid (Fr w w.heap.size c (w.heap.size + 1) p (w.heap.size + 1 + 1) zeroC (((w.alloc (.cells (cpC c) 26)).alloc (.cells (pnC p) 38)).alloc (.cells (cpC zeroC) 26))) := Fr.start w c p
  clear hc hp h
  go_enter Tryz.func45, Tryz.ntmps45
  go_wp2_with (first
    | (refine gen_world (((w.alloc (.cells (cpC c) 26)).alloc (.cells (pnC p) 38)).alloc (.cells (cpC zeroC) 26)) (Fr w w.heap.size c (w.heap.size + 1) p (w.heap.size + 1 + 1) zeroC) hF.out ?_; intro y K)
    | (refine at_loadC w.heap.size (c) K5.out.c _ rfl rfl rfl ?_)
    | (refine at_loadC w.heap.size c K.out.c _ rfl rfl rfl ?_)
    | (go_at_call 27; refine (hn _).mono ?_; rintro e v1 ⟨rfl, hb⟩; replace K : Hid _ := K.out.below hb; have K5 := K)
    | (refine at_storeC (w.heap.size + 1 + 1) zeroC (c) K5.out.z _ _ rfl rfl rfl rfl ?_; intro w2 hw2))
  refine retC Tryz.results45 rfl hw2.out.1 rfl ⟨rfl, K5.out.low.trans (hw2.out.2.1 _ K5.out.l2)⟩

end Go.Proofs.YtbeeefekndcgnaaGreatDoor

namespace Go.Proofs.YtbeeefekndcgnaaGreatDoor
open Go Go.RowKit
set_option linter.unusedVariables false
set_option maxHeartbeats 1000000
set_option maxRecDepth 20000

theorem rctrl12 (w : World) (c : Cp) (hc : c.wf) (hP : c.P < 16) (p : Pn) (hp : p.wf) (h : c.Op % 16 = 12) : Calls Tryz.prog 45 #[.agg (cpC c), .agg (pnC p)] w fun e w' => e = .returned (.agg (cpC ((sumM c 5 p.Data).up c.P))) ∧ Below w.heap.size w w' := by
  have hn := fun v => rn_any v c hc
  rw [h] at hn
  have hs := fun v => rsum_any v c hc 5 p.Data hp.Data
  have hu := fun v => rup_any v (sumM c 5 p.Data) (hc.sum 5 p.Data hp.Data) c.P hP
  have zz := zeroVC
  have hF : Hid (Fr w w.heap.size c (w.heap.size + 1) p (w.heap.size + 1 + 1) zeroC (((w.alloc (.cells (cpC c) 26)).alloc (.cells (pnC p) 38)).alloc (.cells (cpC zeroC) 26))) := Fr.start w c p
  clear hc hp h
  go_enter Tryz.func45, Tryz.ntmps45
  go_wp2_with (first
    | (refine gen_world (((w.alloc (.cells (cpC c) 26)).alloc (.cells (pnC p) 38)).alloc (.cells (cpC zeroC) 26)) (Fr w w.heap.size c (w.heap.size + 1) p (w.heap.size + 1 + 1) zeroC) hF.out ?_; intro y K)
    | (refine at_loadC w.heap.size c K.out.c _ rfl rfl rfl ?_)
    | (go_at_call 27; refine (hn _).mono ?_; rintro e v1 ⟨rfl, hb⟩; replace K : Hid _ := K.out.below hb))
  refine region_class_tail 7 (Fr w w.heap.size c (w.heap.size + 1) p (w.heap.size + 1 + 1) zeroC) (by kernel_rfl) (by kernel_rfl) (K.out.below (below_drew (Below.refl _ _))) ?_
  simp only [List.take_succ_cons, List.take_zero, List.drop_succ_cons, List.drop_zero]
  refine quiet_one (.agg (cpC c)) rfl (quiet_loadC w.heap.size c (fun _ h => h.c) _ rfl rfl) ?_
  refine quiet_one (.pointer (some ⟨w.heap.size + 1, 1, none⟩)) rfl (fun y hy => by go_simp) ?_
  refine quiet_one (.int .u8 p.Data) rfl (fun y hy => by have d := hy.p.fData; go_simp) ?_
  refine quiet_one (.agg (cpC (sumM c 5 p.Data))) rfl (fun y hy => by
    have d := (hs y).mono fun e w' (h : _ ∧ _) => And.intro h.1 (hy.below h.2)
    go_simp
    all_goals exact d) ?_
  refine quiet_one (.pointer (some ⟨w.heap.size, 18, none⟩)) rfl (fun y hy => by go_simp) ?_
  refine quiet_one (.int .u8 (c.P : Int)) rfl (fun y hy => by have d := hy.c.fP; go_simp) ?_
  refine quiet_one (.agg (cpC ((sumM c 5 p.Data).up c.P))) rfl (fun y hy => by
    have d := (hu y).mono fun e w' (h : _ ∧ _) => And.intro h.1 (hy.below h.2)
    go_simp
    all_goals exact d) ?_
  refine wpQuiet_nil ?_
  intro y3 K3
  replace K3 : Hid _ := K3
  go_simp
  go_wp2_with (first
    | (refine at_storeC w.heap.size c ((sumM c 5 p.Data).up c.P) K3.out.c _ _ rfl rfl rfl rfl ?_; intro y5 hw5; have K5 : Hid (Fr w w.heap.size ((sumM c 5 p.Data).up c.P) (w.heap.size + 1) p (w.heap.size + 1 + 1) zeroC y5) := K3.out.putC hw5.out)
    | (refine at_loadC w.heap.size ((sumM c 5 p.Data).up c.P) K5.out.c _ rfl rfl rfl ?_)
    | (refine at_storeC (w.heap.size + 1 + 1) zeroC ((sumM c 5 p.Data).up c.P) K5.out.z _ _ rfl rfl rfl rfl ?_; intro w2 hw2))
  refine retC Tryz.results45 rfl hw2.out.1 rfl ⟨rfl, K5.out.low.trans (hw2.out.2.1 _ K5.out.l2)⟩

theorem rctrl13 (w : World) (c : Cp) (hc : c.wf) (hP : c.P < 16) (p : Pn) (hp : p.wf) (h : c.Op % 16 = 13) : Calls Tryz.prog 45 #[.agg (cpC c), .agg (pnC p)] w fun e w' => e = .returned (.agg (cpC ((sumM c 7 p.Data).up c.P))) ∧ Below w.heap.size w w' := by
  have hn := fun v => rn_any v c hc
  rw [h] at hn
  have hs := fun v => rsum_any v c hc 7 p.Data hp.Data
  have hu := fun v => rup_any v (sumM c 7 p.Data) (hc.sum 7 p.Data hp.Data) c.P hP
  have zz := zeroVC
  have hF : Hid (Fr w w.heap.size c (w.heap.size + 1) p (w.heap.size + 1 + 1) zeroC (((w.alloc (.cells (cpC c) 26)).alloc (.cells (pnC p) 38)).alloc (.cells (cpC zeroC) 26))) := Fr.start w c p
  clear hc hp h
  go_enter Tryz.func45, Tryz.ntmps45
  go_wp2_with (first
    | (refine gen_world (((w.alloc (.cells (cpC c) 26)).alloc (.cells (pnC p) 38)).alloc (.cells (cpC zeroC) 26)) (Fr w w.heap.size c (w.heap.size + 1) p (w.heap.size + 1 + 1) zeroC) hF.out ?_; intro y K)
    | (refine at_loadC w.heap.size c K.out.c _ rfl rfl rfl ?_)
    | (go_at_call 27; refine (hn _).mono ?_; rintro e v1 ⟨rfl, hb⟩; replace K : Hid _ := K.out.below hb))
  refine region_class_tail 7 (Fr w w.heap.size c (w.heap.size + 1) p (w.heap.size + 1 + 1) zeroC) (by kernel_rfl) (by kernel_rfl) (K.out.below (below_drew (Below.refl _ _))) ?_
  simp only [List.take_succ_cons, List.take_zero, List.drop_succ_cons, List.drop_zero]
  refine quiet_one (.agg (cpC c)) rfl (quiet_loadC w.heap.size c (fun _ h => h.c) _ rfl rfl) ?_
  refine quiet_one (.pointer (some ⟨w.heap.size + 1, 1, none⟩)) rfl (fun y hy => by go_simp) ?_
  refine quiet_one (.int .u8 p.Data) rfl (fun y hy => by have d := hy.p.fData; go_simp) ?_
  refine quiet_one (.agg (cpC (sumM c 7 p.Data))) rfl (fun y hy => by
    have d := (hs y).mono fun e w' (h : _ ∧ _) => And.intro h.1 (hy.below h.2)
    go_simp
    all_goals exact d) ?_
  refine quiet_one (.pointer (some ⟨w.heap.size, 18, none⟩)) rfl (fun y hy => by go_simp) ?_
  refine quiet_one (.int .u8 (c.P : Int)) rfl (fun y hy => by have d := hy.c.fP; go_simp) ?_
  refine quiet_one (.agg (cpC ((sumM c 7 p.Data).up c.P))) rfl (fun y hy => by
    have d := (hu y).mono fun e w' (h : _ ∧ _) => And.intro h.1 (hy.below h.2)
    go_simp
    all_goals exact d) ?_
  refine wpQuiet_nil ?_
  intro y3 K3
  replace K3 : Hid _ := K3
  go_simp
  go_wp2_with (first
    | (refine at_storeC w.heap.size c ((sumM c 7 p.Data).up c.P) K3.out.c _ _ rfl rfl rfl rfl ?_; intro y5 hw5; have K5 : Hid (Fr w w.heap.size ((sumM c 7 p.Data).up c.P) (w.heap.size + 1) p (w.heap.size + 1 + 1) zeroC y5) := K3.out.putC hw5.out)
    | (refine at_loadC w.heap.size ((sumM c 7 p.Data).up c.P) K5.out.c _ rfl rfl rfl ?_)
    | (refine at_storeC (w.heap.size + 1 + 1) zeroC ((sumM c 7 p.Data).up c.P) K5.out.z _ _ rfl rfl rfl rfl ?_; intro w2 hw2))
  refine retC Tryz.results45 rfl hw2.out.1 rfl ⟨rfl, K5.out.low.trans (hw2.out.2.1 _ K5.out.l2)⟩

theorem rctrl15 (w : World) (c : Cp) (hc : c.wf) (hP : c.P < 16) (p : Pn) (hp : p.wf) (h : c.Op % 16 = 15) : Calls Tryz.prog 45 #[.agg (cpC c), .agg (pnC p)] w fun e w' => e = .returned (.agg (cpC ((sumM c 9 p.Data).up c.P))) ∧ Below w.heap.size w w' := by
  have hn := fun v => rn_any v c hc
  rw [h] at hn
  have hs := fun v => rsum_any v c hc 9 p.Data hp.Data
  have hu := fun v => rup_any v (sumM c 9 p.Data) (hc.sum 9 p.Data hp.Data) c.P hP
  have zz := zeroVC
  have hF : Hid (Fr w w.heap.size c (w.heap.size + 1) p (w.heap.size + 1 + 1) zeroC (((w.alloc (.cells (cpC c) 26)).alloc (.cells (pnC p) 38)).alloc (.cells (cpC zeroC) 26))) := Fr.start w c p
  clear hc hp h
  go_enter Tryz.func45, Tryz.ntmps45
  go_wp2_with (first
    | (refine gen_world (((w.alloc (.cells (cpC c) 26)).alloc (.cells (pnC p) 38)).alloc (.cells (cpC zeroC) 26)) (Fr w w.heap.size c (w.heap.size + 1) p (w.heap.size + 1 + 1) zeroC) hF.out ?_; intro y K)
    | (refine at_loadC w.heap.size c K.out.c _ rfl rfl rfl ?_)
    | (go_at_call 27; refine (hn _).mono ?_; rintro e v1 ⟨rfl, hb⟩; replace K : Hid _ := K.out.below hb))
  refine region_class_tail 7 (Fr w w.heap.size c (w.heap.size + 1) p (w.heap.size + 1 + 1) zeroC) (by kernel_rfl) (by kernel_rfl) (K.out.below (below_drew (Below.refl _ _))) ?_
  simp only [List.take_succ_cons, List.take_zero, List.drop_succ_cons, List.drop_zero]
  refine quiet_one (.agg (cpC c)) rfl (quiet_loadC w.heap.size c (fun _ h => h.c) _ rfl rfl) ?_
  refine quiet_one (.pointer (some ⟨w.heap.size + 1, 1, none⟩)) rfl (fun y hy => by go_simp) ?_
  refine quiet_one (.int .u8 p.Data) rfl (fun y hy => by have d := hy.p.fData; go_simp) ?_
  refine quiet_one (.agg (cpC (sumM c 9 p.Data))) rfl (fun y hy => by
    have d := (hs y).mono fun e w' (h : _ ∧ _) => And.intro h.1 (hy.below h.2)
    go_simp
    all_goals exact d) ?_
  refine quiet_one (.pointer (some ⟨w.heap.size, 18, none⟩)) rfl (fun y hy => by go_simp) ?_
  refine quiet_one (.int .u8 (c.P : Int)) rfl (fun y hy => by have d := hy.c.fP; go_simp) ?_
  refine quiet_one (.agg (cpC ((sumM c 9 p.Data).up c.P))) rfl (fun y hy => by
    have d := (hu y).mono fun e w' (h : _ ∧ _) => And.intro h.1 (hy.below h.2)
    go_simp
    all_goals exact d) ?_
  refine wpQuiet_nil ?_
  intro y3 K3
  replace K3 : Hid _ := K3
  go_simp
  go_wp2_with (first
    | (refine at_storeC w.heap.size c ((sumM c 9 p.Data).up c.P) K3.out.c _ _ rfl rfl rfl rfl ?_; intro y5 hw5; have K5 : Hid (Fr w w.heap.size ((sumM c 9 p.Data).up c.P) (w.heap.size + 1) p (w.heap.size + 1 + 1) zeroC y5) := K3.out.putC hw5.out)
    | (refine at_loadC w.heap.size ((sumM c 9 p.Data).up c.P) K5.out.c _ rfl rfl rfl ?_)
    | (refine at_storeC (w.heap.size + 1 + 1) zeroC ((sumM c 9 p.Data).up c.P) K5.out.z _ _ rfl rfl rfl rfl ?_; intro w2 hw2))
  refine retC Tryz.results45 rfl hw2.out.1 rfl ⟨rfl, K5.out.low.trans (hw2.out.2.1 _ K5.out.l2)⟩

end Go.Proofs.YtbeeefekndcgnaaGreatDoor

namespace Go.Proofs.YtbeeefekndcgnaaGreatDoor
open Go Go.RowKit
set_option linter.unusedVariables false
set_option maxHeartbeats 1000000
set_option maxRecDepth 20000

theorem rctrl2 (w : World) (c : Cp) (hc : c.wf) (hX : c.X < 16) (p : Pn) (hp : p.wf) (h : c.Op % 16 = 2) : Calls Tryz.prog 45 #[.agg (cpC c), .agg (pnC p)] w fun e w' => e = .returned (.agg (cpC ({ c with D := p.Data }.up c.X))) ∧ Below w.heap.size w w' := by
  have hn := fun v => rn_any v c hc
  rw [h] at hn
  have zz := zeroVC
  have hF : Hid (Fr w w.heap.size c (w.heap.size + 1) p (w.heap.size + 1 + 1) zeroC (((w.alloc (.cells (cpC c) 26)).alloc (.cells (pnC p) 38)).alloc (.cells (cpC zeroC) 26))) := Fr.start w c p
  have hu := fun v => rup_any v { c with D := p.Data } (⟨hc.R, hp.Data, hc.P, hc.X, hc.T, hc.Op, hc.B, hc.Ph⟩) c.X hX
  clear hc hp h
  go_enter Tryz.func45, Tryz.ntmps45
  go_wp2_with (first
    | (refine gen_world (((w.alloc (.cells (cpC c) 26)).alloc (.cells (pnC p) 38)).alloc (.cells (cpC zeroC) 26)) (Fr w w.heap.size c (w.heap.size + 1) p (w.heap.size + 1 + 1) zeroC) hF.out ?_; intro y K)
    | (refine at_loadC w.heap.size _ K5.out.c _ rfl rfl rfl ?_)
    | (refine at_loadC w.heap.size _ K1.out.c _ rfl rfl rfl ?_)
    | (refine at_loadC w.heap.size c K.out.c _ rfl rfl rfl ?_)
    | (go_at_call 27; refine (hn _).mono ?_; rintro e v1 ⟨rfl, hb⟩; replace K : Hid _ := K.out.below hb; have d1 := K.out.p.fData; have d16 := K.out.c.fD; have f16 := K.out.c.fz 16; have K1 : Hid (Fr w w.heap.size { c with D := p.Data } (w.heap.size + 1) p (w.heap.size + 1 + 1) zeroC (v1.setCell ⟨w.heap.size, 16, none⟩ (.int .u8 p.Data))) := K.out.setC 16 _ (cpC_setD c p.Data); have d19 := K.out.c.fX)
    | (go_at_call 30; refine (hu _).mono ?_; rintro e v2 ⟨rfl, hb2⟩; have K2 : Hid _ := K1.out.below hb2)
    | (refine at_storeC w.heap.size { c with D := p.Data } ({ c with D := p.Data }.up c.X) K2.out.c _ _ rfl rfl rfl rfl ?_; intro y5 hw5; have K5 : Hid (Fr w w.heap.size ({ c with D := p.Data }.up c.X) (w.heap.size + 1) p (w.heap.size + 1 + 1) zeroC y5) := K2.out.putC hw5.out)
    | (refine at_storeC (w.heap.size + 1 + 1) zeroC ({ c with D := p.Data }.up c.X) K5.out.z _ _ rfl rfl rfl rfl ?_; intro w2 hw2))
  refine retC Tryz.results45 rfl hw2.out.1 rfl ⟨rfl, K5.out.low.trans (hw2.out.2.1 _ K5.out.l2)⟩

theorem rctrl9 (w : World) (c : Cp) (hc : c.wf) (hP : c.P < 16) (hX : c.X < 16) (p : Pn) (h : c.Op % 16 = 9) : Calls Tryz.prog 45 #[.agg (cpC c), .agg (pnC p)] w fun e w' => e = .returned (.agg (cpC ({ c with T := 16 * (c.X : Int) + c.P, X := c.P }.down 2))) ∧ Below w.heap.size w w' := by
  have hn := fun v => rn_any v c hc
  rw [h] at hn
  have zz := zeroVC
  have hF : Hid (Fr w w.heap.size c (w.heap.size + 1) p (w.heap.size + 1 + 1) zeroC (((w.alloc (.cells (cpC c) 26)).alloc (.cells (pnC p) 38)).alloc (.cells (cpC zeroC) 26))) := Fr.start w c p
  have hd : ∀ v, Calls Tryz.prog 42 #[.agg (cpC { c with T := 16 * (c.X : Int) + c.P, X := c.P }), .int .u8 2] v fun e w' => e = .returned (.agg (cpC ({ c with T := 16 * (c.X : Int) + c.P, X := c.P }.down 2))) ∧ Below v.heap.size v w' := fun v => rdown_any v { c with T := 16 * (c.X : Int) + c.P, X := c.P } (⟨hc.R, hc.D, hc.P, hc.P, ⟨by show (0 : Int) ≤ 16 * c.X + c.P; omega, by show (16 : Int) * c.X + c.P < 256; omega⟩, hc.Op, hc.B, hc.Ph⟩) 2 (by omega)
  have e1 : IntKind.u8.wrap (16 * (c.X : Int)) = 16 * (c.X : Int) := by rw [IntKind.wrap_u8]; omega
  have e2 : IntKind.u8.wrap (16 * (c.X : Int) + c.P) = 16 * (c.X : Int) + c.P := by rw [IntKind.wrap_u8]; omega
  clear hc h hP hX
  go_enter Tryz.func45, Tryz.ntmps45
  go_wp2_with (first
    | (refine gen_world (((w.alloc (.cells (cpC c) 26)).alloc (.cells (pnC p) 38)).alloc (.cells (cpC zeroC) 26)) (Fr w w.heap.size c (w.heap.size + 1) p (w.heap.size + 1 + 1) zeroC) hF.out ?_; intro y K)
    | (refine at_loadC w.heap.size _ K5.out.c _ rfl rfl rfl ?_)
    | (refine at_loadC w.heap.size _ K2.out.c _ rfl rfl rfl ?_)
    | (refine at_loadC w.heap.size c K.out.c _ rfl rfl rfl ?_)
    | (go_at_call 27; refine (hn _).mono ?_; rintro e v1 ⟨rfl, hb⟩; replace K : Hid _ := K.out.below hb; have d18 := K.out.c.fP; have d19 := K.out.c.fX; have d20 := K.out.c.fT; have f20 := K.out.c.fz 20; have f19 := K.out.c.fz 19; have K1 : Hid (Fr w w.heap.size { c with T := 16 * (c.X : Int) + c.P } (w.heap.size + 1) p (w.heap.size + 1 + 1) zeroC (v1.setCell ⟨w.heap.size, 20, none⟩ (.int .u8 (16 * (c.X : Int) + c.P)))) := K.out.setC 20 _ (cpC_setT c _); have K2 : Hid (Fr w w.heap.size { c with T := 16 * (c.X : Int) + c.P, X := c.P } (w.heap.size + 1) p (w.heap.size + 1 + 1) zeroC ((v1.setCell ⟨w.heap.size, 20, none⟩ (.int .u8 (16 * (c.X : Int) + c.P))).setCell ⟨w.heap.size, 19, none⟩ (.int .u8 (c.P : Int)))) := K1.out.setC 19 _ (cpC_setX _ c.P))
    | (go_at_call 42; refine (hd _).mono ?_; rintro e v2 ⟨rfl, hb2⟩; have K3 : Hid _ := K2.out.below hb2)
    | (refine at_storeC w.heap.size { c with T := 16 * (c.X : Int) + c.P, X := c.P } ({ c with T := 16 * (c.X : Int) + c.P, X := c.P }.down 2) K3.out.c _ _ rfl rfl rfl rfl ?_; intro y5 hw5; have K5 : Hid (Fr w w.heap.size ({ c with T := 16 * (c.X : Int) + c.P, X := c.P }.down 2) (w.heap.size + 1) p (w.heap.size + 1 + 1) zeroC y5) := K3.out.putC hw5.out)
    | (refine at_storeC (w.heap.size + 1 + 1) zeroC ({ c with T := 16 * (c.X : Int) + c.P, X := c.P }.down 2) K5.out.z _ _ rfl rfl rfl rfl ?_; intro w2 hw2))
  refine retC Tryz.results45 rfl hw2.out.1 rfl ⟨rfl, K5.out.low.trans (hw2.out.2.1 _ K5.out.l2)⟩

theorem rctrl0 (w : World) (c : Cp) (hc : c.wf) (hX : c.X < 16) (p : Pn) (hp : p.wf) (h : c.Op % 16 = 0) : Calls Tryz.prog 45 #[.agg (cpC c), .agg (pnC p)] w fun e w' => e = .returned (.agg (cpC ({ ({ c with IE := true }.up c.X) with X := (p.Data / 16).toNat, P := (p.Data % 16).toNat }))) ∧ Below w.heap.size w w' := by
  have hn := fun v => rn_any v c hc
  rw [h] at hn
  have zz := zeroVC
  have hF : Hid (Fr w w.heap.size c (w.heap.size + 1) p (w.heap.size + 1 + 1) zeroC (((w.alloc (.cells (cpC c) 26)).alloc (.cells (pnC p) 38)).alloc (.cells (cpC zeroC) 26))) := Fr.start w c p
  have hu := fun v => rup_any v { c with IE := true } (⟨hc.R, hc.D, hc.P, hc.X, hc.T, hc.Op, hc.B, hc.Ph⟩) c.X hX
  have hd := hp.Data
  obtain ⟨NX, hNX⟩ : ∃ NX, (p.Data / 16).toNat = NX := ⟨_, rfl⟩
  obtain ⟨NP, hNP⟩ : ∃ NP, (p.Data % 16).toNat = NP := ⟨_, rfl⟩
  have e1 : p.Data.tdiv 16 = (NX : Int) := by rw [Int.tdiv_eq_ediv_of_nonneg hd.1]; omega
  have e2 : p.Data.tmod 16 = (NP : Int) := by rw [Int.tmod_eq_emod_of_nonneg hd.1]; omega
  have e3 : IntKind.u8.wrap (NX : Int) = (NX : Int) := by rw [IntKind.wrap_u8]; omega
  have e4 : IntKind.u8.wrap (NP : Int) = (NP : Int) := by rw [IntKind.wrap_u8]; omega
  rw [hNX, hNP]
  clear hc h hX hp hd hNX hNP
  go_enter Tryz.func45, Tryz.ntmps45
  go_wp2_with (first
    | (refine gen_world (((w.alloc (.cells (cpC c) 26)).alloc (.cells (pnC p) 38)).alloc (.cells (cpC zeroC) 26)) (Fr w w.heap.size c (w.heap.size + 1) p (w.heap.size + 1 + 1) zeroC) hF.out ?_; intro y K)
    | (refine at_loadC w.heap.size _ K7.out.c _ rfl rfl rfl ?_)
    | (refine at_loadC w.heap.size _ K1.out.c _ rfl rfl rfl ?_)
    | (refine at_loadC w.heap.size c K.out.c _ rfl rfl rfl ?_)
    | (go_at_call 27; refine (hn _).mono ?_; rintro e v1 ⟨rfl, hb⟩; replace K : Hid _ := K.out.below hb; have d19 := K.out.c.fX; have d21 := K.out.c.fIE; have f21 := K.out.c.fz 21; have K1 : Hid (Fr w w.heap.size { c with IE := true } (w.heap.size + 1) p (w.heap.size + 1 + 1) zeroC (v1.setCell ⟨w.heap.size, 21, none⟩ (.bool true))) := K.out.setC 21 _ (cpC_setIE c true))
    | (go_at_call 30; refine (hu _).mono ?_; rintro e v2 ⟨rfl, hb2⟩; have K2 : Hid _ := K1.out.below hb2)
    | (refine at_storeC w.heap.size { c with IE := true } ({ c with IE := true }.up c.X) K2.out.c _ _ rfl rfl rfl rfl ?_; intro y5 hw5; have K5 : Hid (Fr w w.heap.size ({ c with IE := true }.up c.X) (w.heap.size + 1) p (w.heap.size + 1 + 1) zeroC y5) := K2.out.putC hw5.out; have g1 := K5.out.p.fData; have g18 : y5.cell? ⟨w.heap.size, 18, none⟩ = some (.int .u8 (c.P : Int)) := K5.out.c.fP; have g19 : y5.cell? ⟨w.heap.size, 19, none⟩ = some (.int .u8 (c.X : Int)) := K5.out.c.fX; have j18 := K5.out.c.fz 18; have j19 := K5.out.c.fz 19; have K6 : Hid (Fr w w.heap.size { ({ c with IE := true }.up c.X) with X := NX } (w.heap.size + 1) p (w.heap.size + 1 + 1) zeroC (y5.setCell ⟨w.heap.size, 19, none⟩ (.int .u8 (NX : Int)))) := K5.out.setC 19 _ (cpC_setX _ NX); have K7 : Hid (Fr w w.heap.size { ({ c with IE := true }.up c.X) with X := NX, P := NP } (w.heap.size + 1) p (w.heap.size + 1 + 1) zeroC ((y5.setCell ⟨w.heap.size, 19, none⟩ (.int .u8 (NX : Int))).setCell ⟨w.heap.size, 18, none⟩ (.int .u8 (NP : Int)))) := K6.out.setC 18 _ (cpC_setP _ NP))
    | (refine at_storeC (w.heap.size + 1 + 1) zeroC { ({ c with IE := true }.up c.X) with X := NX, P := NP } K7.out.z _ _ rfl rfl rfl rfl ?_; intro w2 hw2))
  refine retC Tryz.results45 rfl hw2.out.1 rfl ⟨rfl, K7.out.low.trans (hw2.out.2.1 _ K7.out.l2)⟩

theorem rctrl1 (w : World) (c : Cp) (hc : c.wf) (hX : c.X < 16) (p : Pn) (hp : p.wf) (h : c.Op % 16 = 1) : Calls Tryz.prog 45 #[.agg (cpC c), .agg (pnC p)] w fun e w' => e = .returned (.agg (cpC ({ ({ c with IE := false }.up c.X) with X := (p.Data / 16).toNat, P := (p.Data % 16).toNat }))) ∧ Below w.heap.size w w' := by
  have hn := fun v => rn_any v c hc
  rw [h] at hn
  have zz := zeroVC
  have hF : Hid (Fr w w.heap.size c (w.heap.size + 1) p (w.heap.size + 1 + 1) zeroC (((w.alloc (.cells (cpC c) 26)).alloc (.cells (pnC p) 38)).alloc (.cells (cpC zeroC) 26))) := Fr.start w c p
  have hu := fun v => rup_any v { c with IE := false } (⟨hc.R, hc.D, hc.P, hc.X, hc.T, hc.Op, hc.B, hc.Ph⟩) c.X hX
  have hd := hp.Data
  obtain ⟨NX, hNX⟩ : ∃ NX, (p.Data / 16).toNat = NX := ⟨_, rfl⟩
  obtain ⟨NP, hNP⟩ : ∃ NP, (p.Data % 16).toNat = NP := ⟨_, rfl⟩
  have e1 : p.Data.tdiv 16 = (NX : Int) := by rw [Int.tdiv_eq_ediv_of_nonneg hd.1]; omega
  have e2 : p.Data.tmod 16 = (NP : Int) := by rw [Int.tmod_eq_emod_of_nonneg hd.1]; omega
  have e3 : IntKind.u8.wrap (NX : Int) = (NX : Int) := by rw [IntKind.wrap_u8]; omega
  have e4 : IntKind.u8.wrap (NP : Int) = (NP : Int) := by rw [IntKind.wrap_u8]; omega
  rw [hNX, hNP]
  clear hc h hX hp hd hNX hNP
  go_enter Tryz.func45, Tryz.ntmps45
  go_wp2_with (first
    | (refine gen_world (((w.alloc (.cells (cpC c) 26)).alloc (.cells (pnC p) 38)).alloc (.cells (cpC zeroC) 26)) (Fr w w.heap.size c (w.heap.size + 1) p (w.heap.size + 1 + 1) zeroC) hF.out ?_; intro y K)
    | (refine at_loadC w.heap.size _ K7.out.c _ rfl rfl rfl ?_)
    | (refine at_loadC w.heap.size _ K1.out.c _ rfl rfl rfl ?_)
    | (refine at_loadC w.heap.size c K.out.c _ rfl rfl rfl ?_)
    | (go_at_call 27; refine (hn _).mono ?_; rintro e v1 ⟨rfl, hb⟩; replace K : Hid _ := K.out.below hb; have d19 := K.out.c.fX; have d21 := K.out.c.fIE; have f21 := K.out.c.fz 21; have K1 : Hid (Fr w w.heap.size { c with IE := false } (w.heap.size + 1) p (w.heap.size + 1 + 1) zeroC (v1.setCell ⟨w.heap.size, 21, none⟩ (.bool false))) := K.out.setC 21 _ (cpC_setIE c false))
    | (go_at_call 30; refine (hu _).mono ?_; rintro e v2 ⟨rfl, hb2⟩; have K2 : Hid _ := K1.out.below hb2)
    | (refine at_storeC w.heap.size { c with IE := false } ({ c with IE := false }.up c.X) K2.out.c _ _ rfl rfl rfl rfl ?_; intro y5 hw5; have K5 : Hid (Fr w w.heap.size ({ c with IE := false }.up c.X) (w.heap.size + 1) p (w.heap.size + 1 + 1) zeroC y5) := K2.out.putC hw5.out; have g1 := K5.out.p.fData; have g18 : y5.cell? ⟨w.heap.size, 18, none⟩ = some (.int .u8 (c.P : Int)) := K5.out.c.fP; have g19 : y5.cell? ⟨w.heap.size, 19, none⟩ = some (.int .u8 (c.X : Int)) := K5.out.c.fX; have j18 := K5.out.c.fz 18; have j19 := K5.out.c.fz 19; have K6 : Hid (Fr w w.heap.size { ({ c with IE := false }.up c.X) with X := NX } (w.heap.size + 1) p (w.heap.size + 1 + 1) zeroC (y5.setCell ⟨w.heap.size, 19, none⟩ (.int .u8 (NX : Int)))) := K5.out.setC 19 _ (cpC_setX _ NX); have K7 : Hid (Fr w w.heap.size { ({ c with IE := false }.up c.X) with X := NX, P := NP } (w.heap.size + 1) p (w.heap.size + 1 + 1) zeroC ((y5.setCell ⟨w.heap.size, 19, none⟩ (.int .u8 (NX : Int))).setCell ⟨w.heap.size, 18, none⟩ (.int .u8 (NP : Int)))) := K6.out.setC 18 _ (cpC_setP _ NP))
    | (refine at_storeC (w.heap.size + 1 + 1) zeroC { ({ c with IE := false }.up c.X) with X := NX, P := NP } K7.out.z _ _ rfl rfl rfl rfl ?_; intro w2 hw2))
  refine retC Tryz.results45 rfl hw2.out.1 rfl ⟨rfl, K7.out.low.trans (hw2.out.2.1 _ K7.out.l2)⟩

theorem rcontrol_any (w : World) (c : Cp) (hc : c.wf) (hP : c.P < 16) (hX : c.X < 16) (p : Pn) (hp : p.wf) : Calls Tryz.prog 45 #[.agg (cpC c), .agg (pnC p)] w fun e w' => e = .returned (.agg (cpC (ctrlM c p))) ∧ Below w.heap.size w w' := by
  unfold ctrlM
  rcases (show c.Op % 16 = 0 ∨ c.Op % 16 = 1 ∨ c.Op % 16 = 2 ∨ c.Op % 16 = 3 ∨ c.Op % 16 = 4 ∨ c.Op % 16 = 5 ∨ c.Op % 16 = 6 ∨ c.Op % 16 = 7 ∨ c.Op % 16 = 8 ∨ c.Op % 16 = 9 ∨ c.Op % 16 = 10 ∨ c.Op % 16 = 11 ∨ c.Op % 16 = 12 ∨ c.Op % 16 = 13 ∨ c.Op % 16 = 14 ∨ c.Op % 16 = 15 by omega) with h | h | h | h | h | h | h | h | h | h | h | h | h | h | h | h <;> simp only [h]
  · exact rctrl0 w c hc hX p hp h
  · exact rctrl1 w c hc hX p hp h
  · exact rctrl2 w c hc hX p hp h
  · exact rctrl3 w c hc hX p hp h
  · exact rctrl4 w c hc p hp h
  · exact rctrl5 w c hc p hp h
  · exact rctrl6 w c hc p hp h
  · exact rctrl7 w c hc p hp h
  · exact rctrl8 w c hc p hp h
  · exact rctrl9 w c hc hP hX p h
  · exact rctrl10 w c hc p hp h
  · exact rctrl11 w c hc p hp h
  · exact rctrl12 w c hc hP p hp h
  · exact rctrl13 w c hc hP p hp h
  · exact rctrl14 w c hc p hp h
  · exact rctrl15 w c hc hP p hp h
end Go.Proofs.YtbeeefekndcgnaaGreatDoor
