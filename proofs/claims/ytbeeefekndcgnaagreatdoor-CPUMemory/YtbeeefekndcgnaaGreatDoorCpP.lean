/- The document's processor: does, the rows of one call or one field. The document's processor: does, the rows of the registers; all of it. -/
import Derived.Test.YtbeeefekndcgnaaGreatDoorCpF
import Derived.Test.YtbeeefekndcgnaaGreatDoorCpI
import Derived.Test.YtbeeefekndcgnaaGreatDoorCpL
import Derived.Test.YtbeeefekndcgnaaGreatDoorCpN
namespace Go.Proofs.YtbeeefekndcgnaaGreatDoor
open Go Go.RowKit
set_option linter.unusedVariables false
set_option maxHeartbeats 1000000
set_option maxRecDepth 20000

theorem rdoes00 (w : World) (c : Cp) (hc : c.wf) (p : Pn) (hp : p.wf) (h : c.Op / 16 = 0) (k : Nat) (hk : c.Op % 16 = k) (hk0 : k = 0) : Calls Tryz.prog 31 #[.agg (cpC c), .agg (pnC p)] w fun e w' => e = .returned (.agg (cpC (c))) ∧ Below w.heap.size w w' := by
  have hn := fun v => rn_any v c hc
  rw [hk] at hn
  have hk16 : k < 16 := by omega
  have e1 : IntKind.u8.wrap (k : Int) = k := by rw [IntKind.wrap_u8]; omega
  have e2 : (c.Op : Int).tdiv 16 = 0 := by rw [Int.tdiv_eq_ediv_of_nonneg (by omega)]; omega
  have zz := zeroVC
  have hF : Hid (Fr w w.heap.size c (w.heap.size + 1) p (w.heap.size + 1 + 1) zeroC (((w.alloc (.cells (cpC c) 26)).alloc (.cells (pnC p) 38)).alloc (.cells (cpC zeroC) 26))) := Fr.start w c p
  subst hk0
  clear hc hp h hk
  go_enter Tryz.func31, Tryz.ntmps31
  go_wp2_with (first
    | (refine gen_world (((w.alloc (.cells (cpC c) 26)).alloc (.cells (pnC p) 38)).alloc (.cells (cpC zeroC) 26)) (Fr w w.heap.size c (w.heap.size + 1) p (w.heap.size + 1 + 1) zeroC) hF.out ?_; intro y K)
    | (go_at_call 27; refine (hn _).mono ?_; rintro e v1 ⟨rfl, hb⟩; replace K : Hid _ := K.out.below hb; have d23 := K.out.c.fOp)
    | (refine at_loadC w.heap.size c K.out.c _ rfl rfl rfl ?_)
    | (refine at_storeC (w.heap.size + 1 + 1) zeroC (c) K.out.z _ _ rfl rfl rfl rfl ?_; intro w2 hw2))
  refine retC Tryz.results31 rfl hw2.out.1 rfl ⟨rfl, K.out.low.trans (hw2.out.2.1 _ K.out.l2)⟩

theorem rdoes01 (w : World) (c : Cp) (hc : c.wf) (p : Pn) (hp : p.wf) (h : c.Op / 16 = 0) (k : Nat) (hk : c.Op % 16 = k) (hk0 : k ≠ 0) : Calls Tryz.prog 31 #[.agg (cpC c), .agg (pnC p)] w fun e w' => e = .returned (.agg (cpC ({ c with D := p.Data }))) ∧ Below w.heap.size w w' := by
  have hn := fun v => rn_any v c hc
  rw [hk] at hn
  have hk16 : k < 16 := by omega
  have e1 : IntKind.u8.wrap (k : Int) = k := by rw [IntKind.wrap_u8]; omega
  have e2 : (c.Op : Int).tdiv 16 = 0 := by rw [Int.tdiv_eq_ediv_of_nonneg (by omega)]; omega
  have zz := zeroVC
  have hF : Hid (Fr w w.heap.size c (w.heap.size + 1) p (w.heap.size + 1 + 1) zeroC (((w.alloc (.cells (cpC c) 26)).alloc (.cells (pnC p) 38)).alloc (.cells (cpC zeroC) 26))) := Fr.start w c p
  have hk1 : ((k : Int) == 0) = false := by simpa using hk0
  clear hc hp h hk
  go_enter Tryz.func31, Tryz.ntmps31
  go_wp2_with (first
    | (refine gen_world (((w.alloc (.cells (cpC c) 26)).alloc (.cells (pnC p) 38)).alloc (.cells (cpC zeroC) 26)) (Fr w w.heap.size c (w.heap.size + 1) p (w.heap.size + 1 + 1) zeroC) hF.out ?_; intro y K)
    | (go_at_call 27; refine (hn _).mono ?_; rintro e v1 ⟨rfl, hb⟩; replace K : Hid _ := K.out.below hb; have d23 := K.out.c.fOp; have d1 := K.out.p.fData; have dd := K.out.c.fD; have ff := K.out.c.fz 16; have K5 : Hid (Fr w w.heap.size ({ c with D := p.Data }) (w.heap.size + 1) p (w.heap.size + 1 + 1) zeroC (v1.setCell ⟨w.heap.size, 16, none⟩ (.int .u8 p.Data))) := K.out.setC 16 _ (cpC_setD c _))
    | (refine at_loadC w.heap.size _ K5.out.c _ rfl rfl rfl ?_)
    | (refine at_loadC w.heap.size c K.out.c _ rfl rfl rfl ?_)
    | (refine at_storeC (w.heap.size + 1 + 1) zeroC ({ c with D := p.Data }) K5.out.z _ _ rfl rfl rfl rfl ?_; intro w2 hw2))
  refine retC Tryz.results31 rfl hw2.out.1 rfl ⟨rfl, K5.out.low.trans (hw2.out.2.1 _ K5.out.l2)⟩

theorem rdoes1 (w : World) (c : Cp) (hc : c.wf) (p : Pn) (hp : p.wf) (h : c.Op / 16 = 1) (k : Nat) (hk : c.Op % 16 = k) : Calls Tryz.prog 31 #[.agg (cpC c), .agg (pnC p)] w fun e w' => e = .returned (.agg (cpC (c.up k))) ∧ Below w.heap.size w w' := by
  have hn := fun v => rn_any v c hc
  rw [hk] at hn
  have hk16 : k < 16 := by omega
  have e1 : IntKind.u8.wrap (k : Int) = k := by rw [IntKind.wrap_u8]; omega
  have e2 : (c.Op : Int).tdiv 16 = 1 := by rw [Int.tdiv_eq_ediv_of_nonneg (by omega)]; omega
  have zz := zeroVC
  have hF : Hid (Fr w w.heap.size c (w.heap.size + 1) p (w.heap.size + 1 + 1) zeroC (((w.alloc (.cells (cpC c) 26)).alloc (.cells (pnC p) 38)).alloc (.cells (cpC zeroC) 26))) := Fr.start w c p
  have hd := fun v => rup_any v c hc k (by omega)
  clear hc hp h hk
  go_enter Tryz.func31, Tryz.ntmps31
  go_wp2_with (first
    | (refine gen_world (((w.alloc (.cells (cpC c) 26)).alloc (.cells (pnC p) 38)).alloc (.cells (cpC zeroC) 26)) (Fr w w.heap.size c (w.heap.size + 1) p (w.heap.size + 1 + 1) zeroC) hF.out ?_; intro y K)
    | (go_at_call 27; refine (hn _).mono ?_; rintro e v1 ⟨rfl, hb⟩; replace K : Hid _ := K.out.below hb; have d23 := K.out.c.fOp)
    | (refine at_loadC w.heap.size _ K5.out.c _ rfl rfl rfl ?_)
    | (refine at_loadC w.heap.size c K.out.c _ rfl rfl rfl ?_)
    | (refine at_loadP (w.heap.size + 1) p K.out.p _ rfl rfl rfl ?_)
    | (go_at_call 30; refine (hd _).mono ?_; rintro e v2 ⟨rfl, hb2⟩; replace K : Hid _ := K.out.below hb2)
    | (refine at_storeC w.heap.size c (c.up k) K.out.c _ _ rfl rfl rfl rfl ?_; intro y5 hw5; have K5 : Hid (Fr w w.heap.size (c.up k) (w.heap.size + 1) p (w.heap.size + 1 + 1) zeroC y5) := K.out.putC hw5.out)
    | (refine at_storeC (w.heap.size + 1 + 1) zeroC (c.up k) K5.out.z _ _ rfl rfl rfl rfl ?_; intro w2 hw2))
  refine retC Tryz.results31 rfl hw2.out.1 rfl ⟨rfl, K5.out.low.trans (hw2.out.2.1 _ K5.out.l2)⟩

theorem rdoes2 (w : World) (c : Cp) (hc : c.wf) (p : Pn) (hp : p.wf) (h : c.Op / 16 = 2) (k : Nat) (hk : c.Op % 16 = k) : Calls Tryz.prog 31 #[.agg (cpC c), .agg (pnC p)] w fun e w' => e = .returned (.agg (cpC (c.down k))) ∧ Below w.heap.size w w' := by
  have hn := fun v => rn_any v c hc
  rw [hk] at hn
  have hk16 : k < 16 := by omega
  have e1 : IntKind.u8.wrap (k : Int) = k := by rw [IntKind.wrap_u8]; omega
  have e2 : (c.Op : Int).tdiv 16 = 2 := by rw [Int.tdiv_eq_ediv_of_nonneg (by omega)]; omega
  have zz := zeroVC
  have hF : Hid (Fr w w.heap.size c (w.heap.size + 1) p (w.heap.size + 1 + 1) zeroC (((w.alloc (.cells (cpC c) 26)).alloc (.cells (pnC p) 38)).alloc (.cells (cpC zeroC) 26))) := Fr.start w c p
  have hd := fun v => rdown_any v c hc k (by omega)
  clear hc hp h hk
  go_enter Tryz.func31, Tryz.ntmps31
  go_wp2_with (first
    | (refine gen_world (((w.alloc (.cells (cpC c) 26)).alloc (.cells (pnC p) 38)).alloc (.cells (cpC zeroC) 26)) (Fr w w.heap.size c (w.heap.size + 1) p (w.heap.size + 1 + 1) zeroC) hF.out ?_; intro y K)
    | (go_at_call 27; refine (hn _).mono ?_; rintro e v1 ⟨rfl, hb⟩; replace K : Hid _ := K.out.below hb; have d23 := K.out.c.fOp)
    | (refine at_loadC w.heap.size _ K5.out.c _ rfl rfl rfl ?_)
    | (refine at_loadC w.heap.size c K.out.c _ rfl rfl rfl ?_)
    | (refine at_loadP (w.heap.size + 1) p K.out.p _ rfl rfl rfl ?_)
    | (go_at_call 42; refine (hd _).mono ?_; rintro e v2 ⟨rfl, hb2⟩; replace K : Hid _ := K.out.below hb2)
    | (refine at_storeC w.heap.size c (c.down k) K.out.c _ _ rfl rfl rfl rfl ?_; intro y5 hw5; have K5 : Hid (Fr w w.heap.size (c.down k) (w.heap.size + 1) p (w.heap.size + 1 + 1) zeroC y5) := K.out.putC hw5.out)
    | (refine at_storeC (w.heap.size + 1 + 1) zeroC (c.down k) K5.out.z _ _ rfl rfl rfl rfl ?_; intro w2 hw2))
  refine retC Tryz.results31 rfl hw2.out.1 rfl ⟨rfl, K5.out.low.trans (hw2.out.2.1 _ K5.out.l2)⟩

theorem rdoes3 (w : World) (c : Cp) (hc : c.wf) (hP : c.P < 16) (p : Pn) (hp : p.wf) (h : c.Op / 16 = 3) (k : Nat) (hk : c.Op % 16 = k) : Calls Tryz.prog 31 #[.agg (cpC c), .agg (pnC p)] w fun e w' => e = .returned (.agg (cpC (shortM c p))) ∧ Below w.heap.size w w' := by
  have hn := fun v => rn_any v c hc
  rw [hk] at hn
  have hk16 : k < 16 := by omega
  have e1 : IntKind.u8.wrap (k : Int) = k := by rw [IntKind.wrap_u8]; omega
  have e2 : (c.Op : Int).tdiv 16 = 3 := by rw [Int.tdiv_eq_ediv_of_nonneg (by omega)]; omega
  have zz := zeroVC
  have hF : Hid (Fr w w.heap.size c (w.heap.size + 1) p (w.heap.size + 1 + 1) zeroC (((w.alloc (.cells (cpC c) 26)).alloc (.cells (pnC p) 38)).alloc (.cells (cpC zeroC) 26))) := Fr.start w c p
  have hd := fun v => rshort_any v c hc hP p hp
  clear hc hp h hk
  go_enter Tryz.func31, Tryz.ntmps31
  go_wp2_with (first
    | (refine gen_world (((w.alloc (.cells (cpC c) 26)).alloc (.cells (pnC p) 38)).alloc (.cells (cpC zeroC) 26)) (Fr w w.heap.size c (w.heap.size + 1) p (w.heap.size + 1 + 1) zeroC) hF.out ?_; intro y K)
    | (go_at_call 27; refine (hn _).mono ?_; rintro e v1 ⟨rfl, hb⟩; replace K : Hid _ := K.out.below hb; have d23 := K.out.c.fOp)
    | (refine at_loadC w.heap.size _ K5.out.c _ rfl rfl rfl ?_)
    | (refine at_loadC w.heap.size c K.out.c _ rfl rfl rfl ?_)
    | (refine at_loadP (w.heap.size + 1) p K.out.p _ rfl rfl rfl ?_)
    | (go_at_call 43; refine (hd _).mono ?_; rintro e v2 ⟨rfl, hb2⟩; replace K : Hid _ := K.out.below hb2)
    | (refine at_storeC w.heap.size c (shortM c p) K.out.c _ _ rfl rfl rfl rfl ?_; intro y5 hw5; have K5 : Hid (Fr w w.heap.size (shortM c p) (w.heap.size + 1) p (w.heap.size + 1 + 1) zeroC y5) := K.out.putC hw5.out)
    | (refine at_storeC (w.heap.size + 1 + 1) zeroC (shortM c p) K5.out.z _ _ rfl rfl rfl rfl ?_; intro w2 hw2))
  refine retC Tryz.results31 rfl hw2.out.1 rfl ⟨rfl, K5.out.low.trans (hw2.out.2.1 _ K5.out.l2)⟩

theorem rdoes5 (w : World) (c : Cp) (hc : c.wf) (p : Pn) (hp : p.wf) (h : c.Op / 16 = 5) (k : Nat) (hk : c.Op % 16 = k) : Calls Tryz.prog 31 #[.agg (cpC c), .agg (pnC p)] w fun e w' => e = .returned (.agg (cpC (c))) ∧ Below w.heap.size w w' := by
  have hn := fun v => rn_any v c hc
  rw [hk] at hn
  have hk16 : k < 16 := by omega
  have e1 : IntKind.u8.wrap (k : Int) = k := by rw [IntKind.wrap_u8]; omega
  have e2 : (c.Op : Int).tdiv 16 = 5 := by rw [Int.tdiv_eq_ediv_of_nonneg (by omega)]; omega
  have zz := zeroVC
  have hF : Hid (Fr w w.heap.size c (w.heap.size + 1) p (w.heap.size + 1 + 1) zeroC (((w.alloc (.cells (cpC c) 26)).alloc (.cells (pnC p) 38)).alloc (.cells (cpC zeroC) 26))) := Fr.start w c p
  clear hc hp h hk
  go_enter Tryz.func31, Tryz.ntmps31
  go_wp2_with (first
    | (refine gen_world (((w.alloc (.cells (cpC c) 26)).alloc (.cells (pnC p) 38)).alloc (.cells (cpC zeroC) 26)) (Fr w w.heap.size c (w.heap.size + 1) p (w.heap.size + 1 + 1) zeroC) hF.out ?_; intro y K)
    | (go_at_call 27; refine (hn _).mono ?_; rintro e v1 ⟨rfl, hb⟩; replace K : Hid _ := K.out.below hb; have d23 := K.out.c.fOp)
    | (refine at_loadC w.heap.size c K.out.c _ rfl rfl rfl ?_)
    | (refine at_storeC (w.heap.size + 1 + 1) zeroC (c) K.out.z _ _ rfl rfl rfl rfl ?_; intro w2 hw2))
  refine retC Tryz.results31 rfl hw2.out.1 rfl ⟨rfl, K.out.low.trans (hw2.out.2.1 _ K.out.l2)⟩

theorem rdoes6 (w : World) (c : Cp) (hc : c.wf) (hX : c.X < 16) (p : Pn) (hp : p.wf) (h : c.Op / 16 = 6) (k : Nat) (hk : c.Op % 16 = k) : Calls Tryz.prog 31 #[.agg (cpC c), .agg (pnC p)] w fun e w' => e = .returned (.agg (cpC (portsM c p))) ∧ Below w.heap.size w w' := by
  have hn := fun v => rn_any v c hc
  rw [hk] at hn
  have hk16 : k < 16 := by omega
  have e1 : IntKind.u8.wrap (k : Int) = k := by rw [IntKind.wrap_u8]; omega
  have e2 : (c.Op : Int).tdiv 16 = 6 := by rw [Int.tdiv_eq_ediv_of_nonneg (by omega)]; omega
  have zz := zeroVC
  have hF : Hid (Fr w w.heap.size c (w.heap.size + 1) p (w.heap.size + 1 + 1) zeroC (((w.alloc (.cells (cpC c) 26)).alloc (.cells (pnC p) 38)).alloc (.cells (cpC zeroC) 26))) := Fr.start w c p
  have hd := fun v => rports_any v c hc hX p
  clear hc hp h hk
  go_enter Tryz.func31, Tryz.ntmps31
  go_wp2_with (first
    | (refine gen_world (((w.alloc (.cells (cpC c) 26)).alloc (.cells (pnC p) 38)).alloc (.cells (cpC zeroC) 26)) (Fr w w.heap.size c (w.heap.size + 1) p (w.heap.size + 1 + 1) zeroC) hF.out ?_; intro y K)
    | (go_at_call 27; refine (hn _).mono ?_; rintro e v1 ⟨rfl, hb⟩; replace K : Hid _ := K.out.below hb; have d23 := K.out.c.fOp)
    | (refine at_loadC w.heap.size _ K5.out.c _ rfl rfl rfl ?_)
    | (refine at_loadC w.heap.size c K.out.c _ rfl rfl rfl ?_)
    | (refine at_loadP (w.heap.size + 1) p K.out.p _ rfl rfl rfl ?_)
    | (go_at_call 44; refine (hd _).mono ?_; rintro e v2 ⟨rfl, hb2⟩; replace K : Hid _ := K.out.below hb2)
    | (refine at_storeC w.heap.size c (portsM c p) K.out.c _ _ rfl rfl rfl rfl ?_; intro y5 hw5; have K5 : Hid (Fr w w.heap.size (portsM c p) (w.heap.size + 1) p (w.heap.size + 1 + 1) zeroC y5) := K.out.putC hw5.out)
    | (refine at_storeC (w.heap.size + 1 + 1) zeroC (portsM c p) K5.out.z _ _ rfl rfl rfl rfl ?_; intro w2 hw2))
  refine retC Tryz.results31 rfl hw2.out.1 rfl ⟨rfl, K5.out.low.trans (hw2.out.2.1 _ K5.out.l2)⟩

theorem rdoes7 (w : World) (c : Cp) (hc : c.wf) (hP : c.P < 16) (hX : c.X < 16) (p : Pn) (hp : p.wf) (h : c.Op / 16 = 7) (k : Nat) (hk : c.Op % 16 = k) : Calls Tryz.prog 31 #[.agg (cpC c), .agg (pnC p)] w fun e w' => e = .returned (.agg (cpC (ctrlM c p))) ∧ Below w.heap.size w w' := by
  have hn := fun v => rn_any v c hc
  rw [hk] at hn
  have hk16 : k < 16 := by omega
  have e1 : IntKind.u8.wrap (k : Int) = k := by rw [IntKind.wrap_u8]; omega
  have e2 : (c.Op : Int).tdiv 16 = 7 := by rw [Int.tdiv_eq_ediv_of_nonneg (by omega)]; omega
  have zz := zeroVC
  have hF : Hid (Fr w w.heap.size c (w.heap.size + 1) p (w.heap.size + 1 + 1) zeroC (((w.alloc (.cells (cpC c) 26)).alloc (.cells (pnC p) 38)).alloc (.cells (cpC zeroC) 26))) := Fr.start w c p
  have hd := fun v => rcontrol_any v c hc hP hX p hp
  clear hc hp h hk
  go_enter Tryz.func31, Tryz.ntmps31
  go_wp2_with (first
    | (refine gen_world (((w.alloc (.cells (cpC c) 26)).alloc (.cells (pnC p) 38)).alloc (.cells (cpC zeroC) 26)) (Fr w w.heap.size c (w.heap.size + 1) p (w.heap.size + 1 + 1) zeroC) hF.out ?_; intro y K)
    | (go_at_call 27; refine (hn _).mono ?_; rintro e v1 ⟨rfl, hb⟩; replace K : Hid _ := K.out.below hb; have d23 := K.out.c.fOp)
    | (refine at_loadC w.heap.size _ K5.out.c _ rfl rfl rfl ?_)
    | (refine at_loadC w.heap.size c K.out.c _ rfl rfl rfl ?_)
    | (refine at_loadP (w.heap.size + 1) p K.out.p _ rfl rfl rfl ?_)
    | (go_at_call 45; refine (hd _).mono ?_; rintro e v2 ⟨rfl, hb2⟩; replace K : Hid _ := K.out.below hb2)
    | (refine at_storeC w.heap.size c (ctrlM c p) K.out.c _ _ rfl rfl rfl rfl ?_; intro y5 hw5; have K5 : Hid (Fr w w.heap.size (ctrlM c p) (w.heap.size + 1) p (w.heap.size + 1 + 1) zeroC y5) := K.out.putC hw5.out)
    | (refine at_storeC (w.heap.size + 1 + 1) zeroC (ctrlM c p) K5.out.z _ _ rfl rfl rfl rfl ?_; intro w2 hw2))
  refine retC Tryz.results31 rfl hw2.out.1 rfl ⟨rfl, K5.out.low.trans (hw2.out.2.1 _ K5.out.l2)⟩

theorem rdoes12 (w : World) (c : Cp) (hc : c.wf) (hP : c.P < 16) (p : Pn) (hp : p.wf) (h : c.Op / 16 = 12) (k : Nat) (hk : c.Op % 16 = k) : Calls Tryz.prog 31 #[.agg (cpC c), .agg (pnC p)] w fun e w' => e = .returned (.agg (cpC (long1M c p))) ∧ Below w.heap.size w w' := by
  have hn := fun v => rn_any v c hc
  rw [hk] at hn
  have hk16 : k < 16 := by omega
  have e1 : IntKind.u8.wrap (k : Int) = k := by rw [IntKind.wrap_u8]; omega
  have e2 : (c.Op : Int).tdiv 16 = 12 := by rw [Int.tdiv_eq_ediv_of_nonneg (by omega)]; omega
  have zz := zeroVC
  have hF : Hid (Fr w w.heap.size c (w.heap.size + 1) p (w.heap.size + 1 + 1) zeroC (((w.alloc (.cells (cpC c) 26)).alloc (.cells (pnC p) 38)).alloc (.cells (cpC zeroC) 26))) := Fr.start w c p
  have hd := fun v => rlong1_any v c hc hP p hp
  clear hc hp h hk
  go_enter Tryz.func31, Tryz.ntmps31
  go_wp2_with (first
    | (refine gen_world (((w.alloc (.cells (cpC c) 26)).alloc (.cells (pnC p) 38)).alloc (.cells (cpC zeroC) 26)) (Fr w w.heap.size c (w.heap.size + 1) p (w.heap.size + 1 + 1) zeroC) hF.out ?_; intro y K)
    | (go_at_call 27; refine (hn _).mono ?_; rintro e v1 ⟨rfl, hb⟩; replace K : Hid _ := K.out.below hb; have d23 := K.out.c.fOp)
    | (refine at_loadC w.heap.size _ K5.out.c _ rfl rfl rfl ?_)
    | (refine at_loadC w.heap.size c K.out.c _ rfl rfl rfl ?_)
    | (refine at_loadP (w.heap.size + 1) p K.out.p _ rfl rfl rfl ?_)
    | (go_at_call 33; refine (hd _).mono ?_; rintro e v2 ⟨rfl, hb2⟩; replace K : Hid _ := K.out.below hb2)
    | (refine at_storeC w.heap.size c (long1M c p) K.out.c _ _ rfl rfl rfl rfl ?_; intro y5 hw5; have K5 : Hid (Fr w w.heap.size (long1M c p) (w.heap.size + 1) p (w.heap.size + 1 + 1) zeroC y5) := K.out.putC hw5.out)
    | (refine at_storeC (w.heap.size + 1 + 1) zeroC (long1M c p) K5.out.z _ _ rfl rfl rfl rfl ?_; intro w2 hw2))
  refine retC Tryz.results31 rfl hw2.out.1 rfl ⟨rfl, K5.out.low.trans (hw2.out.2.1 _ K5.out.l2)⟩

theorem rdoes13 (w : World) (c : Cp) (hc : c.wf) (p : Pn) (hp : p.wf) (h : c.Op / 16 = 13) (k : Nat) (hk : c.Op % 16 = k) : Calls Tryz.prog 31 #[.agg (cpC c), .agg (pnC p)] w fun e w' => e = .returned (.agg (cpC ({ c with P := k }))) ∧ Below w.heap.size w w' := by
  have hn := fun v => rn_any v c hc
  rw [hk] at hn
  have hk16 : k < 16 := by omega
  have e1 : IntKind.u8.wrap (k : Int) = k := by rw [IntKind.wrap_u8]; omega
  have e2 : (c.Op : Int).tdiv 16 = 13 := by rw [Int.tdiv_eq_ediv_of_nonneg (by omega)]; omega
  have zz := zeroVC
  have hF : Hid (Fr w w.heap.size c (w.heap.size + 1) p (w.heap.size + 1 + 1) zeroC (((w.alloc (.cells (cpC c) 26)).alloc (.cells (pnC p) 38)).alloc (.cells (cpC zeroC) 26))) := Fr.start w c p
  clear hc hp h hk
  go_enter Tryz.func31, Tryz.ntmps31
  go_wp2_with (first
    | (refine gen_world (((w.alloc (.cells (cpC c) 26)).alloc (.cells (pnC p) 38)).alloc (.cells (cpC zeroC) 26)) (Fr w w.heap.size c (w.heap.size + 1) p (w.heap.size + 1 + 1) zeroC) hF.out ?_; intro y K)
    | (go_at_call 27; refine (hn _).mono ?_; rintro e v1 ⟨rfl, hb⟩; replace K : Hid _ := K.out.below hb; have d23 := K.out.c.fOp; have d1 := K.out.p.fData; have dd := K.out.c.fP; have ff := K.out.c.fz 18; have K5 : Hid (Fr w w.heap.size ({ c with P := k }) (w.heap.size + 1) p (w.heap.size + 1 + 1) zeroC (v1.setCell ⟨w.heap.size, 18, none⟩ (.int .u8 (k : Int)))) := K.out.setC 18 _ (cpC_setP c k))
    | (refine at_loadC w.heap.size _ K5.out.c _ rfl rfl rfl ?_)
    | (refine at_loadC w.heap.size c K.out.c _ rfl rfl rfl ?_)
    | (refine at_storeC (w.heap.size + 1 + 1) zeroC ({ c with P := k }) K5.out.z _ _ rfl rfl rfl rfl ?_; intro w2 hw2))
  refine retC Tryz.results31 rfl hw2.out.1 rfl ⟨rfl, K5.out.low.trans (hw2.out.2.1 _ K5.out.l2)⟩

theorem rdoes14 (w : World) (c : Cp) (hc : c.wf) (p : Pn) (hp : p.wf) (h : c.Op / 16 = 14) (k : Nat) (hk : c.Op % 16 = k) : Calls Tryz.prog 31 #[.agg (cpC c), .agg (pnC p)] w fun e w' => e = .returned (.agg (cpC ({ c with X := k }))) ∧ Below w.heap.size w w' := by
  have hn := fun v => rn_any v c hc
  rw [hk] at hn
  have hk16 : k < 16 := by omega
  have e1 : IntKind.u8.wrap (k : Int) = k := by rw [IntKind.wrap_u8]; omega
  have e2 : (c.Op : Int).tdiv 16 = 14 := by rw [Int.tdiv_eq_ediv_of_nonneg (by omega)]; omega
  have zz := zeroVC
  have hF : Hid (Fr w w.heap.size c (w.heap.size + 1) p (w.heap.size + 1 + 1) zeroC (((w.alloc (.cells (cpC c) 26)).alloc (.cells (pnC p) 38)).alloc (.cells (cpC zeroC) 26))) := Fr.start w c p
  clear hc hp h hk
  go_enter Tryz.func31, Tryz.ntmps31
  go_wp2_with (first
    | (refine gen_world (((w.alloc (.cells (cpC c) 26)).alloc (.cells (pnC p) 38)).alloc (.cells (cpC zeroC) 26)) (Fr w w.heap.size c (w.heap.size + 1) p (w.heap.size + 1 + 1) zeroC) hF.out ?_; intro y K)
    | (go_at_call 27; refine (hn _).mono ?_; rintro e v1 ⟨rfl, hb⟩; replace K : Hid _ := K.out.below hb; have d23 := K.out.c.fOp; have d1 := K.out.p.fData; have dd := K.out.c.fX; have ff := K.out.c.fz 19; have K5 : Hid (Fr w w.heap.size ({ c with X := k }) (w.heap.size + 1) p (w.heap.size + 1 + 1) zeroC (v1.setCell ⟨w.heap.size, 19, none⟩ (.int .u8 (k : Int)))) := K.out.setC 19 _ (cpC_setX c k))
    | (refine at_loadC w.heap.size _ K5.out.c _ rfl rfl rfl ?_)
    | (refine at_loadC w.heap.size c K.out.c _ rfl rfl rfl ?_)
    | (refine at_storeC (w.heap.size + 1 + 1) zeroC ({ c with X := k }) K5.out.z _ _ rfl rfl rfl rfl ?_; intro w2 hw2))
  refine retC Tryz.results31 rfl hw2.out.1 rfl ⟨rfl, K5.out.low.trans (hw2.out.2.1 _ K5.out.l2)⟩

theorem rdoes15 (w : World) (c : Cp) (hc : c.wf) (hP : c.P < 16) (p : Pn) (hp : p.wf) (h : c.Op / 16 = 15) (k : Nat) (hk : c.Op % 16 = k) : Calls Tryz.prog 31 #[.agg (cpC c), .agg (pnC p)] w fun e w' => e = .returned (.agg (cpC (sumsM c p))) ∧ Below w.heap.size w w' := by
  have hn := fun v => rn_any v c hc
  rw [hk] at hn
  have hk16 : k < 16 := by omega
  have e1 : IntKind.u8.wrap (k : Int) = k := by rw [IntKind.wrap_u8]; omega
  have e2 : (c.Op : Int).tdiv 16 = 15 := by rw [Int.tdiv_eq_ediv_of_nonneg (by omega)]; omega
  have zz := zeroVC
  have hF : Hid (Fr w w.heap.size c (w.heap.size + 1) p (w.heap.size + 1 + 1) zeroC (((w.alloc (.cells (cpC c) 26)).alloc (.cells (pnC p) 38)).alloc (.cells (cpC zeroC) 26))) := Fr.start w c p
  have hd := fun v => rsums_any v c hc hP p hp
  clear hc hp h hk
  go_enter Tryz.func31, Tryz.ntmps31
  go_wp2_with (first
    | (refine gen_world (((w.alloc (.cells (cpC c) 26)).alloc (.cells (pnC p) 38)).alloc (.cells (cpC zeroC) 26)) (Fr w w.heap.size c (w.heap.size + 1) p (w.heap.size + 1 + 1) zeroC) hF.out ?_; intro y K)
    | (go_at_call 27; refine (hn _).mono ?_; rintro e v1 ⟨rfl, hb⟩; replace K : Hid _ := K.out.below hb; have d23 := K.out.c.fOp)
    | (refine at_loadC w.heap.size _ K5.out.c _ rfl rfl rfl ?_)
    | (refine at_loadC w.heap.size c K.out.c _ rfl rfl rfl ?_)
    | (refine at_loadP (w.heap.size + 1) p K.out.p _ rfl rfl rfl ?_)
    | (go_at_call 49; refine (hd _).mono ?_; rintro e v2 ⟨rfl, hb2⟩; replace K : Hid _ := K.out.below hb2)
    | (refine at_storeC w.heap.size c (sumsM c p) K.out.c _ _ rfl rfl rfl rfl ?_; intro y5 hw5; have K5 : Hid (Fr w w.heap.size (sumsM c p) (w.heap.size + 1) p (w.heap.size + 1 + 1) zeroC y5) := K.out.putC hw5.out)
    | (refine at_storeC (w.heap.size + 1 + 1) zeroC (sumsM c p) K5.out.z _ _ rfl rfl rfl rfl ?_; intro w2 hw2))
  refine retC Tryz.results31 rfl hw2.out.1 rfl ⟨rfl, K5.out.low.trans (hw2.out.2.1 _ K5.out.l2)⟩

theorem rdoes4 (w : World) (c : Cp) (hc : c.wf) (p : Pn) (hp : p.wf) (h : c.Op / 16 = 4) (k : Nat) (hk : c.Op % 16 = k) : Calls Tryz.prog 31 #[.agg (cpC c), .agg (pnC p)] w fun e w' => e = .returned (.agg (cpC ({ c with D := p.Data }.up k))) ∧ Below w.heap.size w w' := by
  have hn := fun v => rn_any v c hc
  rw [hk] at hn
  have hk16 : k < 16 := by omega
  have e1 : IntKind.u8.wrap (k : Int) = k := by rw [IntKind.wrap_u8]; omega
  have e2 : (c.Op : Int).tdiv 16 = 4 := by rw [Int.tdiv_eq_ediv_of_nonneg (by omega)]; omega
  have zz := zeroVC
  have hF : Hid (Fr w w.heap.size c (w.heap.size + 1) p (w.heap.size + 1 + 1) zeroC (((w.alloc (.cells (cpC c) 26)).alloc (.cells (pnC p) 38)).alloc (.cells (cpC zeroC) 26))) := Fr.start w c p
  have hu := fun v => rup_any v { c with D := p.Data } (⟨hc.R, hp.Data, hc.P, hc.X, hc.T, hc.Op, hc.B, hc.Ph⟩) k hk16
  clear hc hp h hk
  go_enter Tryz.func31, Tryz.ntmps31
  go_wp2_with (first
    | (refine gen_world (((w.alloc (.cells (cpC c) 26)).alloc (.cells (pnC p) 38)).alloc (.cells (cpC zeroC) 26)) (Fr w w.heap.size c (w.heap.size + 1) p (w.heap.size + 1 + 1) zeroC) hF.out ?_; intro y K)
    | (go_at_call 27; refine (hn _).mono ?_; rintro e v1 ⟨rfl, hb⟩; replace K : Hid _ := K.out.below hb; have d23 := K.out.c.fOp; have d1 := K.out.p.fData; have d16 := K.out.c.fD; have f16 := K.out.c.fz 16; have K1 : Hid (Fr w w.heap.size { c with D := p.Data } (w.heap.size + 1) p (w.heap.size + 1 + 1) zeroC (v1.setCell ⟨w.heap.size, 16, none⟩ (.int .u8 p.Data))) := K.out.setC 16 _ (cpC_setD c p.Data))
    | (refine at_loadC w.heap.size _ K5.out.c _ rfl rfl rfl ?_)
    | (refine at_loadC w.heap.size _ K1.out.c _ rfl rfl rfl ?_)
    | (refine at_loadC w.heap.size c K.out.c _ rfl rfl rfl ?_)
    | (go_at_call 30; refine (hu _).mono ?_; rintro e v2 ⟨rfl, hb2⟩; have K2 : Hid _ := K1.out.below hb2)
    | (refine at_storeC w.heap.size { c with D := p.Data } ({ c with D := p.Data }.up k) K2.out.c _ _ rfl rfl rfl rfl ?_; intro y5 hw5; have K5 : Hid (Fr w w.heap.size ({ c with D := p.Data }.up k) (w.heap.size + 1) p (w.heap.size + 1 + 1) zeroC y5) := K2.out.putC hw5.out)
    | (refine at_storeC (w.heap.size + 1 + 1) zeroC ({ c with D := p.Data }.up k) K5.out.z _ _ rfl rfl rfl rfl ?_; intro w2 hw2))
  refine retC Tryz.results31 rfl hw2.out.1 rfl ⟨rfl, K5.out.low.trans (hw2.out.2.1 _ K5.out.l2)⟩

end Go.Proofs.YtbeeefekndcgnaaGreatDoor

namespace Go.Proofs.YtbeeefekndcgnaaGreatDoor
open Go Go.RowKit
set_option linter.unusedVariables false
set_option maxHeartbeats 1000000
set_option maxRecDepth 20000

theorem rdoes8 (w : World) (c : Cp) (hc : c.wf) (p : Pn) (hp : p.wf) (h : c.Op / 16 = 8) (k : Nat) (hk : c.Op % 16 = k) : Calls Tryz.prog 31 #[.agg (cpC c), .agg (pnC p)] w fun e w' => e = .returned (.agg (cpC ({ c with D := c.R k % 256 }))) ∧ Below w.heap.size w w' := by
  have hn := fun v => rn_any v c hc
  rw [hk] at hn
  have hk16 : k < 16 := by omega
  have e1 : IntKind.u8.wrap (k : Int) = k := by rw [IntKind.wrap_u8]; omega
  have e2 : (c.Op : Int).tdiv 16 = 8 := by rw [Int.tdiv_eq_ediv_of_nonneg (by omega)]; omega
  have zz := zeroVC
  have hF : Hid (Fr w w.heap.size c (w.heap.size + 1) p (w.heap.size + 1 + 1) zeroC (((w.alloc (.cells (cpC c) 26)).alloc (.cells (pnC p) 38)).alloc (.cells (cpC zeroC) 26))) := Fr.start w c p
  have hr := hc.R k
  have ix := fun v => idx (g := w.heap.size) (off := 0) (N := 16) Tryz.underlying23 infoR .u8 k v hk16
  simp only [Nat.zero_add, Nat.mul_one] at ix
  have hR : Hid (∀ b x, BoxC x b c → x.cell? ⟨b, k, none⟩ = some (.int .u16 (c.R k))) := fun b x h => h.r k hk16
  have hl := fun v => rlow_any (c.R k) hr.1 hr.2 v
  clear hc hp h hk hr
  go_enter Tryz.func31, Tryz.ntmps31
  go_wp2_with (first
    | (refine gen_world (((w.alloc (.cells (cpC c) 26)).alloc (.cells (pnC p) 38)).alloc (.cells (cpC zeroC) 26)) (Fr w w.heap.size c (w.heap.size + 1) p (w.heap.size + 1 + 1) zeroC) hF.out ?_; intro y K)
    | (go_at_call 27; refine (hn _).mono ?_; rintro e v1 ⟨rfl, hb⟩; replace K : Hid _ := K.out.below hb; have d23 := K.out.c.fOp; have dR := hR.out _ _ K.out.c; have d16 := K.out.c.fD; have f16 := K.out.c.fz 16; have K5 : Hid (Fr w w.heap.size { c with D := c.R k % 256 } (w.heap.size + 1) p (w.heap.size + 1 + 1) zeroC (v1.setCell ⟨w.heap.size, 16, none⟩ (.int .u8 (c.R k % 256)))) := K.out.setC 16 _ (cpC_setD c _))
    | (refine at_loadC w.heap.size _ K5.out.c _ rfl rfl rfl ?_)
    | (refine at_loadC w.heap.size c K.out.c _ rfl rfl rfl ?_)
    | (go_at_call 46; refine (hl _).mono ?_; rintro e v2 ⟨rfl, rfl⟩)
    | (refine at_storeC (w.heap.size + 1 + 1) zeroC ({ c with D := c.R k % 256 }) K5.out.z _ _ rfl rfl rfl rfl ?_; intro w2 hw2))
  refine retC Tryz.results31 rfl hw2.out.1 rfl ⟨rfl, K5.out.low.trans (hw2.out.2.1 _ K5.out.l2)⟩

theorem rdoes9 (w : World) (c : Cp) (hc : c.wf) (p : Pn) (hp : p.wf) (h : c.Op / 16 = 9) (k : Nat) (hk : c.Op % 16 = k) : Calls Tryz.prog 31 #[.agg (cpC c), .agg (pnC p)] w fun e w' => e = .returned (.agg (cpC ({ c with D := c.R k / 256 }))) ∧ Below w.heap.size w w' := by
  have hn := fun v => rn_any v c hc
  rw [hk] at hn
  have hk16 : k < 16 := by omega
  have e1 : IntKind.u8.wrap (k : Int) = k := by rw [IntKind.wrap_u8]; omega
  have e2 : (c.Op : Int).tdiv 16 = 9 := by rw [Int.tdiv_eq_ediv_of_nonneg (by omega)]; omega
  have zz := zeroVC
  have hF : Hid (Fr w w.heap.size c (w.heap.size + 1) p (w.heap.size + 1 + 1) zeroC (((w.alloc (.cells (cpC c) 26)).alloc (.cells (pnC p) 38)).alloc (.cells (cpC zeroC) 26))) := Fr.start w c p
  have hr := hc.R k
  have ix := fun v => idx (g := w.heap.size) (off := 0) (N := 16) Tryz.underlying23 infoR .u8 k v hk16
  simp only [Nat.zero_add, Nat.mul_one] at ix
  have hR : Hid (∀ b x, BoxC x b c → x.cell? ⟨b, k, none⟩ = some (.int .u16 (c.R k))) := fun b x h => h.r k hk16
  have hl := fun v => rhigh_any (c.R k) hr.1 hr.2 v
  clear hc hp h hk hr
  go_enter Tryz.func31, Tryz.ntmps31
  go_wp2_with (first
    | (refine gen_world (((w.alloc (.cells (cpC c) 26)).alloc (.cells (pnC p) 38)).alloc (.cells (cpC zeroC) 26)) (Fr w w.heap.size c (w.heap.size + 1) p (w.heap.size + 1 + 1) zeroC) hF.out ?_; intro y K)
    | (go_at_call 27; refine (hn _).mono ?_; rintro e v1 ⟨rfl, hb⟩; replace K : Hid _ := K.out.below hb; have d23 := K.out.c.fOp; have dR := hR.out _ _ K.out.c; have d16 := K.out.c.fD; have f16 := K.out.c.fz 16; have K5 : Hid (Fr w w.heap.size { c with D := c.R k / 256 } (w.heap.size + 1) p (w.heap.size + 1 + 1) zeroC (v1.setCell ⟨w.heap.size, 16, none⟩ (.int .u8 (c.R k / 256)))) := K.out.setC 16 _ (cpC_setD c _))
    | (refine at_loadC w.heap.size _ K5.out.c _ rfl rfl rfl ?_)
    | (refine at_loadC w.heap.size c K.out.c _ rfl rfl rfl ?_)
    | (go_at_call 47; refine (hl _).mono ?_; rintro e v2 ⟨rfl, rfl⟩)
    | (refine at_storeC (w.heap.size + 1 + 1) zeroC ({ c with D := c.R k / 256 }) K5.out.z _ _ rfl rfl rfl rfl ?_; intro w2 hw2))
  refine retC Tryz.results31 rfl hw2.out.1 rfl ⟨rfl, K5.out.low.trans (hw2.out.2.1 _ K5.out.l2)⟩

theorem rdoes10 (w : World) (c : Cp) (hc : c.wf) (p : Pn) (hp : p.wf) (h : c.Op / 16 = 10) (k : Nat) (hk : c.Op % 16 = k) : Calls Tryz.prog 31 #[.agg (cpC c), .agg (pnC p)] w fun e w' => e = .returned (.agg (cpC (c.setR k (c.R k / 256 * 256 + c.D)))) ∧ Below w.heap.size w w' := by
  have hn := fun v => rn_any v c hc
  rw [hk] at hn
  have hk16 : k < 16 := by omega
  have e1 : IntKind.u8.wrap (k : Int) = k := by rw [IntKind.wrap_u8]; omega
  have e2 : (c.Op : Int).tdiv 16 = 10 := by rw [Int.tdiv_eq_ediv_of_nonneg (by omega)]; omega
  have zz := zeroVC
  have hF : Hid (Fr w w.heap.size c (w.heap.size + 1) p (w.heap.size + 1 + 1) zeroC (((w.alloc (.cells (cpC c) 26)).alloc (.cells (pnC p) 38)).alloc (.cells (cpC zeroC) 26))) := Fr.start w c p
  have hr := hc.R k
  have ix := fun v => idx (g := w.heap.size) (off := 0) (N := 16) Tryz.underlying23 infoR .u8 k v hk16
  simp only [Nat.zero_add, Nat.mul_one] at ix
  have hR : Hid (∀ b x, BoxC x b c → x.cell? ⟨b, k, none⟩ = some (.int .u16 (c.R k))) := fun b x h => h.r k hk16
  have hl := fun v => rhigh_any (c.R k) hr.1 hr.2 v
  have hw := fun v => rword_any (c.R k / 256) c.D (by omega) (by omega) hc.D.1 hc.D.2 v
  have hS : Hid ((cpC c).setIfInBounds k (.int .u16 (c.R k / 256 * 256 + c.D)) = cpC (c.setR k (c.R k / 256 * 256 + c.D))) := cpC_setR c k hk16 _
  clear hc hp h hk hr hk16
  go_enter Tryz.func31, Tryz.ntmps31
  go_wp2_with (first
    | (refine gen_world (((w.alloc (.cells (cpC c) 26)).alloc (.cells (pnC p) 38)).alloc (.cells (cpC zeroC) 26)) (Fr w w.heap.size c (w.heap.size + 1) p (w.heap.size + 1 + 1) zeroC) hF.out ?_; intro y K)
    | (go_at_call 27; refine (hn _).mono ?_; rintro e v1 ⟨rfl, hb⟩; replace K : Hid _ := K.out.below hb; have d23 := K.out.c.fOp)
    | (refine at_loadC w.heap.size c K.out.c _ rfl rfl rfl ?_))
  refine region_class_tail 11 (Fr w w.heap.size c (w.heap.size + 1) p (w.heap.size + 1 + 1) zeroC) (by kernel_rfl) (by kernel_rfl) (K.out.below (below_drew (Below.refl _ _))) ?_
  simp only [List.take_succ_cons, List.take_zero, List.drop_succ_cons, List.drop_zero]
  refine quiet_one (.int .u8 (k : Int)) rfl (fun y hy => by go_simp) ?_
  refine quiet_one (.int .u8 (k : Int)) rfl (fun y hy => by go_simp) ?_
  refine quiet_one (.pointer (some ⟨w.heap.size, 0, none⟩)) rfl (fun y hy => by go_simp) ?_
  refine quiet_one (.pointer (some ⟨w.heap.size, k, none⟩)) rfl (fun y hy => by go_simp) ?_
  refine quiet_one (.int .u16 (c.R k)) rfl (fun y hy => by have d := hR.out _ _ hy.c; go_simp) ?_
  refine quiet_one (.int .u8 (c.R k / 256)) rfl (fun y hy => by have d := (hl y).mono fun e w' (h : _ ∧ _) => And.intro h.1 (show Fr w w.heap.size c (w.heap.size + 1) p (w.heap.size + 1 + 1) zeroC w' from h.2 ▸ hy); go_simp) ?_
  refine quiet_one (.pointer (some ⟨w.heap.size, 16, none⟩)) rfl (fun y hy => by go_simp) ?_
  refine quiet_one (.int .u8 c.D) rfl (fun y hy => by have d := hy.c.fD; go_simp) ?_
  refine quiet_one (.int .u16 (c.R k / 256 * 256 + c.D)) rfl (fun y hy => by have d := (hw y).mono fun e w' (h : _ ∧ _) => And.intro h.1 (show Fr w w.heap.size c (w.heap.size + 1) p (w.heap.size + 1 + 1) zeroC w' from h.2 ▸ hy); go_simp) ?_
  refine quiet_one (.pointer (some ⟨w.heap.size, 0, none⟩)) rfl (fun y hy => by go_simp) ?_
  refine quiet_one (.pointer (some ⟨w.heap.size, k, none⟩)) rfl (fun y hy => by go_simp) ?_
  refine wpQuiet_nil ?_
  intro y3 K3
  have dR := hR.out _ _ K3.c
  have fR := K3.c.fz k
  have K5 : Hid (Fr w w.heap.size (c.setR k (c.R k / 256 * 256 + c.D)) (w.heap.size + 1) p (w.heap.size + 1 + 1) zeroC (y3.setCell ⟨w.heap.size, k, none⟩ (.int .u16 (c.R k / 256 * 256 + c.D)))) := K3.setC k _ hS.out
  clear K3
  go_simp
  go_wp2_with (first
    | (refine at_loadC w.heap.size _ K5.out.c _ rfl rfl rfl ?_)
    | (refine at_storeC (w.heap.size + 1 + 1) zeroC (c.setR k (c.R k / 256 * 256 + c.D)) K5.out.z _ _ rfl rfl rfl rfl ?_; intro w2 hw2))
  refine retC Tryz.results31 rfl hw2.out.1 rfl ⟨rfl, K5.out.low.trans (hw2.out.2.1 _ K5.out.l2)⟩

theorem rdoes11 (w : World) (c : Cp) (hc : c.wf) (p : Pn) (hp : p.wf) (h : c.Op / 16 = 11) (k : Nat) (hk : c.Op % 16 = k) : Calls Tryz.prog 31 #[.agg (cpC c), .agg (pnC p)] w fun e w' => e = .returned (.agg (cpC (c.setR k (c.D * 256 + c.R k % 256)))) ∧ Below w.heap.size w w' := by
  have hn := fun v => rn_any v c hc
  rw [hk] at hn
  have hk16 : k < 16 := by omega
  have e1 : IntKind.u8.wrap (k : Int) = k := by rw [IntKind.wrap_u8]; omega
  have e2 : (c.Op : Int).tdiv 16 = 11 := by rw [Int.tdiv_eq_ediv_of_nonneg (by omega)]; omega
  have zz := zeroVC
  have hF : Hid (Fr w w.heap.size c (w.heap.size + 1) p (w.heap.size + 1 + 1) zeroC (((w.alloc (.cells (cpC c) 26)).alloc (.cells (pnC p) 38)).alloc (.cells (cpC zeroC) 26))) := Fr.start w c p
  have hr := hc.R k
  have ix := fun v => idx (g := w.heap.size) (off := 0) (N := 16) Tryz.underlying23 infoR .u8 k v hk16
  simp only [Nat.zero_add, Nat.mul_one] at ix
  have hR : Hid (∀ b x, BoxC x b c → x.cell? ⟨b, k, none⟩ = some (.int .u16 (c.R k))) := fun b x h => h.r k hk16
  have hl := fun v => rlow_any (c.R k) hr.1 hr.2 v
  have hw := fun v => rword_any c.D (c.R k % 256) hc.D.1 hc.D.2 (by omega) (by omega) v
  have hS : Hid ((cpC c).setIfInBounds k (.int .u16 (c.D * 256 + c.R k % 256)) = cpC (c.setR k (c.D * 256 + c.R k % 256))) := cpC_setR c k hk16 _
  clear hc hp h hk hr hk16
  go_enter Tryz.func31, Tryz.ntmps31
  go_wp2_with (first
    | (refine gen_world (((w.alloc (.cells (cpC c) 26)).alloc (.cells (pnC p) 38)).alloc (.cells (cpC zeroC) 26)) (Fr w w.heap.size c (w.heap.size + 1) p (w.heap.size + 1 + 1) zeroC) hF.out ?_; intro y K)
    | (go_at_call 27; refine (hn _).mono ?_; rintro e v1 ⟨rfl, hb⟩; replace K : Hid _ := K.out.below hb; have d23 := K.out.c.fOp)
    | (refine at_loadC w.heap.size c K.out.c _ rfl rfl rfl ?_))
  refine region_class_tail 11 (Fr w w.heap.size c (w.heap.size + 1) p (w.heap.size + 1 + 1) zeroC) (by kernel_rfl) (by kernel_rfl) (K.out.below (below_drew (Below.refl _ _))) ?_
  simp only [List.take_succ_cons, List.take_zero, List.drop_succ_cons, List.drop_zero]
  refine quiet_one (.int .u8 (k : Int)) rfl (fun y hy => by go_simp) ?_
  refine quiet_one (.pointer (some ⟨w.heap.size, 16, none⟩)) rfl (fun y hy => by go_simp) ?_
  refine quiet_one (.int .u8 c.D) rfl (fun y hy => by have d := hy.c.fD; go_simp) ?_
  refine quiet_one (.int .u8 (k : Int)) rfl (fun y hy => by go_simp) ?_
  refine quiet_one (.pointer (some ⟨w.heap.size, 0, none⟩)) rfl (fun y hy => by go_simp) ?_
  refine quiet_one (.pointer (some ⟨w.heap.size, k, none⟩)) rfl (fun y hy => by go_simp) ?_
  refine quiet_one (.int .u16 (c.R k)) rfl (fun y hy => by have d := hR.out _ _ hy.c; go_simp) ?_
  refine quiet_one (.int .u8 (c.R k % 256)) rfl (fun y hy => by have d := (hl y).mono fun e w' (h : _ ∧ _) => And.intro h.1 (show Fr w w.heap.size c (w.heap.size + 1) p (w.heap.size + 1 + 1) zeroC w' from h.2 ▸ hy); go_simp) ?_
  refine quiet_one (.int .u16 (c.D * 256 + c.R k % 256)) rfl (fun y hy => by have d := (hw y).mono fun e w' (h : _ ∧ _) => And.intro h.1 (show Fr w w.heap.size c (w.heap.size + 1) p (w.heap.size + 1 + 1) zeroC w' from h.2 ▸ hy); go_simp) ?_
  refine quiet_one (.pointer (some ⟨w.heap.size, 0, none⟩)) rfl (fun y hy => by go_simp) ?_
  refine quiet_one (.pointer (some ⟨w.heap.size, k, none⟩)) rfl (fun y hy => by go_simp) ?_
  refine wpQuiet_nil ?_
  intro y3 K3
  have dR := hR.out _ _ K3.c
  have fR := K3.c.fz k
  have K5 : Hid (Fr w w.heap.size (c.setR k (c.D * 256 + c.R k % 256)) (w.heap.size + 1) p (w.heap.size + 1 + 1) zeroC (y3.setCell ⟨w.heap.size, k, none⟩ (.int .u16 (c.D * 256 + c.R k % 256)))) := K3.setC k _ hS.out
  clear K3
  go_simp
  go_wp2_with (first
    | (refine at_loadC w.heap.size _ K5.out.c _ rfl rfl rfl ?_)
    | (refine at_storeC (w.heap.size + 1 + 1) zeroC (c.setR k (c.D * 256 + c.R k % 256)) K5.out.z _ _ rfl rfl rfl rfl ?_; intro w2 hw2))
  refine retC Tryz.results31 rfl hw2.out.1 rfl ⟨rfl, K5.out.low.trans (hw2.out.2.1 _ K5.out.l2)⟩

theorem rdoes_any (w : World) (c : Cp) (hc : c.wf) (hP : c.P < 16) (hX : c.X < 16) (p : Pn) (hp : p.wf) : Calls Tryz.prog 31 #[.agg (cpC c), .agg (pnC p)] w fun e w' => e = .returned (.agg (cpC (doesM c p))) ∧ Below w.heap.size w w' := by
  have ho := hc.Op
  unfold doesM
  rcases (show c.Op / 16 = 0 ∨ c.Op / 16 = 1 ∨ c.Op / 16 = 2 ∨ c.Op / 16 = 3 ∨ c.Op / 16 = 4 ∨ c.Op / 16 = 5 ∨ c.Op / 16 = 6 ∨ c.Op / 16 = 7 ∨ c.Op / 16 = 8 ∨ c.Op / 16 = 9 ∨ c.Op / 16 = 10 ∨ c.Op / 16 = 11 ∨ c.Op / 16 = 12 ∨ c.Op / 16 = 13 ∨ c.Op / 16 = 14 ∨ c.Op / 16 = 15 by omega) with h | h | h | h | h | h | h | h | h | h | h | h | h | h | h | h <;> simp only [h]
  · by_cases h0 : c.Op % 16 = 0
    · rw [if_pos h0]; exact rdoes00 w c hc p hp h _ rfl h0
    · rw [if_neg h0]; exact rdoes01 w c hc p hp h _ rfl h0
  · exact rdoes1 w c hc p hp h _ rfl
  · exact rdoes2 w c hc p hp h _ rfl
  · exact rdoes3 w c hc hP p hp h _ rfl
  · exact rdoes4 w c hc p hp h _ rfl
  · exact rdoes5 w c hc p hp h _ rfl
  · exact rdoes6 w c hc hX p hp h _ rfl
  · exact rdoes7 w c hc hP hX p hp h _ rfl
  · exact rdoes8 w c hc p hp h _ rfl
  · exact rdoes9 w c hc p hp h _ rfl
  · exact rdoes10 w c hc p hp h _ rfl
  · exact rdoes11 w c hc p hp h _ rfl
  · exact rdoes12 w c hc hP p hp h _ rfl
  · exact rdoes13 w c hc p hp h _ rfl
  · exact rdoes14 w c hc p hp h _ rfl
  · exact rdoes15 w c hc hP p hp h _ rfl
end Go.Proofs.YtbeeefekndcgnaaGreatDoor
