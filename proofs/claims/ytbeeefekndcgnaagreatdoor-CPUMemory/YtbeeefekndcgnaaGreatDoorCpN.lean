/- The document's processor: sumswithout going on. The document's processor: sums that go on; all of them. -/
import Derived.Test.YtbeeefekndcgnaaGreatDoorCpL
namespace Go.Proofs.YtbeeefekndcgnaaGreatDoor
open Go Go.RowKit
set_option linter.unusedVariables false
set_option maxHeartbeats 1000000
set_option maxRecDepth 20000

def sumTab : Array Value := #[.int .u8 0, .int .u8 1, .int .u8 2, .int .u8 3, .int .u8 4, .int .u8 6, .int .u8 0, .int .u8 8]

theorem rsums6 (w : World) (c : Cp) (hc : c.wf) (p : Pn) (hp : p.wf) (h : c.Op % 16 = 6) : Calls Tryz.prog 49 #[.agg (cpC c), .agg (pnC p)] w fun e w' => e = .returned (.agg (cpC (sumM c 10 0))) ∧ Below w.heap.size w w' := by
  have hn := fun v => rn_any v c hc
  rw [h] at hn
  have zz := zeroVC
  have hF : Hid (Fr w w.heap.size c (w.heap.size + 1) p (w.heap.size + 1 + 1) zeroC (((w.alloc (.cells (cpC c) 26)).alloc (.cells (pnC p) 38)).alloc (.cells (cpC zeroC) 26))) := Fr.start w c p
  have hs := fun v => rsum_any v c hc 10 0 (by omega)
  clear hc hp h
  go_enter Tryz.func49, Tryz.ntmps49
  go_wp2_with (first
    | (refine gen_world (((w.alloc (.cells (cpC c) 26)).alloc (.cells (pnC p) 38)).alloc (.cells (cpC zeroC) 26)) (Fr w w.heap.size c (w.heap.size + 1) p (w.heap.size + 1 + 1) zeroC) hF.out ?_; intro y K)
    | (refine at_loadC w.heap.size c K.out.c _ rfl rfl rfl ?_)
    | (go_at_call 27; refine (hn _).mono ?_; rintro e v1 ⟨rfl, hb⟩; replace K : Hid _ := K.out.below hb)
    | (go_at_call 80; refine (hs _).mono ?_; rintro e v2 ⟨rfl, hb2⟩; replace K : Hid _ := K.out.below hb2)
    | (refine at_storeC (w.heap.size + 1 + 1) zeroC (sumM c 10 0) K.out.z _ _ rfl rfl rfl rfl ?_; intro w2 hw2))
  refine retC Tryz.results49 rfl hw2.out.1 rfl ⟨rfl, K.out.low.trans (hw2.out.2.1 _ K.out.l2)⟩

theorem rsums0 (w : World) (c : Cp) (hc : c.wf) (p : Pn) (hp : p.wf) (h : c.Op % 16 = 0) : Calls Tryz.prog 49 #[.agg (cpC c), .agg (pnC p)] w fun e w' => e = .returned (.agg (cpC (sumM c 0 p.Data))) ∧ Below w.heap.size w w' := by
  have hn := fun v => rn_any v c hc
  rw [h] at hn
  have zz := zeroVC
  have hF : Hid (Fr w w.heap.size c (w.heap.size + 1) p (w.heap.size + 1 + 1) zeroC (((w.alloc (.cells (cpC c) 26)).alloc (.cells (pnC p) 38)).alloc (.cells (cpC zeroC) 26))) := Fr.start w c p
  have hs := fun v => rsum_any v c hc 0 p.Data hp.Data
  clear hc hp h
  go_enter Tryz.func49, Tryz.ntmps49
  go_wp2_with (first
    | (refine gen_world (((w.alloc (.cells (cpC c) 26)).alloc (.cells (pnC p) 38)).alloc (.cells (cpC zeroC) 26)) (Fr w w.heap.size c (w.heap.size + 1) p (w.heap.size + 1 + 1) zeroC) hF.out ?_; intro y K)
    | (refine at_loadC w.heap.size c K.out.c _ rfl rfl rfl ?_)
    | (go_at_call 27; refine (hn _).mono ?_; rintro e v1 ⟨rfl, hb⟩; replace K : Hid _ := K.out.below hb))
  have hA : (v1.alloc (.cells sumTab 93)).heap[v1.heap.size]? = some (.cells sumTab 93 (0, 0)) := alloc_last' v1 _
  have KA : Fr w w.heap.size c (w.heap.size + 1) p (w.heap.size + 1 + 1) zeroC (v1.alloc (.cells sumTab 93)) := K.out.below ((Below.refl _ _).alloc (Nat.le_refl _) _)
  change Code.wp Tryz.prog _ _ _ (v1.alloc (.cells sumTab 93))
  refine region_class_tail 9 (fun x => Fr w w.heap.size c (w.heap.size + 1) p (w.heap.size + 1 + 1) zeroC x ∧ x.heap[v1.heap.size]? = some (.cells sumTab 93 (0, 0))) (by kernel_rfl) (by kernel_rfl) ⟨KA.below (below_drew (Below.refl _ _)), hA⟩ ?_
  simp only [List.take_succ_cons, List.take_zero, List.drop_succ_cons, List.drop_zero]
  refine quiet_one (.agg (cpC c)) rfl (quiet_loadC w.heap.size c (fun _ h => h.1.c) _ rfl rfl) ?_
  refine quiet_one (.slice (some ⟨v1.heap.size, 0, none⟩) 8 8) rfl (fun y hy => by go_simp) ?_
  refine quiet_one (.int .i64 0) rfl (fun y hy => by go_simp) ?_
  refine quiet_one (.int .i64 0) rfl (fun y hy => by go_simp) ?_
  refine quiet_one (.pointer (some ⟨v1.heap.size, 0, none⟩)) rfl (fun y hy => by go_simp) ?_
  refine quiet_one (.int .u8 0) rfl (fun y hy => by have d : y.cell? ⟨v1.heap.size, 0, none⟩ = some (.int .u8 0) := (cell_heap hy.2 0).trans rfl; go_simp) ?_
  refine quiet_one (.pointer (some ⟨w.heap.size + 1, 1, none⟩)) rfl (fun y hy => by go_simp) ?_
  refine quiet_one (.int .u8 p.Data) rfl (fun y hy => by have d := hy.1.p.fData; go_simp) ?_
  refine quiet_one (.agg (cpC (sumM c 0 p.Data))) rfl (fun y hy => by
    have d := (hs y).mono fun e w' (h : _ ∧ _) => And.intro h.1 (And.intro (hy.1.below h.2) ((h.2.block _ (heap_lt hy.2)).trans hy.2))
    go_simp
    all_goals exact d) ?_
  refine wpQuiet_nil ?_
  intro y3 K3
  replace K3 : Hid _ := K3.1
  go_simp
  go_wp2_with (first
    | (refine at_storeC w.heap.size c (sumM c 0 p.Data) K3.out.c _ _ rfl rfl rfl rfl ?_; intro y5 hw5; have K5 : Hid (Fr w w.heap.size (sumM c 0 p.Data) (w.heap.size + 1) p (w.heap.size + 1 + 1) zeroC y5) := K3.out.putC hw5.out)
    | (refine at_loadC w.heap.size _ K5.out.c _ rfl rfl rfl ?_)
    | (refine at_storeC (w.heap.size + 1 + 1) zeroC (sumM c 0 p.Data) K5.out.z _ _ rfl rfl rfl rfl ?_; intro w2 hw2))
  refine retC Tryz.results49 rfl hw2.out.1 rfl ⟨rfl, K5.out.low.trans (hw2.out.2.1 _ K5.out.l2)⟩

theorem rsums1 (w : World) (c : Cp) (hc : c.wf) (p : Pn) (hp : p.wf) (h : c.Op % 16 = 1) : Calls Tryz.prog 49 #[.agg (cpC c), .agg (pnC p)] w fun e w' => e = .returned (.agg (cpC (sumM c 1 p.Data))) ∧ Below w.heap.size w w' := by
  have hn := fun v => rn_any v c hc
  rw [h] at hn
  have zz := zeroVC
  have hF : Hid (Fr w w.heap.size c (w.heap.size + 1) p (w.heap.size + 1 + 1) zeroC (((w.alloc (.cells (cpC c) 26)).alloc (.cells (pnC p) 38)).alloc (.cells (cpC zeroC) 26))) := Fr.start w c p
  have hs := fun v => rsum_any v c hc 1 p.Data hp.Data
  clear hc hp h
  go_enter Tryz.func49, Tryz.ntmps49
  go_wp2_with (first
    | (refine gen_world (((w.alloc (.cells (cpC c) 26)).alloc (.cells (pnC p) 38)).alloc (.cells (cpC zeroC) 26)) (Fr w w.heap.size c (w.heap.size + 1) p (w.heap.size + 1 + 1) zeroC) hF.out ?_; intro y K)
    | (refine at_loadC w.heap.size c K.out.c _ rfl rfl rfl ?_)
    | (go_at_call 27; refine (hn _).mono ?_; rintro e v1 ⟨rfl, hb⟩; replace K : Hid _ := K.out.below hb))
  have hA : (v1.alloc (.cells sumTab 93)).heap[v1.heap.size]? = some (.cells sumTab 93 (0, 0)) := alloc_last' v1 _
  have KA : Fr w w.heap.size c (w.heap.size + 1) p (w.heap.size + 1 + 1) zeroC (v1.alloc (.cells sumTab 93)) := K.out.below ((Below.refl _ _).alloc (Nat.le_refl _) _)
  change Code.wp Tryz.prog _ _ _ (v1.alloc (.cells sumTab 93))
  refine region_class_tail 9 (fun x => Fr w w.heap.size c (w.heap.size + 1) p (w.heap.size + 1 + 1) zeroC x ∧ x.heap[v1.heap.size]? = some (.cells sumTab 93 (0, 0))) (by kernel_rfl) (by kernel_rfl) ⟨KA.below (below_drew (Below.refl _ _)), hA⟩ ?_
  simp only [List.take_succ_cons, List.take_zero, List.drop_succ_cons, List.drop_zero]
  refine quiet_one (.agg (cpC c)) rfl (quiet_loadC w.heap.size c (fun _ h => h.1.c) _ rfl rfl) ?_
  refine quiet_one (.slice (some ⟨v1.heap.size, 0, none⟩) 8 8) rfl (fun y hy => by go_simp) ?_
  refine quiet_one (.int .i64 1) rfl (fun y hy => by go_simp) ?_
  refine quiet_one (.int .i64 1) rfl (fun y hy => by go_simp) ?_
  refine quiet_one (.pointer (some ⟨v1.heap.size, 1, none⟩)) rfl (fun y hy => by go_simp) ?_
  refine quiet_one (.int .u8 1) rfl (fun y hy => by have d : y.cell? ⟨v1.heap.size, 1, none⟩ = some (.int .u8 1) := (cell_heap hy.2 1).trans rfl; go_simp) ?_
  refine quiet_one (.pointer (some ⟨w.heap.size + 1, 1, none⟩)) rfl (fun y hy => by go_simp) ?_
  refine quiet_one (.int .u8 p.Data) rfl (fun y hy => by have d := hy.1.p.fData; go_simp) ?_
  refine quiet_one (.agg (cpC (sumM c 1 p.Data))) rfl (fun y hy => by
    have d := (hs y).mono fun e w' (h : _ ∧ _) => And.intro h.1 (And.intro (hy.1.below h.2) ((h.2.block _ (heap_lt hy.2)).trans hy.2))
    go_simp
    all_goals exact d) ?_
  refine wpQuiet_nil ?_
  intro y3 K3
  replace K3 : Hid _ := K3.1
  go_simp
  go_wp2_with (first
    | (refine at_storeC w.heap.size c (sumM c 1 p.Data) K3.out.c _ _ rfl rfl rfl rfl ?_; intro y5 hw5; have K5 : Hid (Fr w w.heap.size (sumM c 1 p.Data) (w.heap.size + 1) p (w.heap.size + 1 + 1) zeroC y5) := K3.out.putC hw5.out)
    | (refine at_loadC w.heap.size _ K5.out.c _ rfl rfl rfl ?_)
    | (refine at_storeC (w.heap.size + 1 + 1) zeroC (sumM c 1 p.Data) K5.out.z _ _ rfl rfl rfl rfl ?_; intro w2 hw2))
  refine retC Tryz.results49 rfl hw2.out.1 rfl ⟨rfl, K5.out.low.trans (hw2.out.2.1 _ K5.out.l2)⟩

theorem rsums2 (w : World) (c : Cp) (hc : c.wf) (p : Pn) (hp : p.wf) (h : c.Op % 16 = 2) : Calls Tryz.prog 49 #[.agg (cpC c), .agg (pnC p)] w fun e w' => e = .returned (.agg (cpC (sumM c 2 p.Data))) ∧ Below w.heap.size w w' := by
  have hn := fun v => rn_any v c hc
  rw [h] at hn
  have zz := zeroVC
  have hF : Hid (Fr w w.heap.size c (w.heap.size + 1) p (w.heap.size + 1 + 1) zeroC (((w.alloc (.cells (cpC c) 26)).alloc (.cells (pnC p) 38)).alloc (.cells (cpC zeroC) 26))) := Fr.start w c p
  have hs := fun v => rsum_any v c hc 2 p.Data hp.Data
  clear hc hp h
  go_enter Tryz.func49, Tryz.ntmps49
  go_wp2_with (first
    | (refine gen_world (((w.alloc (.cells (cpC c) 26)).alloc (.cells (pnC p) 38)).alloc (.cells (cpC zeroC) 26)) (Fr w w.heap.size c (w.heap.size + 1) p (w.heap.size + 1 + 1) zeroC) hF.out ?_; intro y K)
    | (refine at_loadC w.heap.size c K.out.c _ rfl rfl rfl ?_)
    | (go_at_call 27; refine (hn _).mono ?_; rintro e v1 ⟨rfl, hb⟩; replace K : Hid _ := K.out.below hb))
  have hA : (v1.alloc (.cells sumTab 93)).heap[v1.heap.size]? = some (.cells sumTab 93 (0, 0)) := alloc_last' v1 _
  have KA : Fr w w.heap.size c (w.heap.size + 1) p (w.heap.size + 1 + 1) zeroC (v1.alloc (.cells sumTab 93)) := K.out.below ((Below.refl _ _).alloc (Nat.le_refl _) _)
  change Code.wp Tryz.prog _ _ _ (v1.alloc (.cells sumTab 93))
  refine region_class_tail 9 (fun x => Fr w w.heap.size c (w.heap.size + 1) p (w.heap.size + 1 + 1) zeroC x ∧ x.heap[v1.heap.size]? = some (.cells sumTab 93 (0, 0))) (by kernel_rfl) (by kernel_rfl) ⟨KA.below (below_drew (Below.refl _ _)), hA⟩ ?_
  simp only [List.take_succ_cons, List.take_zero, List.drop_succ_cons, List.drop_zero]
  refine quiet_one (.agg (cpC c)) rfl (quiet_loadC w.heap.size c (fun _ h => h.1.c) _ rfl rfl) ?_
  refine quiet_one (.slice (some ⟨v1.heap.size, 0, none⟩) 8 8) rfl (fun y hy => by go_simp) ?_
  refine quiet_one (.int .i64 2) rfl (fun y hy => by go_simp) ?_
  refine quiet_one (.int .i64 2) rfl (fun y hy => by go_simp) ?_
  refine quiet_one (.pointer (some ⟨v1.heap.size, 2, none⟩)) rfl (fun y hy => by go_simp) ?_
  refine quiet_one (.int .u8 2) rfl (fun y hy => by have d : y.cell? ⟨v1.heap.size, 2, none⟩ = some (.int .u8 2) := (cell_heap hy.2 2).trans rfl; go_simp) ?_
  refine quiet_one (.pointer (some ⟨w.heap.size + 1, 1, none⟩)) rfl (fun y hy => by go_simp) ?_
  refine quiet_one (.int .u8 p.Data) rfl (fun y hy => by have d := hy.1.p.fData; go_simp) ?_
  refine quiet_one (.agg (cpC (sumM c 2 p.Data))) rfl (fun y hy => by
    have d := (hs y).mono fun e w' (h : _ ∧ _) => And.intro h.1 (And.intro (hy.1.below h.2) ((h.2.block _ (heap_lt hy.2)).trans hy.2))
    go_simp
    all_goals exact d) ?_
  refine wpQuiet_nil ?_
  intro y3 K3
  replace K3 : Hid _ := K3.1
  go_simp
  go_wp2_with (first
    | (refine at_storeC w.heap.size c (sumM c 2 p.Data) K3.out.c _ _ rfl rfl rfl rfl ?_; intro y5 hw5; have K5 : Hid (Fr w w.heap.size (sumM c 2 p.Data) (w.heap.size + 1) p (w.heap.size + 1 + 1) zeroC y5) := K3.out.putC hw5.out)
    | (refine at_loadC w.heap.size _ K5.out.c _ rfl rfl rfl ?_)
    | (refine at_storeC (w.heap.size + 1 + 1) zeroC (sumM c 2 p.Data) K5.out.z _ _ rfl rfl rfl rfl ?_; intro w2 hw2))
  refine retC Tryz.results49 rfl hw2.out.1 rfl ⟨rfl, K5.out.low.trans (hw2.out.2.1 _ K5.out.l2)⟩

theorem rsums3 (w : World) (c : Cp) (hc : c.wf) (p : Pn) (hp : p.wf) (h : c.Op % 16 = 3) : Calls Tryz.prog 49 #[.agg (cpC c), .agg (pnC p)] w fun e w' => e = .returned (.agg (cpC (sumM c 3 p.Data))) ∧ Below w.heap.size w w' := by
  have hn := fun v => rn_any v c hc
  rw [h] at hn
  have zz := zeroVC
  have hF : Hid (Fr w w.heap.size c (w.heap.size + 1) p (w.heap.size + 1 + 1) zeroC (((w.alloc (.cells (cpC c) 26)).alloc (.cells (pnC p) 38)).alloc (.cells (cpC zeroC) 26))) := Fr.start w c p
  have hs := fun v => rsum_any v c hc 3 p.Data hp.Data
  clear hc hp h
  go_enter Tryz.func49, Tryz.ntmps49
  go_wp2_with (first
    | (refine gen_world (((w.alloc (.cells (cpC c) 26)).alloc (.cells (pnC p) 38)).alloc (.cells (cpC zeroC) 26)) (Fr w w.heap.size c (w.heap.size + 1) p (w.heap.size + 1 + 1) zeroC) hF.out ?_; intro y K)
    | (refine at_loadC w.heap.size c K.out.c _ rfl rfl rfl ?_)
    | (go_at_call 27; refine (hn _).mono ?_; rintro e v1 ⟨rfl, hb⟩; replace K : Hid _ := K.out.below hb))
  have hA : (v1.alloc (.cells sumTab 93)).heap[v1.heap.size]? = some (.cells sumTab 93 (0, 0)) := alloc_last' v1 _
  have KA : Fr w w.heap.size c (w.heap.size + 1) p (w.heap.size + 1 + 1) zeroC (v1.alloc (.cells sumTab 93)) := K.out.below ((Below.refl _ _).alloc (Nat.le_refl _) _)
  change Code.wp Tryz.prog _ _ _ (v1.alloc (.cells sumTab 93))
  refine region_class_tail 9 (fun x => Fr w w.heap.size c (w.heap.size + 1) p (w.heap.size + 1 + 1) zeroC x ∧ x.heap[v1.heap.size]? = some (.cells sumTab 93 (0, 0))) (by kernel_rfl) (by kernel_rfl) ⟨KA.below (below_drew (Below.refl _ _)), hA⟩ ?_
  simp only [List.take_succ_cons, List.take_zero, List.drop_succ_cons, List.drop_zero]
  refine quiet_one (.agg (cpC c)) rfl (quiet_loadC w.heap.size c (fun _ h => h.1.c) _ rfl rfl) ?_
  refine quiet_one (.slice (some ⟨v1.heap.size, 0, none⟩) 8 8) rfl (fun y hy => by go_simp) ?_
  refine quiet_one (.int .i64 3) rfl (fun y hy => by go_simp) ?_
  refine quiet_one (.int .i64 3) rfl (fun y hy => by go_simp) ?_
  refine quiet_one (.pointer (some ⟨v1.heap.size, 3, none⟩)) rfl (fun y hy => by go_simp) ?_
  refine quiet_one (.int .u8 3) rfl (fun y hy => by have d : y.cell? ⟨v1.heap.size, 3, none⟩ = some (.int .u8 3) := (cell_heap hy.2 3).trans rfl; go_simp) ?_
  refine quiet_one (.pointer (some ⟨w.heap.size + 1, 1, none⟩)) rfl (fun y hy => by go_simp) ?_
  refine quiet_one (.int .u8 p.Data) rfl (fun y hy => by have d := hy.1.p.fData; go_simp) ?_
  refine quiet_one (.agg (cpC (sumM c 3 p.Data))) rfl (fun y hy => by
    have d := (hs y).mono fun e w' (h : _ ∧ _) => And.intro h.1 (And.intro (hy.1.below h.2) ((h.2.block _ (heap_lt hy.2)).trans hy.2))
    go_simp
    all_goals exact d) ?_
  refine wpQuiet_nil ?_
  intro y3 K3
  replace K3 : Hid _ := K3.1
  go_simp
  go_wp2_with (first
    | (refine at_storeC w.heap.size c (sumM c 3 p.Data) K3.out.c _ _ rfl rfl rfl rfl ?_; intro y5 hw5; have K5 : Hid (Fr w w.heap.size (sumM c 3 p.Data) (w.heap.size + 1) p (w.heap.size + 1 + 1) zeroC y5) := K3.out.putC hw5.out)
    | (refine at_loadC w.heap.size _ K5.out.c _ rfl rfl rfl ?_)
    | (refine at_storeC (w.heap.size + 1 + 1) zeroC (sumM c 3 p.Data) K5.out.z _ _ rfl rfl rfl rfl ?_; intro w2 hw2))
  refine retC Tryz.results49 rfl hw2.out.1 rfl ⟨rfl, K5.out.low.trans (hw2.out.2.1 _ K5.out.l2)⟩

theorem rsums4 (w : World) (c : Cp) (hc : c.wf) (p : Pn) (hp : p.wf) (h : c.Op % 16 = 4) : Calls Tryz.prog 49 #[.agg (cpC c), .agg (pnC p)] w fun e w' => e = .returned (.agg (cpC (sumM c 4 p.Data))) ∧ Below w.heap.size w w' := by
  have hn := fun v => rn_any v c hc
  rw [h] at hn
  have zz := zeroVC
  have hF : Hid (Fr w w.heap.size c (w.heap.size + 1) p (w.heap.size + 1 + 1) zeroC (((w.alloc (.cells (cpC c) 26)).alloc (.cells (pnC p) 38)).alloc (.cells (cpC zeroC) 26))) := Fr.start w c p
  have hs := fun v => rsum_any v c hc 4 p.Data hp.Data
  clear hc hp h
  go_enter Tryz.func49, Tryz.ntmps49
  go_wp2_with (first
    | (refine gen_world (((w.alloc (.cells (cpC c) 26)).alloc (.cells (pnC p) 38)).alloc (.cells (cpC zeroC) 26)) (Fr w w.heap.size c (w.heap.size + 1) p (w.heap.size + 1 + 1) zeroC) hF.out ?_; intro y K)
    | (refine at_loadC w.heap.size c K.out.c _ rfl rfl rfl ?_)
    | (go_at_call 27; refine (hn _).mono ?_; rintro e v1 ⟨rfl, hb⟩; replace K : Hid _ := K.out.below hb))
  have hA : (v1.alloc (.cells sumTab 93)).heap[v1.heap.size]? = some (.cells sumTab 93 (0, 0)) := alloc_last' v1 _
  have KA : Fr w w.heap.size c (w.heap.size + 1) p (w.heap.size + 1 + 1) zeroC (v1.alloc (.cells sumTab 93)) := K.out.below ((Below.refl _ _).alloc (Nat.le_refl _) _)
  change Code.wp Tryz.prog _ _ _ (v1.alloc (.cells sumTab 93))
  refine region_class_tail 9 (fun x => Fr w w.heap.size c (w.heap.size + 1) p (w.heap.size + 1 + 1) zeroC x ∧ x.heap[v1.heap.size]? = some (.cells sumTab 93 (0, 0))) (by kernel_rfl) (by kernel_rfl) ⟨KA.below (below_drew (Below.refl _ _)), hA⟩ ?_
  simp only [List.take_succ_cons, List.take_zero, List.drop_succ_cons, List.drop_zero]
  refine quiet_one (.agg (cpC c)) rfl (quiet_loadC w.heap.size c (fun _ h => h.1.c) _ rfl rfl) ?_
  refine quiet_one (.slice (some ⟨v1.heap.size, 0, none⟩) 8 8) rfl (fun y hy => by go_simp) ?_
  refine quiet_one (.int .i64 4) rfl (fun y hy => by go_simp) ?_
  refine quiet_one (.int .i64 4) rfl (fun y hy => by go_simp) ?_
  refine quiet_one (.pointer (some ⟨v1.heap.size, 4, none⟩)) rfl (fun y hy => by go_simp) ?_
  refine quiet_one (.int .u8 4) rfl (fun y hy => by have d : y.cell? ⟨v1.heap.size, 4, none⟩ = some (.int .u8 4) := (cell_heap hy.2 4).trans rfl; go_simp) ?_
  refine quiet_one (.pointer (some ⟨w.heap.size + 1, 1, none⟩)) rfl (fun y hy => by go_simp) ?_
  refine quiet_one (.int .u8 p.Data) rfl (fun y hy => by have d := hy.1.p.fData; go_simp) ?_
  refine quiet_one (.agg (cpC (sumM c 4 p.Data))) rfl (fun y hy => by
    have d := (hs y).mono fun e w' (h : _ ∧ _) => And.intro h.1 (And.intro (hy.1.below h.2) ((h.2.block _ (heap_lt hy.2)).trans hy.2))
    go_simp
    all_goals exact d) ?_
  refine wpQuiet_nil ?_
  intro y3 K3
  replace K3 : Hid _ := K3.1
  go_simp
  go_wp2_with (first
    | (refine at_storeC w.heap.size c (sumM c 4 p.Data) K3.out.c _ _ rfl rfl rfl rfl ?_; intro y5 hw5; have K5 : Hid (Fr w w.heap.size (sumM c 4 p.Data) (w.heap.size + 1) p (w.heap.size + 1 + 1) zeroC y5) := K3.out.putC hw5.out)
    | (refine at_loadC w.heap.size _ K5.out.c _ rfl rfl rfl ?_)
    | (refine at_storeC (w.heap.size + 1 + 1) zeroC (sumM c 4 p.Data) K5.out.z _ _ rfl rfl rfl rfl ?_; intro w2 hw2))
  refine retC Tryz.results49 rfl hw2.out.1 rfl ⟨rfl, K5.out.low.trans (hw2.out.2.1 _ K5.out.l2)⟩

theorem rsums5 (w : World) (c : Cp) (hc : c.wf) (p : Pn) (hp : p.wf) (h : c.Op % 16 = 5) : Calls Tryz.prog 49 #[.agg (cpC c), .agg (pnC p)] w fun e w' => e = .returned (.agg (cpC (sumM c 6 p.Data))) ∧ Below w.heap.size w w' := by
  have hn := fun v => rn_any v c hc
  rw [h] at hn
  have zz := zeroVC
  have hF : Hid (Fr w w.heap.size c (w.heap.size + 1) p (w.heap.size + 1 + 1) zeroC (((w.alloc (.cells (cpC c) 26)).alloc (.cells (pnC p) 38)).alloc (.cells (cpC zeroC) 26))) := Fr.start w c p
  have hs := fun v => rsum_any v c hc 6 p.Data hp.Data
  clear hc hp h
  go_enter Tryz.func49, Tryz.ntmps49
  go_wp2_with (first
    | (refine gen_world (((w.alloc (.cells (cpC c) 26)).alloc (.cells (pnC p) 38)).alloc (.cells (cpC zeroC) 26)) (Fr w w.heap.size c (w.heap.size + 1) p (w.heap.size + 1 + 1) zeroC) hF.out ?_; intro y K)
    | (refine at_loadC w.heap.size c K.out.c _ rfl rfl rfl ?_)
    | (go_at_call 27; refine (hn _).mono ?_; rintro e v1 ⟨rfl, hb⟩; replace K : Hid _ := K.out.below hb))
  have hA : (v1.alloc (.cells sumTab 93)).heap[v1.heap.size]? = some (.cells sumTab 93 (0, 0)) := alloc_last' v1 _
  have KA : Fr w w.heap.size c (w.heap.size + 1) p (w.heap.size + 1 + 1) zeroC (v1.alloc (.cells sumTab 93)) := K.out.below ((Below.refl _ _).alloc (Nat.le_refl _) _)
  change Code.wp Tryz.prog _ _ _ (v1.alloc (.cells sumTab 93))
  refine region_class_tail 9 (fun x => Fr w w.heap.size c (w.heap.size + 1) p (w.heap.size + 1 + 1) zeroC x ∧ x.heap[v1.heap.size]? = some (.cells sumTab 93 (0, 0))) (by kernel_rfl) (by kernel_rfl) ⟨KA.below (below_drew (Below.refl _ _)), hA⟩ ?_
  simp only [List.take_succ_cons, List.take_zero, List.drop_succ_cons, List.drop_zero]
  refine quiet_one (.agg (cpC c)) rfl (quiet_loadC w.heap.size c (fun _ h => h.1.c) _ rfl rfl) ?_
  refine quiet_one (.slice (some ⟨v1.heap.size, 0, none⟩) 8 8) rfl (fun y hy => by go_simp) ?_
  refine quiet_one (.int .i64 5) rfl (fun y hy => by go_simp) ?_
  refine quiet_one (.int .i64 5) rfl (fun y hy => by go_simp) ?_
  refine quiet_one (.pointer (some ⟨v1.heap.size, 5, none⟩)) rfl (fun y hy => by go_simp) ?_
  refine quiet_one (.int .u8 6) rfl (fun y hy => by have d : y.cell? ⟨v1.heap.size, 5, none⟩ = some (.int .u8 6) := (cell_heap hy.2 5).trans rfl; go_simp) ?_
  refine quiet_one (.pointer (some ⟨w.heap.size + 1, 1, none⟩)) rfl (fun y hy => by go_simp) ?_
  refine quiet_one (.int .u8 p.Data) rfl (fun y hy => by have d := hy.1.p.fData; go_simp) ?_
  refine quiet_one (.agg (cpC (sumM c 6 p.Data))) rfl (fun y hy => by
    have d := (hs y).mono fun e w' (h : _ ∧ _) => And.intro h.1 (And.intro (hy.1.below h.2) ((h.2.block _ (heap_lt hy.2)).trans hy.2))
    go_simp
    all_goals exact d) ?_
  refine wpQuiet_nil ?_
  intro y3 K3
  replace K3 : Hid _ := K3.1
  go_simp
  go_wp2_with (first
    | (refine at_storeC w.heap.size c (sumM c 6 p.Data) K3.out.c _ _ rfl rfl rfl rfl ?_; intro y5 hw5; have K5 : Hid (Fr w w.heap.size (sumM c 6 p.Data) (w.heap.size + 1) p (w.heap.size + 1 + 1) zeroC y5) := K3.out.putC hw5.out)
    | (refine at_loadC w.heap.size _ K5.out.c _ rfl rfl rfl ?_)
    | (refine at_storeC (w.heap.size + 1 + 1) zeroC (sumM c 6 p.Data) K5.out.z _ _ rfl rfl rfl rfl ?_; intro w2 hw2))
  refine retC Tryz.results49 rfl hw2.out.1 rfl ⟨rfl, K5.out.low.trans (hw2.out.2.1 _ K5.out.l2)⟩

theorem rsums7 (w : World) (c : Cp) (hc : c.wf) (p : Pn) (hp : p.wf) (h : c.Op % 16 = 7) : Calls Tryz.prog 49 #[.agg (cpC c), .agg (pnC p)] w fun e w' => e = .returned (.agg (cpC (sumM c 8 p.Data))) ∧ Below w.heap.size w w' := by
  have hn := fun v => rn_any v c hc
  rw [h] at hn
  have zz := zeroVC
  have hF : Hid (Fr w w.heap.size c (w.heap.size + 1) p (w.heap.size + 1 + 1) zeroC (((w.alloc (.cells (cpC c) 26)).alloc (.cells (pnC p) 38)).alloc (.cells (cpC zeroC) 26))) := Fr.start w c p
  have hs := fun v => rsum_any v c hc 8 p.Data hp.Data
  clear hc hp h
  go_enter Tryz.func49, Tryz.ntmps49
  go_wp2_with (first
    | (refine gen_world (((w.alloc (.cells (cpC c) 26)).alloc (.cells (pnC p) 38)).alloc (.cells (cpC zeroC) 26)) (Fr w w.heap.size c (w.heap.size + 1) p (w.heap.size + 1 + 1) zeroC) hF.out ?_; intro y K)
    | (refine at_loadC w.heap.size c K.out.c _ rfl rfl rfl ?_)
    | (go_at_call 27; refine (hn _).mono ?_; rintro e v1 ⟨rfl, hb⟩; replace K : Hid _ := K.out.below hb))
  have hA : (v1.alloc (.cells sumTab 93)).heap[v1.heap.size]? = some (.cells sumTab 93 (0, 0)) := alloc_last' v1 _
  have KA : Fr w w.heap.size c (w.heap.size + 1) p (w.heap.size + 1 + 1) zeroC (v1.alloc (.cells sumTab 93)) := K.out.below ((Below.refl _ _).alloc (Nat.le_refl _) _)
  change Code.wp Tryz.prog _ _ _ (v1.alloc (.cells sumTab 93))
  refine region_class_tail 9 (fun x => Fr w w.heap.size c (w.heap.size + 1) p (w.heap.size + 1 + 1) zeroC x ∧ x.heap[v1.heap.size]? = some (.cells sumTab 93 (0, 0))) (by kernel_rfl) (by kernel_rfl) ⟨KA.below (below_drew (Below.refl _ _)), hA⟩ ?_
  simp only [List.take_succ_cons, List.take_zero, List.drop_succ_cons, List.drop_zero]
  refine quiet_one (.agg (cpC c)) rfl (quiet_loadC w.heap.size c (fun _ h => h.1.c) _ rfl rfl) ?_
  refine quiet_one (.slice (some ⟨v1.heap.size, 0, none⟩) 8 8) rfl (fun y hy => by go_simp) ?_
  refine quiet_one (.int .i64 7) rfl (fun y hy => by go_simp) ?_
  refine quiet_one (.int .i64 7) rfl (fun y hy => by go_simp) ?_
  refine quiet_one (.pointer (some ⟨v1.heap.size, 7, none⟩)) rfl (fun y hy => by go_simp) ?_
  refine quiet_one (.int .u8 8) rfl (fun y hy => by have d : y.cell? ⟨v1.heap.size, 7, none⟩ = some (.int .u8 8) := (cell_heap hy.2 7).trans rfl; go_simp) ?_
  refine quiet_one (.pointer (some ⟨w.heap.size + 1, 1, none⟩)) rfl (fun y hy => by go_simp) ?_
  refine quiet_one (.int .u8 p.Data) rfl (fun y hy => by have d := hy.1.p.fData; go_simp) ?_
  refine quiet_one (.agg (cpC (sumM c 8 p.Data))) rfl (fun y hy => by
    have d := (hs y).mono fun e w' (h : _ ∧ _) => And.intro h.1 (And.intro (hy.1.below h.2) ((h.2.block _ (heap_lt hy.2)).trans hy.2))
    go_simp
    all_goals exact d) ?_
  refine wpQuiet_nil ?_
  intro y3 K3
  replace K3 : Hid _ := K3.1
  go_simp
  go_wp2_with (first
    | (refine at_storeC w.heap.size c (sumM c 8 p.Data) K3.out.c _ _ rfl rfl rfl rfl ?_; intro y5 hw5; have K5 : Hid (Fr w w.heap.size (sumM c 8 p.Data) (w.heap.size + 1) p (w.heap.size + 1 + 1) zeroC y5) := K3.out.putC hw5.out)
    | (refine at_loadC w.heap.size _ K5.out.c _ rfl rfl rfl ?_)
    | (refine at_storeC (w.heap.size + 1 + 1) zeroC (sumM c 8 p.Data) K5.out.z _ _ rfl rfl rfl rfl ?_; intro w2 hw2))
  refine retC Tryz.results49 rfl hw2.out.1 rfl ⟨rfl, K5.out.low.trans (hw2.out.2.1 _ K5.out.l2)⟩

end Go.Proofs.YtbeeefekndcgnaaGreatDoor

namespace Go.Proofs.YtbeeefekndcgnaaGreatDoor
open Go Go.RowKit
set_option linter.unusedVariables false
set_option maxHeartbeats 1000000
set_option maxRecDepth 20000

theorem rsums14 (w : World) (c : Cp) (hc : c.wf) (p : Pn) (hp : p.wf) (h : c.Op % 16 = 14) : Calls Tryz.prog 49 #[.agg (cpC c), .agg (pnC p)] w fun e w' => e = .returned (.agg (cpC (sumM c 12 0))) ∧ Below w.heap.size w w' := by
  have hn := fun v => rn_any v c hc
  rw [h] at hn
  have zz := zeroVC
  have hF : Hid (Fr w w.heap.size c (w.heap.size + 1) p (w.heap.size + 1 + 1) zeroC (((w.alloc (.cells (cpC c) 26)).alloc (.cells (pnC p) 38)).alloc (.cells (cpC zeroC) 26))) := Fr.start w c p
  have hs := fun v => rsum_any v c hc 12 0 (by omega)
  clear hc hp h
  go_enter Tryz.func49, Tryz.ntmps49
  go_wp2_with (first
    | (refine gen_world (((w.alloc (.cells (cpC c) 26)).alloc (.cells (pnC p) 38)).alloc (.cells (cpC zeroC) 26)) (Fr w w.heap.size c (w.heap.size + 1) p (w.heap.size + 1 + 1) zeroC) hF.out ?_; intro y K)
    | (refine at_loadC w.heap.size c K.out.c _ rfl rfl rfl ?_)
    | (go_at_call 27; refine (hn _).mono ?_; rintro e v1 ⟨rfl, hb⟩; replace K : Hid _ := K.out.below hb)
    | (go_at_call 80; refine (hs _).mono ?_; rintro e v2 ⟨rfl, hb2⟩; replace K : Hid _ := K.out.below hb2)
    | (refine at_storeC (w.heap.size + 1 + 1) zeroC (sumM c 12 0) K.out.z _ _ rfl rfl rfl rfl ?_; intro w2 hw2))
  refine retC Tryz.results49 rfl hw2.out.1 rfl ⟨rfl, K.out.low.trans (hw2.out.2.1 _ K.out.l2)⟩

theorem rsums8 (w : World) (c : Cp) (hc : c.wf) (hP : c.P < 16) (p : Pn) (hp : p.wf) (h : c.Op % 16 = 8) : Calls Tryz.prog 49 #[.agg (cpC c), .agg (pnC p)] w fun e w' => e = .returned (.agg (cpC ((sumM c 0 p.Data).up c.P))) ∧ Below w.heap.size w w' := by
  have hn := fun v => rn_any v c hc
  rw [h] at hn
  have zz := zeroVC
  have hF : Hid (Fr w w.heap.size c (w.heap.size + 1) p (w.heap.size + 1 + 1) zeroC (((w.alloc (.cells (cpC c) 26)).alloc (.cells (pnC p) 38)).alloc (.cells (cpC zeroC) 26))) := Fr.start w c p
  have hs := fun v => rsum_any v c hc 0 p.Data hp.Data
  have hu := fun v => rup_any v (sumM c 0 p.Data) (hc.sum 0 p.Data hp.Data) c.P hP
  clear hc hp h
  go_enter Tryz.func49, Tryz.ntmps49
  go_wp2_with (first
    | (refine gen_world (((w.alloc (.cells (cpC c) 26)).alloc (.cells (pnC p) 38)).alloc (.cells (cpC zeroC) 26)) (Fr w w.heap.size c (w.heap.size + 1) p (w.heap.size + 1 + 1) zeroC) hF.out ?_; intro y K)
    | (refine at_loadC w.heap.size c K.out.c _ rfl rfl rfl ?_)
    | (go_at_call 27; refine (hn _).mono ?_; rintro e v1 ⟨rfl, hb⟩; replace K : Hid _ := K.out.below hb))
  have hA : (v1.alloc (.cells sumTab 93)).heap[v1.heap.size]? = some (.cells sumTab 93 (0, 0)) := alloc_last' v1 _
  have KA : Fr w w.heap.size c (w.heap.size + 1) p (w.heap.size + 1 + 1) zeroC (v1.alloc (.cells sumTab 93)) := K.out.below ((Below.refl _ _).alloc (Nat.le_refl _) _)
  change Code.wp Tryz.prog _ _ _ (v1.alloc (.cells sumTab 93))
  refine region_class_tail 9 (fun x => Fr w w.heap.size c (w.heap.size + 1) p (w.heap.size + 1 + 1) zeroC x ∧ x.heap[v1.heap.size]? = some (.cells sumTab 93 (0, 0))) (by kernel_rfl) (by kernel_rfl) ⟨KA.below (below_drew (Below.refl _ _)), hA⟩ ?_
  simp only [List.take_succ_cons, List.take_zero, List.drop_succ_cons, List.drop_zero]
  refine quiet_one (.agg (cpC c)) rfl (quiet_loadC w.heap.size c (fun _ h => h.1.c) _ rfl rfl) ?_
  refine quiet_one (.slice (some ⟨v1.heap.size, 0, none⟩) 8 8) rfl (fun y hy => by go_simp) ?_
  refine quiet_one (.int .i64 8) rfl (fun y hy => by go_simp) ?_
  refine quiet_one (.int .i64 0) rfl (fun y hy => by go_simp) ?_
  refine quiet_one (.pointer (some ⟨v1.heap.size, 0, none⟩)) rfl (fun y hy => by go_simp) ?_
  refine quiet_one (.int .u8 0) rfl (fun y hy => by have d : y.cell? ⟨v1.heap.size, 0, none⟩ = some (.int .u8 0) := (cell_heap hy.2 0).trans rfl; go_simp) ?_
  refine quiet_one (.pointer (some ⟨w.heap.size + 1, 1, none⟩)) rfl (fun y hy => by go_simp) ?_
  refine quiet_one (.int .u8 p.Data) rfl (fun y hy => by have d := hy.1.p.fData; go_simp) ?_
  refine quiet_one (.agg (cpC (sumM c 0 p.Data))) rfl (fun y hy => by
    have d := (hs y).mono fun e w' (h : _ ∧ _) => And.intro h.1 (And.intro (hy.1.below h.2) ((h.2.block _ (heap_lt hy.2)).trans hy.2))
    go_simp
    all_goals exact d) ?_
  refine wpQuiet_nil ?_
  intro y3 K3
  replace K3 : Hid _ := K3.1
  go_simp
  go_wp2_with (first
    | (refine at_storeC w.heap.size c (sumM c 0 p.Data) K3.out.c _ _ rfl rfl rfl rfl ?_; intro y5 hw5; have K5 : Hid (Fr w w.heap.size (sumM c 0 p.Data) (w.heap.size + 1) p (w.heap.size + 1 + 1) zeroC y5) := K3.out.putC hw5.out; have g18 : y5.cell? ⟨w.heap.size, 18, none⟩ = some (.int .u8 (c.P : Int)) := K5.out.c.fP)
    | (refine at_loadC w.heap.size _ K7.out.c _ rfl rfl rfl ?_)
    | (refine at_loadC w.heap.size _ K5.out.c _ rfl rfl rfl ?_)
    | (go_at_call 30; refine (hu _).mono ?_; rintro e v6 ⟨rfl, hb6⟩; have K6 : Hid _ := K5.out.below hb6)
    | (refine at_storeC w.heap.size (sumM c 0 p.Data) ((sumM c 0 p.Data).up c.P) K6.out.c _ _ rfl rfl rfl rfl ?_; intro y7 hw7; have K7 : Hid (Fr w w.heap.size ((sumM c 0 p.Data).up c.P) (w.heap.size + 1) p (w.heap.size + 1 + 1) zeroC y7) := K6.out.putC hw7.out)
    | (refine at_storeC (w.heap.size + 1 + 1) zeroC ((sumM c 0 p.Data).up c.P) K7.out.z _ _ rfl rfl rfl rfl ?_; intro w2 hw2))
  refine retC Tryz.results49 rfl hw2.out.1 rfl ⟨rfl, K7.out.low.trans (hw2.out.2.1 _ K7.out.l2)⟩

theorem rsums9 (w : World) (c : Cp) (hc : c.wf) (hP : c.P < 16) (p : Pn) (hp : p.wf) (h : c.Op % 16 = 9) : Calls Tryz.prog 49 #[.agg (cpC c), .agg (pnC p)] w fun e w' => e = .returned (.agg (cpC ((sumM c 1 p.Data).up c.P))) ∧ Below w.heap.size w w' := by
  have hn := fun v => rn_any v c hc
  rw [h] at hn
  have zz := zeroVC
  have hF : Hid (Fr w w.heap.size c (w.heap.size + 1) p (w.heap.size + 1 + 1) zeroC (((w.alloc (.cells (cpC c) 26)).alloc (.cells (pnC p) 38)).alloc (.cells (cpC zeroC) 26))) := Fr.start w c p
  have hs := fun v => rsum_any v c hc 1 p.Data hp.Data
  have hu := fun v => rup_any v (sumM c 1 p.Data) (hc.sum 1 p.Data hp.Data) c.P hP
  clear hc hp h
  go_enter Tryz.func49, Tryz.ntmps49
  go_wp2_with (first
    | (refine gen_world (((w.alloc (.cells (cpC c) 26)).alloc (.cells (pnC p) 38)).alloc (.cells (cpC zeroC) 26)) (Fr w w.heap.size c (w.heap.size + 1) p (w.heap.size + 1 + 1) zeroC) hF.out ?_; intro y K)
    | (refine at_loadC w.heap.size c K.out.c _ rfl rfl rfl ?_)
    | (go_at_call 27; refine (hn _).mono ?_; rintro e v1 ⟨rfl, hb⟩; replace K : Hid _ := K.out.below hb))
  have hA : (v1.alloc (.cells sumTab 93)).heap[v1.heap.size]? = some (.cells sumTab 93 (0, 0)) := alloc_last' v1 _
  have KA : Fr w w.heap.size c (w.heap.size + 1) p (w.heap.size + 1 + 1) zeroC (v1.alloc (.cells sumTab 93)) := K.out.below ((Below.refl _ _).alloc (Nat.le_refl _) _)
  change Code.wp Tryz.prog _ _ _ (v1.alloc (.cells sumTab 93))
  refine region_class_tail 9 (fun x => Fr w w.heap.size c (w.heap.size + 1) p (w.heap.size + 1 + 1) zeroC x ∧ x.heap[v1.heap.size]? = some (.cells sumTab 93 (0, 0))) (by kernel_rfl) (by kernel_rfl) ⟨KA.below (below_drew (Below.refl _ _)), hA⟩ ?_
  simp only [List.take_succ_cons, List.take_zero, List.drop_succ_cons, List.drop_zero]
  refine quiet_one (.agg (cpC c)) rfl (quiet_loadC w.heap.size c (fun _ h => h.1.c) _ rfl rfl) ?_
  refine quiet_one (.slice (some ⟨v1.heap.size, 0, none⟩) 8 8) rfl (fun y hy => by go_simp) ?_
  refine quiet_one (.int .i64 9) rfl (fun y hy => by go_simp) ?_
  refine quiet_one (.int .i64 1) rfl (fun y hy => by go_simp) ?_
  refine quiet_one (.pointer (some ⟨v1.heap.size, 1, none⟩)) rfl (fun y hy => by go_simp) ?_
  refine quiet_one (.int .u8 1) rfl (fun y hy => by have d : y.cell? ⟨v1.heap.size, 1, none⟩ = some (.int .u8 1) := (cell_heap hy.2 1).trans rfl; go_simp) ?_
  refine quiet_one (.pointer (some ⟨w.heap.size + 1, 1, none⟩)) rfl (fun y hy => by go_simp) ?_
  refine quiet_one (.int .u8 p.Data) rfl (fun y hy => by have d := hy.1.p.fData; go_simp) ?_
  refine quiet_one (.agg (cpC (sumM c 1 p.Data))) rfl (fun y hy => by
    have d := (hs y).mono fun e w' (h : _ ∧ _) => And.intro h.1 (And.intro (hy.1.below h.2) ((h.2.block _ (heap_lt hy.2)).trans hy.2))
    go_simp
    all_goals exact d) ?_
  refine wpQuiet_nil ?_
  intro y3 K3
  replace K3 : Hid _ := K3.1
  go_simp
  go_wp2_with (first
    | (refine at_storeC w.heap.size c (sumM c 1 p.Data) K3.out.c _ _ rfl rfl rfl rfl ?_; intro y5 hw5; have K5 : Hid (Fr w w.heap.size (sumM c 1 p.Data) (w.heap.size + 1) p (w.heap.size + 1 + 1) zeroC y5) := K3.out.putC hw5.out; have g18 : y5.cell? ⟨w.heap.size, 18, none⟩ = some (.int .u8 (c.P : Int)) := K5.out.c.fP)
    | (refine at_loadC w.heap.size _ K7.out.c _ rfl rfl rfl ?_)
    | (refine at_loadC w.heap.size _ K5.out.c _ rfl rfl rfl ?_)
    | (go_at_call 30; refine (hu _).mono ?_; rintro e v6 ⟨rfl, hb6⟩; have K6 : Hid _ := K5.out.below hb6)
    | (refine at_storeC w.heap.size (sumM c 1 p.Data) ((sumM c 1 p.Data).up c.P) K6.out.c _ _ rfl rfl rfl rfl ?_; intro y7 hw7; have K7 : Hid (Fr w w.heap.size ((sumM c 1 p.Data).up c.P) (w.heap.size + 1) p (w.heap.size + 1 + 1) zeroC y7) := K6.out.putC hw7.out)
    | (refine at_storeC (w.heap.size + 1 + 1) zeroC ((sumM c 1 p.Data).up c.P) K7.out.z _ _ rfl rfl rfl rfl ?_; intro w2 hw2))
  refine retC Tryz.results49 rfl hw2.out.1 rfl ⟨rfl, K7.out.low.trans (hw2.out.2.1 _ K7.out.l2)⟩

theorem rsums10 (w : World) (c : Cp) (hc : c.wf) (hP : c.P < 16) (p : Pn) (hp : p.wf) (h : c.Op % 16 = 10) : Calls Tryz.prog 49 #[.agg (cpC c), .agg (pnC p)] w fun e w' => e = .returned (.agg (cpC ((sumM c 2 p.Data).up c.P))) ∧ Below w.heap.size w w' := by
  have hn := fun v => rn_any v c hc
  rw [h] at hn
  have zz := zeroVC
  have hF : Hid (Fr w w.heap.size c (w.heap.size + 1) p (w.heap.size + 1 + 1) zeroC (((w.alloc (.cells (cpC c) 26)).alloc (.cells (pnC p) 38)).alloc (.cells (cpC zeroC) 26))) := Fr.start w c p
  have hs := fun v => rsum_any v c hc 2 p.Data hp.Data
  have hu := fun v => rup_any v (sumM c 2 p.Data) (hc.sum 2 p.Data hp.Data) c.P hP
  clear hc hp h
  go_enter Tryz.func49, Tryz.ntmps49
  go_wp2_with (first
    | (refine gen_world (((w.alloc (.cells (cpC c) 26)).alloc (.cells (pnC p) 38)).alloc (.cells (cpC zeroC) 26)) (Fr w w.heap.size c (w.heap.size + 1) p (w.heap.size + 1 + 1) zeroC) hF.out ?_; intro y K)
    | (refine at_loadC w.heap.size c K.out.c _ rfl rfl rfl ?_)
    | (go_at_call 27; refine (hn _).mono ?_; rintro e v1 ⟨rfl, hb⟩; replace K : Hid _ := K.out.below hb))
  have hA : (v1.alloc (.cells sumTab 93)).heap[v1.heap.size]? = some (.cells sumTab 93 (0, 0)) := alloc_last' v1 _
  have KA : Fr w w.heap.size c (w.heap.size + 1) p (w.heap.size + 1 + 1) zeroC (v1.alloc (.cells sumTab 93)) := K.out.below ((Below.refl _ _).alloc (Nat.le_refl _) _)
  change Code.wp Tryz.prog _ _ _ (v1.alloc (.cells sumTab 93))
  refine region_class_tail 9 (fun x => Fr w w.heap.size c (w.heap.size + 1) p (w.heap.size + 1 + 1) zeroC x ∧ x.heap[v1.heap.size]? = some (.cells sumTab 93 (0, 0))) (by kernel_rfl) (by kernel_rfl) ⟨KA.below (below_drew (Below.refl _ _)), hA⟩ ?_
  simp only [List.take_succ_cons, List.take_zero, List.drop_succ_cons, List.drop_zero]
  refine quiet_one (.agg (cpC c)) rfl (quiet_loadC w.heap.size c (fun _ h => h.1.c) _ rfl rfl) ?_
  refine quiet_one (.slice (some ⟨v1.heap.size, 0, none⟩) 8 8) rfl (fun y hy => by go_simp) ?_
  refine quiet_one (.int .i64 10) rfl (fun y hy => by go_simp) ?_
  refine quiet_one (.int .i64 2) rfl (fun y hy => by go_simp) ?_
  refine quiet_one (.pointer (some ⟨v1.heap.size, 2, none⟩)) rfl (fun y hy => by go_simp) ?_
  refine quiet_one (.int .u8 2) rfl (fun y hy => by have d : y.cell? ⟨v1.heap.size, 2, none⟩ = some (.int .u8 2) := (cell_heap hy.2 2).trans rfl; go_simp) ?_
  refine quiet_one (.pointer (some ⟨w.heap.size + 1, 1, none⟩)) rfl (fun y hy => by go_simp) ?_
  refine quiet_one (.int .u8 p.Data) rfl (fun y hy => by have d := hy.1.p.fData; go_simp) ?_
  refine quiet_one (.agg (cpC (sumM c 2 p.Data))) rfl (fun y hy => by
    have d := (hs y).mono fun e w' (h : _ ∧ _) => And.intro h.1 (And.intro (hy.1.below h.2) ((h.2.block _ (heap_lt hy.2)).trans hy.2))
    go_simp
    all_goals exact d) ?_
  refine wpQuiet_nil ?_
  intro y3 K3
  replace K3 : Hid _ := K3.1
  go_simp
  go_wp2_with (first
    | (refine at_storeC w.heap.size c (sumM c 2 p.Data) K3.out.c _ _ rfl rfl rfl rfl ?_; intro y5 hw5; have K5 : Hid (Fr w w.heap.size (sumM c 2 p.Data) (w.heap.size + 1) p (w.heap.size + 1 + 1) zeroC y5) := K3.out.putC hw5.out; have g18 : y5.cell? ⟨w.heap.size, 18, none⟩ = some (.int .u8 (c.P : Int)) := K5.out.c.fP)
    | (refine at_loadC w.heap.size _ K7.out.c _ rfl rfl rfl ?_)
    | (refine at_loadC w.heap.size _ K5.out.c _ rfl rfl rfl ?_)
    | (go_at_call 30; refine (hu _).mono ?_; rintro e v6 ⟨rfl, hb6⟩; have K6 : Hid _ := K5.out.below hb6)
    | (refine at_storeC w.heap.size (sumM c 2 p.Data) ((sumM c 2 p.Data).up c.P) K6.out.c _ _ rfl rfl rfl rfl ?_; intro y7 hw7; have K7 : Hid (Fr w w.heap.size ((sumM c 2 p.Data).up c.P) (w.heap.size + 1) p (w.heap.size + 1 + 1) zeroC y7) := K6.out.putC hw7.out)
    | (refine at_storeC (w.heap.size + 1 + 1) zeroC ((sumM c 2 p.Data).up c.P) K7.out.z _ _ rfl rfl rfl rfl ?_; intro w2 hw2))
  refine retC Tryz.results49 rfl hw2.out.1 rfl ⟨rfl, K7.out.low.trans (hw2.out.2.1 _ K7.out.l2)⟩

theorem rsums11 (w : World) (c : Cp) (hc : c.wf) (hP : c.P < 16) (p : Pn) (hp : p.wf) (h : c.Op % 16 = 11) : Calls Tryz.prog 49 #[.agg (cpC c), .agg (pnC p)] w fun e w' => e = .returned (.agg (cpC ((sumM c 3 p.Data).up c.P))) ∧ Below w.heap.size w w' := by
  have hn := fun v => rn_any v c hc
  rw [h] at hn
  have zz := zeroVC
  have hF : Hid (Fr w w.heap.size c (w.heap.size + 1) p (w.heap.size + 1 + 1) zeroC (((w.alloc (.cells (cpC c) 26)).alloc (.cells (pnC p) 38)).alloc (.cells (cpC zeroC) 26))) := Fr.start w c p
  have hs := fun v => rsum_any v c hc 3 p.Data hp.Data
  have hu := fun v => rup_any v (sumM c 3 p.Data) (hc.sum 3 p.Data hp.Data) c.P hP
  clear hc hp h
  go_enter Tryz.func49, Tryz.ntmps49
  go_wp2_with (first
    | (refine gen_world (((w.alloc (.cells (cpC c) 26)).alloc (.cells (pnC p) 38)).alloc (.cells (cpC zeroC) 26)) (Fr w w.heap.size c (w.heap.size + 1) p (w.heap.size + 1 + 1) zeroC) hF.out ?_; intro y K)
    | (refine at_loadC w.heap.size c K.out.c _ rfl rfl rfl ?_)
    | (go_at_call 27; refine (hn _).mono ?_; rintro e v1 ⟨rfl, hb⟩; replace K : Hid _ := K.out.below hb))
  have hA : (v1.alloc (.cells sumTab 93)).heap[v1.heap.size]? = some (.cells sumTab 93 (0, 0)) := alloc_last' v1 _
  have KA : Fr w w.heap.size c (w.heap.size + 1) p (w.heap.size + 1 + 1) zeroC (v1.alloc (.cells sumTab 93)) := K.out.below ((Below.refl _ _).alloc (Nat.le_refl _) _)
  change Code.wp Tryz.prog _ _ _ (v1.alloc (.cells sumTab 93))
  refine region_class_tail 9 (fun x => Fr w w.heap.size c (w.heap.size + 1) p (w.heap.size + 1 + 1) zeroC x ∧ x.heap[v1.heap.size]? = some (.cells sumTab 93 (0, 0))) (by kernel_rfl) (by kernel_rfl) ⟨KA.below (below_drew (Below.refl _ _)), hA⟩ ?_
  simp only [List.take_succ_cons, List.take_zero, List.drop_succ_cons, List.drop_zero]
  refine quiet_one (.agg (cpC c)) rfl (quiet_loadC w.heap.size c (fun _ h => h.1.c) _ rfl rfl) ?_
  refine quiet_one (.slice (some ⟨v1.heap.size, 0, none⟩) 8 8) rfl (fun y hy => by go_simp) ?_
  refine quiet_one (.int .i64 11) rfl (fun y hy => by go_simp) ?_
  refine quiet_one (.int .i64 3) rfl (fun y hy => by go_simp) ?_
  refine quiet_one (.pointer (some ⟨v1.heap.size, 3, none⟩)) rfl (fun y hy => by go_simp) ?_
  refine quiet_one (.int .u8 3) rfl (fun y hy => by have d : y.cell? ⟨v1.heap.size, 3, none⟩ = some (.int .u8 3) := (cell_heap hy.2 3).trans rfl; go_simp) ?_
  refine quiet_one (.pointer (some ⟨w.heap.size + 1, 1, none⟩)) rfl (fun y hy => by go_simp) ?_
  refine quiet_one (.int .u8 p.Data) rfl (fun y hy => by have d := hy.1.p.fData; go_simp) ?_
  refine quiet_one (.agg (cpC (sumM c 3 p.Data))) rfl (fun y hy => by
    have d := (hs y).mono fun e w' (h : _ ∧ _) => And.intro h.1 (And.intro (hy.1.below h.2) ((h.2.block _ (heap_lt hy.2)).trans hy.2))
    go_simp
    all_goals exact d) ?_
  refine wpQuiet_nil ?_
  intro y3 K3
  replace K3 : Hid _ := K3.1
  go_simp
  go_wp2_with (first
    | (refine at_storeC w.heap.size c (sumM c 3 p.Data) K3.out.c _ _ rfl rfl rfl rfl ?_; intro y5 hw5; have K5 : Hid (Fr w w.heap.size (sumM c 3 p.Data) (w.heap.size + 1) p (w.heap.size + 1 + 1) zeroC y5) := K3.out.putC hw5.out; have g18 : y5.cell? ⟨w.heap.size, 18, none⟩ = some (.int .u8 (c.P : Int)) := K5.out.c.fP)
    | (refine at_loadC w.heap.size _ K7.out.c _ rfl rfl rfl ?_)
    | (refine at_loadC w.heap.size _ K5.out.c _ rfl rfl rfl ?_)
    | (go_at_call 30; refine (hu _).mono ?_; rintro e v6 ⟨rfl, hb6⟩; have K6 : Hid _ := K5.out.below hb6)
    | (refine at_storeC w.heap.size (sumM c 3 p.Data) ((sumM c 3 p.Data).up c.P) K6.out.c _ _ rfl rfl rfl rfl ?_; intro y7 hw7; have K7 : Hid (Fr w w.heap.size ((sumM c 3 p.Data).up c.P) (w.heap.size + 1) p (w.heap.size + 1 + 1) zeroC y7) := K6.out.putC hw7.out)
    | (refine at_storeC (w.heap.size + 1 + 1) zeroC ((sumM c 3 p.Data).up c.P) K7.out.z _ _ rfl rfl rfl rfl ?_; intro w2 hw2))
  refine retC Tryz.results49 rfl hw2.out.1 rfl ⟨rfl, K7.out.low.trans (hw2.out.2.1 _ K7.out.l2)⟩

theorem rsums12 (w : World) (c : Cp) (hc : c.wf) (hP : c.P < 16) (p : Pn) (hp : p.wf) (h : c.Op % 16 = 12) : Calls Tryz.prog 49 #[.agg (cpC c), .agg (pnC p)] w fun e w' => e = .returned (.agg (cpC ((sumM c 4 p.Data).up c.P))) ∧ Below w.heap.size w w' := by
  have hn := fun v => rn_any v c hc
  rw [h] at hn
  have zz := zeroVC
  have hF : Hid (Fr w w.heap.size c (w.heap.size + 1) p (w.heap.size + 1 + 1) zeroC (((w.alloc (.cells (cpC c) 26)).alloc (.cells (pnC p) 38)).alloc (.cells (cpC zeroC) 26))) := Fr.start w c p
  have hs := fun v => rsum_any v c hc 4 p.Data hp.Data
  have hu := fun v => rup_any v (sumM c 4 p.Data) (hc.sum 4 p.Data hp.Data) c.P hP
  clear hc hp h
  go_enter Tryz.func49, Tryz.ntmps49
  go_wp2_with (first
    | (refine gen_world (((w.alloc (.cells (cpC c) 26)).alloc (.cells (pnC p) 38)).alloc (.cells (cpC zeroC) 26)) (Fr w w.heap.size c (w.heap.size + 1) p (w.heap.size + 1 + 1) zeroC) hF.out ?_; intro y K)
    | (refine at_loadC w.heap.size c K.out.c _ rfl rfl rfl ?_)
    | (go_at_call 27; refine (hn _).mono ?_; rintro e v1 ⟨rfl, hb⟩; replace K : Hid _ := K.out.below hb))
  have hA : (v1.alloc (.cells sumTab 93)).heap[v1.heap.size]? = some (.cells sumTab 93 (0, 0)) := alloc_last' v1 _
  have KA : Fr w w.heap.size c (w.heap.size + 1) p (w.heap.size + 1 + 1) zeroC (v1.alloc (.cells sumTab 93)) := K.out.below ((Below.refl _ _).alloc (Nat.le_refl _) _)
  change Code.wp Tryz.prog _ _ _ (v1.alloc (.cells sumTab 93))
  refine region_class_tail 9 (fun x => Fr w w.heap.size c (w.heap.size + 1) p (w.heap.size + 1 + 1) zeroC x ∧ x.heap[v1.heap.size]? = some (.cells sumTab 93 (0, 0))) (by kernel_rfl) (by kernel_rfl) ⟨KA.below (below_drew (Below.refl _ _)), hA⟩ ?_
  simp only [List.take_succ_cons, List.take_zero, List.drop_succ_cons, List.drop_zero]
  refine quiet_one (.agg (cpC c)) rfl (quiet_loadC w.heap.size c (fun _ h => h.1.c) _ rfl rfl) ?_
  refine quiet_one (.slice (some ⟨v1.heap.size, 0, none⟩) 8 8) rfl (fun y hy => by go_simp) ?_
  refine quiet_one (.int .i64 12) rfl (fun y hy => by go_simp) ?_
  refine quiet_one (.int .i64 4) rfl (fun y hy => by go_simp) ?_
  refine quiet_one (.pointer (some ⟨v1.heap.size, 4, none⟩)) rfl (fun y hy => by go_simp) ?_
  refine quiet_one (.int .u8 4) rfl (fun y hy => by have d : y.cell? ⟨v1.heap.size, 4, none⟩ = some (.int .u8 4) := (cell_heap hy.2 4).trans rfl; go_simp) ?_
  refine quiet_one (.pointer (some ⟨w.heap.size + 1, 1, none⟩)) rfl (fun y hy => by go_simp) ?_
  refine quiet_one (.int .u8 p.Data) rfl (fun y hy => by have d := hy.1.p.fData; go_simp) ?_
  refine quiet_one (.agg (cpC (sumM c 4 p.Data))) rfl (fun y hy => by
    have d := (hs y).mono fun e w' (h : _ ∧ _) => And.intro h.1 (And.intro (hy.1.below h.2) ((h.2.block _ (heap_lt hy.2)).trans hy.2))
    go_simp
    all_goals exact d) ?_
  refine wpQuiet_nil ?_
  intro y3 K3
  replace K3 : Hid _ := K3.1
  go_simp
  go_wp2_with (first
    | (refine at_storeC w.heap.size c (sumM c 4 p.Data) K3.out.c _ _ rfl rfl rfl rfl ?_; intro y5 hw5; have K5 : Hid (Fr w w.heap.size (sumM c 4 p.Data) (w.heap.size + 1) p (w.heap.size + 1 + 1) zeroC y5) := K3.out.putC hw5.out; have g18 : y5.cell? ⟨w.heap.size, 18, none⟩ = some (.int .u8 (c.P : Int)) := K5.out.c.fP)
    | (refine at_loadC w.heap.size _ K7.out.c _ rfl rfl rfl ?_)
    | (refine at_loadC w.heap.size _ K5.out.c _ rfl rfl rfl ?_)
    | (go_at_call 30; refine (hu _).mono ?_; rintro e v6 ⟨rfl, hb6⟩; have K6 : Hid _ := K5.out.below hb6)
    | (refine at_storeC w.heap.size (sumM c 4 p.Data) ((sumM c 4 p.Data).up c.P) K6.out.c _ _ rfl rfl rfl rfl ?_; intro y7 hw7; have K7 : Hid (Fr w w.heap.size ((sumM c 4 p.Data).up c.P) (w.heap.size + 1) p (w.heap.size + 1 + 1) zeroC y7) := K6.out.putC hw7.out)
    | (refine at_storeC (w.heap.size + 1 + 1) zeroC ((sumM c 4 p.Data).up c.P) K7.out.z _ _ rfl rfl rfl rfl ?_; intro w2 hw2))
  refine retC Tryz.results49 rfl hw2.out.1 rfl ⟨rfl, K7.out.low.trans (hw2.out.2.1 _ K7.out.l2)⟩

theorem rsums13 (w : World) (c : Cp) (hc : c.wf) (hP : c.P < 16) (p : Pn) (hp : p.wf) (h : c.Op % 16 = 13) : Calls Tryz.prog 49 #[.agg (cpC c), .agg (pnC p)] w fun e w' => e = .returned (.agg (cpC ((sumM c 6 p.Data).up c.P))) ∧ Below w.heap.size w w' := by
  have hn := fun v => rn_any v c hc
  rw [h] at hn
  have zz := zeroVC
  have hF : Hid (Fr w w.heap.size c (w.heap.size + 1) p (w.heap.size + 1 + 1) zeroC (((w.alloc (.cells (cpC c) 26)).alloc (.cells (pnC p) 38)).alloc (.cells (cpC zeroC) 26))) := Fr.start w c p
  have hs := fun v => rsum_any v c hc 6 p.Data hp.Data
  have hu := fun v => rup_any v (sumM c 6 p.Data) (hc.sum 6 p.Data hp.Data) c.P hP
  clear hc hp h
  go_enter Tryz.func49, Tryz.ntmps49
  go_wp2_with (first
    | (refine gen_world (((w.alloc (.cells (cpC c) 26)).alloc (.cells (pnC p) 38)).alloc (.cells (cpC zeroC) 26)) (Fr w w.heap.size c (w.heap.size + 1) p (w.heap.size + 1 + 1) zeroC) hF.out ?_; intro y K)
    | (refine at_loadC w.heap.size c K.out.c _ rfl rfl rfl ?_)
    | (go_at_call 27; refine (hn _).mono ?_; rintro e v1 ⟨rfl, hb⟩; replace K : Hid _ := K.out.below hb))
  have hA : (v1.alloc (.cells sumTab 93)).heap[v1.heap.size]? = some (.cells sumTab 93 (0, 0)) := alloc_last' v1 _
  have KA : Fr w w.heap.size c (w.heap.size + 1) p (w.heap.size + 1 + 1) zeroC (v1.alloc (.cells sumTab 93)) := K.out.below ((Below.refl _ _).alloc (Nat.le_refl _) _)
  change Code.wp Tryz.prog _ _ _ (v1.alloc (.cells sumTab 93))
  refine region_class_tail 9 (fun x => Fr w w.heap.size c (w.heap.size + 1) p (w.heap.size + 1 + 1) zeroC x ∧ x.heap[v1.heap.size]? = some (.cells sumTab 93 (0, 0))) (by kernel_rfl) (by kernel_rfl) ⟨KA.below (below_drew (Below.refl _ _)), hA⟩ ?_
  simp only [List.take_succ_cons, List.take_zero, List.drop_succ_cons, List.drop_zero]
  refine quiet_one (.agg (cpC c)) rfl (quiet_loadC w.heap.size c (fun _ h => h.1.c) _ rfl rfl) ?_
  refine quiet_one (.slice (some ⟨v1.heap.size, 0, none⟩) 8 8) rfl (fun y hy => by go_simp) ?_
  refine quiet_one (.int .i64 13) rfl (fun y hy => by go_simp) ?_
  refine quiet_one (.int .i64 5) rfl (fun y hy => by go_simp) ?_
  refine quiet_one (.pointer (some ⟨v1.heap.size, 5, none⟩)) rfl (fun y hy => by go_simp) ?_
  refine quiet_one (.int .u8 6) rfl (fun y hy => by have d : y.cell? ⟨v1.heap.size, 5, none⟩ = some (.int .u8 6) := (cell_heap hy.2 5).trans rfl; go_simp) ?_
  refine quiet_one (.pointer (some ⟨w.heap.size + 1, 1, none⟩)) rfl (fun y hy => by go_simp) ?_
  refine quiet_one (.int .u8 p.Data) rfl (fun y hy => by have d := hy.1.p.fData; go_simp) ?_
  refine quiet_one (.agg (cpC (sumM c 6 p.Data))) rfl (fun y hy => by
    have d := (hs y).mono fun e w' (h : _ ∧ _) => And.intro h.1 (And.intro (hy.1.below h.2) ((h.2.block _ (heap_lt hy.2)).trans hy.2))
    go_simp
    all_goals exact d) ?_
  refine wpQuiet_nil ?_
  intro y3 K3
  replace K3 : Hid _ := K3.1
  go_simp
  go_wp2_with (first
    | (refine at_storeC w.heap.size c (sumM c 6 p.Data) K3.out.c _ _ rfl rfl rfl rfl ?_; intro y5 hw5; have K5 : Hid (Fr w w.heap.size (sumM c 6 p.Data) (w.heap.size + 1) p (w.heap.size + 1 + 1) zeroC y5) := K3.out.putC hw5.out; have g18 : y5.cell? ⟨w.heap.size, 18, none⟩ = some (.int .u8 (c.P : Int)) := K5.out.c.fP)
    | (refine at_loadC w.heap.size _ K7.out.c _ rfl rfl rfl ?_)
    | (refine at_loadC w.heap.size _ K5.out.c _ rfl rfl rfl ?_)
    | (go_at_call 30; refine (hu _).mono ?_; rintro e v6 ⟨rfl, hb6⟩; have K6 : Hid _ := K5.out.below hb6)
    | (refine at_storeC w.heap.size (sumM c 6 p.Data) ((sumM c 6 p.Data).up c.P) K6.out.c _ _ rfl rfl rfl rfl ?_; intro y7 hw7; have K7 : Hid (Fr w w.heap.size ((sumM c 6 p.Data).up c.P) (w.heap.size + 1) p (w.heap.size + 1 + 1) zeroC y7) := K6.out.putC hw7.out)
    | (refine at_storeC (w.heap.size + 1 + 1) zeroC ((sumM c 6 p.Data).up c.P) K7.out.z _ _ rfl rfl rfl rfl ?_; intro w2 hw2))
  refine retC Tryz.results49 rfl hw2.out.1 rfl ⟨rfl, K7.out.low.trans (hw2.out.2.1 _ K7.out.l2)⟩

theorem rsums15 (w : World) (c : Cp) (hc : c.wf) (hP : c.P < 16) (p : Pn) (hp : p.wf) (h : c.Op % 16 = 15) : Calls Tryz.prog 49 #[.agg (cpC c), .agg (pnC p)] w fun e w' => e = .returned (.agg (cpC ((sumM c 8 p.Data).up c.P))) ∧ Below w.heap.size w w' := by
  have hn := fun v => rn_any v c hc
  rw [h] at hn
  have zz := zeroVC
  have hF : Hid (Fr w w.heap.size c (w.heap.size + 1) p (w.heap.size + 1 + 1) zeroC (((w.alloc (.cells (cpC c) 26)).alloc (.cells (pnC p) 38)).alloc (.cells (cpC zeroC) 26))) := Fr.start w c p
  have hs := fun v => rsum_any v c hc 8 p.Data hp.Data
  have hu := fun v => rup_any v (sumM c 8 p.Data) (hc.sum 8 p.Data hp.Data) c.P hP
  clear hc hp h
  go_enter Tryz.func49, Tryz.ntmps49
  go_wp2_with (first
    | (refine gen_world (((w.alloc (.cells (cpC c) 26)).alloc (.cells (pnC p) 38)).alloc (.cells (cpC zeroC) 26)) (Fr w w.heap.size c (w.heap.size + 1) p (w.heap.size + 1 + 1) zeroC) hF.out ?_; intro y K)
    | (refine at_loadC w.heap.size c K.out.c _ rfl rfl rfl ?_)
    | (go_at_call 27; refine (hn _).mono ?_; rintro e v1 ⟨rfl, hb⟩; replace K : Hid _ := K.out.below hb))
  have hA : (v1.alloc (.cells sumTab 93)).heap[v1.heap.size]? = some (.cells sumTab 93 (0, 0)) := alloc_last' v1 _
  have KA : Fr w w.heap.size c (w.heap.size + 1) p (w.heap.size + 1 + 1) zeroC (v1.alloc (.cells sumTab 93)) := K.out.below ((Below.refl _ _).alloc (Nat.le_refl _) _)
  change Code.wp Tryz.prog _ _ _ (v1.alloc (.cells sumTab 93))
  refine region_class_tail 9 (fun x => Fr w w.heap.size c (w.heap.size + 1) p (w.heap.size + 1 + 1) zeroC x ∧ x.heap[v1.heap.size]? = some (.cells sumTab 93 (0, 0))) (by kernel_rfl) (by kernel_rfl) ⟨KA.below (below_drew (Below.refl _ _)), hA⟩ ?_
  simp only [List.take_succ_cons, List.take_zero, List.drop_succ_cons, List.drop_zero]
  refine quiet_one (.agg (cpC c)) rfl (quiet_loadC w.heap.size c (fun _ h => h.1.c) _ rfl rfl) ?_
  refine quiet_one (.slice (some ⟨v1.heap.size, 0, none⟩) 8 8) rfl (fun y hy => by go_simp) ?_
  refine quiet_one (.int .i64 15) rfl (fun y hy => by go_simp) ?_
  refine quiet_one (.int .i64 7) rfl (fun y hy => by go_simp) ?_
  refine quiet_one (.pointer (some ⟨v1.heap.size, 7, none⟩)) rfl (fun y hy => by go_simp) ?_
  refine quiet_one (.int .u8 8) rfl (fun y hy => by have d : y.cell? ⟨v1.heap.size, 7, none⟩ = some (.int .u8 8) := (cell_heap hy.2 7).trans rfl; go_simp) ?_
  refine quiet_one (.pointer (some ⟨w.heap.size + 1, 1, none⟩)) rfl (fun y hy => by go_simp) ?_
  refine quiet_one (.int .u8 p.Data) rfl (fun y hy => by have d := hy.1.p.fData; go_simp) ?_
  refine quiet_one (.agg (cpC (sumM c 8 p.Data))) rfl (fun y hy => by
    have d := (hs y).mono fun e w' (h : _ ∧ _) => And.intro h.1 (And.intro (hy.1.below h.2) ((h.2.block _ (heap_lt hy.2)).trans hy.2))
    go_simp
    all_goals exact d) ?_
  refine wpQuiet_nil ?_
  intro y3 K3
  replace K3 : Hid _ := K3.1
  go_simp
  go_wp2_with (first
    | (refine at_storeC w.heap.size c (sumM c 8 p.Data) K3.out.c _ _ rfl rfl rfl rfl ?_; intro y5 hw5; have K5 : Hid (Fr w w.heap.size (sumM c 8 p.Data) (w.heap.size + 1) p (w.heap.size + 1 + 1) zeroC y5) := K3.out.putC hw5.out; have g18 : y5.cell? ⟨w.heap.size, 18, none⟩ = some (.int .u8 (c.P : Int)) := K5.out.c.fP)
    | (refine at_loadC w.heap.size _ K7.out.c _ rfl rfl rfl ?_)
    | (refine at_loadC w.heap.size _ K5.out.c _ rfl rfl rfl ?_)
    | (go_at_call 30; refine (hu _).mono ?_; rintro e v6 ⟨rfl, hb6⟩; have K6 : Hid _ := K5.out.below hb6)
    | (refine at_storeC w.heap.size (sumM c 8 p.Data) ((sumM c 8 p.Data).up c.P) K6.out.c _ _ rfl rfl rfl rfl ?_; intro y7 hw7; have K7 : Hid (Fr w w.heap.size ((sumM c 8 p.Data).up c.P) (w.heap.size + 1) p (w.heap.size + 1 + 1) zeroC y7) := K6.out.putC hw7.out)
    | (refine at_storeC (w.heap.size + 1 + 1) zeroC ((sumM c 8 p.Data).up c.P) K7.out.z _ _ rfl rfl rfl rfl ?_; intro w2 hw2))
  refine retC Tryz.results49 rfl hw2.out.1 rfl ⟨rfl, K7.out.low.trans (hw2.out.2.1 _ K7.out.l2)⟩

theorem rsums_any (w : World) (c : Cp) (hc : c.wf) (hP : c.P < 16) (p : Pn) (hp : p.wf) : Calls Tryz.prog 49 #[.agg (cpC c), .agg (pnC p)] w fun e w' => e = .returned (.agg (cpC (sumsM c p))) ∧ Below w.heap.size w w' := by
  unfold sumsM
  rcases (show c.Op % 16 = 0 ∨ c.Op % 16 = 1 ∨ c.Op % 16 = 2 ∨ c.Op % 16 = 3 ∨ c.Op % 16 = 4 ∨ c.Op % 16 = 5 ∨ c.Op % 16 = 6 ∨ c.Op % 16 = 7 ∨ c.Op % 16 = 8 ∨ c.Op % 16 = 9 ∨ c.Op % 16 = 10 ∨ c.Op % 16 = 11 ∨ c.Op % 16 = 12 ∨ c.Op % 16 = 13 ∨ c.Op % 16 = 14 ∨ c.Op % 16 = 15 by omega) with h | h | h | h | h | h | h | h | h | h | h | h | h | h | h | h <;> simp only [h]
  · exact rsums0 w c hc p hp h
  · exact rsums1 w c hc p hp h
  · exact rsums2 w c hc p hp h
  · exact rsums3 w c hc p hp h
  · exact rsums4 w c hc p hp h
  · exact rsums5 w c hc p hp h
  · exact rsums6 w c hc p hp h
  · exact rsums7 w c hc p hp h
  · exact rsums8 w c hc hP p hp h
  · exact rsums9 w c hc hP p hp h
  · exact rsums10 w c hc hP p hp h
  · exact rsums11 w c hc hP p hp h
  · exact rsums12 w c hc hP p hp h
  · exact rsums13 w c hc hP p hp h
  · exact rsums14 w c hc p hp h
  · exact rsums15 w c hc hP p hp h
end Go.Proofs.YtbeeefekndcgnaaGreatDoor
