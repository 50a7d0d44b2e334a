/- A cycle's long skips and the first cycle of the long ones. A cycle's second cycle of the long ones; DIS. -/
import Derived.Test.YtbeeefekndcgnaaGreatDoorCy
import Derived.Test.YtbeeefekndcgnaaGreatDoorPl
import Derived.Test.YtbeeefekndcgnaaGreatDoorYe
import Derived.Test.YtbeeefekndcgnaaGreatDoorYd
namespace Go.Proofs.YtbeeefekndcgnaaGreatDoor
open Go Go.RowKit
set_option linter.unusedVariables false
set_option maxHeartbeats 1000000
set_option maxRecDepth 20000

theorem yskips4 (w : World) (c : Cp) (hc : c.wf) (p : Pn) (hp : p.wf) (h : c.Op % 16 = 4) : Calls Tryz.prog 101 #[.agg (cyC c p)] w fun e w' => e = .returned (.bool (false)) ∧ Below w.heap.size w w' := by
  have hn := fun v => yn v c hc p hp
  rw [h] at hn
  have hY : Hid (BoxY (w.alloc (.cells (cyC c p) 52)) w.heap.size c p) := BoxY.new w c p
  have hB : Hid (Below w.heap.size w (w.alloc (.cells (cyC c p) 52))) := below1 _ _
  clear hc hp h
  go_enter Tryz.func101, Tryz.ntmps101
  go_wp2_with (first
    | (refine gen_world (w.alloc (.cells (cyC c p) 52)) (fun y => BoxY y w.heap.size c p ∧ Below w.heap.size w y) ⟨hY.out, hB.out⟩ ?_; intro y K)
    | (go_at_call 81; refine (hn _).mono ?_; rintro e v1 ⟨rfl, hb1⟩; replace K : Hid (BoxY v1 w.heap.size c p ∧ Below w.heap.size w v1) := ⟨K.out.1.below hb1, K.out.2.trans (hb1.mono K.out.2.size)⟩; have d21 := K.out.1.fIE)
    | (refine at_loadY w.heap.size c p K.out.1 _ rfl rfl rfl ?_))
  go_ret
  exact ⟨by first | rfl | simp, K.out.2⟩

theorem yskips8 (w : World) (c : Cp) (hc : c.wf) (p : Pn) (hp : p.wf) (h : c.Op % 16 = 8) : Calls Tryz.prog 101 #[.agg (cyC c p)] w fun e w' => e = .returned (.bool (true)) ∧ Below w.heap.size w w' := by
  have hn := fun v => yn v c hc p hp
  rw [h] at hn
  have hY : Hid (BoxY (w.alloc (.cells (cyC c p) 52)) w.heap.size c p) := BoxY.new w c p
  have hB : Hid (Below w.heap.size w (w.alloc (.cells (cyC c p) 52))) := below1 _ _
  clear hc hp h
  go_enter Tryz.func101, Tryz.ntmps101
  go_wp2_with (first
    | (refine gen_world (w.alloc (.cells (cyC c p) 52)) (fun y => BoxY y w.heap.size c p ∧ Below w.heap.size w y) ⟨hY.out, hB.out⟩ ?_; intro y K)
    | (go_at_call 81; refine (hn _).mono ?_; rintro e v1 ⟨rfl, hb1⟩; replace K : Hid (BoxY v1 w.heap.size c p ∧ Below w.heap.size w v1) := ⟨K.out.1.below hb1, K.out.2.trans (hb1.mono K.out.2.size)⟩; have d21 := K.out.1.fIE)
    | (refine at_loadY w.heap.size c p K.out.1 _ rfl rfl rfl ?_))
  go_ret
  exact ⟨by first | rfl | simp, K.out.2⟩

theorem yskips12 (w : World) (c : Cp) (hc : c.wf) (p : Pn) (hp : p.wf) (h : c.Op % 16 = 12) : Calls Tryz.prog 101 #[.agg (cyC c p)] w fun e w' => e = .returned (.bool (c.IE)) ∧ Below w.heap.size w w' := by
  have hn := fun v => yn v c hc p hp
  rw [h] at hn
  have hY : Hid (BoxY (w.alloc (.cells (cyC c p) 52)) w.heap.size c p) := BoxY.new w c p
  have hB : Hid (Below w.heap.size w (w.alloc (.cells (cyC c p) 52))) := below1 _ _
  clear hc hp h
  go_enter Tryz.func101, Tryz.ntmps101
  go_wp2_with (first
    | (refine gen_world (w.alloc (.cells (cyC c p) 52)) (fun y => BoxY y w.heap.size c p ∧ Below w.heap.size w y) ⟨hY.out, hB.out⟩ ?_; intro y K)
    | (go_at_call 81; refine (hn _).mono ?_; rintro e v1 ⟨rfl, hb1⟩; replace K : Hid (BoxY v1 w.heap.size c p ∧ Below w.heap.size w v1) := ⟨K.out.1.below hb1, K.out.2.trans (hb1.mono K.out.2.size)⟩; have d21 := K.out.1.fIE)
    | (refine at_loadY w.heap.size c p K.out.1 _ rfl rfl rfl ?_))
  go_ret
  exact ⟨by first | rfl | simp, K.out.2⟩

theorem yskips5 (w : World) (c : Cp) (hc : c.wf) (p : Pn) (hp : p.wf) (h : c.Op % 16 = 5) (H : Bool) (hHe : holdsM c p 1 = H) : Calls Tryz.prog 101 #[.agg (cyC c p)] w fun e w' => e = .returned (.bool (H == false)) ∧ Below w.heap.size w w' := by
  have hn := fun v => yn v c hc p hp
  rw [h] at hn
  have hH : ∀ v, Calls Tryz.prog 92 #[.agg (cyC c p), .int .u8 1] v fun e w' => e = .returned (.bool H) ∧ Below v.heap.size v w' := fun v => hHe ▸ yholds v c p 1 (by decide)
  have hY : Hid (BoxY (w.alloc (.cells (cyC c p) 52)) w.heap.size c p) := BoxY.new w c p
  have hB : Hid (Below w.heap.size w (w.alloc (.cells (cyC c p) 52))) := below1 _ _
  clear hc hp h hHe
  go_enter Tryz.func101, Tryz.ntmps101
  go_wp2_with (first
    | (refine gen_world (w.alloc (.cells (cyC c p) 52)) (fun y => BoxY y w.heap.size c p ∧ Below w.heap.size w y) ⟨hY.out, hB.out⟩ ?_; intro y K)
    | (go_at_call 81; refine (hn _).mono ?_; rintro e v1 ⟨rfl, hb1⟩; replace K : Hid (BoxY v1 w.heap.size c p ∧ Below w.heap.size w v1) := ⟨K.out.1.below hb1, K.out.2.trans (hb1.mono K.out.2.size)⟩)
    | (go_at_call 92; refine (hH _).mono ?_; rintro e v2 ⟨rfl, hb2⟩; replace K : Hid (BoxY v2 w.heap.size c p ∧ Below w.heap.size w v2) := ⟨K.out.1.below hb2, K.out.2.trans (hb2.mono K.out.2.size)⟩)
    | (refine at_loadY w.heap.size c p K.out.1 _ rfl rfl rfl ?_))
  go_ret
  exact ⟨by first | rfl | simp, K.out.2⟩

theorem yskips6 (w : World) (c : Cp) (hc : c.wf) (p : Pn) (hp : p.wf) (h : c.Op % 16 = 6) (H : Bool) (hHe : holdsM c p 2 = H) : Calls Tryz.prog 101 #[.agg (cyC c p)] w fun e w' => e = .returned (.bool (H == false)) ∧ Below w.heap.size w w' := by
  have hn := fun v => yn v c hc p hp
  rw [h] at hn
  have hH : ∀ v, Calls Tryz.prog 92 #[.agg (cyC c p), .int .u8 2] v fun e w' => e = .returned (.bool H) ∧ Below v.heap.size v w' := fun v => hHe ▸ yholds v c p 2 (by decide)
  have hY : Hid (BoxY (w.alloc (.cells (cyC c p) 52)) w.heap.size c p) := BoxY.new w c p
  have hB : Hid (Below w.heap.size w (w.alloc (.cells (cyC c p) 52))) := below1 _ _
  clear hc hp h hHe
  go_enter Tryz.func101, Tryz.ntmps101
  go_wp2_with (first
    | (refine gen_world (w.alloc (.cells (cyC c p) 52)) (fun y => BoxY y w.heap.size c p ∧ Below w.heap.size w y) ⟨hY.out, hB.out⟩ ?_; intro y K)
    | (go_at_call 81; refine (hn _).mono ?_; rintro e v1 ⟨rfl, hb1⟩; replace K : Hid (BoxY v1 w.heap.size c p ∧ Below w.heap.size w v1) := ⟨K.out.1.below hb1, K.out.2.trans (hb1.mono K.out.2.size)⟩)
    | (go_at_call 92; refine (hH _).mono ?_; rintro e v2 ⟨rfl, hb2⟩; replace K : Hid (BoxY v2 w.heap.size c p ∧ Below w.heap.size w v2) := ⟨K.out.1.below hb2, K.out.2.trans (hb2.mono K.out.2.size)⟩)
    | (refine at_loadY w.heap.size c p K.out.1 _ rfl rfl rfl ?_))
  go_ret
  exact ⟨by first | rfl | simp, K.out.2⟩

theorem yskips7 (w : World) (c : Cp) (hc : c.wf) (p : Pn) (hp : p.wf) (h : c.Op % 16 = 7) (H : Bool) (hHe : holdsM c p 3 = H) : Calls Tryz.prog 101 #[.agg (cyC c p)] w fun e w' => e = .returned (.bool (H == false)) ∧ Below w.heap.size w w' := by
  have hn := fun v => yn v c hc p hp
  rw [h] at hn
  have hH : ∀ v, Calls Tryz.prog 92 #[.agg (cyC c p), .int .u8 3] v fun e w' => e = .returned (.bool H) ∧ Below v.heap.size v w' := fun v => hHe ▸ yholds v c p 3 (by decide)
  have hY : Hid (BoxY (w.alloc (.cells (cyC c p) 52)) w.heap.size c p) := BoxY.new w c p
  have hB : Hid (Below w.heap.size w (w.alloc (.cells (cyC c p) 52))) := below1 _ _
  clear hc hp h hHe
  go_enter Tryz.func101, Tryz.ntmps101
  go_wp2_with (first
    | (refine gen_world (w.alloc (.cells (cyC c p) 52)) (fun y => BoxY y w.heap.size c p ∧ Below w.heap.size w y) ⟨hY.out, hB.out⟩ ?_; intro y K)
    | (go_at_call 81; refine (hn _).mono ?_; rintro e v1 ⟨rfl, hb1⟩; replace K : Hid (BoxY v1 w.heap.size c p ∧ Below w.heap.size w v1) := ⟨K.out.1.below hb1, K.out.2.trans (hb1.mono K.out.2.size)⟩)
    | (go_at_call 92; refine (hH _).mono ?_; rintro e v2 ⟨rfl, hb2⟩; replace K : Hid (BoxY v2 w.heap.size c p ∧ Below w.heap.size w v2) := ⟨K.out.1.below hb2, K.out.2.trans (hb2.mono K.out.2.size)⟩)
    | (refine at_loadY w.heap.size c p K.out.1 _ rfl rfl rfl ?_))
  go_ret
  exact ⟨by first | rfl | simp, K.out.2⟩

theorem yskips13 (w : World) (c : Cp) (hc : c.wf) (p : Pn) (hp : p.wf) (h : c.Op % 16 = 13) (H : Bool) (hHe : holdsM c p 1 = H) : Calls Tryz.prog 101 #[.agg (cyC c p)] w fun e w' => e = .returned (.bool (H == true)) ∧ Below w.heap.size w w' := by
  have hn := fun v => yn v c hc p hp
  rw [h] at hn
  have hH : ∀ v, Calls Tryz.prog 92 #[.agg (cyC c p), .int .u8 1] v fun e w' => e = .returned (.bool H) ∧ Below v.heap.size v w' := fun v => hHe ▸ yholds v c p 1 (by decide)
  have hY : Hid (BoxY (w.alloc (.cells (cyC c p) 52)) w.heap.size c p) := BoxY.new w c p
  have hB : Hid (Below w.heap.size w (w.alloc (.cells (cyC c p) 52))) := below1 _ _
  clear hc hp h hHe
  go_enter Tryz.func101, Tryz.ntmps101
  go_wp2_with (first
    | (refine gen_world (w.alloc (.cells (cyC c p) 52)) (fun y => BoxY y w.heap.size c p ∧ Below w.heap.size w y) ⟨hY.out, hB.out⟩ ?_; intro y K)
    | (go_at_call 81; refine (hn _).mono ?_; rintro e v1 ⟨rfl, hb1⟩; replace K : Hid (BoxY v1 w.heap.size c p ∧ Below w.heap.size w v1) := ⟨K.out.1.below hb1, K.out.2.trans (hb1.mono K.out.2.size)⟩)
    | (go_at_call 92; refine (hH _).mono ?_; rintro e v2 ⟨rfl, hb2⟩; replace K : Hid (BoxY v2 w.heap.size c p ∧ Below w.heap.size w v2) := ⟨K.out.1.below hb2, K.out.2.trans (hb2.mono K.out.2.size)⟩)
    | (refine at_loadY w.heap.size c p K.out.1 _ rfl rfl rfl ?_))
  go_ret
  exact ⟨by first | rfl | simp, K.out.2⟩

theorem yskips14 (w : World) (c : Cp) (hc : c.wf) (p : Pn) (hp : p.wf) (h : c.Op % 16 = 14) (H : Bool) (hHe : holdsM c p 2 = H) : Calls Tryz.prog 101 #[.agg (cyC c p)] w fun e w' => e = .returned (.bool (H == true)) ∧ Below w.heap.size w w' := by
  have hn := fun v => yn v c hc p hp
  rw [h] at hn
  have hH : ∀ v, Calls Tryz.prog 92 #[.agg (cyC c p), .int .u8 2] v fun e w' => e = .returned (.bool H) ∧ Below v.heap.size v w' := fun v => hHe ▸ yholds v c p 2 (by decide)
  have hY : Hid (BoxY (w.alloc (.cells (cyC c p) 52)) w.heap.size c p) := BoxY.new w c p
  have hB : Hid (Below w.heap.size w (w.alloc (.cells (cyC c p) 52))) := below1 _ _
  clear hc hp h hHe
  go_enter Tryz.func101, Tryz.ntmps101
  go_wp2_with (first
    | (refine gen_world (w.alloc (.cells (cyC c p) 52)) (fun y => BoxY y w.heap.size c p ∧ Below w.heap.size w y) ⟨hY.out, hB.out⟩ ?_; intro y K)
    | (go_at_call 81; refine (hn _).mono ?_; rintro e v1 ⟨rfl, hb1⟩; replace K : Hid (BoxY v1 w.heap.size c p ∧ Below w.heap.size w v1) := ⟨K.out.1.below hb1, K.out.2.trans (hb1.mono K.out.2.size)⟩)
    | (go_at_call 92; refine (hH _).mono ?_; rintro e v2 ⟨rfl, hb2⟩; replace K : Hid (BoxY v2 w.heap.size c p ∧ Below w.heap.size w v2) := ⟨K.out.1.below hb2, K.out.2.trans (hb2.mono K.out.2.size)⟩)
    | (refine at_loadY w.heap.size c p K.out.1 _ rfl rfl rfl ?_))
  go_ret
  exact ⟨by first | rfl | simp, K.out.2⟩

theorem yskips15 (w : World) (c : Cp) (hc : c.wf) (p : Pn) (hp : p.wf) (h : c.Op % 16 = 15) (H : Bool) (hHe : holdsM c p 3 = H) : Calls Tryz.prog 101 #[.agg (cyC c p)] w fun e w' => e = .returned (.bool (H == true)) ∧ Below w.heap.size w w' := by
  have hn := fun v => yn v c hc p hp
  rw [h] at hn
  have hH : ∀ v, Calls Tryz.prog 92 #[.agg (cyC c p), .int .u8 3] v fun e w' => e = .returned (.bool H) ∧ Below v.heap.size v w' := fun v => hHe ▸ yholds v c p 3 (by decide)
  have hY : Hid (BoxY (w.alloc (.cells (cyC c p) 52)) w.heap.size c p) := BoxY.new w c p
  have hB : Hid (Below w.heap.size w (w.alloc (.cells (cyC c p) 52))) := below1 _ _
  clear hc hp h hHe
  go_enter Tryz.func101, Tryz.ntmps101
  go_wp2_with (first
    | (refine gen_world (w.alloc (.cells (cyC c p) 52)) (fun y => BoxY y w.heap.size c p ∧ Below w.heap.size w y) ⟨hY.out, hB.out⟩ ?_; intro y K)
    | (go_at_call 81; refine (hn _).mono ?_; rintro e v1 ⟨rfl, hb1⟩; replace K : Hid (BoxY v1 w.heap.size c p ∧ Below w.heap.size w v1) := ⟨K.out.1.below hb1, K.out.2.trans (hb1.mono K.out.2.size)⟩)
    | (go_at_call 92; refine (hH _).mono ?_; rintro e v2 ⟨rfl, hb2⟩; replace K : Hid (BoxY v2 w.heap.size c p ∧ Below w.heap.size w v2) := ⟨K.out.1.below hb2, K.out.2.trans (hb2.mono K.out.2.size)⟩)
    | (refine at_loadY w.heap.size c p K.out.1 _ rfl rfl rfl ?_))
  go_ret
  exact ⟨by first | rfl | simp, K.out.2⟩

theorem yskips (w : World) (c : Cp) (hc : c.wf) (p : Pn) (hp : p.wf) (h12 : c.Op / 16 = 12) (h6 : rfmI c.Op ≠ 6) : Calls Tryz.prog 101 #[.agg (cyC c p)] w fun e w' => e = .returned (.bool (goesM c)) ∧ Below w.heap.size w w' := by
  have hq : c.Op % 16 = 4 ∨ c.Op % 16 = 8 ∨ c.Op % 16 = 12 ∨ c.Op % 16 = 5 ∨ c.Op % 16 = 6 ∨ c.Op % 16 = 7 ∨ c.Op % 16 = 13 ∨ c.Op % 16 = 14 ∨ c.Op % 16 = 15 := by
    have e : (c.Op : Int) / 16 = 12 := by omega
    unfold rfmI at h6
    simp only [e] at h6
    simp at h6
    omega
  unfold goesM
  rcases hq with h | h | h | h | h | h | h | h | h <;> simp only [h]
  · exact yskips4 w c hc p hp h
  · exact yskips8 w c hc p hp h
  · exact yskips12 w c hc p hp h
  · exact (yskips5 w c hc p hp h c.Q rfl).mono fun _ _ ⟨he, hb⟩ => ⟨he.trans (ret_bool (by first | (simp; done) | (show ((c.D == 0) == false) = !(c.D == 0); cases (c.D == 0) <;> rfl))), hb⟩
  · exact (yskips6 w c hc p hp h (c.D == 0) rfl).mono fun _ _ ⟨he, hb⟩ => ⟨he.trans (ret_bool (by first | (simp; done) | (show ((c.D == 0) == false) = !(c.D == 0); cases (c.D == 0) <;> rfl))), hb⟩
  · exact (yskips7 w c hc p hp h c.DF rfl).mono fun _ _ ⟨he, hb⟩ => ⟨he.trans (ret_bool (by first | (simp; done) | (show ((c.D == 0) == false) = !(c.D == 0); cases (c.D == 0) <;> rfl))), hb⟩
  · exact (yskips13 w c hc p hp h c.Q rfl).mono fun _ _ ⟨he, hb⟩ => ⟨he.trans (ret_bool (by first | (simp; done) | (show ((c.D == 0) == false) = !(c.D == 0); cases (c.D == 0) <;> rfl))), hb⟩
  · exact (yskips14 w c hc p hp h (c.D == 0) rfl).mono fun _ _ ⟨he, hb⟩ => ⟨he.trans (ret_bool (by first | (simp; done) | (show ((c.D == 0) == false) = !(c.D == 0); cases (c.D == 0) <;> rfl))), hb⟩
  · exact (yskips15 w c hc p hp h c.DF rfl).mono fun _ _ ⟨he, hb⟩ => ⟨he.trans (ret_bool (by first | (simp; done) | (show ((c.D == 0) == false) = !(c.D == 0); cases (c.D == 0) <;> rfl))), hb⟩

theorem yskip1 (w : World) (c : Cp) (hc : c.wf) (p : Pn) (hp : p.wf) (hP : c.P < 16) (h12 : c.Op / 16 = 12) (h6 : rfmI c.Op ≠ 6) (hg : goesM c = true) : Calls Tryz.prog 88 #[.agg (cyC c p)] w fun e w' => e = .returned (.agg (cpC (c.up c.P))) ∧ Below w.heap.size w w' := by
  have hs := fun v => yskips v c hc p hp h12 h6
  rw [hg] at hs
  have ix := fun v => idx (g := w.heap.size) (off := 0) (N := 16) Tryz.underlying23 infoR .u8 c.P v hP
  simp only [Nat.zero_add, Nat.mul_one] at ix
  have hS : Hid ((cyC c p).setIfInBounds c.P (.int .u16 (IntKind.u16.wrap (c.R c.P + 1))) = cyC (c.up c.P) p) := cyC_up _ p c.P hP
  have hR' : Hid (∀ b x, BoxY x b c p → x.cell? ⟨b, c.P, none⟩ = some (.int .u16 (c.R c.P))) := fun b x h => h.r c.P hP
  have zz := zeroVC
  have hF : Hid (Fy w w.heap.size c p (w.heap.size + 1) zeroC ((w.alloc (.cells (cyC c p) 52)).alloc (.cells (cpC zeroC) 26))) := Fy.start w c p
  clear hc hp hP h12 h6 hg
  go_enter Tryz.func88, Tryz.ntmps88
  go_wp2_with (first
    | (refine gen_world ((w.alloc (.cells (cyC c p) 52)).alloc (.cells (cpC zeroC) 26)) (Fy w w.heap.size c p (w.heap.size + 1) zeroC) hF.out ?_; intro y K)
    | (go_at_call 101; refine (hs _).mono ?_; rintro e v1 ⟨rfl, hbv1⟩; replace K : Hid _ := K.out.below hbv1; have d18 := K.out.yb.fP; have dq := hR'.out _ _ K.out.yb; have fq := K.out.yb.fz c.P; have K1 : Hid (Fy w w.heap.size (c.up c.P) p (w.heap.size + 1) zeroC (v1.setCell ⟨w.heap.size, c.P, none⟩ (.int .u16 (IntKind.u16.wrap (c.R c.P + 1))))) := K.out.setC c.P _ hS.out)
    | (refine at_loadYC w.heap.size _ p K1.out.yb _ rfl rfl rfl ?_)
    | (refine at_loadY w.heap.size c p K.out.yb _ rfl rfl rfl ?_)
    | (refine at_storeC (w.heap.size + 1) zeroC (c.up c.P) K1.out.z _ _ rfl rfl rfl rfl ?_; intro w2 hw2))
  refine retC Tryz.results88 rfl hw2.out.1 rfl ⟨rfl, K1.out.low.trans (hw2.out.2.1 _ K1.out.l2)⟩

theorem yskip0 (w : World) (c : Cp) (hc : c.wf) (p : Pn) (hp : p.wf) (h12 : c.Op / 16 = 12) (h6 : rfmI c.Op ≠ 6) (hg : goesM c = false) : Calls Tryz.prog 88 #[.agg (cyC c p)] w fun e w' => e = .returned (.agg (cpC c)) ∧ Below w.heap.size w w' := by
  have hs := fun v => yskips v c hc p hp h12 h6
  rw [hg] at hs
  have zz := zeroVC
  have hF : Hid (Fy w w.heap.size c p (w.heap.size + 1) zeroC ((w.alloc (.cells (cyC c p) 52)).alloc (.cells (cpC zeroC) 26))) := Fy.start w c p
  clear hc hp h12 h6 hg
  go_enter Tryz.func88, Tryz.ntmps88
  go_wp2_with (first
    | (refine gen_world ((w.alloc (.cells (cyC c p) 52)).alloc (.cells (cpC zeroC) 26)) (Fy w w.heap.size c p (w.heap.size + 1) zeroC) hF.out ?_; intro y K)
    | (go_at_call 101; refine (hs _).mono ?_; rintro e v1 ⟨rfl, hbv1⟩; replace K : Hid _ := K.out.below hbv1)
    | (refine at_loadYC w.heap.size _ p K.out.yb _ rfl rfl rfl ?_)
    | (refine at_loadY w.heap.size c p K.out.yb _ rfl rfl rfl ?_)
    | (refine at_storeC (w.heap.size + 1) zeroC c K.out.z _ _ rfl rfl rfl rfl ?_; intro w2 hw2))
  refine retC Tryz.results88 rfl hw2.out.1 rfl ⟨rfl, K.out.low.trans (hw2.out.2.1 _ K.out.l2)⟩

def skipM (c : Cp) : Cp := if goesM c then c.up c.P else c
theorem yskip (w : World) (c : Cp) (hc : c.wf) (p : Pn) (hp : p.wf) (hP : c.P < 16) (h12 : c.Op / 16 = 12) (h6 : rfmI c.Op ≠ 6) : Calls Tryz.prog 88 #[.agg (cyC c p)] w fun e w' => e = .returned (.agg (cpC (skipM c))) ∧ Below w.heap.size w w' := by
  unfold skipM
  rcases hg : goesM c
  · rw [if_neg (by simp)]; exact yskip0 w c hc p hp h12 h6 hg
  · rw [if_pos rfl]; exact yskip1 w c hc p hp hP h12 h6 hg
theorem ylong1a (w : World) (c : Cp) (hc : c.wf) (p : Pn) (hp : p.wf) (tb : Tabs w) (hP : c.P < 16) (h6 : rfmI c.Op = 6) : Calls Tryz.prog 68 #[.agg (cyC c p)] w fun e w' => e = .returned (.agg (cpC ({ c with B := p.Data }.up c.P))) ∧ Below w.heap.size w w' := by
  have hj := fun v t => yjumps v c hc p hp t
  rw [h6] at hj
  simp only [decide_true] at hj
  have tb' : Hid (Tabs w) := tb
  have ix := fun v => idx (g := w.heap.size) (off := 0) (N := 16) Tryz.underlying23 infoR .u8 c.P v hP
  simp only [Nat.zero_add, Nat.mul_one] at ix
  have hS : Hid ((cyC { c with B := p.Data } p).setIfInBounds c.P (.int .u16 (IntKind.u16.wrap (c.R c.P + 1))) = cyC ({ c with B := p.Data }.up c.P) p) := cyC_up _ p c.P hP
  have hR' : Hid (∀ b x, BoxY x b { c with B := p.Data } p → x.cell? ⟨b, c.P, none⟩ = some (.int .u16 (c.R c.P))) := fun b x h => h.r c.P hP
  have zz := zeroVC
  have hF : Hid (Fy w w.heap.size c p (w.heap.size + 1) zeroC ((w.alloc (.cells (cyC c p) 52)).alloc (.cells (cpC zeroC) 26))) := Fy.start w c p
  clear hc hp hP h6 tb
  go_enter Tryz.func68, Tryz.ntmps68
  go_wp2_with (first
    | (refine gen_world ((w.alloc (.cells (cyC c p) 52)).alloc (.cells (cpC zeroC) 26)) (Fy w w.heap.size c p (w.heap.size + 1) zeroC) hF.out ?_; intro y K)
    | (go_at_call 87; refine (hj _ (tb'.out.below K.out.low)).mono ?_; rintro e v1 ⟨rfl, hb1⟩; replace K : Hid _ := K.out.below hb1; have d2 := K.out.yb.fData; have d3 := K.out.yb.fB; have f24 := K.out.yb.fz 24; have K1 : Hid (Fy w w.heap.size { c with B := p.Data } p (w.heap.size + 1) zeroC (v1.setCell ⟨w.heap.size, 24, none⟩ (.int .u8 p.Data))) := K.out.setC 24 _ (cyC_setB c p p.Data))
    | (refine gen_world (v1.setCell ⟨w.heap.size, 24, none⟩ (.int .u8 p.Data)) (Fy w w.heap.size { c with B := p.Data } p (w.heap.size + 1) zeroC) K1.out ?_; intro y1 K2; have d18 : y1.cell? ⟨w.heap.size, 18, none⟩ = some (.int .u8 (c.P : Int)) := K2.out.yb.fP; have dq := hR'.out _ _ K2.out.yb; have fq := K2.out.yb.fz c.P; have K3 : Hid (Fy w w.heap.size ({ c with B := p.Data }.up c.P) p (w.heap.size + 1) zeroC (y1.setCell ⟨w.heap.size, c.P, none⟩ (.int .u16 (IntKind.u16.wrap (c.R c.P + 1))))) := K2.out.setC c.P _ hS.out)
    | (refine at_loadYC w.heap.size _ p K3.out.yb _ rfl rfl rfl ?_)
    | (refine at_loadY w.heap.size c p K.out.yb _ rfl rfl rfl ?_)
    | (refine at_storeC (w.heap.size + 1) zeroC ({ c with B := p.Data }.up c.P) K3.out.z _ _ rfl rfl rfl rfl ?_; intro w2 hw2))
  refine retC Tryz.results68 rfl hw2.out.1 rfl ⟨rfl, K3.out.low.trans (hw2.out.2.1 _ K3.out.l2)⟩

theorem ylong1b (w : World) (c : Cp) (hc : c.wf) (p : Pn) (hp : p.wf) (tb : Tabs w) (hP : c.P < 16) (h12 : c.Op / 16 = 12) (h6 : rfmI c.Op ≠ 6) : Calls Tryz.prog 68 #[.agg (cyC c p)] w fun e w' => e = .returned (.agg (cpC (skipM c))) ∧ Below w.heap.size w w' := by
  have hj := fun v t => yjumps v c hc p hp t
  have e6 : decide (rfmI c.Op = 6) = false := by simpa using h6
  rw [e6] at hj
  have hk := fun v => yskip v c hc p hp hP h12 h6
  have tb' : Hid (Tabs w) := tb
  have zz := zeroVC
  have hF : Hid (Fy w w.heap.size c p (w.heap.size + 1) zeroC ((w.alloc (.cells (cyC c p) 52)).alloc (.cells (cpC zeroC) 26))) := Fy.start w c p
  clear hc hp hP h12 h6 e6 tb
  go_enter Tryz.func68, Tryz.ntmps68
  go_wp2_with (first
    | (refine gen_world ((w.alloc (.cells (cyC c p) 52)).alloc (.cells (cpC zeroC) 26)) (Fy w w.heap.size c p (w.heap.size + 1) zeroC) hF.out ?_; intro y K)
    | (go_at_call 87; refine (hj _ (tb'.out.below K.out.low)).mono ?_; rintro e v1 ⟨rfl, hb1⟩; replace K : Hid _ := K.out.below hb1)
    | (go_at_call 88; refine (hk _).mono ?_; rintro e v2 ⟨rfl, hbv2⟩; replace K : Hid _ := K.out.below hbv2)
    | (refine at_loadY w.heap.size c p K.out.yb _ rfl rfl rfl ?_)
    | (refine at_storeC (w.heap.size + 1) zeroC (skipM c) K.out.z _ _ rfl rfl rfl rfl ?_; intro w2 hw2))
  refine retC Tryz.results68 rfl hw2.out.1 rfl ⟨rfl, K.out.low.trans (hw2.out.2.1 _ K.out.l2)⟩

theorem ylong1 (w : World) (c : Cp) (hc : c.wf) (p : Pn) (hp : p.wf) (tb : Tabs w) (hP : c.P < 16) (h12 : c.Op / 16 = 12) : Calls Tryz.prog 68 #[.agg (cyC c p)] w fun e w' => e = .returned (.agg (cpC (long1M c p))) ∧ Below w.heap.size w w' := by
  unfold long1M
  by_cases h6 : rfmI c.Op = 6
  · rw [if_pos h6]; exact ylong1a w c hc p hp tb hP h6
  · rw [if_neg h6]; exact ylong1b w c hc p hp tb hP h12 h6
end Go.Proofs.YtbeeefekndcgnaaGreatDoor

namespace Go.Proofs.YtbeeefekndcgnaaGreatDoor
open Go Go.RowKit
set_option linter.unusedVariables false
set_option maxHeartbeats 1000000
set_option maxRecDepth 20000

theorem ydisable (w : World) (c : Cp) (hc : c.wf) (p : Pn) (hp : p.wf) (hX : c.X < 16) : Calls Tryz.prog 94 #[.agg (cyC c p)] w fun e w' => e = .returned (.agg (cpC ({ ({ c with IE := false }.up c.X) with X := (p.Data / 16).toNat, P := (p.Data % 16).toNat }))) ∧ Below w.heap.size w w' := by
  have hg := fun v => ygive v c hc p hp hX
  obtain ⟨G, hG⟩ : ∃ G : Cp, ({ ({ c with IE := true }.up c.X) with X := (p.Data / 16).toNat, P := (p.Data % 16).toNat }) = G := ⟨_, rfl⟩
  rw [hG] at hg
  have e : ({ ({ c with IE := false }.up c.X) with X := (p.Data / 16).toNat, P := (p.Data % 16).toNat }) = { G with IE := false } := by rw [← hG]; rfl
  rw [e]
  have zz := zeroVC
  have hF : Hid (Fy w w.heap.size c p (w.heap.size + 1) zeroC ((w.alloc (.cells (cyC c p) 52)).alloc (.cells (cpC zeroC) 26))) := Fy.start w c p
  clear hc hp hX hG e
  go_enter Tryz.func94, Tryz.ntmps94
  go_wp2_with (first
    | (refine gen_world ((w.alloc (.cells (cyC c p) 52)).alloc (.cells (cpC zeroC) 26)) (Fy w w.heap.size c p (w.heap.size + 1) zeroC) hF.out ?_; intro y K)
    | (refine at_loadY w.heap.size c p K.out.yb _ rfl rfl rfl ?_)
    | (go_at_call 93; refine (hg _).mono ?_; rintro e v1 ⟨rfl, hb1⟩; replace K : Hid _ := K.out.below hb1; have k2 := Fz.new K.out zeroC)
    | (refine gen_world (v1.alloc (.cells (cpC zeroC) 26)) (Fz w w.heap.size c p (w.heap.size + 1) zeroC v1.heap.size zeroC) (Fz.new K.out zeroC) ?_; intro y2 K2)
    | (refine at_storeC v1.heap.size zeroC G K2.out.l _ _ rfl rfl rfl rfl ?_; intro y3 hw3; have K3 : Hid (Fz w w.heap.size c p (w.heap.size + 1) zeroC v1.heap.size G y3) := K2.out.putL hw3.out; have d21 := K3.out.l.fIE; have f21 := K3.out.l.fz 21; have K9 : Hid (Fz w w.heap.size c p (w.heap.size + 1) zeroC v1.heap.size { G with IE := false } (y3.setCell ⟨v1.heap.size, 21, none⟩ (.bool false))) := K3.out.setL 21 _ (cpC_setIE G false))
    | (refine at_loadC v1.heap.size _ K9.out.l _ rfl rfl rfl ?_)
    | (refine at_storeC (w.heap.size + 1) zeroC _ K9.out.f.z _ _ rfl rfl rfl rfl ?_; intro w2 hw2))
  refine retC Tryz.results94 rfl hw2.out.1 rfl ⟨rfl, K9.out.f.low.trans (hw2.out.2.1 _ K9.out.f.l2)⟩

end Go.Proofs.YtbeeefekndcgnaaGreatDoor
