/- A cycle's small answers: n, both, the bytes of R(N). -/
import Derived.Test.YtbeeefekndcgnaaGreatDoorCy
import Derived.Test.YtbeeefekndcgnaaGreatDoorPl
import Derived.Test.YtbeeefekndcgnaaGreatDoorInfo
import Derived.Test.YtbeeefekndcgnaaGreatDoorDoC
namespace Go.Proofs.YtbeeefekndcgnaaGreatDoor
open Go Go.RowKit
set_option linter.unusedVariables false
set_option maxHeartbeats 1000000
set_option maxRecDepth 20000

theorem join4 (x q : Nat) (hx : x < 16) (hq : q < 16) : bits .or .u8 ((x : Int) * 16) (q : Int) = 16 * (x : Int) + q := by
  have : ∀ x : Fin 16, ∀ q : Fin 16, bits .or .u8 ((x.val : Int) * 16) (q.val : Int) = 16 * (x.val : Int) + q.val := by decide +kernel
  exact this ⟨x, hx⟩ ⟨q, hq⟩
theorem yn (w : World) (c : Cp) (hc : c.wf) (p : Pn) (hp : p.wf) : Calls Tryz.prog 81 #[.agg (cyC c p)] w fun e w' => e = .returned (.int .u8 (((c.Op % 16 : Nat) : Int))) ∧ Below w.heap.size w w' := by
  obtain ⟨q, hq⟩ : ∃ q, c.Op % 16 = q := ⟨_, rfl⟩
  have hl : bits .and .u8 (c.Op : Int) 15 = (q : Int) := by rw [low4 c.Op hc.Op]; omega
  rw [hq]
  have hY : Hid (BoxY (w.alloc (.cells (cyC c p) 52)) w.heap.size c p) := BoxY.new w c p
  have hB : Hid (Below w.heap.size w (w.alloc (.cells (cyC c p) 52))) := below1 _ _
  clear hc hp hq
  go_enter Tryz.func81, Tryz.ntmps81
  go_wp2_with (first
    | (refine gen_world (w.alloc (.cells (cyC c p) 52)) (fun y => BoxY y w.heap.size c p ∧ Below w.heap.size w y) ⟨hY.out, hB.out⟩ ?_; intro y K; have d := K.out.1.fOp)
    | (refine at_loadY w.heap.size c p K.out.1 _ rfl rfl rfl ?_))
  go_ret
  exact ⟨by first | rfl | simp, K.out.2⟩

theorem yboth (w : World) (c : Cp) (hc : c.wf) (p : Pn) (hp : p.wf) (hP : c.P < 16) (hX : c.X < 16) : Calls Tryz.prog 41 #[.agg (cyC c p)] w fun e w' => e = .returned (.int .u8 (16 * (c.X : Int) + c.P)) ∧ Below w.heap.size w w' := by
  have e1 : IntKind.u8.wrap ((c.X : Int) * 16) = (c.X : Int) * 16 := by rw [IntKind.wrap_u8]; omega
  have e2 : bits .or .u8 ((c.X : Int) * 16) (c.P : Int) = 16 * (c.X : Int) + c.P := by rw [join4 c.X c.P hX hP]
  have h1 : ((c.X : Int) < 16) := by omega
  have hY : Hid (BoxY (w.alloc (.cells (cyC c p) 52)) w.heap.size c p) := BoxY.new w c p
  have hB : Hid (Below w.heap.size w (w.alloc (.cells (cyC c p) 52))) := below1 _ _
  clear hc hp hP hX
  go_enter Tryz.func41, Tryz.ntmps41
  go_wp2_with (first
    | (refine gen_world (w.alloc (.cells (cyC c p) 52)) (fun y => BoxY y w.heap.size c p ∧ Below w.heap.size w y) ⟨hY.out, hB.out⟩ ?_; intro y K; have d1 := K.out.1.fX; have d2 := K.out.1.fP)
    | (refine at_loadY w.heap.size c p K.out.1 _ rfl rfl rfl ?_))
  go_ret
  exact ⟨by first | rfl | simp, K.out.2⟩

theorem yacc (w : World) (c : Cp) (hc : c.wf) (p : Pn) (hp : p.wf) : Calls Tryz.prog 58 #[.agg (cyC c p)] w fun e w' => e = .returned (.int .u8 (c.D)) ∧ Below w.heap.size w w' := by
  have hY : Hid (BoxY (w.alloc (.cells (cyC c p) 52)) w.heap.size c p) := BoxY.new w c p
  have hB : Hid (Below w.heap.size w (w.alloc (.cells (cyC c p) 52))) := below1 _ _
  clear hc hp
  go_enter Tryz.func58, Tryz.ntmps58
  go_wp2_with (first
    | (refine gen_world (w.alloc (.cells (cyC c p) 52)) (fun y => BoxY y w.heap.size c p ∧ Below w.heap.size w y) ⟨hY.out, hB.out⟩ ?_; intro y K; have d1 := K.out.1.fD)
    | (refine at_loadY w.heap.size c p K.out.1 _ rfl rfl rfl ?_))
  go_ret
  exact ⟨by first | rfl | simp, K.out.2⟩

theorem ylow (w : World) (c : Cp) (hc : c.wf) (p : Pn) (hp : p.wf) : Calls Tryz.prog 63 #[.agg (cyC c p)] w fun e w' => e = .returned (.int .u8 (c.R (c.Op % 16) % 256)) ∧ Below w.heap.size w w' := by
  obtain ⟨q, hq⟩ : ∃ q, c.Op % 16 = q := ⟨_, rfl⟩
  have hq16 : q < 16 := by omega
  have hn := fun v => yn v c hc p hp
  rw [hq] at hn
  rw [hq]
  have hr := hc.R q
  have hq' : Hid (q < 16) := hq16
  have hL := fun v => low_any (c.R q) v hr.1 (by omega)
  have ix := fun v => idx (g := w.heap.size) (off := 0) (N := 16) Tryz.underlying23 infoR .u8 q v hq16
  simp only [Nat.zero_add, Nat.mul_one] at ix
  have hY : Hid (BoxY (w.alloc (.cells (cyC c p) 52)) w.heap.size c p) := BoxY.new w c p
  have hB : Hid (Below w.heap.size w (w.alloc (.cells (cyC c p) 52))) := below1 _ _
  clear hc hp hq hr hq16
  go_enter Tryz.func63, Tryz.ntmps63
  go_wp2_with (first
    | (refine gen_world (w.alloc (.cells (cyC c p) 52)) (fun y => BoxY y w.heap.size c p ∧ Below w.heap.size w y) ⟨hY.out, hB.out⟩ ?_; intro y K)
    | (go_at_call 81; refine (hn _).mono ?_; rintro e v1 ⟨rfl, hb1⟩; replace K : Hid (BoxY v1 w.heap.size c p ∧ Below w.heap.size w v1) := ⟨K.out.1.below hb1, K.out.2.trans (hb1.mono K.out.2.size)⟩; have dq := K.out.1.r q hq'.out)
    | (go_at_call 86; refine (hL _).mono ?_; rintro e v2 ⟨rfl, rfl⟩)
    | (refine at_loadY w.heap.size c p K.out.1 _ rfl rfl rfl ?_))
  go_ret
  exact ⟨by first | rfl | simp, K.out.2⟩

theorem yhigh (w : World) (c : Cp) (hc : c.wf) (p : Pn) (hp : p.wf) : Calls Tryz.prog 65 #[.agg (cyC c p)] w fun e w' => e = .returned (.int .u8 (c.R (c.Op % 16) / 256)) ∧ Below w.heap.size w w' := by
  obtain ⟨q, hq⟩ : ∃ q, c.Op % 16 = q := ⟨_, rfl⟩
  have hq16 : q < 16 := by omega
  have hn := fun v => yn v c hc p hp
  rw [hq] at hn
  rw [hq]
  have hr := hc.R q
  have hq' : Hid (q < 16) := hq16
  have hL := fun v => high_any (c.R q) v hr.1 (by omega)
  have ix := fun v => idx (g := w.heap.size) (off := 0) (N := 16) Tryz.underlying23 infoR .u8 q v hq16
  simp only [Nat.zero_add, Nat.mul_one] at ix
  have hY : Hid (BoxY (w.alloc (.cells (cyC c p) 52)) w.heap.size c p) := BoxY.new w c p
  have hB : Hid (Below w.heap.size w (w.alloc (.cells (cyC c p) 52))) := below1 _ _
  clear hc hp hq hr hq16
  go_enter Tryz.func65, Tryz.ntmps65
  go_wp2_with (first
    | (refine gen_world (w.alloc (.cells (cyC c p) 52)) (fun y => BoxY y w.heap.size c p ∧ Below w.heap.size w y) ⟨hY.out, hB.out⟩ ?_; intro y K)
    | (go_at_call 81; refine (hn _).mono ?_; rintro e v1 ⟨rfl, hb1⟩; replace K : Hid (BoxY v1 w.heap.size c p ∧ Below w.heap.size w v1) := ⟨K.out.1.below hb1, K.out.2.trans (hb1.mono K.out.2.size)⟩; have dq := K.out.1.r q hq'.out)
    | (go_at_call 84; refine (hL _).mono ?_; rintro e v2 ⟨rfl, rfl⟩)
    | (refine at_loadY w.heap.size c p K.out.1 _ rfl rfl rfl ?_))
  go_ret
  exact ⟨by first | rfl | simp, K.out.2⟩

end Go.Proofs.YtbeeefekndcgnaaGreatDoor
