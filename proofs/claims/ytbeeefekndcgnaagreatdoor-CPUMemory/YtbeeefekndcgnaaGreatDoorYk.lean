/- The tables of functions, and control by its table. Control, whole. -/
import Derived.Test.YtbeeefekndcgnaaGreatDoorCy
import Derived.Test.YtbeeefekndcgnaaGreatDoorPl
import Derived.Test.YtbeeefekndcgnaaGreatDoorYj
import Derived.Test.YtbeeefekndcgnaaGreatDoorYf
import Derived.Test.YtbeeefekndcgnaaGreatDoorYb
namespace Go.Proofs.YtbeeefekndcgnaaGreatDoor
open Go Go.RowKit
set_option linter.unusedVariables false
set_option maxHeartbeats 1000000
set_option maxRecDepth 20000

def ctab : Array Value := #[fv 93, fv 94, fv 95, fv 96, fv 97, fv 97, fv 97, fv 97, fv 57, fv 98, fv 99, fv 100, fv 97, fv 97, fv 97, fv 97]
def rtab : Array Value := #[fv 52, .nilFunc, .nilFunc, fv 53, .nilFunc, .nilFunc, fv 54, .nilFunc, .nilFunc, fv 55, .nilFunc, .nilFunc, fv 56, .nilFunc, .nilFunc, fv 57, .nilFunc, fv 58, fv 59, .nilFunc, .nilFunc, fv 60, .nilFunc, fv 61, fv 62, .nilFunc, fv 63, fv 64, .nilFunc, fv 65, fv 66, .nilFunc, fv 58, fv 67, .nilFunc, fv 58, fv 68, fv 69, .nilFunc, fv 70, .nilFunc, fv 71, fv 72, .nilFunc, fv 71, fv 73, .nilFunc, .nilFunc]
set_option maxRecDepth 100000 in
theorem ycontrols (w : World) : Calls Tryz.prog 85 #[] w fun e w' => e = .returned (.agg ctab) ∧ Below w.heap.size w w' := by
  go_enter Tryz.func85, Tryz.ntmps85
  go_wp2_with (refine rowst rfl 97 _ _ rfl ctab rfl rfl _ (by kernel_rfl) (by kernel_rfl) (by kernel_rfl) ?_)
  exact bodyPost_ret (v := .agg ctab) (results_cell_row rfl _ _ w.heap.size 97 ctab (0, 0) _ (by kernel_rfl) (heap_alloc_last w _) Tryz.underlying97 rfl (by kernel_rfl)) rfl ⟨rfl, below1 w _⟩
set_option maxRecDepth 100000 in
theorem yrows (w : World) : Calls Tryz.prog 37 #[] w fun e w' => e = .returned (.agg rtab) ∧ Below w.heap.size w w' := by
  go_enter Tryz.func37, Tryz.ntmps37
  go_wp2_with (refine rowst rfl 70 _ _ rfl rtab rfl rfl _ (by kernel_rfl) (by kernel_rfl) (by kernel_rfl) ?_)
  exact bodyPost_ret (v := .agg rtab) (results_cell_row rfl _ _ w.heap.size 70 rtab (0, 0) _ (by kernel_rfl) (heap_alloc_last w _) Tryz.underlying70 rfl (by kernel_rfl)) rfl ⟨rfl, below1 w _⟩
theorem ycontrol_row (w : World) (c : Cp) (hc : c.wf) (p : Pn) (hp : p.wf) (tb : Tabs w) (q : Nat) (hq : c.Op % 16 = q) (Fn : Nat) (R : Cp) (hix : ∀ v, (Instr.index 97 (.agg ctab) (.int .u8 (q : Int))).run Tryz.prog v = .ok (Value.func (.func Fn) #[] #[]) v) (hcf : ∀ v, Sem.run Tryz.prog (callFunc Fn #[.agg (cyC c p)]) v = .ok (.enter Fn #[.agg (cyC c p)]) v) (hf : ∀ v, Tabs v → Calls Tryz.prog Fn #[.agg (cyC c p)] v fun e w' => e = .returned (.agg (cpC R)) ∧ Below v.heap.size v w') : Calls Tryz.prog 60 #[.agg (cyC c p)] w fun e w' => e = .returned (.agg (cpC R)) ∧ Below w.heap.size w w' := by
  have hn := fun v => yn v c hc p hp
  rw [hq] at hn
  have tbF : Hid (Tabs ((w.alloc (.cells (cyC c p) 52)).alloc (.cells (cpC zeroC) 26))) := tb.below (below2 w _ _)
  have zz := zeroVC
  have hF : Hid (Fy w w.heap.size c p (w.heap.size + 1) zeroC ((w.alloc (.cells (cyC c p) 52)).alloc (.cells (cpC zeroC) 26))) := Fy.start w c p
  clear hc hp hq tb
  go_enter Tryz.func60, Tryz.ntmps60
  go_wp2_with (first
    | (refine gen_world ((w.alloc (.cells (cyC c p) 52)).alloc (.cells (cpC zeroC) 26)) (Fy w w.heap.size c p (w.heap.size + 1) zeroC) hF.out ?_; intro y K))
  refine region_class_tail 6 (fun y => Fy w w.heap.size c p (w.heap.size + 1) zeroC y ∧ Tabs y) (by kernel_rfl) (by kernel_rfl) (⟨hF.out.below (below_drew (Below.refl _ _)), tbF.out.below (below_drew (Below.refl _ _))⟩) ?_
  simp only [List.take_succ_cons, List.take_zero, List.drop_succ_cons, List.drop_zero]
  refine quiet_one (.agg ctab) rfl (fun y hy => by
    have d := (ycontrols y).mono fun e w' (h : _ ∧ _) => And.intro h.1 (And.intro (hy.1.below h.2) (hy.2.below h.2))
    go_simp
    all_goals exact d) ?_
  refine quiet_one (.agg (cyC c p)) rfl (quiet_loadY w.heap.size c p (fun _ h => h.1.yb) _ rfl rfl) ?_
  refine quiet_one (.int .u8 (q : Int)) rfl (fun y hy => by
    have d := (hn y).mono fun e w' (h : _ ∧ _) => And.intro h.1 (And.intro (hy.1.below h.2) (hy.2.below h.2))
    go_simp
    all_goals exact d) ?_
  refine quiet_one (Value.func (.func Fn) #[] #[]) rfl (fun y hy => by go_simp) ?_
  refine quiet_one (.agg (cyC c p)) rfl (quiet_loadY w.heap.size c p (fun _ h => h.1.yb) _ rfl rfl) ?_
  refine quiet_one (.agg (cpC R)) rfl (fun y hy => by
    have d := (hf y hy.2).mono fun e w' (h : _ ∧ _) => And.intro h.1 (And.intro (hy.1.below h.2) (hy.2.below h.2))
    go_simp
    all_goals exact d) ?_
  refine wpQuiet_nil ?_
  intro y3 K3
  replace K3 : Hid _ := K3.1
  go_simp
  go_wp2_with (first
    | (refine at_storeC (w.heap.size + 1) zeroC _ K3.out.z _ _ rfl rfl rfl rfl ?_; intro w2 hw2))
  refine retC Tryz.results60 rfl hw2.out.1 rfl ⟨rfl, K3.out.low.trans (hw2.out.2.1 _ K3.out.l2)⟩

end Go.Proofs.YtbeeefekndcgnaaGreatDoor

namespace Go.Proofs.YtbeeefekndcgnaaGreatDoor
open Go Go.RowKit
set_option linter.unusedVariables false
set_option maxHeartbeats 1000000
set_option maxRecDepth 20000

theorem csum_eq (c : Cp) (p : Pn) (o s : Nat) (ho : c.Op = o) (b f : Bool) (hr : rrdB (o : Int) = b) (hf : decide (rfmI (o : Int) = 4) = f) : csumM c p s = if f then (sumM c s (if b then p.Data else 0)).up c.P else sumM c s (if b then p.Data else 0) := by
  unfold csumM byteM
  rw [ho, hr]
  cases f
  · rw [if_neg (by simpa using hf)]; rfl
  · rw [if_pos (by simpa using hf)]; rfl
theorem ycontrol (w : World) (c : Cp) (hc : c.wf) (p : Pn) (hp : p.wf) (tb : Tabs w) (hP : c.P < 16) (hX : c.X < 16) (h7 : c.Op / 16 = 7) : Calls Tryz.prog 60 #[.agg (cyC c p)] w fun e w' => e = .returned (.agg (cpC (ctrlM c p))) ∧ Below w.heap.size w w' := by
  unfold ctrlM
  rcases (show c.Op % 16 = 0 ∨ c.Op % 16 = 1 ∨ c.Op % 16 = 2 ∨ c.Op % 16 = 3 ∨ c.Op % 16 = 4 ∨ c.Op % 16 = 5 ∨ c.Op % 16 = 6 ∨ c.Op % 16 = 7 ∨ c.Op % 16 = 8 ∨ c.Op % 16 = 9 ∨ c.Op % 16 = 10 ∨ c.Op % 16 = 11 ∨ c.Op % 16 = 12 ∨ c.Op % 16 = 13 ∨ c.Op % 16 = 14 ∨ c.Op % 16 = 15 by omega) with h | h | h | h | h | h | h | h | h | h | h | h | h | h | h | h <;> simp only [h]
  · exact ycontrol_row w c hc p hp tb 0 h 93 _ (fun v => by kernel_rfl) (fun v => by kernel_rfl) (fun v t => ygive v c hc p hp hX)
  · exact ycontrol_row w c hc p hp tb 1 h 94 _ (fun v => by kernel_rfl) (fun v => by kernel_rfl) (fun v t => ydisable v c hc p hp hX)
  · exact ycontrol_row w c hc p hp tb 2 h 95 _ (fun v => by kernel_rfl) (fun v => by kernel_rfl) (fun v t => yldxa v c hc p hp hX)
  · exact ycontrol_row w c hc p hp tb 3 h 96 _ (fun v => by kernel_rfl) (fun v => by kernel_rfl) (fun v t => ystxd v c hc p hp hX)
  · refine ycontrol_row w c hc p hp tb 4 h 97 _ (fun v => by kernel_rfl) (fun v => by kernel_rfl) (fun v t => ?_)
    have e := csum_eq c p 116 5 (by omega) true false (by decide) (by decide)
    have := ycarry v c hc p hp t hP
    rw [h, show crS 4 = 5 from rfl, e] at this
    exact this
  · refine ycontrol_row w c hc p hp tb 5 h 97 _ (fun v => by kernel_rfl) (fun v => by kernel_rfl) (fun v t => ?_)
    have e := csum_eq c p 117 7 (by omega) true false (by decide) (by decide)
    have := ycarry v c hc p hp t hP
    rw [h, show crS 5 = 7 from rfl, e] at this
    exact this
  · refine ycontrol_row w c hc p hp tb 6 h 97 _ (fun v => by kernel_rfl) (fun v => by kernel_rfl) (fun v t => ?_)
    have e := csum_eq c p 118 11 (by omega) false false (by decide) (by decide)
    have := ycarry v c hc p hp t hP
    rw [h, show crS 6 = 11 from rfl, e] at this
    exact this
  · refine ycontrol_row w c hc p hp tb 7 h 97 _ (fun v => by kernel_rfl) (fun v => by kernel_rfl) (fun v t => ?_)
    have e := csum_eq c p 119 9 (by omega) true false (by decide) (by decide)
    have := ycarry v c hc p hp t hP
    rw [h, show crS 7 = 9 from rfl, e] at this
    exact this
  · exact ycontrol_row w c hc p hp tb 8 h 57 _ (fun v => by kernel_rfl) (fun v => by kernel_rfl) (fun v t => ynothing v c hc p hp)
  · exact ycontrol_row w c hc p hp tb 9 h 98 _ (fun v => by kernel_rfl) (fun v => by kernel_rfl) (fun v t => ymark v c hc p hp hP hX)
  · exact ycontrol_row w c hc p hp tb 10 h 99 _ (fun v => by kernel_rfl) (fun v => by kernel_rfl) (fun v t => ylowQ v c hc p hp)
  · exact ycontrol_row w c hc p hp tb 11 h 100 _ (fun v => by kernel_rfl) (fun v => by kernel_rfl) (fun v t => yhighQ v c hc p hp)
  · refine ycontrol_row w c hc p hp tb 12 h 97 _ (fun v => by kernel_rfl) (fun v => by kernel_rfl) (fun v t => ?_)
    have e := csum_eq c p 124 5 (by omega) true true (by decide) (by decide)
    have := ycarry v c hc p hp t hP
    rw [h, show crS 12 = 5 from rfl, e] at this
    exact this
  · refine ycontrol_row w c hc p hp tb 13 h 97 _ (fun v => by kernel_rfl) (fun v => by kernel_rfl) (fun v t => ?_)
    have e := csum_eq c p 125 7 (by omega) true true (by decide) (by decide)
    have := ycarry v c hc p hp t hP
    rw [h, show crS 13 = 7 from rfl, e] at this
    exact this
  · refine ycontrol_row w c hc p hp tb 14 h 97 _ (fun v => by kernel_rfl) (fun v => by kernel_rfl) (fun v t => ?_)
    have e := csum_eq c p 126 13 (by omega) false false (by decide) (by decide)
    have := ycarry v c hc p hp t hP
    rw [h, show crS 14 = 13 from rfl, e] at this
    exact this
  · refine ycontrol_row w c hc p hp tb 15 h 97 _ (fun v => by kernel_rfl) (fun v => by kernel_rfl) (fun v t => ?_)
    have e := csum_eq c p 127 9 (by omega) true true (by decide) (by decide)
    have := ycarry v c hc p hp t hP
    rw [h, show crS 15 = 9 from rfl, e] at this
    exact this
end Go.Proofs.YtbeeefekndcgnaaGreatDoor
