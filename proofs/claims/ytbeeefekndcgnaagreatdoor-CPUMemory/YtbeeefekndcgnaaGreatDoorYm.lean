/- The second cycle of the long ones. -/
import Derived.Test.YtbeeefekndcgnaaGreatDoorCy
import Derived.Test.YtbeeefekndcgnaaGreatDoorPl
import Derived.Test.YtbeeefekndcgnaaGreatDoorYh
import Derived.Test.YtbeeefekndcgnaaGreatDoorYf
namespace Go.Proofs.YtbeeefekndcgnaaGreatDoor
open Go Go.RowKit
set_option linter.unusedVariables false
set_option maxHeartbeats 1000000
set_option maxRecDepth 20000

theorem fld3 (a b c d : Value) (w : World) : (Instr.field 60 (.agg #[a, b, c, d]) 3).run Tryz.prog w = .ok d w := by kernel_rfl
theorem yislong (w : World) (n : Nat) (h : n < 256) (tb : Tabs w) : Calls Tryz.prog 24 #[.int .u8 (n : Int)] w fun e w' => e = .returned (.bool (decide (n / 16 = 12))) ∧ Below w.heap.size w w' := by
  have hI := fun v t => info_any n v t h
  unfold infoV at hI
  obtain ⟨S, hS⟩ : ∃ S, nm n = S := ⟨_, rfl⟩
  obtain ⟨f, hf⟩ : ∃ f, ((fm n : Nat) : Int) = f := ⟨_, rfl⟩
  obtain ⟨L, hL⟩ : ∃ L, ((lay (fm n * 3) : Nat) : Int) = L := ⟨_, rfl⟩
  obtain ⟨Z, hZ⟩ : ∃ Z, ((cyc n : Nat) : Int) = Z := ⟨_, rfl⟩
  have e : (Z == 3) = decide (n / 16 = 12) := by
    rw [← hZ]
    unfold cyc
    by_cases h : n / 16 = 12
    · rw [if_pos h]; simp [h]
    · rw [if_neg h]; simp [h]
  rw [hS, hf, hL, hZ] at hI
  obtain ⟨G, hG⟩ : ∃ G, decide (n / 16 = 12) = G := ⟨_, rfl⟩
  rw [hG] at e ⊢
  have tb' : Hid (Tabs w) := tb
  clear tb hS hf hL hZ hG h
  go_enter Tryz.func24, Tryz.ntmps24
  go_wp2_with (go_at_call 34; refine (hI _ tb'.out).mono ?_; rintro e v1 ⟨rfl, hb1⟩; have fl := fld3 (.string S) (.int .u8 f) (.int .i64 L) (.int .i64 Z))
  go_ret
  exact ⟨rfl, hb1⟩
theorem branches_goes (c : Cp) (p : Pn) (h12 : c.Op / 16 = 12) (h6 : rfmI c.Op = 6) : branchesM c p = goesM c := by
  have hq : c.Op % 16 = 0 ∨ c.Op % 16 = 1 ∨ c.Op % 16 = 2 ∨ c.Op % 16 = 3 ∨ c.Op % 16 = 9 ∨ c.Op % 16 = 10 ∨ c.Op % 16 = 11 := by
    have e : (c.Op : Int) / 16 = 12 := by omega
    unfold rfmI at h6
    simp only [e] at h6
    simp at h6
    omega
  unfold branchesM goesM
  rcases hq with h | h | h | h | h | h | h
  all_goals
    simp only [h]
    simp [holdsM, show c.Op % 8 = c.Op % 16 % 8 by omega, h, bne]
def jumpM (c : Cp) (p : Pn) : Cp := if goesM c then c.setR c.P (c.B * 256 + p.Data) else c.up c.P
theorem yjump (w : World) (c : Cp) (hc : c.wf) (p : Pn) (hp : p.wf) (hP : c.P < 16) (h12 : c.Op / 16 = 12) (h6 : rfmI c.Op = 6) : Calls Tryz.prog 89 #[.agg (cyC c p)] w fun e w' => e = .returned (.agg (cpC (jumpM c p))) ∧ Below w.heap.size w w' := by
  unfold jumpM
  have e := branches_goes c p h12 h6
  rcases hg : goesM c
  · rw [if_neg (by simp)]; exact yjump0 w c hc p hp hP (e.trans hg)
  · rw [if_pos rfl]; exact yjump1 w c hc p hp hP (e.trans hg)
theorem ylong2_0 (w : World) (c : Cp) (hc : c.wf) (p : Pn) (hp : p.wf) (tb : Tabs w) (hP : c.P < 16) (h12 : c.Op / 16 = 12) (h6 : rfmI c.Op = 6) : Calls Tryz.prog 69 #[.agg (cyC c p)] w fun e w' => e = .returned (.agg (cpC { (jumpM c p) with B := 0 })) ∧ Below w.heap.size w w' := by
  have hj := fun v t => yjumps v c hc p hp t
  have e6 : decide (rfmI c.Op = 6) = true := by simpa using h6
  rw [e6] at hj
  have hk := fun v => yjump v c hc p hp hP h12 h6
  obtain ⟨R, hR⟩ : ∃ R, (jumpM c p) = R := ⟨_, rfl⟩
  rw [hR] at hk ⊢
  have tb' : Hid (Tabs w) := tb
  have zz := zeroVC
  have hF : Hid (Fy w w.heap.size c p (w.heap.size + 1) zeroC ((w.alloc (.cells (cyC c p) 52)).alloc (.cells (cpC zeroC) 26))) := Fy.start w c p
  clear hc hp hP h12 h6 e6 hR tb
  go_enter Tryz.func69, Tryz.ntmps69
  go_wp2_with (first
    | (refine gen_world ((w.alloc (.cells (cyC c p) 52)).alloc (.cells (cpC zeroC) 26)) (Fy w w.heap.size c p (w.heap.size + 1) zeroC) hF.out ?_; intro y K)
    | (refine at_loadYC w.heap.size _ p K.out.yb _ rfl rfl rfl ?_)
    | (refine gen_world (y.alloc (.cells (cpC zeroC) 26)) (Fz w w.heap.size c p (w.heap.size + 1) zeroC y.heap.size zeroC) (Fz.new K.out zeroC) ?_; intro y2 K2)
    | (refine at_storeC y.heap.size zeroC c K2.out.l _ _ rfl rfl rfl rfl ?_; intro y3 hw3; have K3 : Hid (Fz w w.heap.size c p (w.heap.size + 1) zeroC y.heap.size c y3) := K2.out.putL hw3.out)
    | (refine at_loadY w.heap.size c p K3.out.f.yb _ rfl rfl rfl ?_)
    | (go_at_call 87; refine (hj _ (tb'.out.below K3.out.f.low)).mono ?_; rintro e v4 ⟨rfl, hbv4⟩; replace K3 : Hid _ := K3.out.below hbv4)
    | (go_at_call 89; refine (hk _).mono ?_; rintro e v5 ⟨rfl, hbv5⟩; replace K3 : Hid _ := K3.out.below hbv5)
    | (refine at_storeC y.heap.size c R K3.out.l _ _ rfl rfl rfl rfl ?_; intro y6 hw6; have K6 : Hid (Fz w w.heap.size c p (w.heap.size + 1) zeroC y.heap.size R y6) := K3.out.putL hw6.out; have d24 := K6.out.l.fB; have f24 := K6.out.l.fz 24; have K9 : Hid (Fz w w.heap.size c p (w.heap.size + 1) zeroC y.heap.size { R with B := 0 } (y6.setCell ⟨y.heap.size, 24, none⟩ (.int .u8 0))) := K6.out.setL 24 _ (cpC_setB R 0))
    | (refine at_loadC y.heap.size _ K9.out.l _ rfl rfl rfl ?_)
    | (refine at_storeC (w.heap.size + 1) zeroC _ K9.out.f.z _ _ rfl rfl rfl rfl ?_; intro w2 hw2))
  refine retC Tryz.results69 rfl hw2.out.1 rfl ⟨rfl, K9.out.f.low.trans (hw2.out.2.1 _ K9.out.f.l2)⟩

theorem ylong2_1 (w : World) (c : Cp) (hc : c.wf) (p : Pn) (hp : p.wf) (tb : Tabs w) (hP : c.P < 16) (h12 : c.Op / 16 = 12) (h6 : ¬ rfmI c.Op = 6) : Calls Tryz.prog 69 #[.agg (cyC c p)] w fun e w' => e = .returned (.agg (cpC { (skipM c) with B := 0 })) ∧ Below w.heap.size w w' := by
  have hj := fun v t => yjumps v c hc p hp t
  have e6 : decide (rfmI c.Op = 6) = false := by simpa using h6
  rw [e6] at hj
  have hk := fun v => yskip v c hc p hp hP h12 h6
  obtain ⟨R, hR⟩ : ∃ R, (skipM c) = R := ⟨_, rfl⟩
  rw [hR] at hk ⊢
  have tb' : Hid (Tabs w) := tb
  have zz := zeroVC
  have hF : Hid (Fy w w.heap.size c p (w.heap.size + 1) zeroC ((w.alloc (.cells (cyC c p) 52)).alloc (.cells (cpC zeroC) 26))) := Fy.start w c p
  clear hc hp hP h12 h6 e6 hR tb
  go_enter Tryz.func69, Tryz.ntmps69
  go_wp2_with (first
    | (refine gen_world ((w.alloc (.cells (cyC c p) 52)).alloc (.cells (cpC zeroC) 26)) (Fy w w.heap.size c p (w.heap.size + 1) zeroC) hF.out ?_; intro y K)
    | (refine at_loadYC w.heap.size _ p K.out.yb _ rfl rfl rfl ?_)
    | (refine gen_world (y.alloc (.cells (cpC zeroC) 26)) (Fz w w.heap.size c p (w.heap.size + 1) zeroC y.heap.size zeroC) (Fz.new K.out zeroC) ?_; intro y2 K2)
    | (refine at_storeC y.heap.size zeroC c K2.out.l _ _ rfl rfl rfl rfl ?_; intro y3 hw3; have K3 : Hid (Fz w w.heap.size c p (w.heap.size + 1) zeroC y.heap.size c y3) := K2.out.putL hw3.out)
    | (refine at_loadY w.heap.size c p K3.out.f.yb _ rfl rfl rfl ?_)
    | (go_at_call 87; refine (hj _ (tb'.out.below K3.out.f.low)).mono ?_; rintro e v4 ⟨rfl, hbv4⟩; replace K3 : Hid _ := K3.out.below hbv4)
    | (go_at_call 88; refine (hk _).mono ?_; rintro e v5 ⟨rfl, hbv5⟩; replace K3 : Hid _ := K3.out.below hbv5)
    | (refine at_storeC y.heap.size c R K3.out.l _ _ rfl rfl rfl rfl ?_; intro y6 hw6; have K6 : Hid (Fz w w.heap.size c p (w.heap.size + 1) zeroC y.heap.size R y6) := K3.out.putL hw6.out; have d24 := K6.out.l.fB; have f24 := K6.out.l.fz 24; have K9 : Hid (Fz w w.heap.size c p (w.heap.size + 1) zeroC y.heap.size { R with B := 0 } (y6.setCell ⟨y.heap.size, 24, none⟩ (.int .u8 0))) := K6.out.setL 24 _ (cpC_setB R 0))
    | (refine at_loadC y.heap.size _ K9.out.l _ rfl rfl rfl ?_)
    | (refine at_storeC (w.heap.size + 1) zeroC _ K9.out.f.z _ _ rfl rfl rfl rfl ?_; intro w2 hw2))
  refine retC Tryz.results69 rfl hw2.out.1 rfl ⟨rfl, K9.out.f.low.trans (hw2.out.2.1 _ K9.out.f.l2)⟩

theorem ylong2 (w : World) (c : Cp) (hc : c.wf) (p : Pn) (hp : p.wf) (tb : Tabs w) (hP : c.P < 16) (h12 : c.Op / 16 = 12) : Calls Tryz.prog 69 #[.agg (cyC c p)] w fun e w' => e = .returned (.agg (cpC (long2M c p))) ∧ Below w.heap.size w w' := by
  unfold long2M
  by_cases h6 : rfmI c.Op = 6
  · have := ylong2_0 w c hc p hp tb hP h12 h6
    unfold jumpM at this
    rcases hg : goesM c <;> rw [hg] at this <;> simpa [h6] using this
  · have := ylong2_1 w c hc p hp tb hP h12 h6
    unfold skipM at this
    rcases hg : goesM c <;> rw [hg] at this <;> simpa [h6] using this
end Go.Proofs.YtbeeefekndcgnaaGreatDoor
