/- One cycle on a memory of its own -/
import Derived.Test.YtbeeefekndcgnaaGreatDoorMm
import Derived.Test.YtbeeefekndcgnaaGreatDoorLg
namespace Go.Proofs.YtbeeefekndcgnaaGreatDoor
open Go Go.RowKit
set_option linter.unusedVariables false
set_option maxHeartbeats 1000000
set_option maxRecDepth 20000

theorem Fb.mov {w : World} {l : List (Nat × Array Value × TypeId)} {g : Nat} {Y Z : Nat → Int} {y y' : World} (h : Fb w l g Y y) (k : Blk y' g 65536 Z) (u : Upd g y y') : Fb w l g Z y' :=
  ⟨fun i b cs t e => (u.block b (heap_lt (h.get i b cs t e)) (h.gl i b cs t e)).trans (h.get i b cs t e), h.ge, h.ne, k, h.gl, h.upd.trans u⟩
theorem addrM_ok {c : Cp} (hc : c.wf) (k : Int) : 0 ≤ addrM c k ∧ addrM c k < 65536 := by
  unfold addrM
  repeat' split
  all_goals exact hc.R _
theorem runM_ok {c : Cp} (hc : c.wf) : 0 ≤ (runM c).Addr ∧ (runM c).Addr < 65536 := by
  unfold runM
  split <;> first | exact hc.R _ | exact addrM_ok hc _
theorem ownM_ok {c : Cp} (hc : c.wf) (hP : c.P ≤ 15) (hX : c.X ≤ 15) : 0 ≤ ownM c ∧ ownM c < 256 := by
  have hr := hc.R (c.Op % 16)
  have hd := hc.D
  have ht := hc.T
  unfold ownM
  repeat' split
  all_goals omega
theorem runM_data {c : Cp} (hc : c.wf) (hP : c.P ≤ 15) (hX : c.X ≤ 15) : 0 ≤ (runM c).Data ∧ (runM c).Data < 256 := by
  have h := ownM_ok hc hP hX
  have e : 0 ≤ (execM c).Data ∧ (execM c).Data < 256 := by
    unfold execM
    dsimp only
    split
    · exact h
    · decide
  unfold runM
  split <;> first | exact e | exact (by decide : (0 : Int) ≤ 0 ∧ (0 : Int) < 256)
theorem driveM_ok {c : Cp} (hc : c.wf) (m : Nat) : 0 ≤ (driveM c m).Addr ∧ (driveM c m).Addr < 65536 := by
  have h := runM_ok hc
  unfold driveM
  repeat' split
  all_goals first | exact h | exact hc.R _ | exact (by decide : (0 : Int) ≤ 0 ∧ (0 : Int) < 65536)
theorem driveM_data {c : Cp} (hc : c.wf) (m : Nat) : 0 ≤ (driveM c m).Data ∧ (driveM c m).Data < 256 := by
  unfold driveM
  rcases hch : checkB c with _ | _
  · exact (by decide : (0 : Int) ≤ 0 ∧ (0 : Int) < 256)
  · have hm := (checkB_iff c).1 hch
    have h := runM_data hc hm.1 hm.2.1
    rw [if_pos rfl]
    repeat' split
    all_goals first | exact h | exact (by decide : (0 : Int) ≤ 0 ∧ (0 : Int) < 256)
theorem busM_ok {c : Cp} (hc : c.wf) {Y : Nat → Int} (hY : ∀ j, 0 ≤ Y j ∧ Y j < 256) {p : Pn} (hp : p.wf) : 0 ≤ busM c Y p ∧ busM c Y p < 256 := by
  unfold busM
  repeat' split
  · exact driveM_data hc _
  · exact hY _
  · exact hp.Data
theorem cycM_wf {c : Cp} (hc : c.wf) {Y : Nat → Int} (hY : ∀ j, 0 ≤ Y j ∧ Y j < 256) {p : Pn} (hp : p.wf) : (cycM c Y p).wf := stepM_wf hc ⟨hp.Mode, busM_ok hc hY hp⟩
theorem memM_ok {c : Cp} (hc : c.wf) {Y : Nat → Int} (hY : ∀ j, 0 ≤ Y j ∧ Y j < 256) {p : Pn} (hp : p.wf) : ∀ j, 0 ≤ memM c Y p j ∧ memM c Y p j < 256 := by
  intro j
  unfold memM
  split
  · dsimp only
    split
    · exact busM_ok hc hY hp
    · exact hY j
  · exact hY j
theorem runsM_ok (k : Nat) {c : Cp} (hc : c.wf) {Y : Nat → Int} (hY : ∀ j, 0 ≤ Y j ∧ Y j < 256) : (runsM k (c, Y)).1.wf ∧ ∀ j, 0 ≤ (runsM k (c, Y)).2 j ∧ (runsM k (c, Y)).2 j < 256 := by
  induction k with
  | zero => exact ⟨hc, hY⟩
  | succ k ih => exact ⟨cycM_wf ih.1 ih.2 zeroP_wf, memM_ok ih.1 ih.2 zeroP_wf⟩
theorem Fb.three (w : World) (g : Nat) (Y : Nat → Int) (h : Blk w g 65536 Y) (c : Cp) (p : Pn) : Fb w [(w.heap.size, cpC c, 26), (w.heap.size + 1, pnC p, 38), (w.heap.size + 2, cpC zeroC, 26)] g Y (((w.alloc (.cells (cpC c) 26)).alloc (.cells (pnC p) 38)).alloc (.cells (cpC zeroC) 26)) := by
  have h := (((Fb.nil h).new (cpC c) 26).new (pnC p) 38).new (cpC zeroC) 26
  simpa using h
theorem cyc_nor (w0 w : World) (tb : Tabs w0) (hb : Below w0.heap.size w0 w) (g : Nat) (hg : w0.heap.size ≤ g) (Y : Nat → Int) (hm : Blk w g 65536 Y) (c : Cp) (hc : c.wf) (p : Pn) (hp : p.wf) (D : Dv) (hDe : driveM c p.Mode = D) (a : Nat) (ha : a < 65536) (hA : D.Addr = (a : Int)) (V : Int) (v0 : 0 ≤ V ∧ V < 256) (h4 : D.Own = false) (h2 : D.Rd = false) (h3 : D.Wr = false) (hV : p.Data = V) : Calls Tryz.prog 14 #[.agg (cpC c), .slice (some ⟨g, 0, none⟩) 65536 65536, .agg (pnC p)] w fun e w' => e = .returned (.agg (cpC (stepM c { p with Data := V }))) ∧ Hid (Blk w' g 65536 Y ∧ Upd g w w') := by
  have hD := fun v t => ydrive v c hc t p.Mode hp.Mode
  rw [hDe] at hD
  have hS := fun v t => ystep v c hc { p with Data := V } ⟨hp.Mode, v0⟩ t
  have hpe : ({ p with Data := V } : Pn) = p := by rw [← hV]
  rw [hpe] at hS ⊢
  have tb' : Hid (∀ y, Upd g w y → Tabs y) := fun y u => tb.below (hb.trans (u.below hb.size hg))
  have zz := zeroVC
  have zd := zeroVD
  have hF : Hid (Fb w [(w.heap.size, cpC c, 26), (w.heap.size + 1, pnC p, 38), (w.heap.size + 2, cpC zeroC, 26)] g Y (((w.alloc (.cells (cpC c) 26)).alloc (.cells (pnC p) 38)).alloc (.cells (cpC zeroC) 26))) := Fb.three w g Y hm c p
  obtain ⟨N, hN⟩ : ∃ N, stepM c p = N := ⟨_, rfl⟩
  rw [hN] at hS ⊢
  have ij := fun v => idxS (g := g) (off := 0) (len := 65536) (cap := 65536) Tryz.underlying40 (s := 1) (by kernel_rfl) .u16 a v ha
  simp only [Nat.zero_add, Nat.mul_one] at ij
  obtain ⟨m, hme⟩ : ∃ m : Int, (p.Mode : Int) = m := ⟨_, rfl⟩
  rw [hme] at hD
  replace hme : Hid _ := hme
  have ha' : Hid (a < 65536) := ha
  replace h4 : Hid _ := h4
  replace h3 : Hid _ := h3
  replace hA : Hid _ := hA
  replace hV : Hid _ := hV
  replace h2 : Hid _ := h2
  clear hc hp tb hb hg hm hDe hN v0 ha hpe
  go_enter Tryz.func14, Tryz.ntmps14
  go_wp2_with (first
    | (refine gen_world (((w.alloc (.cells (cpC c) 26)).alloc (.cells (pnC p) 38)).alloc (.cells (cpC zeroC) 26)) (Fb w [(w.heap.size, cpC c, 26), (w.heap.size + 1, pnC p, 38), (w.heap.size + 2, cpC zeroC, 26)] g Y) hF.out ?_; intro y K0; have d0 := BoxP.fMode (K0.out.get 1 _ _ _ rfl); rw [hme.out] at d0)
    | (go_at_call 9; refine (hD _ (tb'.out _ K0.out.upd)).mono ?_; rintro e v1 ⟨rfl, hb1⟩; have K1 : Hid _ := K0.out.below hb1)
    | (refine gen_world (v1.alloc (.cells (dvC zeroD) 33)) (Fb w [(w.heap.size, cpC c, 26), (w.heap.size + 1, pnC p, 38), (w.heap.size + 2, cpC zeroC, 26), (v1.heap.size, dvC zeroD, 33)] g Y) (K1.out.new _ _) ?_; intro y2 K2)
    | (refine at_storeD v1.heap.size zeroD D (K2.out.get 3 _ _ _ rfl) _ _ rfl rfl rfl rfl ?_; intro y3 hw3; have K3 : Hid (Fb w [(w.heap.size, cpC c, 26), (w.heap.size + 1, pnC p, 38), (w.heap.size + 2, cpC zeroC, 26), (v1.heap.size, dvC D, 33)] g Y y3) := K2.out.put 3 _ _ _ _ rfl hw3.out; have f4 := BoxD.f4 (K3.out.get 3 _ _ _ rfl); rw [h4.out] at f4; have f2 := BoxD.f2 (K3.out.get 3 _ _ _ rfl); rw [h2.out] at f2; have f3 := BoxD.f3 (K3.out.get 3 _ _ _ rfl); rw [h3.out] at f3)
    | (go_at_call 11; refine (hS _ (tb'.out _ K3.out.upd)).mono ?_; rintro e v8 ⟨rfl, hb8⟩; have K8 : Hid _ := K3.out.below hb8)
    | (refine at_storeC (w.heap.size + 2) zeroC N (K8.out.get 2 _ _ _ rfl) _ _ rfl rfl rfl rfl ?_; intro w2 hw2; have K9 : Hid (Fb w [(w.heap.size, cpC c, 26), (w.heap.size + 1, pnC p, 38), (w.heap.size + 2, cpC N, 26), (v1.heap.size, dvC D, 33)] g Y w2) := K8.out.put 2 _ _ _ _ rfl hw2.out)
    | (refine at_loadC w.heap.size c (K3.out.get 0 _ _ _ rfl) _ rfl rfl rfl ?_)
    | (refine at_loadP (w.heap.size + 1) _ (K3.out.get 1 _ _ _ rfl) _ rfl rfl rfl ?_)
    | (refine at_loadC w.heap.size c (K0.out.get 0 _ _ _ rfl) _ rfl rfl rfl ?_))
  refine retC Tryz.results14 rfl hw2.out.1 rfl ⟨rfl, K9.out.mem, K9.out.upd⟩
theorem cyc_now (w0 w : World) (tb : Tabs w0) (hb : Below w0.heap.size w0 w) (g : Nat) (hg : w0.heap.size ≤ g) (Y : Nat → Int) (hm : Blk w g 65536 Y) (c : Cp) (hc : c.wf) (p : Pn) (hp : p.wf) (D : Dv) (hDe : driveM c p.Mode = D) (a : Nat) (ha : a < 65536) (hA : D.Addr = (a : Int)) (V : Int) (v0 : 0 ≤ V ∧ V < 256) (h4 : D.Own = false) (h2 : D.Rd = false) (h3 : D.Wr = true) (hV : p.Data = V) : Calls Tryz.prog 14 #[.agg (cpC c), .slice (some ⟨g, 0, none⟩) 65536 65536, .agg (pnC p)] w fun e w' => e = .returned (.agg (cpC (stepM c { p with Data := V }))) ∧ Hid (Blk w' g 65536 (fun j => if j = a then V else Y j) ∧ Upd g w w') := by
  have hD := fun v t => ydrive v c hc t p.Mode hp.Mode
  rw [hDe] at hD
  have hS := fun v t => ystep v c hc { p with Data := V } ⟨hp.Mode, v0⟩ t
  have hpe : ({ p with Data := V } : Pn) = p := by rw [← hV]
  rw [hpe] at hS ⊢
  have tb' : Hid (∀ y, Upd g w y → Tabs y) := fun y u => tb.below (hb.trans (u.below hb.size hg))
  have zz := zeroVC
  have zd := zeroVD
  have hF : Hid (Fb w [(w.heap.size, cpC c, 26), (w.heap.size + 1, pnC p, 38), (w.heap.size + 2, cpC zeroC, 26)] g Y (((w.alloc (.cells (cpC c) 26)).alloc (.cells (pnC p) 38)).alloc (.cells (cpC zeroC) 26))) := Fb.three w g Y hm c p
  obtain ⟨N, hN⟩ : ∃ N, stepM c p = N := ⟨_, rfl⟩
  rw [hN] at hS ⊢
  have ij := fun v => idxS (g := g) (off := 0) (len := 65536) (cap := 65536) Tryz.underlying40 (s := 1) (by kernel_rfl) .u16 a v ha
  simp only [Nat.zero_add, Nat.mul_one] at ij
  obtain ⟨m, hme⟩ : ∃ m : Int, (p.Mode : Int) = m := ⟨_, rfl⟩
  rw [hme] at hD
  replace hme : Hid _ := hme
  have ha' : Hid (a < 65536) := ha
  replace h4 : Hid _ := h4
  replace h3 : Hid _ := h3
  replace hA : Hid _ := hA
  replace hV : Hid _ := hV
  replace h2 : Hid _ := h2
  clear hc hp tb hb hg hm hDe hN v0 ha hpe
  go_enter Tryz.func14, Tryz.ntmps14
  go_wp2_with (first
    | (refine gen_world (((w.alloc (.cells (cpC c) 26)).alloc (.cells (pnC p) 38)).alloc (.cells (cpC zeroC) 26)) (Fb w [(w.heap.size, cpC c, 26), (w.heap.size + 1, pnC p, 38), (w.heap.size + 2, cpC zeroC, 26)] g Y) hF.out ?_; intro y K0; have d0 := BoxP.fMode (K0.out.get 1 _ _ _ rfl); rw [hme.out] at d0)
    | (go_at_call 9; refine (hD _ (tb'.out _ K0.out.upd)).mono ?_; rintro e v1 ⟨rfl, hb1⟩; have K1 : Hid _ := K0.out.below hb1)
    | (refine gen_world (v1.alloc (.cells (dvC zeroD) 33)) (Fb w [(w.heap.size, cpC c, 26), (w.heap.size + 1, pnC p, 38), (w.heap.size + 2, cpC zeroC, 26), (v1.heap.size, dvC zeroD, 33)] g Y) (K1.out.new _ _) ?_; intro y2 K2)
    | (refine at_storeD v1.heap.size zeroD D (K2.out.get 3 _ _ _ rfl) _ _ rfl rfl rfl rfl ?_; intro y3 hw3; have K3 : Hid (Fb w [(w.heap.size, cpC c, 26), (w.heap.size + 1, pnC p, 38), (w.heap.size + 2, cpC zeroC, 26), (v1.heap.size, dvC D, 33)] g Y y3) := K2.out.put 3 _ _ _ _ rfl hw3.out; have f4 := BoxD.f4 (K3.out.get 3 _ _ _ rfl); rw [h4.out] at f4; have f2 := BoxD.f2 (K3.out.get 3 _ _ _ rfl); rw [h2.out] at f2; have f3 := BoxD.f3 (K3.out.get 3 _ _ _ rfl); rw [h3.out] at f3; have g1 := BoxD.f1 (K3.out.get 3 _ _ _ rfl); rw [hA.out] at g1; have q1 : y3.cell? ⟨w.heap.size + 1, 1, none⟩ = some (.int .u8 V) := (by have := BoxP.fData (K3.out.get 1 _ _ _ rfl); rw [hV.out] at this; exact this); have m2 := K3.out.mem.cell a ha'.out; have z2 := K3.out.mem.frozen a; have K6 : Hid (Fb w [(w.heap.size, cpC c, 26), (w.heap.size + 1, pnC p, 38), (w.heap.size + 2, cpC zeroC, 26), (v1.heap.size, dvC D, 33)] g (fun j => if j = a then V else Y j) (y3.setCell ⟨g, a, none⟩ (.int .u8 V))) := K3.out.byte a ha'.out V)
    | (refine gen_world (y3.setCell ⟨g, a, none⟩ (.int .u8 V)) (Fb w [(w.heap.size, cpC c, 26), (w.heap.size + 1, pnC p, 38), (w.heap.size + 2, cpC zeroC, 26), (v1.heap.size, dvC D, 33)] g (fun j => if j = a then V else Y j)) K6.out ?_; intro y6 K7)
    | (go_at_call 11; refine (hS _ (tb'.out _ K7.out.upd)).mono ?_; rintro e v8 ⟨rfl, hb8⟩; have K8 : Hid _ := K7.out.below hb8)
    | (refine at_storeC (w.heap.size + 2) zeroC N (K8.out.get 2 _ _ _ rfl) _ _ rfl rfl rfl rfl ?_; intro w2 hw2; have K9 : Hid (Fb w [(w.heap.size, cpC c, 26), (w.heap.size + 1, pnC p, 38), (w.heap.size + 2, cpC N, 26), (v1.heap.size, dvC D, 33)] g (fun j => if j = a then V else Y j) w2) := K8.out.put 2 _ _ _ _ rfl hw2.out)
    | (refine at_loadC w.heap.size c (K7.out.get 0 _ _ _ rfl) _ rfl rfl rfl ?_)
    | (refine at_loadP (w.heap.size + 1) _ (K7.out.get 1 _ _ _ rfl) _ rfl rfl rfl ?_)
    | (refine at_loadC w.heap.size c (K0.out.get 0 _ _ _ rfl) _ rfl rfl rfl ?_))
  refine retC Tryz.results14 rfl hw2.out.1 rfl ⟨rfl, K9.out.mem, K9.out.upd⟩
theorem cyc_rdr (w0 w : World) (tb : Tabs w0) (hb : Below w0.heap.size w0 w) (g : Nat) (hg : w0.heap.size ≤ g) (Y : Nat → Int) (hm : Blk w g 65536 Y) (c : Cp) (hc : c.wf) (p : Pn) (hp : p.wf) (D : Dv) (hDe : driveM c p.Mode = D) (a : Nat) (ha : a < 65536) (hA : D.Addr = (a : Int)) (V : Int) (v0 : 0 ≤ V ∧ V < 256) (h4 : D.Own = false) (h2 : D.Rd = true) (h3 : D.Wr = false) (hV : (Y a) = V) : Calls Tryz.prog 14 #[.agg (cpC c), .slice (some ⟨g, 0, none⟩) 65536 65536, .agg (pnC p)] w fun e w' => e = .returned (.agg (cpC (stepM c { p with Data := V }))) ∧ Hid (Blk w' g 65536 Y ∧ Upd g w w') := by
  have hD := fun v t => ydrive v c hc t p.Mode hp.Mode
  rw [hDe] at hD
  have hS := fun v t => ystep v c hc { p with Data := V } ⟨hp.Mode, v0⟩ t
  have tb' : Hid (∀ y, Upd g w y → Tabs y) := fun y u => tb.below (hb.trans (u.below hb.size hg))
  have zz := zeroVC
  have zd := zeroVD
  have hF : Hid (Fb w [(w.heap.size, cpC c, 26), (w.heap.size + 1, pnC p, 38), (w.heap.size + 2, cpC zeroC, 26)] g Y (((w.alloc (.cells (cpC c) 26)).alloc (.cells (pnC p) 38)).alloc (.cells (cpC zeroC) 26))) := Fb.three w g Y hm c p
  obtain ⟨N, hN⟩ : ∃ N, stepM c { p with Data := V } = N := ⟨_, rfl⟩
  rw [hN] at hS ⊢
  have ij := fun v => idxS (g := g) (off := 0) (len := 65536) (cap := 65536) Tryz.underlying40 (s := 1) (by kernel_rfl) .u16 a v ha
  simp only [Nat.zero_add, Nat.mul_one] at ij
  obtain ⟨m, hme⟩ : ∃ m : Int, (p.Mode : Int) = m := ⟨_, rfl⟩
  rw [hme] at hD
  replace hme : Hid _ := hme
  have ha' : Hid (a < 65536) := ha
  replace h4 : Hid _ := h4
  replace h3 : Hid _ := h3
  replace hA : Hid _ := hA
  replace hV : Hid _ := hV
  replace h2 : Hid _ := h2
  clear hc hp tb hb hg hm hDe hN v0 ha
  go_enter Tryz.func14, Tryz.ntmps14
  go_wp2_with (first
    | (refine gen_world (((w.alloc (.cells (cpC c) 26)).alloc (.cells (pnC p) 38)).alloc (.cells (cpC zeroC) 26)) (Fb w [(w.heap.size, cpC c, 26), (w.heap.size + 1, pnC p, 38), (w.heap.size + 2, cpC zeroC, 26)] g Y) hF.out ?_; intro y K0; have d0 := BoxP.fMode (K0.out.get 1 _ _ _ rfl); rw [hme.out] at d0)
    | (go_at_call 9; refine (hD _ (tb'.out _ K0.out.upd)).mono ?_; rintro e v1 ⟨rfl, hb1⟩; have K1 : Hid _ := K0.out.below hb1)
    | (refine gen_world (v1.alloc (.cells (dvC zeroD) 33)) (Fb w [(w.heap.size, cpC c, 26), (w.heap.size + 1, pnC p, 38), (w.heap.size + 2, cpC zeroC, 26), (v1.heap.size, dvC zeroD, 33)] g Y) (K1.out.new _ _) ?_; intro y2 K2)
    | (refine at_storeD v1.heap.size zeroD D (K2.out.get 3 _ _ _ rfl) _ _ rfl rfl rfl rfl ?_; intro y3 hw3; have K3 : Hid (Fb w [(w.heap.size, cpC c, 26), (w.heap.size + 1, pnC p, 38), (w.heap.size + 2, cpC zeroC, 26), (v1.heap.size, dvC D, 33)] g Y y3) := K2.out.put 3 _ _ _ _ rfl hw3.out; have f4 := BoxD.f4 (K3.out.get 3 _ _ _ rfl); rw [h4.out] at f4; have f2 := BoxD.f2 (K3.out.get 3 _ _ _ rfl); rw [h2.out] at f2; have f1 := BoxD.f1 (K3.out.get 3 _ _ _ rfl); rw [hA.out] at f1; have m1 := K3.out.mem.cell a ha'.out; rw [hV.out] at m1; have p1 := BoxP.fData (K3.out.get 1 _ _ _ rfl); have z1 := frozen_heap (K3.out.get 1 _ _ _ rfl) 1; have K4 : Hid (Fb w [(w.heap.size, cpC c, 26), (w.heap.size + 1, pnC { p with Data := V }, 38), (w.heap.size + 2, cpC zeroC, 26), (v1.heap.size, dvC D, 33)] g Y (y3.setCell ⟨w.heap.size + 1, 1, none⟩ (.int .u8 V))) := K3.out.setCell 1 _ _ _ _ rfl 1 _ rfl)
    | (refine gen_world (y3.setCell ⟨w.heap.size + 1, 1, none⟩ (.int .u8 V)) (Fb w [(w.heap.size, cpC c, 26), (w.heap.size + 1, pnC { p with Data := V }, 38), (w.heap.size + 2, cpC zeroC, 26), (v1.heap.size, dvC D, 33)] g Y) K4.out ?_; intro y4 K5; have f3 := BoxD.f3 (K5.out.get 3 _ _ _ rfl); rw [h3.out] at f3)
    | (go_at_call 11; refine (hS _ (tb'.out _ K5.out.upd)).mono ?_; rintro e v8 ⟨rfl, hb8⟩; have K8 : Hid _ := K5.out.below hb8)
    | (refine at_storeC (w.heap.size + 2) zeroC N (K8.out.get 2 _ _ _ rfl) _ _ rfl rfl rfl rfl ?_; intro w2 hw2; have K9 : Hid (Fb w [(w.heap.size, cpC c, 26), (w.heap.size + 1, pnC { p with Data := V }, 38), (w.heap.size + 2, cpC N, 26), (v1.heap.size, dvC D, 33)] g Y w2) := K8.out.put 2 _ _ _ _ rfl hw2.out)
    | (refine at_loadC w.heap.size c (K5.out.get 0 _ _ _ rfl) _ rfl rfl rfl ?_)
    | (refine at_loadP (w.heap.size + 1) _ (K5.out.get 1 _ _ _ rfl) _ rfl rfl rfl ?_)
    | (refine at_loadC w.heap.size c (K0.out.get 0 _ _ _ rfl) _ rfl rfl rfl ?_))
  refine retC Tryz.results14 rfl hw2.out.1 rfl ⟨rfl, K9.out.mem, K9.out.upd⟩
theorem cyc_rdw (w0 w : World) (tb : Tabs w0) (hb : Below w0.heap.size w0 w) (g : Nat) (hg : w0.heap.size ≤ g) (Y : Nat → Int) (hm : Blk w g 65536 Y) (c : Cp) (hc : c.wf) (p : Pn) (hp : p.wf) (D : Dv) (hDe : driveM c p.Mode = D) (a : Nat) (ha : a < 65536) (hA : D.Addr = (a : Int)) (V : Int) (v0 : 0 ≤ V ∧ V < 256) (h4 : D.Own = false) (h2 : D.Rd = true) (h3 : D.Wr = true) (hV : (Y a) = V) : Calls Tryz.prog 14 #[.agg (cpC c), .slice (some ⟨g, 0, none⟩) 65536 65536, .agg (pnC p)] w fun e w' => e = .returned (.agg (cpC (stepM c { p with Data := V }))) ∧ Hid (Blk w' g 65536 (fun j => if j = a then V else Y j) ∧ Upd g w w') := by
  have hD := fun v t => ydrive v c hc t p.Mode hp.Mode
  rw [hDe] at hD
  have hS := fun v t => ystep v c hc { p with Data := V } ⟨hp.Mode, v0⟩ t
  have tb' : Hid (∀ y, Upd g w y → Tabs y) := fun y u => tb.below (hb.trans (u.below hb.size hg))
  have zz := zeroVC
  have zd := zeroVD
  have hF : Hid (Fb w [(w.heap.size, cpC c, 26), (w.heap.size + 1, pnC p, 38), (w.heap.size + 2, cpC zeroC, 26)] g Y (((w.alloc (.cells (cpC c) 26)).alloc (.cells (pnC p) 38)).alloc (.cells (cpC zeroC) 26))) := Fb.three w g Y hm c p
  obtain ⟨N, hN⟩ : ∃ N, stepM c { p with Data := V } = N := ⟨_, rfl⟩
  rw [hN] at hS ⊢
  have ij := fun v => idxS (g := g) (off := 0) (len := 65536) (cap := 65536) Tryz.underlying40 (s := 1) (by kernel_rfl) .u16 a v ha
  simp only [Nat.zero_add, Nat.mul_one] at ij
  obtain ⟨m, hme⟩ : ∃ m : Int, (p.Mode : Int) = m := ⟨_, rfl⟩
  rw [hme] at hD
  replace hme : Hid _ := hme
  have ha' : Hid (a < 65536) := ha
  replace h4 : Hid _ := h4
  replace h3 : Hid _ := h3
  replace hA : Hid _ := hA
  replace hV : Hid _ := hV
  replace h2 : Hid _ := h2
  clear hc hp tb hb hg hm hDe hN v0 ha
  go_enter Tryz.func14, Tryz.ntmps14
  go_wp2_with (first
    | (refine gen_world (((w.alloc (.cells (cpC c) 26)).alloc (.cells (pnC p) 38)).alloc (.cells (cpC zeroC) 26)) (Fb w [(w.heap.size, cpC c, 26), (w.heap.size + 1, pnC p, 38), (w.heap.size + 2, cpC zeroC, 26)] g Y) hF.out ?_; intro y K0; have d0 := BoxP.fMode (K0.out.get 1 _ _ _ rfl); rw [hme.out] at d0)
    | (go_at_call 9; refine (hD _ (tb'.out _ K0.out.upd)).mono ?_; rintro e v1 ⟨rfl, hb1⟩; have K1 : Hid _ := K0.out.below hb1)
    | (refine gen_world (v1.alloc (.cells (dvC zeroD) 33)) (Fb w [(w.heap.size, cpC c, 26), (w.heap.size + 1, pnC p, 38), (w.heap.size + 2, cpC zeroC, 26), (v1.heap.size, dvC zeroD, 33)] g Y) (K1.out.new _ _) ?_; intro y2 K2)
    | (refine at_storeD v1.heap.size zeroD D (K2.out.get 3 _ _ _ rfl) _ _ rfl rfl rfl rfl ?_; intro y3 hw3; have K3 : Hid (Fb w [(w.heap.size, cpC c, 26), (w.heap.size + 1, pnC p, 38), (w.heap.size + 2, cpC zeroC, 26), (v1.heap.size, dvC D, 33)] g Y y3) := K2.out.put 3 _ _ _ _ rfl hw3.out; have f4 := BoxD.f4 (K3.out.get 3 _ _ _ rfl); rw [h4.out] at f4; have f2 := BoxD.f2 (K3.out.get 3 _ _ _ rfl); rw [h2.out] at f2; have f1 := BoxD.f1 (K3.out.get 3 _ _ _ rfl); rw [hA.out] at f1; have m1 := K3.out.mem.cell a ha'.out; rw [hV.out] at m1; have p1 := BoxP.fData (K3.out.get 1 _ _ _ rfl); have z1 := frozen_heap (K3.out.get 1 _ _ _ rfl) 1; have K4 : Hid (Fb w [(w.heap.size, cpC c, 26), (w.heap.size + 1, pnC { p with Data := V }, 38), (w.heap.size + 2, cpC zeroC, 26), (v1.heap.size, dvC D, 33)] g Y (y3.setCell ⟨w.heap.size + 1, 1, none⟩ (.int .u8 V))) := K3.out.setCell 1 _ _ _ _ rfl 1 _ rfl)
    | (refine gen_world (y3.setCell ⟨w.heap.size + 1, 1, none⟩ (.int .u8 V)) (Fb w [(w.heap.size, cpC c, 26), (w.heap.size + 1, pnC { p with Data := V }, 38), (w.heap.size + 2, cpC zeroC, 26), (v1.heap.size, dvC D, 33)] g Y) K4.out ?_; intro y4 K5; have f3 := BoxD.f3 (K5.out.get 3 _ _ _ rfl); rw [h3.out] at f3; have g1 := BoxD.f1 (K5.out.get 3 _ _ _ rfl); rw [hA.out] at g1; have q1 : y4.cell? ⟨w.heap.size + 1, 1, none⟩ = some (.int .u8 V) := BoxP.fData (p := { p with Data := V }) (K5.out.get 1 _ _ _ rfl); have m2 := K5.out.mem.cell a ha'.out; have z2 := K5.out.mem.frozen a; have K6 : Hid (Fb w [(w.heap.size, cpC c, 26), (w.heap.size + 1, pnC { p with Data := V }, 38), (w.heap.size + 2, cpC zeroC, 26), (v1.heap.size, dvC D, 33)] g (fun j => if j = a then V else Y j) (y4.setCell ⟨g, a, none⟩ (.int .u8 V))) := K5.out.byte a ha'.out V)
    | (refine gen_world (y4.setCell ⟨g, a, none⟩ (.int .u8 V)) (Fb w [(w.heap.size, cpC c, 26), (w.heap.size + 1, pnC { p with Data := V }, 38), (w.heap.size + 2, cpC zeroC, 26), (v1.heap.size, dvC D, 33)] g (fun j => if j = a then V else Y j)) K6.out ?_; intro y6 K7)
    | (go_at_call 11; refine (hS _ (tb'.out _ K7.out.upd)).mono ?_; rintro e v8 ⟨rfl, hb8⟩; have K8 : Hid _ := K7.out.below hb8)
    | (refine at_storeC (w.heap.size + 2) zeroC N (K8.out.get 2 _ _ _ rfl) _ _ rfl rfl rfl rfl ?_; intro w2 hw2; have K9 : Hid (Fb w [(w.heap.size, cpC c, 26), (w.heap.size + 1, pnC { p with Data := V }, 38), (w.heap.size + 2, cpC N, 26), (v1.heap.size, dvC D, 33)] g (fun j => if j = a then V else Y j) w2) := K8.out.put 2 _ _ _ _ rfl hw2.out)
    | (refine at_loadC w.heap.size c (K7.out.get 0 _ _ _ rfl) _ rfl rfl rfl ?_)
    | (refine at_loadP (w.heap.size + 1) _ (K7.out.get 1 _ _ _ rfl) _ rfl rfl rfl ?_)
    | (refine at_loadC w.heap.size c (K0.out.get 0 _ _ _ rfl) _ rfl rfl rfl ?_))
  refine retC Tryz.results14 rfl hw2.out.1 rfl ⟨rfl, K9.out.mem, K9.out.upd⟩
theorem cyc_ownr (w0 w : World) (tb : Tabs w0) (hb : Below w0.heap.size w0 w) (g : Nat) (hg : w0.heap.size ≤ g) (Y : Nat → Int) (hm : Blk w g 65536 Y) (c : Cp) (hc : c.wf) (p : Pn) (hp : p.wf) (D : Dv) (hDe : driveM c p.Mode = D) (a : Nat) (ha : a < 65536) (hA : D.Addr = (a : Int)) (V : Int) (v0 : 0 ≤ V ∧ V < 256) (h4 : D.Own = true) (h3 : D.Wr = false) (hV : D.Data = V) : Calls Tryz.prog 14 #[.agg (cpC c), .slice (some ⟨g, 0, none⟩) 65536 65536, .agg (pnC p)] w fun e w' => e = .returned (.agg (cpC (stepM c { p with Data := V }))) ∧ Hid (Blk w' g 65536 Y ∧ Upd g w w') := by
  have hD := fun v t => ydrive v c hc t p.Mode hp.Mode
  rw [hDe] at hD
  have hS := fun v t => ystep v c hc { p with Data := V } ⟨hp.Mode, v0⟩ t
  have tb' : Hid (∀ y, Upd g w y → Tabs y) := fun y u => tb.below (hb.trans (u.below hb.size hg))
  have zz := zeroVC
  have zd := zeroVD
  have hF : Hid (Fb w [(w.heap.size, cpC c, 26), (w.heap.size + 1, pnC p, 38), (w.heap.size + 2, cpC zeroC, 26)] g Y (((w.alloc (.cells (cpC c) 26)).alloc (.cells (pnC p) 38)).alloc (.cells (cpC zeroC) 26))) := Fb.three w g Y hm c p
  obtain ⟨N, hN⟩ : ∃ N, stepM c { p with Data := V } = N := ⟨_, rfl⟩
  rw [hN] at hS ⊢
  have ij := fun v => idxS (g := g) (off := 0) (len := 65536) (cap := 65536) Tryz.underlying40 (s := 1) (by kernel_rfl) .u16 a v ha
  simp only [Nat.zero_add, Nat.mul_one] at ij
  obtain ⟨m, hme⟩ : ∃ m : Int, (p.Mode : Int) = m := ⟨_, rfl⟩
  rw [hme] at hD
  replace hme : Hid _ := hme
  have ha' : Hid (a < 65536) := ha
  replace h4 : Hid _ := h4
  replace h3 : Hid _ := h3
  replace hA : Hid _ := hA
  replace hV : Hid _ := hV
  clear hc hp tb hb hg hm hDe hN v0 ha
  go_enter Tryz.func14, Tryz.ntmps14
  go_wp2_with (first
    | (refine gen_world (((w.alloc (.cells (cpC c) 26)).alloc (.cells (pnC p) 38)).alloc (.cells (cpC zeroC) 26)) (Fb w [(w.heap.size, cpC c, 26), (w.heap.size + 1, pnC p, 38), (w.heap.size + 2, cpC zeroC, 26)] g Y) hF.out ?_; intro y K0; have d0 := BoxP.fMode (K0.out.get 1 _ _ _ rfl); rw [hme.out] at d0)
    | (go_at_call 9; refine (hD _ (tb'.out _ K0.out.upd)).mono ?_; rintro e v1 ⟨rfl, hb1⟩; have K1 : Hid _ := K0.out.below hb1)
    | (refine gen_world (v1.alloc (.cells (dvC zeroD) 33)) (Fb w [(w.heap.size, cpC c, 26), (w.heap.size + 1, pnC p, 38), (w.heap.size + 2, cpC zeroC, 26), (v1.heap.size, dvC zeroD, 33)] g Y) (K1.out.new _ _) ?_; intro y2 K2)
    | (refine at_storeD v1.heap.size zeroD D (K2.out.get 3 _ _ _ rfl) _ _ rfl rfl rfl rfl ?_; intro y3 hw3; have K3 : Hid (Fb w [(w.heap.size, cpC c, 26), (w.heap.size + 1, pnC p, 38), (w.heap.size + 2, cpC zeroC, 26), (v1.heap.size, dvC D, 33)] g Y y3) := K2.out.put 3 _ _ _ _ rfl hw3.out; have f4 := BoxD.f4 (K3.out.get 3 _ _ _ rfl); rw [h4.out] at f4; have f5 := BoxD.f5 (K3.out.get 3 _ _ _ rfl); rw [hV.out] at f5; have p1 := BoxP.fData (K3.out.get 1 _ _ _ rfl); have z1 := frozen_heap (K3.out.get 1 _ _ _ rfl) 1; have K4 : Hid (Fb w [(w.heap.size, cpC c, 26), (w.heap.size + 1, pnC { p with Data := V }, 38), (w.heap.size + 2, cpC zeroC, 26), (v1.heap.size, dvC D, 33)] g Y (y3.setCell ⟨w.heap.size + 1, 1, none⟩ (.int .u8 V))) := K3.out.setCell 1 _ _ _ _ rfl 1 _ rfl)
    | (refine gen_world (y3.setCell ⟨w.heap.size + 1, 1, none⟩ (.int .u8 V)) (Fb w [(w.heap.size, cpC c, 26), (w.heap.size + 1, pnC { p with Data := V }, 38), (w.heap.size + 2, cpC zeroC, 26), (v1.heap.size, dvC D, 33)] g Y) K4.out ?_; intro y4 K5; have f3 := BoxD.f3 (K5.out.get 3 _ _ _ rfl); rw [h3.out] at f3)
    | (go_at_call 11; refine (hS _ (tb'.out _ K5.out.upd)).mono ?_; rintro e v8 ⟨rfl, hb8⟩; have K8 : Hid _ := K5.out.below hb8)
    | (refine at_storeC (w.heap.size + 2) zeroC N (K8.out.get 2 _ _ _ rfl) _ _ rfl rfl rfl rfl ?_; intro w2 hw2; have K9 : Hid (Fb w [(w.heap.size, cpC c, 26), (w.heap.size + 1, pnC { p with Data := V }, 38), (w.heap.size + 2, cpC N, 26), (v1.heap.size, dvC D, 33)] g Y w2) := K8.out.put 2 _ _ _ _ rfl hw2.out)
    | (refine at_loadC w.heap.size c (K5.out.get 0 _ _ _ rfl) _ rfl rfl rfl ?_)
    | (refine at_loadP (w.heap.size + 1) _ (K5.out.get 1 _ _ _ rfl) _ rfl rfl rfl ?_)
    | (refine at_loadC w.heap.size c (K0.out.get 0 _ _ _ rfl) _ rfl rfl rfl ?_))
  refine retC Tryz.results14 rfl hw2.out.1 rfl ⟨rfl, K9.out.mem, K9.out.upd⟩
theorem cyc_ownw (w0 w : World) (tb : Tabs w0) (hb : Below w0.heap.size w0 w) (g : Nat) (hg : w0.heap.size ≤ g) (Y : Nat → Int) (hm : Blk w g 65536 Y) (c : Cp) (hc : c.wf) (p : Pn) (hp : p.wf) (D : Dv) (hDe : driveM c p.Mode = D) (a : Nat) (ha : a < 65536) (hA : D.Addr = (a : Int)) (V : Int) (v0 : 0 ≤ V ∧ V < 256) (h4 : D.Own = true) (h3 : D.Wr = true) (hV : D.Data = V) : Calls Tryz.prog 14 #[.agg (cpC c), .slice (some ⟨g, 0, none⟩) 65536 65536, .agg (pnC p)] w fun e w' => e = .returned (.agg (cpC (stepM c { p with Data := V }))) ∧ Hid (Blk w' g 65536 (fun j => if j = a then V else Y j) ∧ Upd g w w') := by
  have hD := fun v t => ydrive v c hc t p.Mode hp.Mode
  rw [hDe] at hD
  have hS := fun v t => ystep v c hc { p with Data := V } ⟨hp.Mode, v0⟩ t
  have tb' : Hid (∀ y, Upd g w y → Tabs y) := fun y u => tb.below (hb.trans (u.below hb.size hg))
  have zz := zeroVC
  have zd := zeroVD
  have hF : Hid (Fb w [(w.heap.size, cpC c, 26), (w.heap.size + 1, pnC p, 38), (w.heap.size + 2, cpC zeroC, 26)] g Y (((w.alloc (.cells (cpC c) 26)).alloc (.cells (pnC p) 38)).alloc (.cells (cpC zeroC) 26))) := Fb.three w g Y hm c p
  obtain ⟨N, hN⟩ : ∃ N, stepM c { p with Data := V } = N := ⟨_, rfl⟩
  rw [hN] at hS ⊢
  have ij := fun v => idxS (g := g) (off := 0) (len := 65536) (cap := 65536) Tryz.underlying40 (s := 1) (by kernel_rfl) .u16 a v ha
  simp only [Nat.zero_add, Nat.mul_one] at ij
  obtain ⟨m, hme⟩ : ∃ m : Int, (p.Mode : Int) = m := ⟨_, rfl⟩
  rw [hme] at hD
  replace hme : Hid _ := hme
  have ha' : Hid (a < 65536) := ha
  replace h4 : Hid _ := h4
  replace h3 : Hid _ := h3
  replace hA : Hid _ := hA
  replace hV : Hid _ := hV
  clear hc hp tb hb hg hm hDe hN v0 ha
  go_enter Tryz.func14, Tryz.ntmps14
  go_wp2_with (first
    | (refine gen_world (((w.alloc (.cells (cpC c) 26)).alloc (.cells (pnC p) 38)).alloc (.cells (cpC zeroC) 26)) (Fb w [(w.heap.size, cpC c, 26), (w.heap.size + 1, pnC p, 38), (w.heap.size + 2, cpC zeroC, 26)] g Y) hF.out ?_; intro y K0; have d0 := BoxP.fMode (K0.out.get 1 _ _ _ rfl); rw [hme.out] at d0)
    | (go_at_call 9; refine (hD _ (tb'.out _ K0.out.upd)).mono ?_; rintro e v1 ⟨rfl, hb1⟩; have K1 : Hid _ := K0.out.below hb1)
    | (refine gen_world (v1.alloc (.cells (dvC zeroD) 33)) (Fb w [(w.heap.size, cpC c, 26), (w.heap.size + 1, pnC p, 38), (w.heap.size + 2, cpC zeroC, 26), (v1.heap.size, dvC zeroD, 33)] g Y) (K1.out.new _ _) ?_; intro y2 K2)
    | (refine at_storeD v1.heap.size zeroD D (K2.out.get 3 _ _ _ rfl) _ _ rfl rfl rfl rfl ?_; intro y3 hw3; have K3 : Hid (Fb w [(w.heap.size, cpC c, 26), (w.heap.size + 1, pnC p, 38), (w.heap.size + 2, cpC zeroC, 26), (v1.heap.size, dvC D, 33)] g Y y3) := K2.out.put 3 _ _ _ _ rfl hw3.out; have f4 := BoxD.f4 (K3.out.get 3 _ _ _ rfl); rw [h4.out] at f4; have f5 := BoxD.f5 (K3.out.get 3 _ _ _ rfl); rw [hV.out] at f5; have p1 := BoxP.fData (K3.out.get 1 _ _ _ rfl); have z1 := frozen_heap (K3.out.get 1 _ _ _ rfl) 1; have K4 : Hid (Fb w [(w.heap.size, cpC c, 26), (w.heap.size + 1, pnC { p with Data := V }, 38), (w.heap.size + 2, cpC zeroC, 26), (v1.heap.size, dvC D, 33)] g Y (y3.setCell ⟨w.heap.size + 1, 1, none⟩ (.int .u8 V))) := K3.out.setCell 1 _ _ _ _ rfl 1 _ rfl)
    | (refine gen_world (y3.setCell ⟨w.heap.size + 1, 1, none⟩ (.int .u8 V)) (Fb w [(w.heap.size, cpC c, 26), (w.heap.size + 1, pnC { p with Data := V }, 38), (w.heap.size + 2, cpC zeroC, 26), (v1.heap.size, dvC D, 33)] g Y) K4.out ?_; intro y4 K5; have f3 := BoxD.f3 (K5.out.get 3 _ _ _ rfl); rw [h3.out] at f3; have g1 := BoxD.f1 (K5.out.get 3 _ _ _ rfl); rw [hA.out] at g1; have q1 : y4.cell? ⟨w.heap.size + 1, 1, none⟩ = some (.int .u8 V) := BoxP.fData (p := { p with Data := V }) (K5.out.get 1 _ _ _ rfl); have m2 := K5.out.mem.cell a ha'.out; have z2 := K5.out.mem.frozen a; have K6 : Hid (Fb w [(w.heap.size, cpC c, 26), (w.heap.size + 1, pnC { p with Data := V }, 38), (w.heap.size + 2, cpC zeroC, 26), (v1.heap.size, dvC D, 33)] g (fun j => if j = a then V else Y j) (y4.setCell ⟨g, a, none⟩ (.int .u8 V))) := K5.out.byte a ha'.out V)
    | (refine gen_world (y4.setCell ⟨g, a, none⟩ (.int .u8 V)) (Fb w [(w.heap.size, cpC c, 26), (w.heap.size + 1, pnC { p with Data := V }, 38), (w.heap.size + 2, cpC zeroC, 26), (v1.heap.size, dvC D, 33)] g (fun j => if j = a then V else Y j)) K6.out ?_; intro y6 K7)
    | (go_at_call 11; refine (hS _ (tb'.out _ K7.out.upd)).mono ?_; rintro e v8 ⟨rfl, hb8⟩; have K8 : Hid _ := K7.out.below hb8)
    | (refine at_storeC (w.heap.size + 2) zeroC N (K8.out.get 2 _ _ _ rfl) _ _ rfl rfl rfl rfl ?_; intro w2 hw2; have K9 : Hid (Fb w [(w.heap.size, cpC c, 26), (w.heap.size + 1, pnC { p with Data := V }, 38), (w.heap.size + 2, cpC N, 26), (v1.heap.size, dvC D, 33)] g (fun j => if j = a then V else Y j) w2) := K8.out.put 2 _ _ _ _ rfl hw2.out)
    | (refine at_loadC w.heap.size c (K7.out.get 0 _ _ _ rfl) _ rfl rfl rfl ?_)
    | (refine at_loadP (w.heap.size + 1) _ (K7.out.get 1 _ _ _ rfl) _ rfl rfl rfl ?_)
    | (refine at_loadC w.heap.size c (K0.out.get 0 _ _ _ rfl) _ rfl rfl rfl ?_))
  refine retC Tryz.results14 rfl hw2.out.1 rfl ⟨rfl, K9.out.mem, K9.out.upd⟩
theorem lcycle (w0 w : World) (tb : Tabs w0) (hb : Below w0.heap.size w0 w) (g : Nat) (hg : w0.heap.size ≤ g) (Y : Nat → Int) (hY : ∀ j, 0 ≤ Y j ∧ Y j < 256) (hm : Blk w g 65536 Y) (c : Cp) (hc : c.wf) (p : Pn) (hp : p.wf) : Calls Tryz.prog 14 #[.agg (cpC c), .slice (some ⟨g, 0, none⟩) 65536 65536, .agg (pnC p)] w fun e w' => e = .returned (.agg (cpC (cycM c Y p))) ∧ Hid (Blk w' g 65536 (memM c Y p) ∧ Upd g w w') := by
  have hA := driveM_ok hc p.Mode
  have hv := busM_ok hc hY hp
  have e1 : cycM c Y p = stepM c { p with Data := busM c Y p } := rfl
  have hA' : (driveM c p.Mode).Addr = (((driveM c p.Mode).Addr.toNat : Nat) : Int) := by omega
  have ha : (driveM c p.Mode).Addr.toNat < 65536 := by omega
  rw [e1]
  rcases h3 : (driveM c p.Mode).Wr with _ | _
  · have e2 : memM c Y p = Y := by unfold memM; rw [h3]; rfl
    rw [e2]
    rcases h4 : (driveM c p.Mode).Own with _ | _
    · rcases h2 : (driveM c p.Mode).Rd with _ | _
      · exact cyc_nor w0 w tb hb g hg Y hm c hc p hp _ rfl _ ha hA' _ hv h4 h2 h3 (by unfold busM; rw [h4, h2]; rfl)
      · exact cyc_rdr w0 w tb hb g hg Y hm c hc p hp _ rfl _ ha hA' _ hv h4 h2 h3 (by unfold busM; rw [h4, h2]; rfl)
    · exact cyc_ownr w0 w tb hb g hg Y hm c hc p hp _ rfl _ ha hA' _ hv h4 h3 (by unfold busM; rw [h4]; rfl)
  · have e2 : memM c Y p = fun j => if j = (driveM c p.Mode).Addr.toNat then busM c Y p else Y j := by unfold memM; rw [h3]; rfl
    rw [e2]
    rcases h4 : (driveM c p.Mode).Own with _ | _
    · rcases h2 : (driveM c p.Mode).Rd with _ | _
      · exact cyc_now w0 w tb hb g hg Y hm c hc p hp _ rfl _ ha hA' _ hv h4 h2 h3 (by unfold busM; rw [h4, h2]; rfl)
      · exact cyc_rdw w0 w tb hb g hg Y hm c hc p hp _ rfl _ ha hA' _ hv h4 h2 h3 (by unfold busM; rw [h4, h2]; rfl)
    · exact cyc_ownw w0 w tb hb g hg Y hm c hc p hp _ rfl _ ha hA' _ hv h4 h3 (by unfold busM; rw [h4]; rfl)
end Go.Proofs.YtbeeefekndcgnaaGreatDoor
