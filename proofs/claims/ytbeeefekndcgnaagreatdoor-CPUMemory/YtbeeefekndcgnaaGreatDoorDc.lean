/- What an instruction's cycle does to the bus. -/
import Derived.Test.YtbeeefekndcgnaaGreatDoorCy
import Derived.Test.YtbeeefekndcgnaaGreatDoorPl
import Derived.Test.YtbeeefekndcgnaaGreatDoorDb
import Derived.Test.YtbeeefekndcgnaaGreatDoorYo
import Derived.Test.YtbeeefekndcgnaaGreatDoorTail
import Derived.Test.YtbeeefekndcgnaaGreatDoorDr
namespace Go.Proofs.YtbeeefekndcgnaaGreatDoor
open Go Go.RowKit
set_option linter.unusedVariables false
set_option maxHeartbeats 1000000
set_option maxRecDepth 20000

theorem quiet_buildY0 {C : World → Prop} {o : Oper} {a : Act} (c : Cp) (x : Operand) (ho : o.op = .build 52 #[(0, x)]) (hx : a.eval x = .agg (cpC c)) : ∀ w, C w → o.quietAt Tryz.prog a C w (.agg (cyC c zeroP)) := fun w hw => by
  have e : ((#[(0, x)] : Array (Nat × Operand)).map fun (i, x) => (i, a.eval x)).toList = [(0, .agg (cpC c))] := by simp [hx]
  have hb := run_build (P := Tryz.prog) w 52 ((#[(0, x)] : Array (Nat × Operand)).map fun (i, x) => (i, a.eval x)) (cyC c zeroP) (by rw [e]; exact builtY0 c)
  unfold Oper.quietAt execOp
  simp only [ho, Sem.run_bind, hb, Result.andThen_ok]
  exact ⟨rfl, rfl⟩
theorem ydexec0 (w : World) (c : Cp) (hc : c.wf) (tb : Tabs w) (hP : c.P < 16) (hX : c.X < 16) (sec : Bool) (hs : sec = true → c.Op / 16 = 12) (hw : rowB c.Op = false) : Calls Tryz.prog 25 #[.agg (cpC c), .bool sec] w fun e w' => e = .returned (.agg (dvC (execM c))) ∧ Below w.heap.size w w' := by
  have hBu := fun v t => bus_any c.Op sec v t hc.Op
  rw [pbus_eq c.Op sec hc.Op hs] at hBu
  rw [hw] at hBu
  have hA := rptI_le c.Op hc.Op
  have hp := fun v => ypointed v c hc hP hX (rptI c.Op) hA
  unfold execM
  rw [hw]
  obtain ⟨A, hAe⟩ : ∃ A, rptI c.Op = A := ⟨_, rfl⟩
  rw [hAe] at hBu hp ⊢
  obtain ⟨AD, hADe⟩ : ∃ AD, addrM c A = AD := ⟨_, rfl⟩
  rw [hADe] at hp ⊢
  obtain ⟨r, hre⟩ : ∃ r, rrdB c.Op = r := ⟨_, rfl⟩
  obtain ⟨wr, hwe⟩ : ∃ r, rwrB c.Op = r := ⟨_, rfl⟩
  obtain ⟨T, hTe⟩ : ∃ T : Int, (if c.Op / 16 = 6 then ((c.Op % 8 : Nat) : Int) else 0) = T := ⟨_, rfl⟩
  rw [hre, hwe, hTe] at hBu ⊢
  have tb' : Hid (Tabs w) := tb
  rw [if_neg (by simp)]
  have zz := zeroVD
  have zu := zeroVU
  have hF : Hid (Ge w w.heap.size c (w.heap.size + 1) zeroD ((w.alloc (.cells (cpC c) 26)).alloc (.cells (dvC zeroD) 33))) := Ge.start w c
  clear hc tb hP hX hs hw hA hAe hADe hre hwe hTe
  go_enter Tryz.func25, Tryz.ntmps25
  go_wp2_with (first
    | (refine gen_world ((w.alloc (.cells (cpC c) 26)).alloc (.cells (dvC zeroD) 33)) (Ge w w.heap.size c (w.heap.size + 1) zeroD) hF.out ?_; intro y K; have d23 := K.out.c.fOp)
    | (go_at_call 35; refine (hBu _ (tb'.out.below K.out.low)).mono ?_; rintro e v1 ⟨rfl, hb1⟩; replace K : Hid _ := K.out.below hb1)
    | (refine gen_world (v1.alloc (.cells (useC 0 false false false 0) 64)) (Gu w w.heap.size c (w.heap.size + 1) zeroD v1.heap.size (useC 0 false false false 0)) (Gu.new K.out _) ?_; intro y2 K2)
    | (refine at_storeU v1.heap.size (useC 0 false false false 0) (useC A r wr false T) rfl rfl (useC_one _ _ _ _ _) K2.out.u _ _ rfl rfl rfl rfl ?_; intro y3 hw3; have K3 : Hid (Gu w w.heap.size c (w.heap.size + 1) zeroD v1.heap.size (useC A r wr false T) y3) := K2.out.putU hw3.out))
  refine wp_region_held_drew (S := Gu w w.heap.size c (w.heap.size + 1) zeroD v1.heap.size (useC A r wr false T)) (by kernel_rfl) (K3.out.below (below_drew (Below.refl _ _))) (fun hH => ?_)
  generalize y3.drew = z0 at hH ⊢
  clear K3 hw3
  refine wpAnyH_take (i := 0) (v := .agg (cpC c)) rfl (by kernel_rfl) (by kernel_rfl) (by kernel_rfl) (fun _ _ _ h => h) (yieldsC w.heap.size c (fun _ h => h.f.c) _ rfl rfl rfl) hH ?_
  simp only [Act.put, List.setIfInBounds_toArray]
  refine wpAnyH_take (i := 1) (v := .pointer (some ⟨v1.heap.size, 0, none⟩)) rfl (by kernel_rfl) (by kernel_rfl) (by kernel_rfl) (fun _ _ _ h => h) (.inl ⟨by rfl, fun u hu => by go_simp⟩) hH ?_
  simp only [Act.put]
  refine wpAnyH_take (i := 2) (v := .int .u8 A) rfl (by kernel_rfl) (by kernel_rfl) (by kernel_rfl) (fun _ _ _ h => h) (.inl ⟨by rfl, fun u hu => by have d := (show BoxU _ v1.heap.size A r wr false T from hu.u).f0; go_simp⟩) hH ?_
  simp only [Act.put]
  refine wpAnyH_take (i := 4) (v := .pointer (some ⟨v1.heap.size, 1, none⟩)) rfl (by kernel_rfl) (by kernel_rfl) (by kernel_rfl) (fun _ _ _ h => h) (.inl ⟨by rfl, fun u hu => by go_simp⟩) hH ?_
  simp only [Act.put]
  refine wpAnyH_take (i := 5) (v := .bool r) rfl (by kernel_rfl) (by kernel_rfl) (by kernel_rfl) (fun _ _ _ h => h) (.inl ⟨by rfl, fun u hu => by have d := (show BoxU _ v1.heap.size A r wr false T from hu.u).f1; go_simp⟩) hH ?_
  simp only [Act.put]
  refine wpAnyH_take (i := 6) (v := .pointer (some ⟨v1.heap.size, 2, none⟩)) rfl (by kernel_rfl) (by kernel_rfl) (by kernel_rfl) (fun _ _ _ h => h) (.inl ⟨by rfl, fun u hu => by go_simp⟩) hH ?_
  simp only [Act.put]
  refine wpAnyH_take (i := 7) (v := .bool wr) rfl (by kernel_rfl) (by kernel_rfl) (by kernel_rfl) (fun _ _ _ h => h) (.inl ⟨by rfl, fun u hu => by have d := (show BoxU _ v1.heap.size A r wr false T from hu.u).f2; go_simp⟩) hH ?_
  simp only [Act.put]
  refine wpAnyH_take (i := 8) (v := .pointer (some ⟨v1.heap.size, 3, none⟩)) rfl (by kernel_rfl) (by kernel_rfl) (by kernel_rfl) (fun _ _ _ h => h) (.inl ⟨by rfl, fun u hu => by go_simp⟩) hH ?_
  simp only [Act.put]
  refine wpAnyH_take (i := 9) (v := .bool false) rfl (by kernel_rfl) (by kernel_rfl) (by kernel_rfl) (fun _ _ _ h => h) (.inl ⟨by rfl, fun u hu => by have d := (show BoxU _ v1.heap.size A r wr false T from hu.u).f3; go_simp⟩) hH ?_
  simp only [Act.put]
  refine wpAnyH_take (i := 10) (v := .pointer (some ⟨v1.heap.size, 4, none⟩)) rfl (by kernel_rfl) (by kernel_rfl) (by kernel_rfl) (fun _ _ _ h => h) (.inl ⟨by rfl, fun u hu => by go_simp⟩) hH ?_
  simp only [Act.put]
  refine wpAnyH_take (i := 11) (v := .int .u8 T) rfl (by kernel_rfl) (by kernel_rfl) (by kernel_rfl) (fun _ _ _ h => h) (.inl ⟨by rfl, fun u hu => by have d := (show BoxU _ v1.heap.size A r wr false T from hu.u).f4; go_simp⟩) hH ?_
  simp only [Act.put]
  refine wpAnyH_ready (rs := [3, 13]) (by kernel_rfl) (by simp) (AllReadyH.cons rfl (fun K hK => ?_) (AllReadyH.cons rfl (fun K hK => ?_) AllReadyH.nil))
  · rw [if_pos (by rfl)]
    go_wp2_with (go_at_call 36; refine (hp _).mono ?_; rintro e v5 ⟨rfl, hb5⟩)
    refine hK.out _ _ (hH.below hb5) (fun hH => ?_)
    clear hK K
    try simp only [Act.put, List.setIfInBounds_toArray, List.set_cons_zero, List.set_cons_succ]
    refine wpAnyH_take (i := 12) (v := .agg (dvC ⟨1, AD, r, wr, false, 0, T, true⟩)) rfl (by kernel_rfl) (by kernel_rfl) (by kernel_rfl) (fun _ _ _ h => h) (yieldsD _ [(0, .int .u8 1), (1, .int .u16 AD), (2, .bool r), (3, .bool wr), (4, .bool false), (6, .int .u8 T), (7, .bool true)] ⟨1, AD, r, wr, false, 0, T, true⟩ (by rfl) rfl (by first | (simp [Act.eval]; done) | (go_simp; done)) (by kernel_rfl)) hH ?_
    try simp only [Act.put, List.setIfInBounds_toArray]
    refine wpAnyH_ready (rs := [13]) (by kernel_rfl) (by simp) (AllReadyH.cons rfl (fun K hK => ?_) AllReadyH.nil)
    rw [if_pos (by rfl)]
    go_wp2
    have K4 : Gv w w.heap.size c (w.heap.size + 1) zeroD v1.heap.size (useC A r wr false T) v5.heap.size zeroD (v5.alloc (.cells (dvC zeroD) 33)) := Gv.new hH zeroD
    refine hK.out _ _ K4.g (fun hH => ?_)
    clear hK K
    try simp only [Act.put, List.setIfInBounds_toArray, List.set_cons_zero, List.set_cons_succ]
    generalize v5.heap.size = bl at K4 ⊢
    generalize v5.alloc _ = y4 at K4 hH ⊢
    refine wpAnyH_ready (rs := [14]) (by kernel_rfl) (by simp) (AllReadyH.cons rfl (fun K hK => ?_) AllReadyH.nil)
    rw [if_pos (by rfl)]
    refine wp_storeD bl zeroD ⟨1, AD, r, wr, false, 0, T, true⟩ K4.l _ _ rfl rfl rfl ?_
    intro y5 hw5
    have K5 : Hid (Gv w w.heap.size c (w.heap.size + 1) zeroD v1.heap.size (useC A r wr false T) bl (⟨1, AD, r, wr, false, 0, T, true⟩ : Dv) y5) := K4.putL hw5.out
    refine hK.out _ _ K5.out.g (fun _ => ?_)
    clear hK K hH K4 hw5
    try simp only [Act.put, List.setIfInBounds_toArray]
    refine wpAnyH_done (by kernel_rfl) ?_ _
    have d3 : y5.cell? ⟨v1.heap.size, 3, none⟩ = some (.bool false) := (show BoxU _ v1.heap.size A r wr false T from K5.out.g.u).f3
    go_wp2_with (first
      | (refine at_loadD bl _ K5.out.l _ rfl rfl rfl ?_)
      | (refine at_storeD (w.heap.size + 1) zeroD _ K5.out.g.f.z _ _ rfl rfl rfl rfl ?_; intro w2 hw2))
    refine retD Tryz.results25 rfl hw2.out.1 rfl ⟨rfl, K5.out.g.f.low.trans (hw2.out.2.1 _ K5.out.g.f.l2)⟩
  · rw [if_pos (by rfl)]
    go_wp2
    have K4 : Gv w w.heap.size c (w.heap.size + 1) zeroD v1.heap.size (useC A r wr false T) z0.heap.size zeroD (z0.alloc (.cells (dvC zeroD) 33)) := Gv.new hH zeroD
    refine hK.out _ _ K4.g (fun hH => ?_)
    clear hK K
    try simp only [Act.put, List.setIfInBounds_toArray, List.set_cons_zero, List.set_cons_succ]
    generalize z0.heap.size = bl at K4 ⊢
    generalize z0.alloc _ = y4 at K4 hH ⊢
    refine wpAnyH_ready (rs := [3]) (by kernel_rfl) (by simp) (AllReadyH.cons rfl (fun K hK => ?_) AllReadyH.nil)
    rw [if_pos (by rfl)]
    go_wp2_with (go_at_call 36; refine (hp _).mono ?_; rintro e v5 ⟨rfl, hb5⟩)
    replace K4 := K4.below hb5
    refine hK.out _ _ K4.g (fun hH => ?_)
    clear hK K
    try simp only [Act.put, List.setIfInBounds_toArray, List.set_cons_zero, List.set_cons_succ]
    refine wpAnyH_take (i := 12) (v := .agg (dvC ⟨1, AD, r, wr, false, 0, T, true⟩)) rfl (by kernel_rfl) (by kernel_rfl) (by kernel_rfl) (fun _ _ _ h => h) (yieldsD _ [(0, .int .u8 1), (1, .int .u16 AD), (2, .bool r), (3, .bool wr), (4, .bool false), (6, .int .u8 T), (7, .bool true)] ⟨1, AD, r, wr, false, 0, T, true⟩ (by rfl) rfl (by first | (simp [Act.eval]; done) | (go_simp; done)) (by kernel_rfl)) hH ?_
    try simp only [Act.put, List.setIfInBounds_toArray]
    refine wpAnyH_ready (rs := [14]) (by kernel_rfl) (by simp) (AllReadyH.cons rfl (fun K hK => ?_) AllReadyH.nil)
    rw [if_pos (by rfl)]
    refine wp_storeD bl zeroD ⟨1, AD, r, wr, false, 0, T, true⟩ K4.l _ _ rfl rfl rfl ?_
    intro y5 hw5
    have K5 : Hid (Gv w w.heap.size c (w.heap.size + 1) zeroD v1.heap.size (useC A r wr false T) bl (⟨1, AD, r, wr, false, 0, T, true⟩ : Dv) y5) := K4.putL hw5.out
    refine hK.out _ _ K5.out.g (fun _ => ?_)
    clear hK K hH K4 hw5
    try simp only [Act.put]
    refine wpAnyH_done (by kernel_rfl) ?_ _
    have d3 : y5.cell? ⟨v1.heap.size, 3, none⟩ = some (.bool false) := (show BoxU _ v1.heap.size A r wr false T from K5.out.g.u).f3
    go_wp2_with (first
      | (refine at_loadD bl _ K5.out.l _ rfl rfl rfl ?_)
      | (refine at_storeD (w.heap.size + 1) zeroD _ K5.out.g.f.z _ _ rfl rfl rfl rfl ?_; intro w2 hw2))
    refine retD Tryz.results25 rfl hw2.out.1 rfl ⟨rfl, K5.out.g.f.low.trans (hw2.out.2.1 _ K5.out.g.f.l2)⟩

theorem ydexec1 (w : World) (c : Cp) (hc : c.wf) (tb : Tabs w) (hP : c.P < 16) (hX : c.X < 16) (sec : Bool) (hs : sec = true → c.Op / 16 = 12) (hw : rowB c.Op = true) : Calls Tryz.prog 25 #[.agg (cpC c), .bool sec] w fun e w' => e = .returned (.agg (dvC (execM c))) ∧ Below w.heap.size w w' := by
  have hBu := fun v t => bus_any c.Op sec v t hc.Op
  rw [pbus_eq c.Op sec hc.Op hs] at hBu
  rw [hw] at hBu
  have hA := rptI_le c.Op hc.Op
  have hp := fun v => ypointed v c hc hP hX (rptI c.Op) hA
  unfold execM
  rw [hw]
  obtain ⟨A, hAe⟩ : ∃ A, rptI c.Op = A := ⟨_, rfl⟩
  rw [hAe] at hBu hp ⊢
  obtain ⟨AD, hADe⟩ : ∃ AD, addrM c A = AD := ⟨_, rfl⟩
  rw [hADe] at hp ⊢
  obtain ⟨r, hre⟩ : ∃ r, rrdB c.Op = r := ⟨_, rfl⟩
  obtain ⟨wr, hwe⟩ : ∃ r, rwrB c.Op = r := ⟨_, rfl⟩
  obtain ⟨T, hTe⟩ : ∃ T : Int, (if c.Op / 16 = 6 then ((c.Op % 8 : Nat) : Int) else 0) = T := ⟨_, rfl⟩
  rw [hre, hwe, hTe] at hBu ⊢
  have tb' : Hid (Tabs w) := tb
  rw [if_pos rfl]
  obtain ⟨Fn, g0, g1, hix, hcf, hf⟩ := yownof c hc hP hX hw
  obtain ⟨k, hk⟩ : ∃ k, c.Op / 16 = k := ⟨_, rfl⟩
  have hk' : (c.Op : Int) / 16 = (k : Int) := by omega
  rw [hk] at hix
  obtain ⟨O, hOe⟩ : ∃ O, ownM c = O := ⟨_, rfl⟩
  rw [hOe] at hf ⊢
  have hR0 := yrows
  have zz := zeroVD
  have zu := zeroVU
  have hF : Hid (Ge w w.heap.size c (w.heap.size + 1) zeroD ((w.alloc (.cells (cpC c) 26)).alloc (.cells (dvC zeroD) 33))) := Ge.start w c
  clear hc tb hP hX hs hw hA hAe hADe hre hwe hTe hk hOe
  go_enter Tryz.func25, Tryz.ntmps25
  go_wp2_with (first
    | (refine gen_world ((w.alloc (.cells (cpC c) 26)).alloc (.cells (dvC zeroD) 33)) (Ge w w.heap.size c (w.heap.size + 1) zeroD) hF.out ?_; intro y K; have d23 := K.out.c.fOp)
    | (go_at_call 35; refine (hBu _ (tb'.out.below K.out.low)).mono ?_; rintro e v1 ⟨rfl, hb1⟩; replace K : Hid _ := K.out.below hb1)
    | (refine gen_world (v1.alloc (.cells (useC 0 false false false 0) 64)) (Gu w w.heap.size c (w.heap.size + 1) zeroD v1.heap.size (useC 0 false false false 0)) (Gu.new K.out _) ?_; intro y2 K2)
    | (refine at_storeU v1.heap.size (useC 0 false false false 0) (useC A r wr true T) rfl rfl (useC_one _ _ _ _ _) K2.out.u _ _ rfl rfl rfl rfl ?_; intro y3 hw3; have K3 : Hid (Gu w w.heap.size c (w.heap.size + 1) zeroD v1.heap.size (useC A r wr true T) y3) := K2.out.putU hw3.out))
  refine wp_region_held_drew (S := Gu w w.heap.size c (w.heap.size + 1) zeroD v1.heap.size (useC A r wr true T)) (by kernel_rfl) (K3.out.below (below_drew (Below.refl _ _))) (fun hH => ?_)
  generalize y3.drew = z0 at hH ⊢
  clear K3 hw3
  refine wpAnyH_take (i := 0) (v := .agg (cpC c)) rfl (by kernel_rfl) (by kernel_rfl) (by kernel_rfl) (fun _ _ _ h => h) (yieldsC w.heap.size c (fun _ h => h.f.c) _ rfl rfl rfl) hH ?_
  simp only [Act.put, List.setIfInBounds_toArray]
  refine wpAnyH_take (i := 1) (v := .pointer (some ⟨v1.heap.size, 0, none⟩)) rfl (by kernel_rfl) (by kernel_rfl) (by kernel_rfl) (fun _ _ _ h => h) (.inl ⟨by rfl, fun u hu => by go_simp⟩) hH ?_
  simp only [Act.put]
  refine wpAnyH_take (i := 2) (v := .int .u8 A) rfl (by kernel_rfl) (by kernel_rfl) (by kernel_rfl) (fun _ _ _ h => h) (.inl ⟨by rfl, fun u hu => by have d := (show BoxU _ v1.heap.size A r wr true T from hu.u).f0; go_simp⟩) hH ?_
  simp only [Act.put]
  refine wpAnyH_take (i := 4) (v := .pointer (some ⟨v1.heap.size, 1, none⟩)) rfl (by kernel_rfl) (by kernel_rfl) (by kernel_rfl) (fun _ _ _ h => h) (.inl ⟨by rfl, fun u hu => by go_simp⟩) hH ?_
  simp only [Act.put]
  refine wpAnyH_take (i := 5) (v := .bool r) rfl (by kernel_rfl) (by kernel_rfl) (by kernel_rfl) (fun _ _ _ h => h) (.inl ⟨by rfl, fun u hu => by have d := (show BoxU _ v1.heap.size A r wr true T from hu.u).f1; go_simp⟩) hH ?_
  simp only [Act.put]
  refine wpAnyH_take (i := 6) (v := .pointer (some ⟨v1.heap.size, 2, none⟩)) rfl (by kernel_rfl) (by kernel_rfl) (by kernel_rfl) (fun _ _ _ h => h) (.inl ⟨by rfl, fun u hu => by go_simp⟩) hH ?_
  simp only [Act.put]
  refine wpAnyH_take (i := 7) (v := .bool wr) rfl (by kernel_rfl) (by kernel_rfl) (by kernel_rfl) (fun _ _ _ h => h) (.inl ⟨by rfl, fun u hu => by have d := (show BoxU _ v1.heap.size A r wr true T from hu.u).f2; go_simp⟩) hH ?_
  simp only [Act.put]
  refine wpAnyH_take (i := 8) (v := .pointer (some ⟨v1.heap.size, 3, none⟩)) rfl (by kernel_rfl) (by kernel_rfl) (by kernel_rfl) (fun _ _ _ h => h) (.inl ⟨by rfl, fun u hu => by go_simp⟩) hH ?_
  simp only [Act.put]
  refine wpAnyH_take (i := 9) (v := .bool true) rfl (by kernel_rfl) (by kernel_rfl) (by kernel_rfl) (fun _ _ _ h => h) (.inl ⟨by rfl, fun u hu => by have d := (show BoxU _ v1.heap.size A r wr true T from hu.u).f3; go_simp⟩) hH ?_
  simp only [Act.put]
  refine wpAnyH_take (i := 10) (v := .pointer (some ⟨v1.heap.size, 4, none⟩)) rfl (by kernel_rfl) (by kernel_rfl) (by kernel_rfl) (fun _ _ _ h => h) (.inl ⟨by rfl, fun u hu => by go_simp⟩) hH ?_
  simp only [Act.put]
  refine wpAnyH_take (i := 11) (v := .int .u8 T) rfl (by kernel_rfl) (by kernel_rfl) (by kernel_rfl) (fun _ _ _ h => h) (.inl ⟨by rfl, fun u hu => by have d := (show BoxU _ v1.heap.size A r wr true T from hu.u).f4; go_simp⟩) hH ?_
  simp only [Act.put]
  refine wpAnyH_ready (rs := [3, 13]) (by kernel_rfl) (by simp) (AllReadyH.cons rfl (fun K hK => ?_) (AllReadyH.cons rfl (fun K hK => ?_) AllReadyH.nil))
  · rw [if_pos (by rfl)]
    go_wp2_with (go_at_call 36; refine (hp _).mono ?_; rintro e v5 ⟨rfl, hb5⟩)
    refine hK.out _ _ (hH.below hb5) (fun hH => ?_)
    clear hK K
    try simp only [Act.put, List.setIfInBounds_toArray, List.set_cons_zero, List.set_cons_succ]
    refine wpAnyH_take (i := 12) (v := .agg (dvC ⟨1, AD, r, wr, true, 0, T, true⟩)) rfl (by kernel_rfl) (by kernel_rfl) (by kernel_rfl) (fun _ _ _ h => h) (yieldsD _ [(0, .int .u8 1), (1, .int .u16 AD), (2, .bool r), (3, .bool wr), (4, .bool true), (6, .int .u8 T), (7, .bool true)] ⟨1, AD, r, wr, true, 0, T, true⟩ (by rfl) rfl (by first | (simp [Act.eval]; done) | (go_simp; done)) (by kernel_rfl)) hH ?_
    try simp only [Act.put, List.setIfInBounds_toArray]
    refine wpAnyH_ready (rs := [13]) (by kernel_rfl) (by simp) (AllReadyH.cons rfl (fun K hK => ?_) AllReadyH.nil)
    rw [if_pos (by rfl)]
    go_wp2
    have K4 : Gv w w.heap.size c (w.heap.size + 1) zeroD v1.heap.size (useC A r wr true T) v5.heap.size zeroD (v5.alloc (.cells (dvC zeroD) 33)) := Gv.new hH zeroD
    refine hK.out _ _ K4.g (fun hH => ?_)
    clear hK K
    try simp only [Act.put, List.setIfInBounds_toArray, List.set_cons_zero, List.set_cons_succ]
    generalize v5.heap.size = bl at K4 ⊢
    generalize v5.alloc _ = y4 at K4 hH ⊢
    refine wpAnyH_ready (rs := [14]) (by kernel_rfl) (by simp) (AllReadyH.cons rfl (fun K hK => ?_) AllReadyH.nil)
    rw [if_pos (by rfl)]
    refine wp_storeD bl zeroD ⟨1, AD, r, wr, true, 0, T, true⟩ K4.l _ _ rfl rfl rfl ?_
    intro y5 hw5
    have K5 : Hid (Gv w w.heap.size c (w.heap.size + 1) zeroD v1.heap.size (useC A r wr true T) bl (⟨1, AD, r, wr, true, 0, T, true⟩ : Dv) y5) := K4.putL hw5.out
    refine hK.out _ _ K5.out.g (fun _ => ?_)
    clear hK K hH K4 hw5
    try simp only [Act.put, List.setIfInBounds_toArray]
    refine wpAnyH_done (by kernel_rfl) ?_ _
    have d3 : y5.cell? ⟨v1.heap.size, 3, none⟩ = some (.bool true) := (show BoxU _ v1.heap.size A r wr true T from K5.out.g.u).f3
    go_wp2
    refine region_class_tail 10 (Gv w w.heap.size c (w.heap.size + 1) zeroD v1.heap.size (useC A r wr true T) bl (⟨1, AD, r, wr, true, 0, T, true⟩ : Dv)) (by kernel_rfl) (by kernel_rfl) (K5.out.below (below_drew (Below.refl _ _))) ?_
    simp only [List.take_succ_cons, List.take_zero, List.drop_succ_cons, List.drop_zero]
    refine quiet_one (.agg rtab) rfl (fun u hy => by
      have d := (hR0 u).mono fun e w' (h : _ ∧ _) => And.intro h.1 (hy.below h.2)
      go_simp
      all_goals exact d) ?_
    refine quiet_one (.pointer (some ⟨w.heap.size, 23, none⟩)) rfl (fun u hy => by go_simp) ?_
    refine quiet_one (.int .u8 (c.Op : Int)) rfl (fun u hy => by have d := hy.g.f.c.fOp; go_simp) ?_
    refine quiet_one (.int .u8 (k : Int)) rfl (fun u hy => by go_simp) ?_
    refine quiet_one (.agg #[g0, g1, Value.func (.func Fn) #[] #[]]) rfl (fun u hy => by go_simp) ?_
    refine quiet_one (Value.func (.func Fn) #[] #[]) rfl (fun u hy => by have d := fldrow2 g0 g1 (Value.func (.func Fn) #[] #[]); go_simp) ?_
    refine quiet_one (.agg (cpC c)) rfl (fun u hy => by
      generalize ha : Act.put _ _ _ = a
      have e1 : a.eval (.tmp 2) = .pointer (some ⟨w.heap.size, 0, none⟩) := by rw [← ha]; go_simp
      clear ha
      exact quiet_loadC (C := Gv w w.heap.size c (w.heap.size + 1) zeroD v1.heap.size (useC A r wr true T) bl (⟨1, AD, r, wr, true, 0, T, true⟩ : Dv)) w.heap.size c (fun _ h => h.g.f.c) (.tmp 2) rfl e1 u hy) ?_
    refine quiet_one (.agg (cyC c zeroP)) rfl (fun u hy => by
      generalize ha : Act.put _ _ _ = a
      have e1 : a.eval (.tmp 32) = .agg (cpC c) := by rw [← ha]; go_simp
      clear ha
      exact quiet_buildY0 (C := Gv w w.heap.size c (w.heap.size + 1) zeroD v1.heap.size (useC A r wr true T) bl (⟨1, AD, r, wr, true, 0, T, true⟩ : Dv)) c (.tmp 32) rfl e1 u hy) ?_
    refine quiet_one (.int .u8 O) rfl (fun u hy => by
      have d := (hf u).mono fun e w' (h : _ ∧ _) => And.intro h.1 (hy.below h.2)
      go_simp
      all_goals exact d) ?_
    refine quiet_one (.pointer (some ⟨bl, 5, none⟩)) rfl (fun u hy => by go_simp) ?_
    refine wpQuiet_nil ?_
    intro z6 Q6
    replace Q6 : Hid _ := Q6
    have d5 := Q6.out.l.f5
    have f5 := Q6.out.l.fz 5
    have K7 : Hid (Gv w w.heap.size c (w.heap.size + 1) zeroD v1.heap.size (useC A r wr true T) bl (⟨1, AD, r, wr, true, O, T, true⟩ : Dv) (z6.setCell ⟨bl, 5, none⟩ (.int .u8 O))) := Q6.out.setL 5 _ rfl
    clear K5
    go_simp
    go_wp2_with (first
      | (refine at_loadD bl _ K7.out.l _ rfl rfl rfl ?_)
      | (refine at_storeD (w.heap.size + 1) zeroD _ K7.out.g.f.z _ _ rfl rfl rfl rfl ?_; intro w2 hw2))
    refine retD Tryz.results25 rfl hw2.out.1 rfl ⟨rfl, K7.out.g.f.low.trans (hw2.out.2.1 _ K7.out.g.f.l2)⟩
  · rw [if_pos (by rfl)]
    go_wp2
    have K4 : Gv w w.heap.size c (w.heap.size + 1) zeroD v1.heap.size (useC A r wr true T) z0.heap.size zeroD (z0.alloc (.cells (dvC zeroD) 33)) := Gv.new hH zeroD
    refine hK.out _ _ K4.g (fun hH => ?_)
    clear hK K
    try simp only [Act.put, List.setIfInBounds_toArray, List.set_cons_zero, List.set_cons_succ]
    generalize z0.heap.size = bl at K4 ⊢
    generalize z0.alloc _ = y4 at K4 hH ⊢
    refine wpAnyH_ready (rs := [3]) (by kernel_rfl) (by simp) (AllReadyH.cons rfl (fun K hK => ?_) AllReadyH.nil)
    rw [if_pos (by rfl)]
    go_wp2_with (go_at_call 36; refine (hp _).mono ?_; rintro e v5 ⟨rfl, hb5⟩)
    replace K4 := K4.below hb5
    refine hK.out _ _ K4.g (fun hH => ?_)
    clear hK K
    try simp only [Act.put, List.setIfInBounds_toArray, List.set_cons_zero, List.set_cons_succ]
    refine wpAnyH_take (i := 12) (v := .agg (dvC ⟨1, AD, r, wr, true, 0, T, true⟩)) rfl (by kernel_rfl) (by kernel_rfl) (by kernel_rfl) (fun _ _ _ h => h) (yieldsD _ [(0, .int .u8 1), (1, .int .u16 AD), (2, .bool r), (3, .bool wr), (4, .bool true), (6, .int .u8 T), (7, .bool true)] ⟨1, AD, r, wr, true, 0, T, true⟩ (by rfl) rfl (by first | (simp [Act.eval]; done) | (go_simp; done)) (by kernel_rfl)) hH ?_
    try simp only [Act.put, List.setIfInBounds_toArray]
    refine wpAnyH_ready (rs := [14]) (by kernel_rfl) (by simp) (AllReadyH.cons rfl (fun K hK => ?_) AllReadyH.nil)
    rw [if_pos (by rfl)]
    refine wp_storeD bl zeroD ⟨1, AD, r, wr, true, 0, T, true⟩ K4.l _ _ rfl rfl rfl ?_
    intro y5 hw5
    have K5 : Hid (Gv w w.heap.size c (w.heap.size + 1) zeroD v1.heap.size (useC A r wr true T) bl (⟨1, AD, r, wr, true, 0, T, true⟩ : Dv) y5) := K4.putL hw5.out
    refine hK.out _ _ K5.out.g (fun _ => ?_)
    clear hK K hH K4 hw5
    try simp only [Act.put]
    refine wpAnyH_done (by kernel_rfl) ?_ _
    have d3 : y5.cell? ⟨v1.heap.size, 3, none⟩ = some (.bool true) := (show BoxU _ v1.heap.size A r wr true T from K5.out.g.u).f3
    go_wp2
    refine region_class_tail 10 (Gv w w.heap.size c (w.heap.size + 1) zeroD v1.heap.size (useC A r wr true T) bl (⟨1, AD, r, wr, true, 0, T, true⟩ : Dv)) (by kernel_rfl) (by kernel_rfl) (K5.out.below (below_drew (Below.refl _ _))) ?_
    simp only [List.take_succ_cons, List.take_zero, List.drop_succ_cons, List.drop_zero]
    refine quiet_one (.agg rtab) rfl (fun u hy => by
      have d := (hR0 u).mono fun e w' (h : _ ∧ _) => And.intro h.1 (hy.below h.2)
      go_simp
      all_goals exact d) ?_
    refine quiet_one (.pointer (some ⟨w.heap.size, 23, none⟩)) rfl (fun u hy => by go_simp) ?_
    refine quiet_one (.int .u8 (c.Op : Int)) rfl (fun u hy => by have d := hy.g.f.c.fOp; go_simp) ?_
    refine quiet_one (.int .u8 (k : Int)) rfl (fun u hy => by go_simp) ?_
    refine quiet_one (.agg #[g0, g1, Value.func (.func Fn) #[] #[]]) rfl (fun u hy => by go_simp) ?_
    refine quiet_one (Value.func (.func Fn) #[] #[]) rfl (fun u hy => by have d := fldrow2 g0 g1 (Value.func (.func Fn) #[] #[]); go_simp) ?_
    refine quiet_one (.agg (cpC c)) rfl (fun u hy => by
      generalize ha : Act.put _ _ _ = a
      have e1 : a.eval (.tmp 2) = .pointer (some ⟨w.heap.size, 0, none⟩) := by rw [← ha]; go_simp
      clear ha
      exact quiet_loadC (C := Gv w w.heap.size c (w.heap.size + 1) zeroD v1.heap.size (useC A r wr true T) bl (⟨1, AD, r, wr, true, 0, T, true⟩ : Dv)) w.heap.size c (fun _ h => h.g.f.c) (.tmp 2) rfl e1 u hy) ?_
    refine quiet_one (.agg (cyC c zeroP)) rfl (fun u hy => by
      generalize ha : Act.put _ _ _ = a
      have e1 : a.eval (.tmp 32) = .agg (cpC c) := by rw [← ha]; go_simp
      clear ha
      exact quiet_buildY0 (C := Gv w w.heap.size c (w.heap.size + 1) zeroD v1.heap.size (useC A r wr true T) bl (⟨1, AD, r, wr, true, 0, T, true⟩ : Dv)) c (.tmp 32) rfl e1 u hy) ?_
    refine quiet_one (.int .u8 O) rfl (fun u hy => by
      have d := (hf u).mono fun e w' (h : _ ∧ _) => And.intro h.1 (hy.below h.2)
      go_simp
      all_goals exact d) ?_
    refine quiet_one (.pointer (some ⟨bl, 5, none⟩)) rfl (fun u hy => by go_simp) ?_
    refine wpQuiet_nil ?_
    intro z6 Q6
    replace Q6 : Hid _ := Q6
    have d5 := Q6.out.l.f5
    have f5 := Q6.out.l.fz 5
    have K7 : Hid (Gv w w.heap.size c (w.heap.size + 1) zeroD v1.heap.size (useC A r wr true T) bl (⟨1, AD, r, wr, true, O, T, true⟩ : Dv) (z6.setCell ⟨bl, 5, none⟩ (.int .u8 O))) := Q6.out.setL 5 _ rfl
    clear K5
    go_simp
    go_wp2_with (first
      | (refine at_loadD bl _ K7.out.l _ rfl rfl rfl ?_)
      | (refine at_storeD (w.heap.size + 1) zeroD _ K7.out.g.f.z _ _ rfl rfl rfl rfl ?_; intro w2 hw2))
    refine retD Tryz.results25 rfl hw2.out.1 rfl ⟨rfl, K7.out.g.f.low.trans (hw2.out.2.1 _ K7.out.g.f.l2)⟩

end Go.Proofs.YtbeeefekndcgnaaGreatDoor
