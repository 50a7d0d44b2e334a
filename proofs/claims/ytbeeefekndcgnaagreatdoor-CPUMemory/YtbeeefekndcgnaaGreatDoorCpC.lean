/- The document's processor: n, up, down, asked, holds. The document's processor: asked, holds, goes, begun, Low, High, Word. The document's processor: Low, High, Word; goes, sum, ports, short. -/
import Derived.Test.YtbeeefekndcgnaaGreatDoorCp
import Derived.Test.YtbeeefekndcgnaaGreatDoorPl
import Derived.Test.YtbeeefekndcgnaaGreatDoorRef01
import Derived.Test.YtbeeefekndcgnaaGreatDoorCy
namespace Go.Proofs.YtbeeefekndcgnaaGreatDoor
open Go Go.RowKit
set_option linter.unusedVariables false
set_option maxHeartbeats 400000
set_option maxRecDepth 20000

theorem rn_any (w : World) (c : Cp) (hc : c.wf) : Calls Tryz.prog 27 #[.agg (cpC c)] w fun e w' => e = .returned (.int .i64 ((c.Op % 16 : Nat) : Int)) ∧ Below w.heap.size w w' := by
  have c8 : (cpC c)[23]? = some (.int .u8 (c.Op : Int)) := rfl
  have hB : Hid (Below w.heap.size w (w.alloc (.cells (cpC c) 26))) := (Below.refl _ _).alloc (Nat.le_refl _) _
  have e1 : ((c.Op : Nat) : Int).tmod 16 = ((c.Op % 16 : Nat) : Int) := by rw [Int.tmod_eq_emod_of_nonneg (by omega)]; omega
  have e2 : wrap64 ((c.Op % 16 : Nat) : Int) = ((c.Op % 16 : Nat) : Int) := by unfold wrap64; omega
  obtain ⟨q, hq⟩ : ∃ q, c.Op % 16 = q := ⟨_, rfl⟩
  rw [hq] at e1 e2
  rw [hq]
  clear hc hq
  go_enter Tryz.func27, Tryz.ntmps27
  go_wp2
  go_ret
  exact ⟨by first | rfl | simp [e2], hB.out⟩

theorem rup_any (w : World) (c : Cp) (hc : c.wf) (i : Nat) (hi : i < 16) : Calls Tryz.prog 30 #[.agg (cpC c), .int .u8 (i : Int)] w fun e w' => e = .returned (.agg (cpC (c.up i))) ∧ Below w.heap.size w w' := by
  have q := cpC_R c i hi
  have ix := fun v => idx (g := w.heap.size) (off := 0) (N := 16) Tryz.underlying23 infoR .u8 i v hi
  simp only [Nat.zero_add, Nat.mul_one] at ix
  have zz := zeroVC
  have es : (cpC c).setIfInBounds i (.int .u16 (IntKind.u16.wrap (c.R i + 1))) = cpC (c.up i) := by
    rw [cpC_setR c i hi]
    unfold Cp.up
    rw [IntKind.wrap_u16]
  go_enter Tryz.func30, Tryz.ntmps30
  go_wp2_with (first
    | (refine at_loadC w.heap.size (c.up i) ((BoxC.new w _).alloc _) (.tmp 2) rfl rfl rfl ?_)
    | (refine at_storeC (w.heap.size + 1) zeroC (c.up i) (BoxC.new1 _ _ _) (.tmp 4) (.tmp 13) rfl rfl rfl rfl ?_; intro w2 hw2))
  refine retC Tryz.results30 rfl hw2.out.1 rfl ⟨rfl, (below2 w _ _).trans (hw2.out.2.1 _ (by omega))⟩

theorem rdown_any (w : World) (c : Cp) (hc : c.wf) (i : Nat) (hi : i < 16) : Calls Tryz.prog 42 #[.agg (cpC c), .int .u8 (i : Int)] w fun e w' => e = .returned (.agg (cpC (c.down i))) ∧ Below w.heap.size w w' := by
  have q := cpC_R c i hi
  have ix := fun v => idx (g := w.heap.size) (off := 0) (N := 16) Tryz.underlying23 infoR .u8 i v hi
  simp only [Nat.zero_add, Nat.mul_one] at ix
  have zz := zeroVC
  have es : (cpC c).setIfInBounds i (.int .u16 (IntKind.u16.wrap (c.R i - 1))) = cpC (c.down i) := by
    rw [cpC_setR c i hi]
    unfold Cp.down
    rw [IntKind.wrap_u16]
  go_enter Tryz.func42, Tryz.ntmps42
  go_wp2_with (first
    | (refine at_loadC w.heap.size (c.down i) ((BoxC.new w _).alloc _) (.tmp 2) rfl rfl rfl ?_)
    | (refine at_storeC (w.heap.size + 1) zeroC (c.down i) (BoxC.new1 _ _ _) (.tmp 4) (.tmp 13) rfl rfl rfl rfl ?_; intro w2 hw2))
  refine retC Tryz.results42 rfl hw2.out.1 rfl ⟨rfl, (below2 w _ _).trans (hw2.out.2.1 _ (by omega))⟩

end Go.Proofs.YtbeeefekndcgnaaGreatDoor

namespace Go.Proofs.YtbeeefekndcgnaaGreatDoor
open Go Go.RowKit
set_option linter.unusedVariables false
set_option maxHeartbeats 400000
set_option maxRecDepth 20000

theorem rasked_any (w : World) (c : Cp) (p : Pn) (quiet : Bool) (rest : Nat) : Calls Tryz.prog 32 #[.agg (cpC c), .agg (pnC p), .bool quiet, .int .u8 (rest : Int)] w fun e w' => e = .returned (.int .u8 (askedM c p quiet rest : Nat)) ∧ Below w.heap.size w w' := by
  have c1 : (cpC c)[21]? = some (.bool c.IE) := rfl
  have p1 : (pnC p)[6]? = some (.bool p.DI) := rfl
  have p2 : (pnC p)[7]? = some (.bool p.DO) := rfl
  have p3 : (pnC p)[8]? = some (.bool p.Int_) := rfl
  have hB : Hid (Below w.heap.size w ((w.alloc (.cells (cpC c) 26)).alloc (.cells (pnC p) 38))) := below2 _ _ _
  unfold askedM
  obtain ⟨x1, h1⟩ : ∃ x, p.DI = x := ⟨_, rfl⟩
  obtain ⟨x2, h2⟩ : ∃ x, p.DO = x := ⟨_, rfl⟩
  obtain ⟨x3, h3⟩ : ∃ x, p.Int_ = x := ⟨_, rfl⟩
  obtain ⟨x4, h4⟩ : ∃ x, c.IE = x := ⟨_, rfl⟩
  rw [h1] at p1 ⊢
  rw [h2] at p2 ⊢
  rw [h3] at p3 ⊢
  rw [h4] at c1 ⊢
  clear h1 h2 h3 h4
  cases x1 <;> cases x2 <;> cases x3 <;> cases x4 <;> cases quiet
  all_goals
    go_enter Tryz.func32, Tryz.ntmps32
    go_wp2
    go_ret
    exact ⟨by first | rfl | simp, hB.out⟩

theorem rholds_any (w : World) (c : Cp) (p : Pn) (k : Nat) (hk : k < 8) : Calls Tryz.prog 79 #[.agg (cpC c), .agg (pnC p), .int .i64 (k : Int)] w fun e w' => e = .returned (.bool (holdsM c p k)) ∧ Below w.heap.size w w' := by
  have c1 : (cpC c)[22]? = some (.bool c.Q) := rfl
  have c2 : (cpC c)[16]? = some (.int .u8 c.D) := rfl
  have c3 : (cpC c)[17]? = some (.bool c.DF) := rfl
  have p0 : (pnC p)[2]? = some (.bool (p.EF 0)) := rfl
  have p1 : (pnC p)[3]? = some (.bool (p.EF 1)) := rfl
  have p2 : (pnC p)[4]? = some (.bool (p.EF 2)) := rfl
  have p3 : (pnC p)[5]? = some (.bool (p.EF 3)) := rfl
  have hB : Hid (Below w.heap.size w ((w.alloc (.cells (cpC c) 26)).alloc (.cells (pnC p) 38))) := below2 _ _ _
  have ix : ∀ (j : Nat), j < 4 → ∀ v, (Instr.indexAt 36 (.pointer (some ⟨w.heap.size + 1, 2, none⟩)) (.int .i64 (j : Int))).run Tryz.prog v = .ok (.pointer (some ⟨w.heap.size + 1, 2 + j, none⟩)) v := fun j hj v => by
    have := idx (g := w.heap.size + 1) (off := 2) (N := 4) Tryz.underlying36 infoE .i64 j v hj
    simp only [Nat.mul_one] at this
    exact this
  have i0 := ix 0 (by decide)
  have i1 := ix 1 (by decide)
  have i2 := ix 2 (by decide)
  have i3 := ix 3 (by decide)
  clear ix
  rcases (show k = 0 ∨ k = 1 ∨ k = 2 ∨ k = 3 ∨ k = 4 ∨ k = 5 ∨ k = 6 ∨ k = 7 by omega) with rfl | rfl | rfl | rfl | rfl | rfl | rfl | rfl
  all_goals
    go_enter Tryz.func79, Tryz.ntmps79
    go_wp2
    go_ret
    exact ⟨by first | rfl | simp [holdsM], hB.out⟩

theorem rbegun_any (w : World) (c : Cp) : Calls Tryz.prog 29 #[.agg (cpC c)] w fun e w' => e = .returned (.agg (cpC { (c.setR 0 0) with X := 0, P := 0 })) ∧ Below w.heap.size w w' := by
  have c0 : (cpC c)[19]? = some (.int .u8 (c.X : Int)) := rfl
  have zz := zeroVC
  have e1 : (cpC c).setIfInBounds 19 (.int .u8 0) = cpC { c with X := 0 } := rfl
  have e2 : (cpC { c with X := 0 }).setIfInBounds 18 (.int .u8 0) = cpC { c with X := 0, P := 0 } := rfl
  have e3 : (cpC { c with X := 0, P := 0 }).setIfInBounds 0 (.int .u16 0) = cpC { (c.setR 0 0) with X := 0, P := 0 } := rfl
  have d1 : (cpC { c with X := 0 })[18]? = some (.int .u8 (c.P : Int)) := rfl
  have d2 : (cpC { c with X := 0, P := 0 })[0]? = some (.int .u16 (c.R 0)) := rfl
  go_enter Tryz.func29, Tryz.ntmps29
  go_wp2_with (first
    | (refine at_loadC w.heap.size { (c.setR 0 0) with X := 0, P := 0 } ((BoxC.new w _).alloc _) _ rfl rfl rfl ?_)
    | (refine at_storeC (w.heap.size + 1) zeroC { (c.setR 0 0) with X := 0, P := 0 } (BoxC.new1 _ _ _) _ _ rfl rfl rfl rfl ?_; intro w2 hw2))
  refine retC Tryz.results29 rfl hw2.out.1 rfl ⟨rfl, (below2 w _ _).trans (hw2.out.2.1 _ (by omega))⟩
end Go.Proofs.YtbeeefekndcgnaaGreatDoor

namespace Go.Proofs.YtbeeefekndcgnaaGreatDoor
open Go Go.RowKit
set_option linter.unusedVariables false
set_option maxHeartbeats 400000
set_option maxRecDepth 20000

theorem rlow_any (x : Int) (h0 : 0 ≤ x) (h1 : x < 65536) (w : World) : Calls Tryz.prog 46 #[.int .u16 x] w fun e w' => e = .returned (.int .u8 (x % 256)) ∧ w' = w := by
  have e1 : x.tmod 256 = x % 256 := Int.tmod_eq_emod_of_nonneg h0
  have e2 : IntKind.u8.wrap (x % 256) = x % 256 := by rw [IntKind.wrap_u8]; omega
  go_enter Tryz.func46, Tryz.ntmps46
  go_wp2
  go_ret
  exact ⟨by first | rfl | simp [e1, e2], rfl⟩
theorem rhigh_any (x : Int) (h0 : 0 ≤ x) (h1 : x < 65536) (w : World) : Calls Tryz.prog 47 #[.int .u16 x] w fun e w' => e = .returned (.int .u8 (x / 256)) ∧ w' = w := by
  have e1 : x.tdiv 256 = x / 256 := Int.tdiv_eq_ediv_of_nonneg h0
  have e2 : IntKind.u8.wrap (x / 256) = x / 256 := by rw [IntKind.wrap_u8]; omega
  go_enter Tryz.func47, Tryz.ntmps47
  go_wp2
  go_ret
  exact ⟨by first | rfl | simp [e1, e2], rfl⟩
theorem rword_any (h l : Int) (h0 : 0 ≤ h) (h1 : h < 256) (l0 : 0 ≤ l) (l1 : l < 256) (w : World) : Calls Tryz.prog 48 #[.int .u8 h, .int .u8 l] w fun e w' => e = .returned (.int .u16 (h * 256 + l)) ∧ w' = w := by
  have e1 : IntKind.u16.wrap h = h := by rw [IntKind.wrap_u16]; omega
  have e2 : IntKind.u16.wrap l = l := by rw [IntKind.wrap_u16]; omega
  have e3 : IntKind.u16.wrap (h * 256) = h * 256 := by rw [IntKind.wrap_u16]; omega
  have e4 : IntKind.u16.wrap (h * 256 + l) = h * 256 + l := by rw [IntKind.wrap_u16]; omega
  go_enter Tryz.func48, Tryz.ntmps48
  go_wp2
  go_ret
  exact ⟨by first | rfl | simp [e1, e2, e3, e4], rfl⟩

theorem rgoes_any (w : World) (c : Cp) (hc : c.wf) : Calls Tryz.prog 51 #[.agg (cpC c)] w fun e w' => e = .returned (.bool (goesM c)) ∧ Below w.heap.size w w' := by
  obtain ⟨q, hq⟩ : ∃ q, c.Op % 16 = q := ⟨_, rfl⟩
  have hn := fun v => rn_any v c hc
  rw [hq] at hn
  unfold goesM
  rw [hq]
  have hq16 : q < 16 := by omega
  clear hq hc
  rcases (show q = 0 ∨ q = 1 ∨ q = 2 ∨ q = 3 ∨ q = 4 ∨ q = 5 ∨ q = 6 ∨ q = 7 ∨ q = 8 ∨ q = 9 ∨ q = 10 ∨ q = 11 ∨ q = 12 ∨ q = 13 ∨ q = 14 ∨ q = 15 by omega) with rfl | rfl | rfl | rfl | rfl | rfl | rfl | rfl | rfl | rfl | rfl | rfl | rfl | rfl | rfl | rfl
  all_goals
    go_enter Tryz.func51, Tryz.ntmps51
    go_wp2_with (first
      | (refine at_loadC w.heap.size c (BoxC.new w c) _ rfl rfl rfl ?_)
      | (go_at_call 27; refine (hn _).mono ?_; rintro e v1 ⟨rfl, hb⟩; have K := (BoxC.new w c).below hb; have d16 := K.fD; have d17 := K.fDF; have d21 := K.fIE; have d22 := K.fQ; clear K))
    go_ret
    exact ⟨by first | rfl | simp, (below1 w _).trans (hb.mono (below1 w _).size)⟩

theorem rsum_any (w : World) (c : Cp) (hc : c.wf) (s : Nat) (b : Int) (hb : 0 ≤ b ∧ b < 256) : Calls Tryz.prog 80 #[.agg (cpC c), .int .u8 (s : Int), .int .u8 b] w fun e w' => e = .returned (.agg (cpC (sumM c s b))) ∧ Below w.heap.size w w' := by
  have hD := fun v => rdo_any s c.D b c.DF (by omega) hc.D.1 (by have := hc.D; omega) hb.1 (by omega) v
  have c1 : (cpC c)[16]? = some (.int .u8 c.D) := rfl
  have c2 : (cpC c)[17]? = some (.bool c.DF) := rfl
  have zz := zeroVC
  unfold sumM
  obtain ⟨V, hV⟩ : ∃ V, doV s c.D b c.DF = V := ⟨_, rfl⟩
  obtain ⟨F, hF⟩ : ∃ F, doF s c.D b c.DF = F := ⟨_, rfl⟩
  rw [hV, hF] at hD
  rw [hV, hF]
  have e1 : (cpC c).setIfInBounds 16 (.int .u8 V) = cpC { c with D := V } := rfl
  have e2 : (cpC { c with D := V }).setIfInBounds 17 (.bool F) = cpC { c with D := V, DF := F } := rfl
  have c3 : (cpC { c with D := V })[17]? = some (.bool c.DF) := rfl
  clear hV hF hc
  go_enter Tryz.func80, Tryz.ntmps80
  go_wp2_with (first
    | (go_at_call 91; refine (hD _).mono ?_; rintro e v ⟨rfl, rfl⟩)
    | (refine at_loadC w.heap.size { c with D := V, DF := F } ((BoxC.new w _).alloc _) _ rfl rfl rfl ?_)
    | (refine at_storeC (w.heap.size + 1) zeroC { c with D := V, DF := F } (BoxC.new1 _ _ _) _ _ rfl rfl rfl rfl ?_; intro w2 hw2))
  refine retC Tryz.results80 rfl hw2.out.1 rfl ⟨rfl, (below2 w _ _).trans (hw2.out.2.1 _ (by omega))⟩
theorem rports_any (w : World) (c : Cp) (hc : c.wf) (hX : c.X < 16) (p : Pn) : Calls Tryz.prog 44 #[.agg (cpC c), .agg (pnC p)] w fun e w' => e = .returned (.agg (cpC (portsM c p))) ∧ Below w.heap.size w w' := by
  obtain ⟨q, hq⟩ : ∃ q, c.Op % 16 = q := ⟨_, rfl⟩
  have hn := fun v => rn_any v c hc
  rw [hq] at hn
  have hu := fun v => rup_any v c hc c.X hX
  have zz := zeroVC
  have hF : Hid (Fr w w.heap.size c (w.heap.size + 1) p (w.heap.size + 1 + 1) zeroC (((w.alloc (.cells (cpC c) 26)).alloc (.cells (pnC p) 38)).alloc (.cells (cpC zeroC) 26))) := Fr.start w c p
  unfold portsM
  rw [hq]
  by_cases h8 : q < 8
  · rw [if_pos h8]
    have h8' : (q : Int) < 8 := by omega
    clear hq hc
    go_enter Tryz.func44, Tryz.ntmps44
    go_wp2_with (first
      | (refine gen_world (((w.alloc (.cells (cpC c) 26)).alloc (.cells (pnC p) 38)).alloc (.cells (cpC zeroC) 26)) (Fr w w.heap.size c (w.heap.size + 1) p (w.heap.size + 1 + 1) zeroC) hF.out ?_; intro y K)
      | (refine at_loadC w.heap.size c K.out.c _ rfl rfl rfl ?_)
      | (go_at_call 27; refine (hn _).mono ?_; rintro e v1 ⟨rfl, hb⟩; replace K : Hid _ := K.out.below hb; have d19 := K.out.c.fX)
      | (go_at_call 30; refine (hu _).mono ?_; rintro e v2 ⟨rfl, hb2⟩; replace K : Hid _ := K.out.below hb2)
      | (refine at_storeC (w.heap.size + 1 + 1) zeroC (c.up c.X) K.out.z _ _ rfl rfl rfl rfl ?_; intro w2 hw2))
    refine retC Tryz.results44 rfl hw2.out.1 rfl ⟨rfl, K.out.low.trans (hw2.out.2.1 _ K.out.l2)⟩
  rw [if_neg h8]
  have h8' : (8 : Int) ≤ q := by omega
  by_cases h9 : q > 8
  · rw [if_pos h9]
    have h9' : (8 : Int) < q := by omega
    clear hq hc h8 h9
    go_enter Tryz.func44, Tryz.ntmps44
    go_wp2_with (first
      | (refine gen_world (((w.alloc (.cells (cpC c) 26)).alloc (.cells (pnC p) 38)).alloc (.cells (cpC zeroC) 26)) (Fr w w.heap.size c (w.heap.size + 1) p (w.heap.size + 1 + 1) zeroC) hF.out ?_; intro y K)
      | (refine at_loadC w.heap.size { c with D := p.Data } (K.out.setC 16 (.int .u8 p.Data) (cpC_setD c p.Data)).c _ rfl rfl rfl ?_)
      | (refine at_loadC w.heap.size c K.out.c _ rfl rfl rfl ?_)
      | (go_at_call 27; refine (hn _).mono ?_; rintro e v1 ⟨rfl, hb⟩; replace K : Hid _ := K.out.below hb; have d16 := K.out.c.fD; have f16 := K.out.c.fz 16; have d1 := K.out.p.fData)
      | (refine at_storeC (w.heap.size + 1 + 1) zeroC { c with D := p.Data } (K.out.setC 16 (.int .u8 p.Data) (cpC_setD c p.Data)).z _ _ rfl rfl rfl rfl ?_; intro w2 hw2))
    refine retC Tryz.results44 rfl hw2.out.1 rfl ⟨rfl, (K.out.setC 16 (.int .u8 p.Data) (cpC_setD c p.Data)).low.trans (hw2.out.2.1 _ K.out.l2)⟩
  · rw [if_neg h9]
    have h9' : (q : Int) ≤ 8 := by omega
    clear hq hc h8 h9
    go_enter Tryz.func44, Tryz.ntmps44
    go_wp2_with (first
      | (refine gen_world (((w.alloc (.cells (cpC c) 26)).alloc (.cells (pnC p) 38)).alloc (.cells (cpC zeroC) 26)) (Fr w w.heap.size c (w.heap.size + 1) p (w.heap.size + 1 + 1) zeroC) hF.out ?_; intro y K)
      | (refine at_loadC w.heap.size c K.out.c _ rfl rfl rfl ?_)
      | (go_at_call 27; refine (hn _).mono ?_; rintro e v1 ⟨rfl, hb⟩; replace K : Hid _ := K.out.below hb)
      | (refine at_storeC (w.heap.size + 1 + 1) zeroC c K.out.z _ _ rfl rfl rfl rfl ?_; intro w2 hw2))
    refine retC Tryz.results44 rfl hw2.out.1 rfl ⟨rfl, K.out.low.trans (hw2.out.2.1 _ K.out.l2)⟩
end Go.Proofs.YtbeeefekndcgnaaGreatDoor
