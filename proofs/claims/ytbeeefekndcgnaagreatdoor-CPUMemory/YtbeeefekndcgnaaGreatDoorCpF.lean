/- The document's processor: short. The document's processor: Check, address, own. -/
import Derived.Test.YtbeeefekndcgnaaGreatDoorCpC
import Derived.Deep.RegionWith
import Derived.StillTailTactics
namespace Go.Proofs.YtbeeefekndcgnaaGreatDoor
open Go Go.RowKit
set_option linter.unusedVariables false
set_option maxHeartbeats 1000000
set_option maxRecDepth 20000

theorem rshort_any (w : World) (c : Cp) (hc : c.wf) (hP : c.P < 16) (p : Pn) (hp : p.wf) : Calls Tryz.prog 43 #[.agg (cpC c), .agg (pnC p)] w fun e w' => e = .returned (.agg (cpC (shortM c p))) ∧ Below w.heap.size w w' := by
  obtain ⟨q, hq⟩ : ∃ q, c.Op % 16 = q := ⟨_, rfl⟩
  have hn := fun v => rn_any v c hc
  rw [hq] at hn
  have hu := fun v => rup_any v c hc c.P hP
  have zz := zeroVC
  have hF : Hid (Fr w w.heap.size c (w.heap.size + 1) p (w.heap.size + 1 + 1) zeroC (((w.alloc (.cells (cpC c) 26)).alloc (.cells (pnC p) 38)).alloc (.cells (cpC zeroC) 26))) := Fr.start w c p
  have hH := fun v => rholds_any v c p (q % 8) (by omega)
  have em : (q : Int).tmod 8 = ((q % 8 : Nat) : Int) := by rw [Int.tmod_eq_emod_of_nonneg (by omega)]; omega
  have hr := hc.R c.P
  have hhi := fun v => rhigh_any (c.R c.P) hr.1 hr.2 v
  have hwd := fun v => rword_any (c.R c.P / 256) p.Data (by omega) (by omega) hp.Data.1 hp.Data.2 v
  have ix := fun v => idx (g := w.heap.size) (off := 0) (N := 16) Tryz.underlying23 infoR .u8 c.P v hP
  simp only [Nat.zero_add, Nat.mul_one] at ix
  have hP' : Hid (c.P < 16) := hP
  have hR' : Hid (∀ b x, BoxC x b c → x.cell? ⟨b, c.P, none⟩ = some (.int .u16 (c.R c.P))) := fun b x h => h.r c.P hP
  have hS : Hid ((cpC c).setIfInBounds c.P (.int .u16 (c.R c.P / 256 * 256 + p.Data)) = cpC (c.setR c.P (c.R c.P / 256 * 256 + p.Data))) := cpC_setR c c.P hP _
  unfold shortM
  rw [hq]
  obtain ⟨H, hHe⟩ : ∃ H, holdsM c p (q % 8) = H := ⟨_, rfl⟩
  rw [hHe] at hH
  rw [hHe]
  obtain ⟨q8, hq8⟩ : ∃ q8, q % 8 = q8 := ⟨_, rfl⟩
  rw [hq8] at hH em
  obtain ⟨L, hL⟩ : ∃ L, decide (q < 8) = L := ⟨_, rfl⟩
  have hL' : decide ((q : Int) < 8) = L := by rw [← hL]; exact decide_eq_decide.2 (by omega)
  rw [hL]
  clear hq hc hHe hq8 hL hr hp hP
  by_cases hb : H = L
  · rw [if_pos hb]
    have hbe : (H == L) = true := by simp [hb]
    clear hb
    go_enter Tryz.func43, Tryz.ntmps43
    go_wp2_with (first
      | (refine gen_world (((w.alloc (.cells (cpC c) 26)).alloc (.cells (pnC p) 38)).alloc (.cells (cpC zeroC) 26)) (Fr w w.heap.size c (w.heap.size + 1) p (w.heap.size + 1 + 1) zeroC) hF.out ?_; intro y K)
      | (refine at_loadC w.heap.size c K.out.c _ rfl rfl rfl ?_)
      | (refine at_loadP (w.heap.size + 1) p K.out.p _ rfl rfl rfl ?_)
      | (go_at_call 27; refine (hn _).mono ?_; rintro e v1 ⟨rfl, hb⟩; replace K : Hid _ := K.out.below hb)
      | (go_at_call 79; refine (hH _).mono ?_; rintro e v2 ⟨rfl, hb2⟩; replace K : Hid _ := K.out.below hb2; have d18 := K.out.c.fP; have dR := hR'.out _ _ K.out.c; have fR := K.out.c.fz c.P; have d1 := K.out.p.fData))
    obtain ⟨b0, hb0⟩ : ∃ b0, w.heap.size = b0 := ⟨_, rfl⟩
    obtain ⟨r, hr⟩ : ∃ r, c.R c.P = r := ⟨_, rfl⟩
    obtain ⟨P, hPe⟩ : ∃ P, c.P = P := ⟨_, rfl⟩
    obtain ⟨dt, hdt⟩ : ∃ dt, p.Data = dt := ⟨_, rfl⟩
    have K0 : Hid (Fr w b0 c (b0 + 1) p (b0 + 1 + 1) zeroC v2) := by rw [← hb0]; exact K
    have hS0 : Hid ((cpC c).setIfInBounds P (.int .u16 (r / 256 * 256 + dt)) = cpC (c.setR c.P (c.R c.P / 256 * 256 + p.Data))) := by rw [← hr, ← hPe, ← hdt]; exact hS
    rw [hr] at hhi hwd dR
    rw [hPe] at d18 dR fR ix
    rw [hdt] at d1 hwd
    rw [hb0] at d18 dR fR ix d1
    rw [hb0]
    have K1 : Hid (Fr w b0 c (b0 + 1) p (b0 + 1 + 1) zeroC v2.drew) := K0.out.below (below_drew (Below.refl _ _))
    refine wp_region_still_tail 13 (by kernel_rfl) (by kernel_rfl) ?_
    change wpStill Tryz.prog _ v2.drew (fun a' => wpList Tryz.prog _ _ _ a' v2.drew) _ _
    generalize v2.drew = y3 at K1 ⊢
    replace d18 : y3.cell? ⟨b0, 18, none⟩ = some (.int .u8 (P : Int)) := by have := K1.out.c.fP; rw [hPe] at this; exact this
    replace dR : y3.cell? ⟨b0, P, none⟩ = some (.int .u16 r) := by have := hR'.out _ _ K1.out.c; rw [hr, hPe] at this; exact this
    replace fR : y3.frozen? ⟨b0, P, none⟩ = false := K1.out.c.fz P
    replace d1 : y3.cell? ⟨b0 + 1, 1, none⟩ = some (.int .u8 dt) := by have := K1.out.p.fData; rw [hdt] at this; exact this
    have KS : Hid (Fr w b0 (c.setR c.P (c.R c.P / 256 * 256 + p.Data)) (b0 + 1) p (b0 + 1 + 1) zeroC (y3.setCell ⟨b0, P, none⟩ (.int .u16 (r / 256 * 256 + dt)))) := K1.out.setC P _ hS0.out
    clear hn hu hH em hF hR' hS hP' K zz hbe hL' hb hb2 K0 K1
    simp only [List.take_succ_cons, List.take_zero, List.drop_succ_cons, List.drop_zero]
    iterate 7 still_step
    still_call (hhi _)
    iterate 2 still_step
    still_call (hwd _)
    iterate 2 still_step
    refine wpStill_nil ?_
    go_wp2_with (first
      | (refine at_loadC b0 (c.setR c.P (c.R c.P / 256 * 256 + p.Data)) KS.out.c _ rfl rfl rfl ?_)
      | (refine at_storeC (b0 + 1 + 1) zeroC (c.setR c.P (c.R c.P / 256 * 256 + p.Data)) KS.out.z _ _ rfl rfl rfl rfl ?_; intro w2 hw2))
    refine retC Tryz.results43 rfl hw2.out.1 rfl ⟨rfl, KS.out.low.trans (hw2.out.2.1 _ KS.out.l2)⟩
  · rw [if_neg hb]
    have hbe : (H == L) = false := by simpa using hb
    clear hb
    go_enter Tryz.func43, Tryz.ntmps43
    go_wp2_with (first
      | (refine gen_world (((w.alloc (.cells (cpC c) 26)).alloc (.cells (pnC p) 38)).alloc (.cells (cpC zeroC) 26)) (Fr w w.heap.size c (w.heap.size + 1) p (w.heap.size + 1 + 1) zeroC) hF.out ?_; intro y K)
      | (refine at_loadC w.heap.size c K.out.c _ rfl rfl rfl ?_)
      | (refine at_loadP (w.heap.size + 1) p K.out.p _ rfl rfl rfl ?_)
      | (go_at_call 27; refine (hn _).mono ?_; rintro e v1 ⟨rfl, hb⟩; replace K : Hid _ := K.out.below hb)
      | (go_at_call 79; refine (hH _).mono ?_; rintro e v2 ⟨rfl, hb2⟩; replace K : Hid _ := K.out.below hb2; have d18 := K.out.c.fP)
      | (go_at_call 30; refine (hu _).mono ?_; rintro e v3 ⟨rfl, hb3⟩; replace K : Hid _ := K.out.below hb3)
      | (refine at_storeC (w.heap.size + 1 + 1) zeroC (c.up c.P) K.out.z _ _ rfl rfl rfl rfl ?_; intro w2 hw2))
    refine retC Tryz.results43 rfl hw2.out.1 rfl ⟨rfl, K.out.low.trans (hw2.out.2.1 _ K.out.l2)⟩
end Go.Proofs.YtbeeefekndcgnaaGreatDoor

namespace Go.Proofs.YtbeeefekndcgnaaGreatDoor
open Go Go.RowKit
set_option linter.unusedVariables false
set_option maxHeartbeats 1000000
set_option maxRecDepth 20000

/-- May a processor be so? -/
theorem rcheck_any (w : World) (c : Cp) (hc : c.wf) : Calls Tryz.prog 8 #[.agg (cpC c)] w fun e w' => e = .returned (.int .i64 (checkM c)) ∧ Below w.heap.size w w' := by
  have hL := fun v => rlong_any c.Op v hc.Op
  have c18 : (cpC c)[18]? = some (.int .u8 (c.P : Int)) := rfl
  have c19 : (cpC c)[19]? = some (.int .u8 (c.X : Int)) := rfl
  have c23 : (cpC c)[23]? = some (.int .u8 (c.Op : Int)) := rfl
  have c24 : (cpC c)[24]? = some (.int .u8 c.B) := rfl
  have c25 : (cpC c)[25]? = some (.int .u8 (c.Ph : Int)) := rfl
  have hB : Hid (Below w.heap.size w (w.alloc (.cells (cpC c) 26))) := below1 _ _
  obtain ⟨R, hR⟩ : ∃ R, Hid (checkM c = R) := ⟨_, (rfl : checkM c = checkM c)⟩
  rw [hR.out]
  have hw : Hid c.wf := hc
  clear hc
  go_enter Tryz.func8, Tryz.ntmps8
  go_wp2_with (go_at_call 16; refine (hL _).mono ?_; rintro e v1 ⟨rfl, rfl⟩)
  all_goals go_ret
  all_goals refine ⟨ret_i64 ?_, hB.out⟩
  all_goals rw [← hR.out]
  all_goals have := hw.out.B
  all_goals unfold checkM
  all_goals by_cases hb : checkB c = true
  all_goals first
    | (rw [if_pos hb]; done)
    | (rw [if_neg hb]; done)
    | (have hm := (checkB_iff c).1 hb; exfalso; clear hb hR hL; unfold mayM at hm; (try simp only [bne_iff_ne, bne_eq_false_iff_eq] at *); omega)
    | (have hm : ¬ mayM c := fun k => hb ((checkB_iff c).2 k); exfalso; apply hm; clear hb hm hR hL; unfold mayM; (try simp only [bne_eq_false_iff_eq] at *); omega)

theorem raddress_any (w : World) (c : Cp) (hc : c.wf) (hP : c.P < 16) (hX : c.X < 16) (k : Int) (hk : 0 ≤ k ∧ k ≤ 4) : Calls Tryz.prog 39 #[.agg (cpC c), .int .u8 k] w fun e w' => e = .returned (.int .u16 (addrM c k)) ∧ Below w.heap.size w w' := by
  obtain ⟨q, hq⟩ : ∃ q, c.Op % 16 = q := ⟨_, rfl⟩
  have hn := fun v => rn_any v c hc
  rw [hq] at hn
  unfold addrM
  rw [hq]
  have hq16 : q < 16 := by omega
  have c18 : (cpC c)[18]? = some (.int .u8 (c.P : Int)) := rfl
  have c19 : (cpC c)[19]? = some (.int .u8 (c.X : Int)) := rfl
  have r0 : (cpC c)[0]? = some (.int .u16 (c.R 0)) := rfl
  have r2 : (cpC c)[2]? = some (.int .u16 (c.R 2)) := rfl
  have rP := cpC_R c c.P hP
  have rX := cpC_R c c.X hX
  have iP := fun v => idx (g := w.heap.size) (off := 0) (N := 16) Tryz.underlying23 infoR .u8 c.P v hP
  have iX := fun v => idx (g := w.heap.size) (off := 0) (N := 16) Tryz.underlying23 infoR .u8 c.X v hX
  have iq := fun v => idx (g := w.heap.size) (off := 0) (N := 16) Tryz.underlying23 infoR .i64 q v hq16
  simp only [Nat.zero_add, Nat.mul_one] at iP iX iq
  have hB : Hid (Below w.heap.size w (w.alloc (.cells (cpC c) 26))) := below1 _ _
  have hq' : Hid (q < 16) := hq16
  clear hq hc hP hX hq16
  rcases (show k = 0 ∨ k = 1 ∨ k = 2 ∨ k = 3 ∨ k = 4 by omega) with rfl | rfl | rfl | rfl | rfl
  · go_enter Tryz.func39, Tryz.ntmps39
    go_wp2_with (first
      | (refine at_loadC w.heap.size c (BoxC.new w c) _ rfl rfl rfl ?_)
      | (go_at_call 27; refine (hn _).mono ?_; rintro e v1 ⟨rfl, hb⟩; have dq := ((BoxC.new w c).below hb).r q hq'.out))
    go_ret
    exact ⟨by first | rfl | simp, hB.out.trans (hb.mono (by simp))⟩
  all_goals
    go_enter Tryz.func39, Tryz.ntmps39
    go_wp2
    go_ret
    exact ⟨by first | rfl | simp, hB.out⟩
end Go.Proofs.YtbeeefekndcgnaaGreatDoor
