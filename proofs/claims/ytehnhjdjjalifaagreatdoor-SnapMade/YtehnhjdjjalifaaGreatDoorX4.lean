/- The document's own: Save. -/
import Derived.Test.YtehnhjdjjalifaaGreatDoorX3r
import Derived.Deep.Cut
namespace Go.Proofs.YtehnhjdjjalifaaGreatDoor
open Go Go.RowKit
set_option linter.unusedVariables false
set_option maxHeartbeats 4000000
set_option maxRecDepth 100000

theorem flat_len : ∀ r : List Nat, (r.flatMap fun v => putN v 2).length = 2 * r.length
  | [] => rfl
  | v :: r => by
    rw [List.flatMap_cons, List.length_append, putN_len, flat_len r, List.length_cons]
    omega
theorem flat_take (r : List Nat) (k : Nat) (hk : k < r.length) : (r.take (k + 1)).flatMap (fun v => putN v 2) = (r.take k).flatMap (fun v => putN v 2) ++ putN (r.getD k 0) 2 := by
  have e : r[k]? = some (r.getD k 0) := by rw [List.getD_eq_getElem?_getD, List.getElem?_eq_getElem hk]; rfl
  rw [List.take_add_one, e, List.flatMap_append]
  simp
theorem rsave_ok (w : World) (C : Array Value) (s : Bd) (hs : Hid (BL w C s)) (hf : s.Fit) (h0R : 0 < s.ram.length) (hC : Hid (∀ y, Below w.heap.size w y → Calls Tryz.prog 19 #[.agg C] y fun e w' => e = .returned (.int .i64 0) ∧ Below y.heap.size y w')) :
    Calls Tryz.prog 9 #[.agg C] w fun e w' => ∃ v, e = .returned (.tuple #[v, .int .i64 0]) ∧ Hid (KL 5 1 cB w v (savB s) w') := by
  obtain ⟨sR, cR, sO, cO, hCe, lR, lO⟩ := hs.out.c
  have sC : Hid (C.size = 35) := hs.out.size
  have hmid : Hid (∀ y, Bx y w.heap.size C 34 → y.rangeAt w.heap.size 0 (cCs s).toList ∧ y.rangeAt w.heap.size 26 (rCs s).toList) := fun y h => by rw [hCe] at h; exact ⟨mid_c h, mid_r h⟩
  obtain ⟨nR, hnR0⟩ : ∃ z, s.ram.length = z := ⟨_, rfl⟩
  have hrom := hf.rom
  have hnR : Hid (nR < 18446744073709551616) := by show _ < _; have := hf.ram; omega
  have hnR2 : Hid (0 < nR ∧ nR < 65536 ∧ s.ram.length = nR) := ⟨by omega, by have := hf.ram; omega, hnR0⟩
  have hc : Hid (C[30]? = some (byV s.pd) ∧ C[31]? = some (.bool s.lt) ∧ C[32]? = some (.slice sR nR cR) ∧ C[33]? = some (.slice sO 512 cO) ∧ C[34]? = some (.int .u64 ((s.cc : Nat) : Int))) := by
    rw [hCe, hnR0, hrom]
    exact ⟨rfl, rfl, rfl, rfl, rfl⟩
  obtain ⟨gR, oR, hsR⟩ := lb_some lR h0R
  obtain ⟨gO, oO, hsO⟩ := lb_some lO (by rw [hrom]; decide)
  subst hsR hsO
  have hlR : Hid (LB w (some ⟨gR, oR, none⟩) s.ram) := lR
  have hlO : Hid (LB w (some ⟨gO, oO, none⟩) s.rom ∧ s.rom.length = 512) := ⟨lO, hrom⟩
  obtain ⟨CC, hCC⟩ : ∃ z : Array Value, Hid (z = cCs s) := ⟨_, (rfl : cCs s = cCs s)⟩
  obtain ⟨RR, hRR⟩ : ∃ z : Array Value, Hid (z = rCs s) := ⟨_, (rfl : rCs s = rCs s)⟩
  have sCC : Hid (CC.size = 26 ∧ CC.all (·.oneCell') = true) := by rw [hCC.out]; exact ⟨rfl, cCs_one s⟩
  have sRR : Hid (RR.size = 4 ∧ RR.all (·.oneCell') = true) := by rw [hRR.out]; exact ⟨rfl, rCs_one s⟩
  obtain ⟨LN, hLN0⟩ : ∃ z, s.ln.toNat = z := ⟨_, rfl⟩
  obtain ⟨CY, hCY0⟩ : ∃ z, s.cy.toNat = z := ⟨_, rfl⟩
  obtain ⟨GT, hGT0⟩ : ∃ z, s.gt.toNat = z := ⟨_, rfl⟩
  have f1 := hf.ln
  have f2 := hf.cy
  have f3 := hf.gt
  have eLN : s.ln = (LN : Int) := by omega
  have eCY : s.cy = (CY : Int) := by omega
  have eGT : s.gt = (GT : Int) := by omega
  have iLN : (LN : Int) < 65536 := by omega
  have iCY : (CY : Int) < 256 := by omega
  have iGT : (GT : Int) < 256 := by omega
  have wCY : IntKind.u8.wrap (CY : Int) = (CY : Int) := by rw [IntKind.wrap_u8]; omega
  have wGT : IntKind.u8.wrap (GT : Int) = (GT : Int) := by rw [IntKind.wrap_u8]; omega
  have hLN : Hid (LN < 18446744073709551616) := by show _ < _; omega
  have hcc : Hid (s.cc < 18446744073709551616) := hf.ok.cc
  have icc : ((s.cc : Nat) : Int) < 18446744073709551616 := by have := hf.ok.cc; omega
  have inR : (nR : Int) < 65536 := by have := hf.ram; omega
  have hr16 : Hid (s.r.length = 16 ∧ ∀ v ∈ s.r, v < 65536) := ⟨hf.ok.r, hf.ok.rl⟩
  have bCY : Hid (byV (UInt8.ofNat CY) = .int .u8 (CY : Int) ∧ byV (UInt8.ofNat GT) = .int .u8 (GT : Int)) := by
    unfold byV
    rw [UInt8.toNat_ofNat', UInt8.toNat_ofNat', Nat.mod_eq_of_lt (by omega), Nat.mod_eq_of_lt (by omega)]
    exact ⟨rfl, rfl⟩
  obtain ⟨l1, el1⟩ : ∃ z, Hid (z = [86, 83, 80, 49] ++ (s.r.flatMap fun v => putN v 2)) := ⟨_, (rfl : [86, 83, 80, 49] ++ (s.r.flatMap fun v => putN v 2) = _)⟩
  obtain ⟨l2, el2⟩ : ∃ z, Hid (z = l1 ++ [s.d, flB s.df, s.p, s.x, s.t, flB s.ie, flB s.q, s.op, s.b, s.ph]) := ⟨_, (rfl : l1 ++ [s.d, flB s.df, s.p, s.x, s.t, flB s.ie, flB s.q, s.op, s.b, s.ph] = _)⟩
  obtain ⟨l3, el3⟩ : ∃ z, Hid (z = l2 ++ putN LN 2) := ⟨_, (rfl : l2 ++ putN LN 2 = _)⟩
  obtain ⟨l4, el4⟩ : ∃ z, Hid (z = l3 ++ [UInt8.ofNat CY, flB s.on, UInt8.ofNat GT, s.pd, flB s.lt]) := ⟨_, (rfl : l3 ++ [UInt8.ofNat CY, flB s.on, UInt8.ofNat GT, s.pd, flB s.lt] = _)⟩
  obtain ⟨l5, el5⟩ : ∃ z, Hid (z = l4 ++ putN s.cc 8) := ⟨_, (rfl : l4 ++ putN s.cc 8 = _)⟩
  obtain ⟨l6, el6⟩ : ∃ z, Hid (z = l5 ++ putN nR 2) := ⟨_, (rfl : l5 ++ putN nR 2 = _)⟩
  obtain ⟨l7, el7⟩ : ∃ z, Hid (z = l6 ++ s.ram) := ⟨_, (rfl : l6 ++ s.ram = _)⟩
  obtain ⟨l8, el8⟩ : ∃ z, Hid (z = l7 ++ s.rom) := ⟨_, (rfl : l7 ++ s.rom = _)⟩
  obtain ⟨SU, hSU0⟩ : ∃ z, Hid (sumB l8 = z) := ⟨_, (rfl : sumB l8 = _)⟩
  have hSU : Hid (SU < 18446744073709551616) := by rw [← hSU0.out]; exact sumB_lt l8
  obtain ⟨l9, el9⟩ : ∃ z, Hid (z = l8 ++ putN SU 8) := ⟨_, (rfl : l8 ++ putN SU 8 = _)⟩
  have efin : Hid (l9 = savB s) := by
    show l9 = savB s
    have e8 : l8 = bodyB s := by rw [el8.out, el7.out, el6.out, el5.out, el4.out, el3.out, el2.out, el1.out, ← hnR0, ← hLN0, ← hCY0, ← hGT0]; rfl
    rw [el9.out, ← hSU0.out, e8]
    rfl
  have n1 : l1.length = 36 := by rw [el1.out, List.length_append, flat_len, hr16.out.1]; rfl
  have n2 : l2.length = 46 := by rw [el2.out, List.length_append, n1]; rfl
  have n3 : l3.length = 48 := by rw [el3.out, List.length_append, n2, putN_len]
  have n4 : l4.length = 53 := by rw [el4.out, List.length_append, n3]; rfl
  have n5 : l5.length = 61 := by rw [el5.out, List.length_append, n4, putN_len]
  have n6 : l6.length = 63 := by rw [el6.out, List.length_append, n5, putN_len]
  have n7 : l7.length = 63 + nR := by rw [el7.out, List.length_append, n6, hnR0]
  have n8 : l8.length = 575 + nR := by rw [el8.out, List.length_append, n7, hrom]; omega
  have hl1 : Hid (l1.length ≤ 10000000000) := by show _ ≤ _; omega
  have hl2 : Hid (l2.length ≤ 10000000000) := by show _ ≤ _; omega
  have hl3 : Hid (l3.length ≤ 10000000000) := by show _ ≤ _; omega
  have hl4 : Hid (l4.length ≤ 10000000000) := by show _ ≤ _; omega
  have hl5 : Hid (l5.length ≤ 10000000000) := by show _ ≤ _; omega
  have hl6 : Hid (l6.length ≤ 10000000000) := by show _ ≤ _; omega
  have hl7 : Hid (l7.length ≤ 10000000000 ∧ l7.length + 512 ≤ 100000000000 ∧ l6.length + nR ≤ 100000000000) := by show _ ∧ _; have := hf.ram; omega
  have hl8 : Hid (l8.length ≤ 10000000000 ∧ l8.length ≤ 9000000000) := by show _ ∧ _; have := hf.ram; omega
  have hcx : Hid (CC[16]? = some (byV s.d) ∧ CC[17]? = some (.bool s.df) ∧ CC[18]? = some (byV s.p) ∧ CC[19]? = some (byV s.x) ∧ CC[20]? = some (byV s.t) ∧ CC[21]? = some (.bool s.ie) ∧ CC[22]? = some (.bool s.q) ∧ CC[23]? = some (byV s.op) ∧ CC[24]? = some (byV s.b) ∧ CC[25]? = some (byV s.ph)) := by
    rw [hCC.out]
    exact ⟨rfl, rfl, rfl, rfl, rfl, rfl, rfl, rfl, rfl, rfl⟩
  have hcr : Hid (∀ k, k < 16 → CC[k]? = some (.int .u16 ((s.r.getD k 0 : Nat) : Int))) := fun k hk => by
    rw [hCC.out]
    rcases (show k = 0 ∨ k = 1 ∨ k = 2 ∨ k = 3 ∨ k = 4 ∨ k = 5 ∨ k = 6 ∨ k = 7 ∨ k = 8 ∨ k = 9 ∨ k = 10 ∨ k = 11 ∨ k = 12 ∨ k = 13 ∨ k = 14 ∨ k = 15 by omega) with rfl | rfl | rfl | rfl | rfl | rfl | rfl | rfl | rfl | rfl | rfl | rfl | rfl | rfl | rfl | rfl <;> rfl
  have hrx : Hid (RR[0]? = some (.int .i64 (LN : Int)) ∧ RR[1]? = some (.int .i64 (CY : Int)) ∧ RR[2]? = some (.bool s.on) ∧ RR[3]? = some (.int .i64 (GT : Int))) := by
    rw [hRR.out, ← eLN, ← eCY, ← eGT]
    exact ⟨rfl, rfl, rfl, rfl⟩
  rw [← efin.out]
  rw [← hCC.out, ← hRR.out] at hmid
  have eCG : Hid (s.cy = (CY : Int) ∧ s.gt = (GT : Int)) := ⟨eCY, eGT⟩
  clear hCe lR lO hnR0 hrom hf h0R hLN0 hCY0 hGT0 f1 f2 f3 eLN eCY eGT n1 n2 n3 n4 n5 n6 n7 n8
  go_enter Tryz.func9, Tryz.ntmps9
  go_wp2_with (first
    | ((with_reducible refine gen_world (w.alloc (.cells C 34)) (Fm w [(w.heap.size, C, 34)]) ?_ ?_); exact Fm.one w _ _; intro y0 K0)
    | ((with_reducible refine at_load rtBd w.heap.size C ?_ ?_ (.tmp 1) ?_ ?_ ?_ ?_); exact K0.out.bx 0 _ _ _ rfl; exact sC.out; kernel_rfl; rfl; rfl)
    | (go_at_call 19; refine (hC.out y0 K0.out.low).mono ?_; rintro e y1 ⟨rfl, H⟩; have K1 : Hid (Fm w [(w.heap.size, C, 34)] y1) := K0.out.below H; clear H)
    | ((with_reducible refine at_loadm rtCp w.heap.size 0 CC ?_ ?_ (.tmp 13) ?_ ?_ ?_ ?_); exact (hmid.out y1 (K1.out.bx 0 _ _ _ rfl)).1; exact sCC.out.1; kernel_rfl; rfl; rfl)
    | ((with_reducible refine gen_world (y1.alloc (.cells #[.int .u16 0, .int .u16 0, .int .u16 0, .int .u16 0, .int .u16 0, .int .u16 0, .int .u16 0, .int .u16 0, .int .u16 0, .int .u16 0, .int .u16 0, .int .u16 0, .int .u16 0, .int .u16 0, .int .u16 0, .int .u16 0, .int .u8 0, .bool false, .int .u8 0, .int .u8 0, .int .u8 0, .bool false, .bool false, .int .u8 0, .int .u8 0, .int .u8 0] 26)) (Fm w [(w.heap.size, C, 34), (y1.heap.size, #[.int .u16 0, .int .u16 0, .int .u16 0, .int .u16 0, .int .u16 0, .int .u16 0, .int .u16 0, .int .u16 0, .int .u16 0, .int .u16 0, .int .u16 0, .int .u16 0, .int .u16 0, .int .u16 0, .int .u16 0, .int .u16 0, .int .u8 0, .bool false, .int .u8 0, .int .u8 0, .int .u8 0, .bool false, .bool false, .int .u8 0, .int .u8 0, .int .u8 0], 26)]) ?_ ?_); exact K1.out.new _ _; intro y2 K2)
    | ((with_reducible refine at_st rtCp y1.heap.size #[.int .u16 0, .int .u16 0, .int .u16 0, .int .u16 0, .int .u16 0, .int .u16 0, .int .u16 0, .int .u16 0, .int .u16 0, .int .u16 0, .int .u16 0, .int .u16 0, .int .u16 0, .int .u16 0, .int .u16 0, .int .u16 0, .int .u8 0, .bool false, .int .u8 0, .int .u8 0, .int .u8 0, .bool false, .bool false, .int .u8 0, .int .u8 0, .int .u8 0] CC ?_ ?_ ?_ ?_ (.tmp 5) (.tmp 14) ?_ ?_ ?_ ?_ ?_); exact K2.out.bx 1 _ _ _ rfl; rfl; exact sCC.out.1; exact sCC.out.2; rfl; rfl; rfl; rfl; intro y3 H; have K3 : Hid (Fm w [(w.heap.size, C, 34), (y1.heap.size, CC, 26)] y3) := K2.out.put 1 _ _ _ _ rfl H.out; clear H)
    | ((with_reducible refine at_loadm rtRa w.heap.size 26 RR ?_ ?_ (.tmp 15) ?_ ?_ ?_ ?_); exact (hmid.out y3 (K3.out.bx 0 _ _ _ rfl)).2; exact sRR.out.1; kernel_rfl; rfl; rfl)
    | ((with_reducible refine gen_world (y3.alloc (.cells #[.int .i64 0, .int .i64 0, .bool false, .int .i64 0] 28)) (Fm w [(w.heap.size, C, 34), (y1.heap.size, CC, 26), (y3.heap.size, #[.int .i64 0, .int .i64 0, .bool false, .int .i64 0], 28)]) ?_ ?_); exact K3.out.new _ _; intro y4 K4)
    | ((with_reducible refine at_st rtRa y3.heap.size #[.int .i64 0, .int .i64 0, .bool false, .int .i64 0] RR ?_ ?_ ?_ ?_ (.tmp 6) (.tmp 16) ?_ ?_ ?_ ?_ ?_); exact K4.out.bx 2 _ _ _ rfl; rfl; exact sRR.out.1; exact sRR.out.2; rfl; rfl; rfl; rfl; intro y5 H; have K5 : Hid (Fm w [(w.heap.size, C, 34), (y1.heap.size, CC, 26), (y3.heap.size, RR, 28)] y5) := K4.out.put 2 _ _ _ _ rfl H.out; clear H))
  have bl5 : Below y5.heap.size y5 (y5.alloc (.cells #[.int .u8 86, .int .u8 83, .int .u8 80, .int .u8 49] 5)) := below1 y5 _
  have own5 : OwnL 5 1 cB y5.heap.size (y5.alloc (.cells #[.int .u8 86, .int .u8 83, .int .u8 80, .int .u8 49] 5)) (.slice (some ⟨y5.heap.size, 0, none⟩) 4 4) [86, 83, 80, 49] := own_of_bx (l := [86, 83, 80, 49]) (one_bxL y5 (rowB [86, 83, 80, 49]) 5) (Nat.le_refl _) (by decide)
  have K6 : Hid (SvK w y5.heap.size y1.heap.size y3.heap.size C s (.slice (some ⟨y5.heap.size, 0, none⟩) 4 4) [86, 83, 80, 49] (y5.alloc (.cells #[.int .u8 86, .int .u8 83, .int .u8 80, .int .u8 49] 5))) :=
    ⟨(bl5.block _ (heap_lt (K5.out.bx 0 _ _ _ rfl))).trans (K5.out.bx 0 _ _ _ rfl), (by rw [← hCC.out]; exact (bl5.block _ (heap_lt (K5.out.bx 1 _ _ _ rfl))).trans (K5.out.bx 1 _ _ _ rfl)), (by rw [← hRR.out]; exact (bl5.block _ (heap_lt (K5.out.bx 2 _ _ _ rfl))).trans (K5.out.bx 2 _ _ _ rfl)), K5.out.low.trans (bl5.mono K5.out.low.size), own5, heap_lt (K5.out.bx 0 _ _ _ rfl), heap_lt (K5.out.bx 1 _ _ _ rfl), heap_lt (K5.out.bx 2 _ _ _ rfl), bl5.size⟩
  clear bl5 own5
  generalize (y5.alloc (.cells #[.int .u8 86, .int .u8 83, .int .u8 80, .int .u8 49] 5)) = y6 at K6 ⊢
  generalize y5.heap.size = B at K6 ⊢
  generalize y1.heap.size = b1 at K6 ⊢
  generalize y3.heap.size = b2 at K6 ⊢
  clear K0 K1 K2 K3 K4 K5
  go_loopw [7, 8] (fun ov iv wz => ∃ (k : Nat) (v : Value) (y : World), y = wz ∧ k ≤ 16 ∧ ov = v ∧ iv = .int .i64 (k : Int) ∧ Hid (SvK w B b1 b2 C s v ([86, 83, 80, 49] ++ (s.r.take k).flatMap fun v => putN v 2) y)) (fun _ iv _ => (16 - intOf iv).toNat)
  case atStart => exact ⟨0, _, _, rfl, by decide, rfl, rfl, K6⟩
  case round =>
    obtain ⟨k, v, y, rfl, hk, hv, rfl, Ky⟩ := hrel
    replace hv := hv.symm
    subst hv
    clear K6
    by_cases hlt : k < 16
    · have hki : (k : Int) < 16 := by omega
      have hlt' : Hid (k < 16) := hlt
      obtain ⟨rv, hrv⟩ : ∃ z, s.r.getD k 0 = z := ⟨_, rfl⟩
      have hrl : rv < 65536 := by
        rw [← hrv]
        refine hr16.out.2 _ ?_
        rw [List.getD_eq_getElem?_getD, List.getElem?_eq_getElem (by rw [hr16.out.1]; exact hlt)]
        exact List.getElem_mem _
      have irv : (rv : Int) < 65536 := by omega
      have hrl' : Hid (rv < 18446744073709551616) := by show _ < _; omega
      have ixk := fun u => idx (g := b1) (off := 0) (N := 16) (s := 1) Tryz.underlying23 (by kernel_rfl) .i64 k u hlt
      simp only [Nat.zero_add, Nat.mul_one] at ixk
      have ck := Ky.out.x1.c k (.int .u16 (rv : Int)) (by have := hcr.out k hlt; rw [hCC.out] at this; rw [← hrv]; exact this)
      have hlen : Hid (([86, 83, 80, 49] ++ (s.r.take k).flatMap fun v => putN v 2).length ≤ 10000000000) := by
        show _ ≤ _
        rw [List.length_append, flat_len, List.length_take]
        show 4 + _ ≤ _
        omega
      have hnx : Hid ([86, 83, 80, 49] ++ ((s.r.take (k + 1)).flatMap fun v => putN v 2) = ([86, 83, 80, 49] ++ (s.r.take k).flatMap fun v => putN v 2) ++ putN rv 2) := by
        show _ = _
        rw [flat_take s.r k (by rw [hr16.out.1]; exact hlt), hrv, List.append_assoc]
      clear hk hlt hrv hrl
      go_wp2_with (go_at_call 20; refine (rput_any y B v _ Ky.out.own Ky.out.bs.2.2.2 hlen rv 2 hrl'.out (by decide)).mono ?_; rintro e y7 ⟨v7, rfl, H⟩; have K7 : Hid (SvK w B b1 b2 C s v7 ([86, 83, 80, 49] ++ ((s.r.take (k + 1)).flatMap fun v => putN v 2)) y7) := Ky.out.go (by rw [hnx.out]; exact H.out.1) H.out.2; clear H)
      go_roundw
      case rel => exact ⟨k + 1, v7, _, rfl, hlt'.out, rfl, by simp, K7⟩
      case measure => have := hlt'.out; simp [intOf]; omega
    · obtain rfl : k = 16 := by omega
      have Kz : Hid (SvK w B b1 b2 C s v l1 y) := by
        have h := Ky.out
        rw [List.take_of_length_le (by rw [hr16.out.1]; exact Nat.le_refl _), ← el1.out] at h
        exact h
      clear hk hlt Ky
      go_upto_region 11 with (fail)
      refine regQ w B b1 b2 C s v l1 hl1.out ?_ ?_ ?_ ?_ ?_ ?_ ?_ ?_ ?_ ?_ ?_ ?_ ?_ ?_ ?_ ?_ ?_ ?_ ?_ ?_ ?_ ?_ ?_ ?_ ?_ ?_ ?_ ?_ ?_ ?_ ?_ ?_ ?_ ?_ Kz.out ?_
      · rfl
      · kernel_rfl
      · exact ⟨_, rfl, rfl, rfl, rfl, fun q hq => absurd hq (by simp)⟩
      · exact ⟨_, rfl, rfl, rfl, rfl, fun q hq => absurd hq (by simp)⟩
      · exact ⟨_, rfl, rfl, rfl, rfl, List.forall_mem_cons.2 ⟨⟨{ on := 1, ground := .data }, by simp, rfl, rfl⟩, fun q hq => absurd hq (by simp)⟩⟩
      · exact ⟨_, rfl, rfl, rfl, rfl, fun q hq => absurd hq (by simp)⟩
      · exact ⟨_, rfl, rfl, rfl, rfl, List.forall_mem_cons.2 ⟨⟨{ on := 3, ground := .data }, by simp, rfl, rfl⟩, fun q hq => absurd hq (by simp)⟩⟩
      · exact ⟨_, rfl, rfl, rfl, rfl, List.forall_mem_cons.2 ⟨⟨{ on := 4, ground := .data }, by simp, rfl, rfl⟩, fun q hq => absurd hq (by simp)⟩⟩
      · exact ⟨_, rfl, rfl, rfl, rfl, fun q hq => absurd hq (by simp)⟩
      · exact ⟨_, rfl, rfl, rfl, rfl, List.forall_mem_cons.2 ⟨⟨{ on := 6, ground := .data }, by simp, rfl, rfl⟩, fun q hq => absurd hq (by simp)⟩⟩
      · exact ⟨_, rfl, rfl, rfl, rfl, fun q hq => absurd hq (by simp)⟩
      · exact ⟨_, rfl, rfl, rfl, rfl, List.forall_mem_cons.2 ⟨⟨{ on := 8, ground := .data }, by simp, rfl, rfl⟩, fun q hq => absurd hq (by simp)⟩⟩
      · exact ⟨_, rfl, rfl, rfl, rfl, fun q hq => absurd hq (by simp)⟩
      · exact ⟨_, rfl, rfl, rfl, rfl, List.forall_mem_cons.2 ⟨⟨{ on := 10, ground := .data }, by simp, rfl, rfl⟩, fun q hq => absurd hq (by simp)⟩⟩
      · exact ⟨_, rfl, rfl, rfl, rfl, fun q hq => absurd hq (by simp)⟩
      · exact ⟨_, rfl, rfl, rfl, rfl, List.forall_mem_cons.2 ⟨⟨{ on := 12, ground := .data }, by simp, rfl, rfl⟩, fun q hq => absurd hq (by simp)⟩⟩
      · exact ⟨_, rfl, rfl, rfl, rfl, List.forall_mem_cons.2 ⟨⟨{ on := 13, ground := .data }, by simp, rfl, rfl⟩, fun q hq => absurd hq (by simp)⟩⟩
      · exact ⟨_, rfl, rfl, rfl, rfl, fun q hq => absurd hq (by simp)⟩
      · exact ⟨_, rfl, rfl, rfl, rfl, List.forall_mem_cons.2 ⟨⟨{ on := 15, ground := .data }, by simp, rfl, rfl⟩, fun q hq => absurd hq (by simp)⟩⟩
      · exact ⟨_, rfl, rfl, rfl, rfl, List.forall_mem_cons.2 ⟨⟨{ on := 16, ground := .data }, by simp, rfl, rfl⟩, fun q hq => absurd hq (by simp)⟩⟩
      · exact ⟨_, rfl, rfl, rfl, rfl, fun q hq => absurd hq (by simp)⟩
      · exact ⟨_, rfl, rfl, rfl, rfl, List.forall_mem_cons.2 ⟨⟨{ on := 18, ground := .data }, by simp, rfl, rfl⟩, fun q hq => absurd hq (by simp)⟩⟩
      · exact ⟨_, rfl, rfl, rfl, rfl, fun q hq => absurd hq (by simp)⟩
      · exact ⟨_, rfl, rfl, rfl, rfl, List.forall_mem_cons.2 ⟨⟨{ on := 20, ground := .data }, by simp, rfl, rfl⟩, fun q hq => absurd hq (by simp)⟩⟩
      · exact ⟨_, rfl, rfl, rfl, rfl, fun q hq => absurd hq (by simp)⟩
      · exact ⟨_, rfl, rfl, rfl, rfl, List.forall_mem_cons.2 ⟨⟨{ on := 22, ground := .data }, by simp, rfl, rfl⟩, fun q hq => absurd hq (by simp)⟩⟩
      · exact ⟨_, rfl, rfl, rfl, rfl, List.forall_mem_cons.2 ⟨⟨{ on := 2, ground := .data }, by simp, rfl, rfl⟩, List.forall_mem_cons.2 ⟨⟨{ on := 5, ground := .data }, by simp, rfl, rfl⟩, List.forall_mem_cons.2 ⟨⟨{ on := 7, ground := .data }, by simp, rfl, rfl⟩, List.forall_mem_cons.2 ⟨⟨{ on := 9, ground := .data }, by simp, rfl, rfl⟩, List.forall_mem_cons.2 ⟨⟨{ on := 11, ground := .data }, by simp, rfl, rfl⟩, List.forall_mem_cons.2 ⟨⟨{ on := 14, ground := .data }, by simp, rfl, rfl⟩, List.forall_mem_cons.2 ⟨⟨{ on := 17, ground := .data }, by simp, rfl, rfl⟩, List.forall_mem_cons.2 ⟨⟨{ on := 19, ground := .data }, by simp, rfl, rfl⟩, List.forall_mem_cons.2 ⟨⟨{ on := 21, ground := .data }, by simp, rfl, rfl⟩, List.forall_mem_cons.2 ⟨⟨{ on := 23, ground := .data }, by simp, rfl, rfl⟩, fun q hq => absurd hq (by simp)⟩⟩⟩⟩⟩⟩⟩⟩⟩⟩⟩
      · exact ⟨_, rfl, rfl, rfl, rfl, List.forall_mem_cons.2 ⟨⟨{ on := 0, ground := .data }, by simp, rfl, rfl⟩, List.forall_mem_cons.2 ⟨⟨{ on := 24, ground := .data }, by simp, rfl, rfl⟩, fun q hq => absurd hq (by simp)⟩⟩⟩
      · exact ⟨_, rfl, rfl, rfl, rfl, List.forall_mem_cons.2 ⟨⟨{ on := 25, ground := .data }, by simp, rfl, rfl⟩, List.forall_mem_cons.2 ⟨(by first | (refine ⟨{ on := 0, ground := .data }, ?_, rfl, rfl⟩; simp; done) | (refine ⟨{ on := 0, ground := .phase }, ?_, rfl, rfl⟩; simp; done) | (refine ⟨{ on := 0, ground := .chain }, ?_, rfl, rfl⟩; simp; done)), fun q hq => absurd hq (by simp)⟩⟩⟩
      · rfl
      · rfl
      · rfl
      · rfl
      · rfl
      intro z3 v2 v29 v30 v31 v32 v33 v34 v35 v36 v37 v38 v39 v40 v41 v42 v43 v44 v45 v46 v47 v48 v49 v50 v51 v52 v53 v54 J0
      have J3 : Hid (SvK w B b1 b2 C s v2 l2 z3) := by rw [el2.out]; exact J0.out
      clear J0 Kz
      have xL := J3.out.x2.c 0 (.int .i64 (LN : Int)) (by have := hrx.out.1; rw [hRR.out] at this; exact this)
      dsimp only [actQ]
      go_upto_region 13 with ((go_at_call 20; refine (rput_any z3 B v2 l2 J3.out.own J3.out.bs.2.2.2 hl2 LN 2 hLN.out (by decide)).mono ?_; rintro e z4 ⟨v3, rfl, H⟩; have J4 : Hid (SvK w B b1 b2 C s v3 l3 z4) := J3.out.go (by rw [el3.out]; exact H.out.1) H.out.2; clear H))
      refine regV w B b1 b2 C s v3 l3 CY GT eCG.out.1 eCG.out.2 iCY iGT wCY wGT bCY.out.1 bCY.out.2 hc.out.1 hc.out.2.1 hl3.out ?_ ?_ ?_ ?_ ?_ ?_ ?_ ?_ ?_ ?_ ?_ ?_ ?_ ?_ ?_ ?_ ?_ ?_ ?_ ?_ ?_ ?_ ?_ ?_ ?_ ?_ J4.out ?_
      · rfl
      · kernel_rfl
      · exact ⟨_, rfl, rfl, rfl, rfl, fun q hq => absurd hq (by simp)⟩
      · exact ⟨_, rfl, rfl, rfl, rfl, fun q hq => absurd hq (by simp)⟩
      · exact ⟨_, rfl, rfl, rfl, rfl, List.forall_mem_cons.2 ⟨⟨{ on := 1, ground := .data }, by simp, rfl, rfl⟩, fun q hq => absurd hq (by simp)⟩⟩
      · exact ⟨_, rfl, rfl, rfl, rfl, List.forall_mem_cons.2 ⟨⟨{ on := 2, ground := .data }, by simp, rfl, rfl⟩, fun q hq => absurd hq (by simp)⟩⟩
      · exact ⟨_, rfl, rfl, rfl, rfl, fun q hq => absurd hq (by simp)⟩
      · exact ⟨_, rfl, rfl, rfl, rfl, List.forall_mem_cons.2 ⟨⟨{ on := 4, ground := .data }, by simp, rfl, rfl⟩, fun q hq => absurd hq (by simp)⟩⟩
      · exact ⟨_, rfl, rfl, rfl, rfl, List.forall_mem_cons.2 ⟨⟨{ on := 5, ground := .data }, by simp, rfl, rfl⟩, fun q hq => absurd hq (by simp)⟩⟩
      · exact ⟨_, rfl, rfl, rfl, rfl, fun q hq => absurd hq (by simp)⟩
      · exact ⟨_, rfl, rfl, rfl, rfl, List.forall_mem_cons.2 ⟨⟨{ on := 7, ground := .data }, by simp, rfl, rfl⟩, fun q hq => absurd hq (by simp)⟩⟩
      · exact ⟨_, rfl, rfl, rfl, rfl, List.forall_mem_cons.2 ⟨⟨{ on := 8, ground := .data }, by simp, rfl, rfl⟩, fun q hq => absurd hq (by simp)⟩⟩
      · exact ⟨_, rfl, rfl, rfl, rfl, fun q hq => absurd hq (by simp)⟩
      · exact ⟨_, rfl, rfl, rfl, rfl, List.forall_mem_cons.2 ⟨⟨{ on := 10, ground := .data }, by simp, rfl, rfl⟩, fun q hq => absurd hq (by simp)⟩⟩
      · exact ⟨_, rfl, rfl, rfl, rfl, List.forall_mem_cons.2 ⟨⟨{ on := 11, ground := .data }, by simp, rfl, rfl⟩, fun q hq => absurd hq (by simp)⟩⟩
      · exact ⟨_, rfl, rfl, rfl, rfl, fun q hq => absurd hq (by simp)⟩
      · exact ⟨_, rfl, rfl, rfl, rfl, List.forall_mem_cons.2 ⟨⟨{ on := 13, ground := .data }, by simp, rfl, rfl⟩, fun q hq => absurd hq (by simp)⟩⟩
      · exact ⟨_, rfl, rfl, rfl, rfl, List.forall_mem_cons.2 ⟨⟨{ on := 14, ground := .data }, by simp, rfl, rfl⟩, fun q hq => absurd hq (by simp)⟩⟩
      · exact ⟨_, rfl, rfl, rfl, rfl, List.forall_mem_cons.2 ⟨⟨{ on := 3, ground := .data }, by simp, rfl, rfl⟩, List.forall_mem_cons.2 ⟨⟨{ on := 6, ground := .data }, by simp, rfl, rfl⟩, List.forall_mem_cons.2 ⟨⟨{ on := 9, ground := .data }, by simp, rfl, rfl⟩, List.forall_mem_cons.2 ⟨⟨{ on := 12, ground := .data }, by simp, rfl, rfl⟩, List.forall_mem_cons.2 ⟨⟨{ on := 15, ground := .data }, by simp, rfl, rfl⟩, fun q hq => absurd hq (by simp)⟩⟩⟩⟩⟩⟩
      · exact ⟨_, rfl, rfl, rfl, rfl, List.forall_mem_cons.2 ⟨⟨{ on := 0, ground := .data }, by simp, rfl, rfl⟩, List.forall_mem_cons.2 ⟨⟨{ on := 16, ground := .data }, by simp, rfl, rfl⟩, fun q hq => absurd hq (by simp)⟩⟩⟩
      · exact ⟨_, rfl, rfl, rfl, rfl, List.forall_mem_cons.2 ⟨⟨{ on := 17, ground := .data }, by simp, rfl, rfl⟩, List.forall_mem_cons.2 ⟨(by first | (refine ⟨{ on := 0, ground := .data }, ?_, rfl, rfl⟩; simp; done) | (refine ⟨{ on := 0, ground := .phase }, ?_, rfl, rfl⟩; simp; done) | (refine ⟨{ on := 0, ground := .chain }, ?_, rfl, rfl⟩; simp; done)), fun q hq => absurd hq (by simp)⟩⟩⟩
      · rfl
      · rfl
      · rfl
      · rfl
      · rfl
      intro u3 v4 v60 v61 v62 v63 v64 v65 v66 v67 v68 v69 v70 v71 v72 v73 v74 v75 v76 v77 M0
      have M3 : Hid (SvK w B b1 b2 C s v4 l4 u3) := by rw [el4.out]; exact M0.out
      clear M0
      have xC := M3.out.x0.c 34 _ hc.out.2.2.2.2
      dsimp only [actV]
      go_upto_region 15 with (go_at_call 20; refine (rput_any u3 B v4 l4 M3.out.own M3.out.bs.2.2.2 hl4 s.cc 8 hcc.out (by decide)).mono ?_; rintro e u4 ⟨v5, rfl, H⟩; have M4 : Hid (SvK w B b1 b2 C s v5 l5 u4) := M3.out.go (by rw [el5.out]; exact H.out.1) H.out.2; clear H; have xR := M4.out.x0.c 32 _ hc.out.2.2.1)
      go_upto_region 16 with (go_at_call 20; refine (rput_any u4 B v5 l5 M4.out.own M4.out.bs.2.2.2 hl5 nR 2 hnR.out (by decide)).mono ?_; rintro e u5 ⟨v6, rfl, H⟩; have M5 : Hid (SvK w B b1 b2 C s v6 l6 u5) := M4.out.go (by rw [el6.out]; exact H.out.1) H.out.2; clear H; have xR5 := M5.out.x0.c 32 _ hc.out.2.2.1)
      go_upto_region 17 with (at_builtin; (with_reducible refine at_appNL kByte ?_ (.tmp 88) (.tmp 90) ?_ B v6 l6 ?_ ?_ gR oR nR cR s.ram ?_ ?_ ?_ ?_ ?_ ?_ ?_); rfl; rfl; rfl; exact M5.out.own; exact hnR2.out.2.2; rfl; exact (hlR.out.below M5.out.low); exact hnR2.out.1; exact hl7.out.2.2; exact M5.out.bs.2.2.2; intro v7 u6 A; have M6 : Hid (SvK w B b1 b2 C s v7 l7 u6) := M5.out.go (by rw [el7.out]; exact A.out.own) A.out.cu.low; clear A; have xO := M6.out.x0.c 33 _ hc.out.2.2.2.1)
      go_upto_region 18 with (at_builtin; (with_reducible refine at_appNL kByte ?_ (.tmp 92) (.tmp 94) ?_ B v7 l7 ?_ ?_ gO oO 512 cO s.rom ?_ ?_ ?_ ?_ ?_ ?_ ?_); rfl; rfl; rfl; exact M6.out.own; exact hlO.out.2; rfl; exact (hlO.out.1.below M6.out.low); exact (by decide); exact hl7.out.2.1; exact M6.out.bs.2.2.2; intro v8' u7 A; obtain ⟨s8, c8, hv8, lb8, _⟩ := A.out.own.open kByte.len; have M7 : Hid (SvK w B b1 b2 C s v8' l8 u7) := M6.out.go (by rw [el8.out]; exact A.out.own) A.out.cu.low; rw [← el8.out] at hv8 lb8; obtain ⟨n8, hn8⟩ : ∃ z, l8.length = z := ⟨_, rfl⟩; rw [hn8] at hv8; subst hv8; have hn8' : Hid (l8.length = n8) := hn8; have hb8 : Hid (LB u7 s8 l8) := lb8; clear A lb8 hn8)
      go_wp2_with (first
        | (go_at_call 14; refine (rsum_any u7 s8 n8 c8 l8 hb8 hn8' (by rw [← hn8'.out]; exact hl8.out.2)).mono ?_; rw [hSU0.out]; rintro e u8 ⟨rfl, H⟩; have M8 : Hid (SvK w B b1 b2 C s (.slice s8 n8 c8) l8 u8) := M7.out.below H; clear H)
        | (go_at_call 20; refine (rput_any u8 B (.slice s8 n8 c8) l8 M8.out.own M8.out.bs.2.2.2 hl8.out.1 SU 8 hSU.out (by decide)).mono ?_; rintro e u9 ⟨v9, rfl, H⟩; have M9 : Hid (SvK w B b1 b2 C s v9 l9 u9) := M8.out.go (by rw [el9.out]; exact H.out.1) H.out.2; clear H))
      go_ret2
      exact ⟨v9, rfl, ⟨M9.out.own.weak (Nat.le_of_lt M9.out.bs.1), M9.out.low⟩⟩
end Go.Proofs.YtehnhjdjjalifaaGreatDoor
