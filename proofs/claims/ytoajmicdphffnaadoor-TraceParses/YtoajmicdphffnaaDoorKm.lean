/- A trace as bytes, by the document. -/
import Derived.Test.YtoajmicdphffnaaDoorKp
namespace Go.Proofs.YtoajmicdphffnaaDoor
open Go Go.RowKit
set_option linter.unusedVariables false
set_option maxHeartbeats 2000000
set_option maxRecDepth 20000

theorem rpack_any (w : World) (sp : Option Addr) (cap : Nat) (l : List Rc) (hl : Hid (LiesR w sp l)) (hn : l.length ≤ 9223372036854775807) (hk : Hid (AllG l)) :
    Calls Tryd.prog 18 #[.slice sp l.length cap] w fun e w' => ∃ v, e = .returned (.tuple #[v, .int .i64 (checkR l)]) ∧ Hid (KB w v (packB l) w') := by
  have hC := rcheck_any w sp cap l hl hn
  obtain ⟨n, hn'⟩ : ∃ n, l.length = n := ⟨_, rfl⟩
  have ni : (n : Int) ≤ 9223372036854775807 := by omega
  by_cases h0 : ¬ checkR l = 0
  · have e2 : packB l = [] := by unfold packB; rw [if_neg h0]
    rw [e2]
    obtain ⟨X, hX⟩ : ∃ C, checkR l = C := ⟨_, rfl⟩
    rw [hX] at hC h0 ⊢
    rw [hn'] at hC ⊢
    have q : (X != 0) = true := by simpa using h0
    clear h0 hX hn hn' e2
    go_enter Tryd.func18, Tryd.ntmps18
    go_wp2_with (go_at_call 32; refine hC.mono ?_; rintro e x ⟨rfl, hx⟩; replace hx : Hid _ := hx)
    go_ret2
    exact ⟨_, rfl, (KB.nil w).below hx.out⟩
  replace h0 : checkR l = 0 := Decidable.of_not_not h0
  obtain ⟨k1, k2⟩ := check_ok h0
  obtain ⟨PL, hPL⟩ : ∃ x, packB l = x := ⟨_, rfl⟩
  have hPL' : Hid (PL = begP n ++ packGo l 0) := by show _ = _; rw [← hPL]; unfold packB packR; rw [if_pos h0, hn']
  have hgood : Hid (∀ s ∈ l, Rr s ∧ mayR s = true) := fun s hs => ⟨hk.out s hs, allM_mem k2 s hs⟩
  rw [hPL, h0]
  rw [h0, hn'] at hC
  rw [hn']
  have hl' : Hid (l.length = n) := hn'
  have ni4 : (n : Int) ≤ 4194304 := by omega
  have hbeg : Hid (#[Value.int .u8 86, .int .u8 84, .int .u8 82, .int .u8 49, .int .u8 ((n : Int) % 256), .int .u8 ((n : Int) / 256 % 256), .int .u8 ((n : Int) / 65536 % 256), .int .u8 ((n : Int) / 16777216)] = ((begP n).map byV).toArray) := by
    show _ = _
    simp only [begP, List.map_cons, List.map_nil]
    rw [byV_N _ (by omega) (by omega), byV_N _ (by omega) (by omega), byV_N _ (by omega) (by omega), byV_N _ (by omega) (by omega)]
    rfl
  obtain ⟨i5, hi5, hz0, hz1, hz2⟩ := info_parts infoB
  clear h0 hn hn' k1 k2 hPL ni
  go_enter Tryd.func18, Tryd.ntmps18
  go_wp2_with (go_at_call 32; refine hC.mono ?_; rintro e x0 ⟨rfl, hx⟩; replace hx : Hid _ := hx)
  go_loopw [6, 7, 8] (fun o u t wz => ∃ (i : Nat) (va : Value) (B : List UInt8) (next : Int) (y : World), y = wz ∧ va = o ∧ u = .int .u16 next ∧ t = .int .i64 (i : Int) ∧ Hid (i ≤ n ∧ B.length ≤ 8 + 5 * i ∧ PL = B ++ packGo (l.drop i) next) ∧ Hid (KB w va B y)) (fun _ _ t _ => (n - intOf t).toNat)
  case atStart => exact ⟨0, _, begP n, 0, _, rfl, rfl, rfl, rfl, ⟨Nat.zero_le _, Nat.le_refl _, hPL'.out⟩, KB.make w x0 hx.out _ 8 _ rfl (by decide) (by decide) hbeg.out⟩
  case round =>
    obtain ⟨i, va, B, next, y, rfl, rfl, rfl, rfl, J, K⟩ := hrel
    by_cases hlt : i < n
    · obtain ⟨s, hs, hdrop⟩ := at_list hl'.out hlt
      obtain ⟨gb, ob, hsp, hR⟩ := hl.out i s hs
      subst hsp
      have hR : Hid (y.rangeAt gb (ob + i * 8) (rcC s).toList) := range_keep hR K.out.2
      have ij := fun v => idxP (g := gb) (off := ob) (len := n) (cap := cap) Tryd.underlying23 (s := 8) (by kernel_rfl) .i64 i v hlt
      have hji : (i : Int) < n := by omega
      have hi' : Hid (i < n) := hlt
      have gs := hgood.out s (List.mem_of_getElem? hs)
      have hhead := fun v => rhead_any v s next gs.1 gs.2
      have hparts := head_parts gs.1 gs.2 next
      have zz := zeroV_R
      have J2 : Hid (PL = B ++ bytesR s next ++ packGo (l.drop (i + 1)) ((s.ad + 1) % 65536)) := by
        have h1 := J.out
        rw [hdrop] at h1
        show PL = _
        rw [h1.2.2]
        simp [packGo]
      have hBl : Hid (B.length ≤ 20971528) := by have := J.out; have := hi'.out; have := ni4; show _ ≤ _; omega
      have g := gs.1
      have a0 := g.a0
      have a1 := g.a1
      have d0 := g.d0
      have d1 := g.d1
      have p0 := g.p0
      have p1 := g.p1
      obtain ⟨H, hH⟩ : ∃ x, headR s next = x := ⟨_, rfl⟩
      obtain ⟨ad, had⟩ : ∃ x, s.ad = x := ⟨_, rfl⟩
      obtain ⟨da, hda⟩ : ∃ x, s.da = x := ⟨_, rfl⟩
      obtain ⟨po, hpo⟩ : ∃ x, s.po = x := ⟨_, rfl⟩
      rw [had] at J2 a0 a1
      rw [hda] at d0 d1
      rw [hpo] at p0 p1
      rw [hH] at hparts
      simp only [hH] at hhead
      have eH : Hid ([Value.int .u8 H] = [byN H].map byV) := by show _ = _; simp only [List.map_cons, List.map_nil]; rw [byV_N _ hparts.1 hparts.2.1]
      have eD : Hid ([Value.int .u8 da] = [byN da].map byV) := by show _ = _; simp only [List.map_cons, List.map_nil]; rw [byV_N _ d0 d1]
      have eF : Hid ([Value.int .u8 po, .int .u8 (ad % 256), .int .u8 (ad / 256)] = [byN po, byN (ad % 256), byN (ad / 256)].map byV) := by show _ = _; simp only [List.map_cons, List.map_nil]; rw [byV_N _ p0 p1, byV_N _ (by omega) (by omega), byV_N _ (by omega) (by omega)]
      have hbs : Hid (bytesR s next = byN H :: ((if farR s next then [byN po, byN (ad % 256), byN (ad / 256)] else []) ++ [byN da])) := by show _ = _; unfold bytesR; rw [hH, had, hda, hpo]
      have h128 := hparts.2.2.2.2.2.2.2
      have hq3 : IntKind.u16.wrap (ad.tdiv 256) = ad / 256 := by rw [Int.tdiv_eq_ediv_of_nonneg a0, IntKind.wrap_u16]; omega
      have hq4 : 0 ≤ ad / 256 := by omega
      have hq5 : ad / 256 ≤ 255 := by omega
      replace hs : Hid _ := hs
      replace hdrop : Hid _ := hdrop
      replace gs : Hid _ := gs
      replace g : Hid _ := g
      replace had : Hid _ := had
      replace hda : Hid _ := hda
      replace hpo : Hid _ := hpo
      clear hlt hparts hH
      cases hf : farR s next
      · have qh : decide (128 ≤ H) = false := by rw [decide_eq_false_iff_not, h128, hf]; decide
        have J3 : Hid (i + 1 ≤ n ∧ (B ++ [byN H] ++ [byN da]).length ≤ 8 + 5 * (i + 1) ∧ PL = B ++ [byN H] ++ [byN da] ++ packGo (l.drop (i + 1)) ((ad + 1) % 65536)) := by
          refine ⟨hi'.out, by have := J.out; simp only [List.length_append, List.length_cons, List.length_nil]; omega, ?_⟩
          rw [J2.out, hbs.out, hf]
          simp
        clear h128 hf
        go_wp2_with (first
          | ((with_reducible refine at_loadm rtR gb (ob + i * 8) (rcC s) ?_ ?_ (.tmp 41) ?_ ?_ ?_ ?_); exact hR.out; rfl; kernel_rfl; rfl; rfl)
          | ((with_reducible refine gen_world (y.alloc (.cells (rcC zR) 45)) (KX w va B y.heap.size zR) ?_ ?_); exact KX.box K.out; intro y3 K3)
          | ((with_reducible refine at_st rtR y.heap.size (rcC zR) (rcC s) ?_ ?_ ?_ ?_ (.tmp 9) (.tmp 42) ?_ ?_ ?_ ?_ ?_); exact K3.out.bx; rfl; rfl; exact rcC_one _; rfl; rfl; rfl; rfl; intro y4 hw4; have K4 : Hid (KX w va B y.heap.size s y4) := K3.out.put hw4.out)
          | ((with_reducible refine at_load rtR y.heap.size (rcC s) ?_ ?_ (.tmp 9) ?_ ?_ ?_ ?_); exact K4.out.bx; rfl; kernel_rfl; rfl; rfl)
          | (go_at_call 44; refine (hhead y4).mono ?_; rintro e y5 ⟨rfl, hb5⟩; have K5 : Hid (KX w va B y.heap.size s y5) := K4.out.below hb5; clear hb5)
          | (at_builtin; refine wpList_append_own _ rfl (.tmp 46) (.tmp 48) 34 rfl w.heap.size 5 i5 (.int .u8 0) 1 1 Tryd.underlying34 hi5 hz0 hz1 hz2 rfl (by decide) va (B).length ((B).map byV) rfl (K5.out.kb.1.alloc _) ⟨y5.heap.size, 0, none⟩ 1 1 [.int .u8 H] rfl rfl (many_byt y5 _) (by simp [Value.oneCell']) ?_ ?_ ?_ ?_; (have h1 := hBl.out; (try simp only [List.length_append, List.length_cons, List.length_nil]); unfold maxLen; omega); (have h1 := hBl.out; (try simp only [List.length_append, List.length_cons, List.length_nil]); omega); (have := K5.out.kb.2.size; simp; omega); intro v6 y6 h3 h4 h5; have K6 : Hid (KX w v6 ((B) ++ [byN H]) y.heap.size s y6) := K5.out.app (bs := [byN H]) eH.out rfl h3 h4; clear h3 h4 h5; have p6 := K6.out.bx.c 5 _ (rcC_po s); rw [hpo.out] at p6; have a6 := K6.out.bx.c 1 _ (rcC_ad s); rw [had.out] at a6; have d6 := K6.out.bx.c 2 _ (rcC_da s); rw [hda.out] at d6)
          | (at_builtin; refine wpList_append_own _ rfl (.tmp 65) (.tmp 68) 34 rfl w.heap.size 5 i5 (.int .u8 0) 1 1 Tryd.underlying34 hi5 hz0 hz1 hz2 rfl (by decide) v6 (B ++ [byN H]).length ((B ++ [byN H]).map byV) rfl (K6.out.kb.1.alloc _) ⟨y6.heap.size, 0, none⟩ 1 1 [.int .u8 da] rfl rfl (many_byt y6 _) (by simp [Value.oneCell']) ?_ ?_ ?_ ?_; (have h1 := hBl.out; (try simp only [List.length_append, List.length_cons, List.length_nil]); unfold maxLen; omega); (have h1 := hBl.out; (try simp only [List.length_append, List.length_cons, List.length_nil]); omega); (have := K6.out.kb.2.size; simp; omega); intro v8 y8 h3 h4 h5; have K8 : Hid (KX w v8 ((B ++ [byN H]) ++ [byN da]) y.heap.size s y8) := K6.out.app (bs := [byN da]) eD.out rfl h3 h4; clear h3 h4 h5; have p8 := K8.out.bx.c 5 _ (rcC_po s); rw [hpo.out] at p8; have a8 := K8.out.bx.c 1 _ (rcC_ad s); rw [had.out] at a8; have d8 := K8.out.bx.c 2 _ (rcC_da s); rw [hda.out] at d8))
        go_roundw
        case rel => exact ⟨i + 1, _, _, _, _, rfl, rfl, rfl, by simp, J3, K8.out.kb⟩
        case measure => have := hi'.out; simp [intOf]; omega
      · have qh : decide (128 ≤ H) = true := by rw [decide_eq_true_iff, h128]; exact hf
        have J3 : Hid (i + 1 ≤ n ∧ (B ++ [byN H] ++ [byN po, byN (ad % 256), byN (ad / 256)] ++ [byN da]).length ≤ 8 + 5 * (i + 1) ∧ PL = B ++ [byN H] ++ [byN po, byN (ad % 256), byN (ad / 256)] ++ [byN da] ++ packGo (l.drop (i + 1)) ((ad + 1) % 65536)) := by
          refine ⟨hi'.out, by have := J.out; simp only [List.length_append, List.length_cons, List.length_nil]; omega, ?_⟩
          rw [J2.out, hbs.out, hf]
          simp
        clear h128 hf
        go_wp2_with (first
          | ((with_reducible refine at_loadm rtR gb (ob + i * 8) (rcC s) ?_ ?_ (.tmp 41) ?_ ?_ ?_ ?_); exact hR.out; rfl; kernel_rfl; rfl; rfl)
          | ((with_reducible refine gen_world (y.alloc (.cells (rcC zR) 45)) (KX w va B y.heap.size zR) ?_ ?_); exact KX.box K.out; intro y3 K3)
          | ((with_reducible refine at_st rtR y.heap.size (rcC zR) (rcC s) ?_ ?_ ?_ ?_ (.tmp 9) (.tmp 42) ?_ ?_ ?_ ?_ ?_); exact K3.out.bx; rfl; rfl; exact rcC_one _; rfl; rfl; rfl; rfl; intro y4 hw4; have K4 : Hid (KX w va B y.heap.size s y4) := K3.out.put hw4.out)
          | ((with_reducible refine at_load rtR y.heap.size (rcC s) ?_ ?_ (.tmp 9) ?_ ?_ ?_ ?_); exact K4.out.bx; rfl; kernel_rfl; rfl; rfl)
          | (go_at_call 44; refine (hhead y4).mono ?_; rintro e y5 ⟨rfl, hb5⟩; have K5 : Hid (KX w va B y.heap.size s y5) := K4.out.below hb5; clear hb5)
          | (at_builtin; refine wpList_append_own _ rfl (.tmp 46) (.tmp 48) 34 rfl w.heap.size 5 i5 (.int .u8 0) 1 1 Tryd.underlying34 hi5 hz0 hz1 hz2 rfl (by decide) va (B).length ((B).map byV) rfl (K5.out.kb.1.alloc _) ⟨y5.heap.size, 0, none⟩ 1 1 [.int .u8 H] rfl rfl (many_byt y5 _) (by simp [Value.oneCell']) ?_ ?_ ?_ ?_; (have h1 := hBl.out; (try simp only [List.length_append, List.length_cons, List.length_nil]); unfold maxLen; omega); (have h1 := hBl.out; (try simp only [List.length_append, List.length_cons, List.length_nil]); omega); (have := K5.out.kb.2.size; simp; omega); intro v6 y6 h3 h4 h5; have K6 : Hid (KX w v6 ((B) ++ [byN H]) y.heap.size s y6) := K5.out.app (bs := [byN H]) eH.out rfl h3 h4; clear h3 h4 h5; have p6 := K6.out.bx.c 5 _ (rcC_po s); rw [hpo.out] at p6; have a6 := K6.out.bx.c 1 _ (rcC_ad s); rw [had.out] at a6; have d6 := K6.out.bx.c 2 _ (rcC_da s); rw [hda.out] at d6)
          | (at_builtin; refine wpList_append_own _ rfl (.tmp 52) (.tmp 63) 34 rfl w.heap.size 5 i5 (.int .u8 0) 1 1 Tryd.underlying34 hi5 hz0 hz1 hz2 rfl (by decide) v6 (B ++ [byN H]).length ((B ++ [byN H]).map byV) rfl (K6.out.kb.1.alloc _) ⟨y6.heap.size, 0, none⟩ 3 3 [.int .u8 po, .int .u8 (ad % 256), .int .u8 (ad / 256)] rfl rfl (many_byt y6 _) (by simp [Value.oneCell']) ?_ ?_ ?_ ?_; (have h1 := hBl.out; (try simp only [List.length_append, List.length_cons, List.length_nil]); unfold maxLen; omega); (have h1 := hBl.out; (try simp only [List.length_append, List.length_cons, List.length_nil]); omega); (have := K6.out.kb.2.size; simp; omega); intro v7 y7 h3 h4 h5; have K7 : Hid (KX w v7 ((B ++ [byN H]) ++ [byN po, byN (ad % 256), byN (ad / 256)]) y.heap.size s y7) := K6.out.app (bs := [byN po, byN (ad % 256), byN (ad / 256)]) eF.out rfl h3 h4; clear h3 h4 h5; have p7 := K7.out.bx.c 5 _ (rcC_po s); rw [hpo.out] at p7; have a7 := K7.out.bx.c 1 _ (rcC_ad s); rw [had.out] at a7; have d7 := K7.out.bx.c 2 _ (rcC_da s); rw [hda.out] at d7)
          | (at_builtin; refine wpList_append_own _ rfl (.tmp 65) (.tmp 68) 34 rfl w.heap.size 5 i5 (.int .u8 0) 1 1 Tryd.underlying34 hi5 hz0 hz1 hz2 rfl (by decide) v7 (B ++ [byN H] ++ [byN po, byN (ad % 256), byN (ad / 256)]).length ((B ++ [byN H] ++ [byN po, byN (ad % 256), byN (ad / 256)]).map byV) rfl (K7.out.kb.1.alloc _) ⟨y7.heap.size, 0, none⟩ 1 1 [.int .u8 da] rfl rfl (many_byt y7 _) (by simp [Value.oneCell']) ?_ ?_ ?_ ?_; (have h1 := hBl.out; (try simp only [List.length_append, List.length_cons, List.length_nil]); unfold maxLen; omega); (have h1 := hBl.out; (try simp only [List.length_append, List.length_cons, List.length_nil]); omega); (have := K7.out.kb.2.size; simp; omega); intro v8 y8 h3 h4 h5; have K8 : Hid (KX w v8 ((B ++ [byN H] ++ [byN po, byN (ad % 256), byN (ad / 256)]) ++ [byN da]) y.heap.size s y8) := K7.out.app (bs := [byN da]) eD.out rfl h3 h4; clear h3 h4 h5; have p8 := K8.out.bx.c 5 _ (rcC_po s); rw [hpo.out] at p8; have a8 := K8.out.bx.c 1 _ (rcC_ad s); rw [had.out] at a8; have d8 := K8.out.bx.c 2 _ (rcC_da s); rw [hda.out] at d8))
        go_roundw
        case rel => exact ⟨i + 1, _, _, _, _, rfl, rfl, rfl, by simp, J3, K8.out.kb⟩
        case measure => have := hi'.out; simp [intOf]; omega
    · have hin : i = n := by have := J.out.1; omega
      subst hin
      have hB : B = PL := by
        have h1 := J.out.2.2
        rw [List.drop_eq_nil_of_le (by rw [hl'.out]; exact Nat.le_refl _), show packGo [] next = [] from rfl, List.append_nil] at h1
        exact h1.symm
      rw [hB] at K
      clear hlt hB
      go_wp2
      go_ret2
      exact ⟨_, rfl, K.out⟩
end Go.Proofs.YtoajmicdphffnaaDoor
