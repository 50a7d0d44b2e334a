/- GameNew: the document's own New; any bytes as a program. -/
import Derived.Test.YtfkifppadngmdaaH5a
import Derived.Test.YtfkifppadngmdaaJg
namespace Go.Proofs.Ytfkifppadngmdaa
open Go Go.RowKit Go.Shelf
set_option linter.unusedVariables false
set_option maxHeartbeats 1000000
set_option maxRecDepth 20000

theorem rnew_long (w : World) (sp : Option Addr) (n cap : Nat) (hn : 3232 < n) : Calls Try.prog 8 #[.slice sp n cap] w fun e w' => ∃ C', e = .returned (.tuple #[.agg C', .int .i64 2]) ∧ Hid (GO w.heap.size w' C' gz ∧ Below w.heap.size w w') := by
  have q1 : decide ((3232 : Int) < (n : Int)) = true := by simp; omega
  obtain ⟨Z, hZ⟩ : ∃ x : Array Value, Hid (x = gZ) := ⟨_, (rfl : gZ = gZ)⟩
  have hZ' : Hid (Z.size = 23) := by show _ = _; rw [hZ.out]; rfl
  clear hn
  go_enter Try.func8, Try.ntmps8
  go_wp2_with (first
    | ((with_reducible refine gen_world (w.alloc (.cells #[.int .u8 0, .int .u8 0, .int .u8 0, .int .u8 0, .int .u8 0, .int .u8 0, .int .u8 0, .int .u8 0, .int .u8 0, .int .u8 0, .int .u8 0, .int .u8 0, .int .u8 0, .int .u8 0, .int .u8 0, .int .u8 0, .int .u16 0, .int .u16 0, .slice none 0 0, .int .u8 0, .int .u8 0, .slice none 0 0, .slice none 0 0] 29)) (fun y => Fm w [(w.heap.size, Z, 29)] y ∧ y.heap.size = w.heap.size + 1) ?_ ?_); (rw [hZ.out]; unfold gZ; exact ⟨Fm.one w _ _, by simp [World.size_alloc]⟩); intro y0 K0)
    | ((with_reducible refine at_bu #[] [] gZ ?_ ?_ ?_ builtG0 ?_); kernel_rfl; rfl; rfl)
    | ((with_reducible refine at_st rtG w.heap.size Z gZ ?_ ?_ ?_ ?_ (.tmp 2) (.tmp 8) ?_ ?_ ?_ ?_ ?_); exact K0.out.1.bx 0 _ _ _ rfl; exact hZ'.out; rfl; kernel_rfl; rfl; rfl; rfl; rfl; intro yE HE; have KE : Hid (Fm w [(w.heap.size, gZ, 29)] yE) := K0.out.1.put 0 _ _ _ _ rfl HE.out))
  exact ret_two rtG rfl rfl rfl (KE.out.bx 0 _ _ _ rfl) rfl rfl ⟨gZ, rfl, ⟨GO.zero _ _, KE.out.low⟩⟩
theorem rnew_fit (w : World) (sp : Option Addr) (cap n : Nat) (l : List UInt8) (hl : Hid (LB w sp l)) (hln : l.length = n) (hn : n ≤ 3232) : Calls Try.prog 8 #[.slice sp n cap] w fun e w' => ∃ C', e = .returned (.tuple #[.agg C', .int .i64 0]) ∧ Hid (GO w.heap.size w' C' (newG l) ∧ Below w.heap.size w w') := by
  have q1 : decide ((3232 : Int) < (n : Int)) = false := by simp; omega
  obtain ⟨Z, hZ⟩ : ∃ x : Array Value, Hid (x = gZ) := ⟨_, (rfl : gZ = gZ)⟩
  have hZ' : Hid (Z.size = 23) := by show _ = _; rw [hZ.out]; rfl
  have hln' : Hid (l.length = n ∧ n ≤ 3232) := ⟨hln, hn⟩
  have i1 : (n : Int) ≤ 3232 := by omega
  clear hn hln
  go_enter Try.func8, Try.ntmps8
  go_upto_region 3 with (
((with_reducible refine gen_world (w.alloc (.cells #[.int .u8 0, .int .u8 0, .int .u8 0, .int .u8 0, .int .u8 0, .int .u8 0, .int .u8 0, .int .u8 0, .int .u8 0, .int .u8 0, .int .u8 0, .int .u8 0, .int .u8 0, .int .u8 0, .int .u8 0, .int .u8 0, .int .u16 0, .int .u16 0, .slice none 0 0, .int .u8 0, .int .u8 0, .slice none 0 0, .slice none 0 0] 29)) (fun y => Fm w [(w.heap.size, Z, 29)] y ∧ y.heap.size = w.heap.size + 1) ?_ ?_); (rw [hZ.out]; unfold gZ; exact ⟨Fm.one w _ _, by simp [World.size_alloc]⟩); intro y0 K0))
  go_cut [4] (fun pp wz => ∃ (p m b : Nat) (y : World), y = wz ∧ pp = .pointer (some ⟨b, 0, none⟩) ∧ Hid (Below y0.heap.size y0 y ∧ Bx y b (gCs (List.replicate 16 0) 0 512 (.slice none 0 0) 0 0 (.slice (some ⟨p, 0, none⟩) 256 256) (.slice (some ⟨m, 0, none⟩) 3232 3232)) 29 ∧ Bx y p (rowB (List.replicate 256 0)) 5 ∧ Bx y m (rowB (List.replicate 3232 0)) 5 ∧ p ≠ m ∧ y0.heap.size ≤ p ∧ y0.heap.size ≤ m ∧ y0.heap.size ≤ b))
  case first =>
    have Kz0 : Hid (Below y0.heap.size y0 y0.drew) := below_drew (Below.refl _ _)
    refine wp_region_held_drew (S := fun y => Below y0.heap.size y0 y) (by kernel_rfl) Kz0.out (fun hH => ?_)
    generalize y0.drew = z0 at hH Kz0 ⊢
    refine wpAnyH_ready (rs := [0, 1, 3]) (by kernel_rfl) (by simp) (fun i hi => ?_)
    rcases List.mem_cons.1 hi with rfl | hi
    · clear hi
      refine wpOp_list (o := ⟨some 9, _, _, _, _, _⟩) rfl ?_
      refine at_mkZ 256 (by decide) rfl rfl ?_
      have Kz1 : Hid (Below y0.heap.size y0 (z0.alloc (.cells (rowB (List.replicate 256 0)) 5))) := Kz0.out.trans ((below1 z0 _).mono Kz0.out.size)
      have Xp : Hid (Bx (z0.alloc (.cells (rowB (List.replicate 256 0)) 5)) z0.heap.size (rowB (List.replicate 256 0)) 5 ∧ y0.heap.size ≤ z0.heap.size) := ⟨one_bxL z0 _ _, Kz0.out.size⟩
      refine ⟨Kz1.out, ?_⟩
      replace hH := Kz1.out
      generalize z0.alloc (.cells (rowB (List.replicate 256 0)) 5) = z1 at hH Kz1 Xp  ⊢
      obtain ⟨p, hp⟩ : ∃ x, z0.heap.size = x := ⟨_, rfl⟩
      rw [hp] at Xp 
      rw [hp]
      clear hp
      try simp only [Act.put, List.setIfInBounds_toArray, List.set_cons_zero, List.set_cons_succ]
      refine wpAnyH_ready (rs := [1, 3]) (by kernel_rfl) (by simp) (fun i hi => ?_)
      rcases List.mem_cons.1 hi with rfl | hi
      · clear hi
        refine wpOp_list (o := ⟨some 10, _, _, _, _, _⟩) rfl ?_
        refine at_mkZ 3232 (by decide) rfl rfl ?_
        have Kz2 : Hid (Below y0.heap.size y0 (z1.alloc (.cells (rowB (List.replicate 3232 0)) 5))) := Kz1.out.trans ((below1 z1 _).mono Kz1.out.size)
        have Xm : Hid (Bx (z1.alloc (.cells (rowB (List.replicate 3232 0)) 5)) z1.heap.size (rowB (List.replicate 3232 0)) 5 ∧ y0.heap.size ≤ z1.heap.size) := ⟨one_bxL z1 _ _, Kz1.out.size⟩
        have ne0 : Hid (p < z1.heap.size) := heap_lt Xp.out.1
        replace Xp : Hid (Bx (z1.alloc (.cells (rowB (List.replicate 3232 0)) 5)) p (rowB (List.replicate 256 0)) 5 ∧ y0.heap.size ≤ p) := ⟨((below1 z1 (.cells (rowB (List.replicate 3232 0)) 5)).block p (heap_lt Xp.out.1)).trans Xp.out.1, Xp.out.2⟩
        refine ⟨Kz2.out, ?_⟩
        replace hH := Kz2.out
        generalize z1.alloc (.cells (rowB (List.replicate 3232 0)) 5) = z2 at hH Kz2 Xm Xp ⊢
        obtain ⟨m, hm⟩ : ∃ x, z1.heap.size = x := ⟨_, rfl⟩
        rw [hm] at Xm ne0
        rw [hm]
        clear hm
        try simp only [Act.put, List.setIfInBounds_toArray, List.set_cons_zero, List.set_cons_succ]
        refine wpAnyH_take (i := 2) (oi := ⟨some 11, _, _, _, _, _⟩) (v := .agg (gCs (List.replicate 16 0) 0 512 (.slice none 0 0) 0 0 (.slice (some ⟨p, 0, none⟩) 256 256) (.slice (some ⟨m, 0, none⟩) 3232 3232))) rfl (by kernel_rfl) (by kernel_rfl) (by kernel_rfl) (fun _ _ _ h => h) (y_bu #[(2, .const (.int .u16 512)), (6, .tmp 9), (7, .tmp 10)] [(2, .int .u16 512), (6, .slice (some ⟨p, 0, none⟩) 256 256), (7, .slice (some ⟨m, 0, none⟩) 3232 3232)] (gCs (List.replicate 16 0) 0 512 (.slice none 0 0) 0 0 (.slice (some ⟨p, 0, none⟩) 256 256) (.slice (some ⟨m, 0, none⟩) 3232 3232)) (by kernel_rfl) rfl (by kernel_rfl) (built_n p m)) hH ?_
        try simp only [Act.put, List.setIfInBounds_toArray, List.set_cons_zero, List.set_cons_succ]
        refine wpAnyH_ready (rs := [3]) (by kernel_rfl) (by simp) (fun i hi => ?_)
        obtain rfl := List.mem_singleton.1 hi
        clear hi
        refine wpOp_list (o := ⟨some 4, _, _, _, _, _⟩) rfl ?_
        refine at_alG rfl rfl ?_
        have Kz3 : Hid (Below y0.heap.size y0 (z2.alloc (.cells #[.int .u8 0, .int .u8 0, .int .u8 0, .int .u8 0, .int .u8 0, .int .u8 0, .int .u8 0, .int .u8 0, .int .u8 0, .int .u8 0, .int .u8 0, .int .u8 0, .int .u8 0, .int .u8 0, .int .u8 0, .int .u8 0, .int .u16 0, .int .u16 0, .slice none 0 0, .int .u8 0, .int .u8 0, .slice none 0 0, .slice none 0 0] 29))) := Kz2.out.trans ((below1 z2 _).mono Kz2.out.size)
        have Xb : Hid (Bx (z2.alloc (.cells #[.int .u8 0, .int .u8 0, .int .u8 0, .int .u8 0, .int .u8 0, .int .u8 0, .int .u8 0, .int .u8 0, .int .u8 0, .int .u8 0, .int .u8 0, .int .u8 0, .int .u8 0, .int .u8 0, .int .u8 0, .int .u8 0, .int .u16 0, .int .u16 0, .slice none 0 0, .int .u8 0, .int .u8 0, .slice none 0 0, .slice none 0 0] 29)) z2.heap.size #[.int .u8 0, .int .u8 0, .int .u8 0, .int .u8 0, .int .u8 0, .int .u8 0, .int .u8 0, .int .u8 0, .int .u8 0, .int .u8 0, .int .u8 0, .int .u8 0, .int .u8 0, .int .u8 0, .int .u8 0, .int .u8 0, .int .u16 0, .int .u16 0, .slice none 0 0, .int .u8 0, .int .u8 0, .slice none 0 0, .slice none 0 0] 29 ∧ y0.heap.size ≤ z2.heap.size) := ⟨one_bxL z2 _ _, Kz2.out.size⟩
        replace Xp : Hid (Bx (z2.alloc (.cells #[.int .u8 0, .int .u8 0, .int .u8 0, .int .u8 0, .int .u8 0, .int .u8 0, .int .u8 0, .int .u8 0, .int .u8 0, .int .u8 0, .int .u8 0, .int .u8 0, .int .u8 0, .int .u8 0, .int .u8 0, .int .u8 0, .int .u16 0, .int .u16 0, .slice none 0 0, .int .u8 0, .int .u8 0, .slice none 0 0, .slice none 0 0] 29)) p (rowB (List.replicate 256 0)) 5 ∧ y0.heap.size ≤ p) := ⟨((below1 z2 (.cells #[.int .u8 0, .int .u8 0, .int .u8 0, .int .u8 0, .int .u8 0, .int .u8 0, .int .u8 0, .int .u8 0, .int .u8 0, .int .u8 0, .int .u8 0, .int .u8 0, .int .u8 0, .int .u8 0, .int .u8 0, .int .u8 0, .int .u16 0, .int .u16 0, .slice none 0 0, .int .u8 0, .int .u8 0, .slice none 0 0, .slice none 0 0] 29)).block p (heap_lt Xp.out.1)).trans Xp.out.1, Xp.out.2⟩
        replace Xm : Hid (Bx (z2.alloc (.cells #[.int .u8 0, .int .u8 0, .int .u8 0, .int .u8 0, .int .u8 0, .int .u8 0, .int .u8 0, .int .u8 0, .int .u8 0, .int .u8 0, .int .u8 0, .int .u8 0, .int .u8 0, .int .u8 0, .int .u8 0, .int .u8 0, .int .u16 0, .int .u16 0, .slice none 0 0, .int .u8 0, .int .u8 0, .slice none 0 0, .slice none 0 0] 29)) m (rowB (List.replicate 3232 0)) 5 ∧ y0.heap.size ≤ m) := ⟨((below1 z2 (.cells #[.int .u8 0, .int .u8 0, .int .u8 0, .int .u8 0, .int .u8 0, .int .u8 0, .int .u8 0, .int .u8 0, .int .u8 0, .int .u8 0, .int .u8 0, .int .u8 0, .int .u8 0, .int .u8 0, .int .u8 0, .int .u8 0, .int .u16 0, .int .u16 0, .slice none 0 0, .int .u8 0, .int .u8 0, .slice none 0 0, .slice none 0 0] 29)).block m (heap_lt Xm.out.1)).trans Xm.out.1, Xm.out.2⟩
        refine ⟨Kz3.out, ?_⟩
        replace hH := Kz3.out
        generalize z2.alloc (.cells #[.int .u8 0, .int .u8 0, .int .u8 0, .int .u8 0, .int .u8 0, .int .u8 0, .int .u8 0, .int .u8 0, .int .u8 0, .int .u8 0, .int .u8 0, .int .u8 0, .int .u8 0, .int .u8 0, .int .u8 0, .int .u8 0, .int .u16 0, .int .u16 0, .slice none 0 0, .int .u8 0, .int .u8 0, .slice none 0 0, .slice none 0 0] 29) = z3 at hH Kz3 Xb Xp Xm ⊢
        obtain ⟨b, hb⟩ : ∃ x, z2.heap.size = x := ⟨_, rfl⟩
        rw [hb] at Xb 
        rw [hb]
        clear hb
        try simp only [Act.put, List.setIfInBounds_toArray, List.set_cons_zero, List.set_cons_succ]
        refine wpAnyH_ready (rs := [4]) (by kernel_rfl) (by simp) (fun i hi => ?_)
        obtain rfl := List.mem_singleton.1 hi
        clear hi
        refine wpOp_list (o := ⟨none, _, _, _, _, _⟩) rfl ?_
        refine at_st rtG b #[.int .u8 0, .int .u8 0, .int .u8 0, .int .u8 0, .int .u8 0, .int .u8 0, .int .u8 0, .int .u8 0, .int .u8 0, .int .u8 0, .int .u8 0, .int .u8 0, .int .u8 0, .int .u8 0, .int .u8 0, .int .u8 0, .int .u16 0, .int .u16 0, .slice none 0 0, .int .u8 0, .int .u8 0, .slice none 0 0, .slice none 0 0] (gCs (List.replicate 16 0) 0 512 (.slice none 0 0) 0 0 (.slice (some ⟨p, 0, none⟩) 256 256) (.slice (some ⟨m, 0, none⟩) 3232 3232)) Xb.out.1 rfl rfl (gCs_one _ _ _ _ _ _ _ _ _ _ _ _ _ _) (.tmp 4) (.tmp 11) rfl rfl rfl rfl ?_
        intro zE HE
        have KzE : Hid (Below y0.heap.size y0 zE) := Kz3.out.trans (HE.out.2.1 _ Xb.out.2)
        refine ⟨KzE.out, ?_⟩
        refine wpAnyH_done (by kernel_rfl) ?_ _
        try go_wp2
        go_meet
        have np : p ≠ b := Bx.unlike Xp.out.1 Xb.out.1 (by decide)
        have nm : m ≠ b := Bx.unlike Xm.out.1 Xb.out.1 (by decide)
        exact ⟨p, m, b, zE, rfl, rfl, ⟨KzE.out, HE.out.1, (HE.out.2.2 p np).trans Xp.out.1, (HE.out.2.2 m nm).trans Xm.out.1, by have := ne0.out; omega, Xp.out.2, Xm.out.2, Xb.out.2⟩⟩
      · obtain rfl := List.mem_singleton.1 hi
        clear hi
        refine wpOp_list (o := ⟨some 4, _, _, _, _, _⟩) rfl ?_
        refine at_alG rfl rfl ?_
        have Kz2 : Hid (Below y0.heap.size y0 (z1.alloc (.cells #[.int .u8 0, .int .u8 0, .int .u8 0, .int .u8 0, .int .u8 0, .int .u8 0, .int .u8 0, .int .u8 0, .int .u8 0, .int .u8 0, .int .u8 0, .int .u8 0, .int .u8 0, .int .u8 0, .int .u8 0, .int .u8 0, .int .u16 0, .int .u16 0, .slice none 0 0, .int .u8 0, .int .u8 0, .slice none 0 0, .slice none 0 0] 29))) := Kz1.out.trans ((below1 z1 _).mono Kz1.out.size)
        have Xb : Hid (Bx (z1.alloc (.cells #[.int .u8 0, .int .u8 0, .int .u8 0, .int .u8 0, .int .u8 0, .int .u8 0, .int .u8 0, .int .u8 0, .int .u8 0, .int .u8 0, .int .u8 0, .int .u8 0, .int .u8 0, .int .u8 0, .int .u8 0, .int .u8 0, .int .u16 0, .int .u16 0, .slice none 0 0, .int .u8 0, .int .u8 0, .slice none 0 0, .slice none 0 0] 29)) z1.heap.size #[.int .u8 0, .int .u8 0, .int .u8 0, .int .u8 0, .int .u8 0, .int .u8 0, .int .u8 0, .int .u8 0, .int .u8 0, .int .u8 0, .int .u8 0, .int .u8 0, .int .u8 0, .int .u8 0, .int .u8 0, .int .u8 0, .int .u16 0, .int .u16 0, .slice none 0 0, .int .u8 0, .int .u8 0, .slice none 0 0, .slice none 0 0] 29 ∧ y0.heap.size ≤ z1.heap.size) := ⟨one_bxL z1 _ _, Kz1.out.size⟩
        replace Xp : Hid (Bx (z1.alloc (.cells #[.int .u8 0, .int .u8 0, .int .u8 0, .int .u8 0, .int .u8 0, .int .u8 0, .int .u8 0, .int .u8 0, .int .u8 0, .int .u8 0, .int .u8 0, .int .u8 0, .int .u8 0, .int .u8 0, .int .u8 0, .int .u8 0, .int .u16 0, .int .u16 0, .slice none 0 0, .int .u8 0, .int .u8 0, .slice none 0 0, .slice none 0 0] 29)) p (rowB (List.replicate 256 0)) 5 ∧ y0.heap.size ≤ p) := ⟨((below1 z1 (.cells #[.int .u8 0, .int .u8 0, .int .u8 0, .int .u8 0, .int .u8 0, .int .u8 0, .int .u8 0, .int .u8 0, .int .u8 0, .int .u8 0, .int .u8 0, .int .u8 0, .int .u8 0, .int .u8 0, .int .u8 0, .int .u8 0, .int .u16 0, .int .u16 0, .slice none 0 0, .int .u8 0, .int .u8 0, .slice none 0 0, .slice none 0 0] 29)).block p (heap_lt Xp.out.1)).trans Xp.out.1, Xp.out.2⟩
        refine ⟨Kz2.out, ?_⟩
        replace hH := Kz2.out
        generalize z1.alloc (.cells #[.int .u8 0, .int .u8 0, .int .u8 0, .int .u8 0, .int .u8 0, .int .u8 0, .int .u8 0, .int .u8 0, .int .u8 0, .int .u8 0, .int .u8 0, .int .u8 0, .int .u8 0, .int .u8 0, .int .u8 0, .int .u8 0, .int .u16 0, .int .u16 0, .slice none 0 0, .int .u8 0, .int .u8 0, .slice none 0 0, .slice none 0 0] 29) = z2 at hH Kz2 Xb Xp ⊢
        obtain ⟨b, hb⟩ : ∃ x, z1.heap.size = x := ⟨_, rfl⟩
        rw [hb] at Xb 
        rw [hb]
        clear hb
        try simp only [Act.put, List.setIfInBounds_toArray, List.set_cons_zero, List.set_cons_succ]
        refine wpAnyH_ready (rs := [1]) (by kernel_rfl) (by simp) (fun i hi => ?_)
        obtain rfl := List.mem_singleton.1 hi
        clear hi
        refine wpOp_list (o := ⟨some 10, _, _, _, _, _⟩) rfl ?_
        refine at_mkZ 3232 (by decide) rfl rfl ?_
        have Kz3 : Hid (Below y0.heap.size y0 (z2.alloc (.cells (rowB (List.replicate 3232 0)) 5))) := Kz2.out.trans ((below1 z2 _).mono Kz2.out.size)
        have Xm : Hid (Bx (z2.alloc (.cells (rowB (List.replicate 3232 0)) 5)) z2.heap.size (rowB (List.replicate 3232 0)) 5 ∧ y0.heap.size ≤ z2.heap.size) := ⟨one_bxL z2 _ _, Kz2.out.size⟩
        have ne0 : Hid (p < z2.heap.size) := heap_lt Xp.out.1
        replace Xp : Hid (Bx (z2.alloc (.cells (rowB (List.replicate 3232 0)) 5)) p (rowB (List.replicate 256 0)) 5 ∧ y0.heap.size ≤ p) := ⟨((below1 z2 (.cells (rowB (List.replicate 3232 0)) 5)).block p (heap_lt Xp.out.1)).trans Xp.out.1, Xp.out.2⟩
        replace Xb : Hid (Bx (z2.alloc (.cells (rowB (List.replicate 3232 0)) 5)) b #[.int .u8 0, .int .u8 0, .int .u8 0, .int .u8 0, .int .u8 0, .int .u8 0, .int .u8 0, .int .u8 0, .int .u8 0, .int .u8 0, .int .u8 0, .int .u8 0, .int .u8 0, .int .u8 0, .int .u8 0, .int .u8 0, .int .u16 0, .int .u16 0, .slice none 0 0, .int .u8 0, .int .u8 0, .slice none 0 0, .slice none 0 0] 29 ∧ y0.heap.size ≤ b) := ⟨((below1 z2 (.cells (rowB (List.replicate 3232 0)) 5)).block b (heap_lt Xb.out.1)).trans Xb.out.1, Xb.out.2⟩
        refine ⟨Kz3.out, ?_⟩
        replace hH := Kz3.out
        generalize z2.alloc (.cells (rowB (List.replicate 3232 0)) 5) = z3 at hH Kz3 Xm Xp Xb ⊢
        obtain ⟨m, hm⟩ : ∃ x, z2.heap.size = x := ⟨_, rfl⟩
        rw [hm] at Xm ne0
        rw [hm]
        clear hm
        try simp only [Act.put, List.setIfInBounds_toArray, List.set_cons_zero, List.set_cons_succ]
        refine wpAnyH_take (i := 2) (oi := ⟨some 11, _, _, _, _, _⟩) (v := .agg (gCs (List.replicate 16 0) 0 512 (.slice none 0 0) 0 0 (.slice (some ⟨p, 0, none⟩) 256 256) (.slice (some ⟨m, 0, none⟩) 3232 3232))) rfl (by kernel_rfl) (by kernel_rfl) (by kernel_rfl) (fun _ _ _ h => h) (y_bu #[(2, .const (.int .u16 512)), (6, .tmp 9), (7, .tmp 10)] [(2, .int .u16 512), (6, .slice (some ⟨p, 0, none⟩) 256 256), (7, .slice (some ⟨m, 0, none⟩) 3232 3232)] (gCs (List.replicate 16 0) 0 512 (.slice none 0 0) 0 0 (.slice (some ⟨p, 0, none⟩) 256 256) (.slice (some ⟨m, 0, none⟩) 3232 3232)) (by kernel_rfl) rfl (by kernel_rfl) (built_n p m)) hH ?_
        try simp only [Act.put, List.setIfInBounds_toArray, List.set_cons_zero, List.set_cons_succ]
        refine wpAnyH_ready (rs := [4]) (by kernel_rfl) (by simp) (fun i hi => ?_)
        obtain rfl := List.mem_singleton.1 hi
        clear hi
        refine wpOp_list (o := ⟨none, _, _, _, _, _⟩) rfl ?_
        refine at_st rtG b #[.int .u8 0, .int .u8 0, .int .u8 0, .int .u8 0, .int .u8 0, .int .u8 0, .int .u8 0, .int .u8 0, .int .u8 0, .int .u8 0, .int .u8 0, .int .u8 0, .int .u8 0, .int .u8 0, .int .u8 0, .int .u8 0, .int .u16 0, .int .u16 0, .slice none 0 0, .int .u8 0, .int .u8 0, .slice none 0 0, .slice none 0 0] (gCs (List.replicate 16 0) 0 512 (.slice none 0 0) 0 0 (.slice (some ⟨p, 0, none⟩) 256 256) (.slice (some ⟨m, 0, none⟩) 3232 3232)) Xb.out.1 rfl rfl (gCs_one _ _ _ _ _ _ _ _ _ _ _ _ _ _) (.tmp 4) (.tmp 11) rfl rfl rfl rfl ?_
        intro zE HE
        have KzE : Hid (Below y0.heap.size y0 zE) := Kz3.out.trans (HE.out.2.1 _ Xb.out.2)
        refine ⟨KzE.out, ?_⟩
        refine wpAnyH_done (by kernel_rfl) ?_ _
        try go_wp2
        go_meet
        have np : p ≠ b := Bx.unlike Xp.out.1 Xb.out.1 (by decide)
        have nm : m ≠ b := Bx.unlike Xm.out.1 Xb.out.1 (by decide)
        exact ⟨p, m, b, zE, rfl, rfl, ⟨KzE.out, HE.out.1, (HE.out.2.2 p np).trans Xp.out.1, (HE.out.2.2 m nm).trans Xm.out.1, by have := ne0.out; omega, Xp.out.2, Xm.out.2, Xb.out.2⟩⟩
    rcases List.mem_cons.1 hi with rfl | hi
    · clear hi
      refine wpOp_list (o := ⟨some 10, _, _, _, _, _⟩) rfl ?_
      refine at_mkZ 3232 (by decide) rfl rfl ?_
      have Kz1 : Hid (Below y0.heap.size y0 (z0.alloc (.cells (rowB (List.replicate 3232 0)) 5))) := Kz0.out.trans ((below1 z0 _).mono Kz0.out.size)
      have Xm : Hid (Bx (z0.alloc (.cells (rowB (List.replicate 3232 0)) 5)) z0.heap.size (rowB (List.replicate 3232 0)) 5 ∧ y0.heap.size ≤ z0.heap.size) := ⟨one_bxL z0 _ _, Kz0.out.size⟩
      refine ⟨Kz1.out, ?_⟩
      replace hH := Kz1.out
      generalize z0.alloc (.cells (rowB (List.replicate 3232 0)) 5) = z1 at hH Kz1 Xm  ⊢
      obtain ⟨m, hm⟩ : ∃ x, z0.heap.size = x := ⟨_, rfl⟩
      rw [hm] at Xm 
      rw [hm]
      clear hm
      try simp only [Act.put, List.setIfInBounds_toArray, List.set_cons_zero, List.set_cons_succ]
      refine wpAnyH_ready (rs := [0, 3]) (by kernel_rfl) (by simp) (fun i hi => ?_)
      rcases List.mem_cons.1 hi with rfl | hi
      · clear hi
        refine wpOp_list (o := ⟨some 9, _, _, _, _, _⟩) rfl ?_
        refine at_mkZ 256 (by decide) rfl rfl ?_
        have Kz2 : Hid (Below y0.heap.size y0 (z1.alloc (.cells (rowB (List.replicate 256 0)) 5))) := Kz1.out.trans ((below1 z1 _).mono Kz1.out.size)
        have Xp : Hid (Bx (z1.alloc (.cells (rowB (List.replicate 256 0)) 5)) z1.heap.size (rowB (List.replicate 256 0)) 5 ∧ y0.heap.size ≤ z1.heap.size) := ⟨one_bxL z1 _ _, Kz1.out.size⟩
        have ne0 : Hid (m < z1.heap.size) := heap_lt Xm.out.1
        replace Xm : Hid (Bx (z1.alloc (.cells (rowB (List.replicate 256 0)) 5)) m (rowB (List.replicate 3232 0)) 5 ∧ y0.heap.size ≤ m) := ⟨((below1 z1 (.cells (rowB (List.replicate 256 0)) 5)).block m (heap_lt Xm.out.1)).trans Xm.out.1, Xm.out.2⟩
        refine ⟨Kz2.out, ?_⟩
        replace hH := Kz2.out
        generalize z1.alloc (.cells (rowB (List.replicate 256 0)) 5) = z2 at hH Kz2 Xp Xm ⊢
        obtain ⟨p, hp⟩ : ∃ x, z1.heap.size = x := ⟨_, rfl⟩
        rw [hp] at Xp ne0
        rw [hp]
        clear hp
        try simp only [Act.put, List.setIfInBounds_toArray, List.set_cons_zero, List.set_cons_succ]
        refine wpAnyH_take (i := 2) (oi := ⟨some 11, _, _, _, _, _⟩) (v := .agg (gCs (List.replicate 16 0) 0 512 (.slice none 0 0) 0 0 (.slice (some ⟨p, 0, none⟩) 256 256) (.slice (some ⟨m, 0, none⟩) 3232 3232))) rfl (by kernel_rfl) (by kernel_rfl) (by kernel_rfl) (fun _ _ _ h => h) (y_bu #[(2, .const (.int .u16 512)), (6, .tmp 9), (7, .tmp 10)] [(2, .int .u16 512), (6, .slice (some ⟨p, 0, none⟩) 256 256), (7, .slice (some ⟨m, 0, none⟩) 3232 3232)] (gCs (List.replicate 16 0) 0 512 (.slice none 0 0) 0 0 (.slice (some ⟨p, 0, none⟩) 256 256) (.slice (some ⟨m, 0, none⟩) 3232 3232)) (by kernel_rfl) rfl (by kernel_rfl) (built_n p m)) hH ?_
        try simp only [Act.put, List.setIfInBounds_toArray, List.set_cons_zero, List.set_cons_succ]
        refine wpAnyH_ready (rs := [3]) (by kernel_rfl) (by simp) (fun i hi => ?_)
        obtain rfl := List.mem_singleton.1 hi
        clear hi
        refine wpOp_list (o := ⟨some 4, _, _, _, _, _⟩) rfl ?_
        refine at_alG rfl rfl ?_
        have Kz3 : Hid (Below y0.heap.size y0 (z2.alloc (.cells #[.int .u8 0, .int .u8 0, .int .u8 0, .int .u8 0, .int .u8 0, .int .u8 0, .int .u8 0, .int .u8 0, .int .u8 0, .int .u8 0, .int .u8 0, .int .u8 0, .int .u8 0, .int .u8 0, .int .u8 0, .int .u8 0, .int .u16 0, .int .u16 0, .slice none 0 0, .int .u8 0, .int .u8 0, .slice none 0 0, .slice none 0 0] 29))) := Kz2.out.trans ((below1 z2 _).mono Kz2.out.size)
        have Xb : Hid (Bx (z2.alloc (.cells #[.int .u8 0, .int .u8 0, .int .u8 0, .int .u8 0, .int .u8 0, .int .u8 0, .int .u8 0, .int .u8 0, .int .u8 0, .int .u8 0, .int .u8 0, .int .u8 0, .int .u8 0, .int .u8 0, .int .u8 0, .int .u8 0, .int .u16 0, .int .u16 0, .slice none 0 0, .int .u8 0, .int .u8 0, .slice none 0 0, .slice none 0 0] 29)) z2.heap.size #[.int .u8 0, .int .u8 0, .int .u8 0, .int .u8 0, .int .u8 0, .int .u8 0, .int .u8 0, .int .u8 0, .int .u8 0, .int .u8 0, .int .u8 0, .int .u8 0, .int .u8 0, .int .u8 0, .int .u8 0, .int .u8 0, .int .u16 0, .int .u16 0, .slice none 0 0, .int .u8 0, .int .u8 0, .slice none 0 0, .slice none 0 0] 29 ∧ y0.heap.size ≤ z2.heap.size) := ⟨one_bxL z2 _ _, Kz2.out.size⟩
        replace Xm : Hid (Bx (z2.alloc (.cells #[.int .u8 0, .int .u8 0, .int .u8 0, .int .u8 0, .int .u8 0, .int .u8 0, .int .u8 0, .int .u8 0, .int .u8 0, .int .u8 0, .int .u8 0, .int .u8 0, .int .u8 0, .int .u8 0, .int .u8 0, .int .u8 0, .int .u16 0, .int .u16 0, .slice none 0 0, .int .u8 0, .int .u8 0, .slice none 0 0, .slice none 0 0] 29)) m (rowB (List.replicate 3232 0)) 5 ∧ y0.heap.size ≤ m) := ⟨((below1 z2 (.cells #[.int .u8 0, .int .u8 0, .int .u8 0, .int .u8 0, .int .u8 0, .int .u8 0, .int .u8 0, .int .u8 0, .int .u8 0, .int .u8 0, .int .u8 0, .int .u8 0, .int .u8 0, .int .u8 0, .int .u8 0, .int .u8 0, .int .u16 0, .int .u16 0, .slice none 0 0, .int .u8 0, .int .u8 0, .slice none 0 0, .slice none 0 0] 29)).block m (heap_lt Xm.out.1)).trans Xm.out.1, Xm.out.2⟩
        replace Xp : Hid (Bx (z2.alloc (.cells #[.int .u8 0, .int .u8 0, .int .u8 0, .int .u8 0, .int .u8 0, .int .u8 0, .int .u8 0, .int .u8 0, .int .u8 0, .int .u8 0, .int .u8 0, .int .u8 0, .int .u8 0, .int .u8 0, .int .u8 0, .int .u8 0, .int .u16 0, .int .u16 0, .slice none 0 0, .int .u8 0, .int .u8 0, .slice none 0 0, .slice none 0 0] 29)) p (rowB (List.replicate 256 0)) 5 ∧ y0.heap.size ≤ p) := ⟨((below1 z2 (.cells #[.int .u8 0, .int .u8 0, .int .u8 0, .int .u8 0, .int .u8 0, .int .u8 0, .int .u8 0, .int .u8 0, .int .u8 0, .int .u8 0, .int .u8 0, .int .u8 0, .int .u8 0, .int .u8 0, .int .u8 0, .int .u8 0, .int .u16 0, .int .u16 0, .slice none 0 0, .int .u8 0, .int .u8 0, .slice none 0 0, .slice none 0 0] 29)).block p (heap_lt Xp.out.1)).trans Xp.out.1, Xp.out.2⟩
        refine ⟨Kz3.out, ?_⟩
        replace hH := Kz3.out
        generalize z2.alloc (.cells #[.int .u8 0, .int .u8 0, .int .u8 0, .int .u8 0, .int .u8 0, .int .u8 0, .int .u8 0, .int .u8 0, .int .u8 0, .int .u8 0, .int .u8 0, .int .u8 0, .int .u8 0, .int .u8 0, .int .u8 0, .int .u8 0, .int .u16 0, .int .u16 0, .slice none 0 0, .int .u8 0, .int .u8 0, .slice none 0 0, .slice none 0 0] 29) = z3 at hH Kz3 Xb Xm Xp ⊢
        obtain ⟨b, hb⟩ : ∃ x, z2.heap.size = x := ⟨_, rfl⟩
        rw [hb] at Xb 
        rw [hb]
        clear hb
        try simp only [Act.put, List.setIfInBounds_toArray, List.set_cons_zero, List.set_cons_succ]
        refine wpAnyH_ready (rs := [4]) (by kernel_rfl) (by simp) (fun i hi => ?_)
        obtain rfl := List.mem_singleton.1 hi
        clear hi
        refine wpOp_list (o := ⟨none, _, _, _, _, _⟩) rfl ?_
        refine at_st rtG b #[.int .u8 0, .int .u8 0, .int .u8 0, .int .u8 0, .int .u8 0, .int .u8 0, .int .u8 0, .int .u8 0, .int .u8 0, .int .u8 0, .int .u8 0, .int .u8 0, .int .u8 0, .int .u8 0, .int .u8 0, .int .u8 0, .int .u16 0, .int .u16 0, .slice none 0 0, .int .u8 0, .int .u8 0, .slice none 0 0, .slice none 0 0] (gCs (List.replicate 16 0) 0 512 (.slice none 0 0) 0 0 (.slice (some ⟨p, 0, none⟩) 256 256) (.slice (some ⟨m, 0, none⟩) 3232 3232)) Xb.out.1 rfl rfl (gCs_one _ _ _ _ _ _ _ _ _ _ _ _ _ _) (.tmp 4) (.tmp 11) rfl rfl rfl rfl ?_
        intro zE HE
        have KzE : Hid (Below y0.heap.size y0 zE) := Kz3.out.trans (HE.out.2.1 _ Xb.out.2)
        refine ⟨KzE.out, ?_⟩
        refine wpAnyH_done (by kernel_rfl) ?_ _
        try go_wp2
        go_meet
        have np : p ≠ b := Bx.unlike Xp.out.1 Xb.out.1 (by decide)
        have nm : m ≠ b := Bx.unlike Xm.out.1 Xb.out.1 (by decide)
        exact ⟨p, m, b, zE, rfl, rfl, ⟨KzE.out, HE.out.1, (HE.out.2.2 p np).trans Xp.out.1, (HE.out.2.2 m nm).trans Xm.out.1, by have := ne0.out; omega, Xp.out.2, Xm.out.2, Xb.out.2⟩⟩
      · obtain rfl := List.mem_singleton.1 hi
        clear hi
        refine wpOp_list (o := ⟨some 4, _, _, _, _, _⟩) rfl ?_
        refine at_alG rfl rfl ?_
        have Kz2 : Hid (Below y0.heap.size y0 (z1.alloc (.cells #[.int .u8 0, .int .u8 0, .int .u8 0, .int .u8 0, .int .u8 0, .int .u8 0, .int .u8 0, .int .u8 0, .int .u8 0, .int .u8 0, .int .u8 0, .int .u8 0, .int .u8 0, .int .u8 0, .int .u8 0, .int .u8 0, .int .u16 0, .int .u16 0, .slice none 0 0, .int .u8 0, .int .u8 0, .slice none 0 0, .slice none 0 0] 29))) := Kz1.out.trans ((below1 z1 _).mono Kz1.out.size)
        have Xb : Hid (Bx (z1.alloc (.cells #[.int .u8 0, .int .u8 0, .int .u8 0, .int .u8 0, .int .u8 0, .int .u8 0, .int .u8 0, .int .u8 0, .int .u8 0, .int .u8 0, .int .u8 0, .int .u8 0, .int .u8 0, .int .u8 0, .int .u8 0, .int .u8 0, .int .u16 0, .int .u16 0, .slice none 0 0, .int .u8 0, .int .u8 0, .slice none 0 0, .slice none 0 0] 29)) z1.heap.size #[.int .u8 0, .int .u8 0, .int .u8 0, .int .u8 0, .int .u8 0, .int .u8 0, .int .u8 0, .int .u8 0, .int .u8 0, .int .u8 0, .int .u8 0, .int .u8 0, .int .u8 0, .int .u8 0, .int .u8 0, .int .u8 0, .int .u16 0, .int .u16 0, .slice none 0 0, .int .u8 0, .int .u8 0, .slice none 0 0, .slice none 0 0] 29 ∧ y0.heap.size ≤ z1.heap.size) := ⟨one_bxL z1 _ _, Kz1.out.size⟩
        replace Xm : Hid (Bx (z1.alloc (.cells #[.int .u8 0, .int .u8 0, .int .u8 0, .int .u8 0, .int .u8 0, .int .u8 0, .int .u8 0, .int .u8 0, .int .u8 0, .int .u8 0, .int .u8 0, .int .u8 0, .int .u8 0, .int .u8 0, .int .u8 0, .int .u8 0, .int .u16 0, .int .u16 0, .slice none 0 0, .int .u8 0, .int .u8 0, .slice none 0 0, .slice none 0 0] 29)) m (rowB (List.replicate 3232 0)) 5 ∧ y0.heap.size ≤ m) := ⟨((below1 z1 (.cells #[.int .u8 0, .int .u8 0, .int .u8 0, .int .u8 0, .int .u8 0, .int .u8 0, .int .u8 0, .int .u8 0, .int .u8 0, .int .u8 0, .int .u8 0, .int .u8 0, .int .u8 0, .int .u8 0, .int .u8 0, .int .u8 0, .int .u16 0, .int .u16 0, .slice none 0 0, .int .u8 0, .int .u8 0, .slice none 0 0, .slice none 0 0] 29)).block m (heap_lt Xm.out.1)).trans Xm.out.1, Xm.out.2⟩
        refine ⟨Kz2.out, ?_⟩
        replace hH := Kz2.out
        generalize z1.alloc (.cells #[.int .u8 0, .int .u8 0, .int .u8 0, .int .u8 0, .int .u8 0, .int .u8 0, .int .u8 0, .int .u8 0, .int .u8 0, .int .u8 0, .int .u8 0, .int .u8 0, .int .u8 0, .int .u8 0, .int .u8 0, .int .u8 0, .int .u16 0, .int .u16 0, .slice none 0 0, .int .u8 0, .int .u8 0, .slice none 0 0, .slice none 0 0] 29) = z2 at hH Kz2 Xb Xm ⊢
        obtain ⟨b, hb⟩ : ∃ x, z1.heap.size = x := ⟨_, rfl⟩
        rw [hb] at Xb 
        rw [hb]
        clear hb
        try simp only [Act.put, List.setIfInBounds_toArray, List.set_cons_zero, List.set_cons_succ]
        refine wpAnyH_ready (rs := [0]) (by kernel_rfl) (by simp) (fun i hi => ?_)
        obtain rfl := List.mem_singleton.1 hi
        clear hi
        refine wpOp_list (o := ⟨some 9, _, _, _, _, _⟩) rfl ?_
        refine at_mkZ 256 (by decide) rfl rfl ?_
        have Kz3 : Hid (Below y0.heap.size y0 (z2.alloc (.cells (rowB (List.replicate 256 0)) 5))) := Kz2.out.trans ((below1 z2 _).mono Kz2.out.size)
        have Xp : Hid (Bx (z2.alloc (.cells (rowB (List.replicate 256 0)) 5)) z2.heap.size (rowB (List.replicate 256 0)) 5 ∧ y0.heap.size ≤ z2.heap.size) := ⟨one_bxL z2 _ _, Kz2.out.size⟩
        have ne0 : Hid (m < z2.heap.size) := heap_lt Xm.out.1
        replace Xm : Hid (Bx (z2.alloc (.cells (rowB (List.replicate 256 0)) 5)) m (rowB (List.replicate 3232 0)) 5 ∧ y0.heap.size ≤ m) := ⟨((below1 z2 (.cells (rowB (List.replicate 256 0)) 5)).block m (heap_lt Xm.out.1)).trans Xm.out.1, Xm.out.2⟩
        replace Xb : Hid (Bx (z2.alloc (.cells (rowB (List.replicate 256 0)) 5)) b #[.int .u8 0, .int .u8 0, .int .u8 0, .int .u8 0, .int .u8 0, .int .u8 0, .int .u8 0, .int .u8 0, .int .u8 0, .int .u8 0, .int .u8 0, .int .u8 0, .int .u8 0, .int .u8 0, .int .u8 0, .int .u8 0, .int .u16 0, .int .u16 0, .slice none 0 0, .int .u8 0, .int .u8 0, .slice none 0 0, .slice none 0 0] 29 ∧ y0.heap.size ≤ b) := ⟨((below1 z2 (.cells (rowB (List.replicate 256 0)) 5)).block b (heap_lt Xb.out.1)).trans Xb.out.1, Xb.out.2⟩
        refine ⟨Kz3.out, ?_⟩
        replace hH := Kz3.out
        generalize z2.alloc (.cells (rowB (List.replicate 256 0)) 5) = z3 at hH Kz3 Xp Xm Xb ⊢
        obtain ⟨p, hp⟩ : ∃ x, z2.heap.size = x := ⟨_, rfl⟩
        rw [hp] at Xp ne0
        rw [hp]
        clear hp
        try simp only [Act.put, List.setIfInBounds_toArray, List.set_cons_zero, List.set_cons_succ]
        refine wpAnyH_take (i := 2) (oi := ⟨some 11, _, _, _, _, _⟩) (v := .agg (gCs (List.replicate 16 0) 0 512 (.slice none 0 0) 0 0 (.slice (some ⟨p, 0, none⟩) 256 256) (.slice (some ⟨m, 0, none⟩) 3232 3232))) rfl (by kernel_rfl) (by kernel_rfl) (by kernel_rfl) (fun _ _ _ h => h) (y_bu #[(2, .const (.int .u16 512)), (6, .tmp 9), (7, .tmp 10)] [(2, .int .u16 512), (6, .slice (some ⟨p, 0, none⟩) 256 256), (7, .slice (some ⟨m, 0, none⟩) 3232 3232)] (gCs (List.replicate 16 0) 0 512 (.slice none 0 0) 0 0 (.slice (some ⟨p, 0, none⟩) 256 256) (.slice (some ⟨m, 0, none⟩) 3232 3232)) (by kernel_rfl) rfl (by kernel_rfl) (built_n p m)) hH ?_
        try simp only [Act.put, List.setIfInBounds_toArray, List.set_cons_zero, List.set_cons_succ]
        refine wpAnyH_ready (rs := [4]) (by kernel_rfl) (by simp) (fun i hi => ?_)
        obtain rfl := List.mem_singleton.1 hi
        clear hi
        refine wpOp_list (o := ⟨none, _, _, _, _, _⟩) rfl ?_
        refine at_st rtG b #[.int .u8 0, .int .u8 0, .int .u8 0, .int .u8 0, .int .u8 0, .int .u8 0, .int .u8 0, .int .u8 0, .int .u8 0, .int .u8 0, .int .u8 0, .int .u8 0, .int .u8 0, .int .u8 0, .int .u8 0, .int .u8 0, .int .u16 0, .int .u16 0, .slice none 0 0, .int .u8 0, .int .u8 0, .slice none 0 0, .slice none 0 0] (gCs (List.replicate 16 0) 0 512 (.slice none 0 0) 0 0 (.slice (some ⟨p, 0, none⟩) 256 256) (.slice (some ⟨m, 0, none⟩) 3232 3232)) Xb.out.1 rfl rfl (gCs_one _ _ _ _ _ _ _ _ _ _ _ _ _ _) (.tmp 4) (.tmp 11) rfl rfl rfl rfl ?_
        intro zE HE
        have KzE : Hid (Below y0.heap.size y0 zE) := Kz3.out.trans (HE.out.2.1 _ Xb.out.2)
        refine ⟨KzE.out, ?_⟩
        refine wpAnyH_done (by kernel_rfl) ?_ _
        try go_wp2
        go_meet
        have np : p ≠ b := Bx.unlike Xp.out.1 Xb.out.1 (by decide)
        have nm : m ≠ b := Bx.unlike Xm.out.1 Xb.out.1 (by decide)
        exact ⟨p, m, b, zE, rfl, rfl, ⟨KzE.out, HE.out.1, (HE.out.2.2 p np).trans Xp.out.1, (HE.out.2.2 m nm).trans Xm.out.1, by have := ne0.out; omega, Xp.out.2, Xm.out.2, Xb.out.2⟩⟩
    · obtain rfl := List.mem_singleton.1 hi
      clear hi
      refine wpOp_list (o := ⟨some 4, _, _, _, _, _⟩) rfl ?_
      refine at_alG rfl rfl ?_
      have Kz1 : Hid (Below y0.heap.size y0 (z0.alloc (.cells #[.int .u8 0, .int .u8 0, .int .u8 0, .int .u8 0, .int .u8 0, .int .u8 0, .int .u8 0, .int .u8 0, .int .u8 0, .int .u8 0, .int .u8 0, .int .u8 0, .int .u8 0, .int .u8 0, .int .u8 0, .int .u8 0, .int .u16 0, .int .u16 0, .slice none 0 0, .int .u8 0, .int .u8 0, .slice none 0 0, .slice none 0 0] 29))) := Kz0.out.trans ((below1 z0 _).mono Kz0.out.size)
      have Xb : Hid (Bx (z0.alloc (.cells #[.int .u8 0, .int .u8 0, .int .u8 0, .int .u8 0, .int .u8 0, .int .u8 0, .int .u8 0, .int .u8 0, .int .u8 0, .int .u8 0, .int .u8 0, .int .u8 0, .int .u8 0, .int .u8 0, .int .u8 0, .int .u8 0, .int .u16 0, .int .u16 0, .slice none 0 0, .int .u8 0, .int .u8 0, .slice none 0 0, .slice none 0 0] 29)) z0.heap.size #[.int .u8 0, .int .u8 0, .int .u8 0, .int .u8 0, .int .u8 0, .int .u8 0, .int .u8 0, .int .u8 0, .int .u8 0, .int .u8 0, .int .u8 0, .int .u8 0, .int .u8 0, .int .u8 0, .int .u8 0, .int .u8 0, .int .u16 0, .int .u16 0, .slice none 0 0, .int .u8 0, .int .u8 0, .slice none 0 0, .slice none 0 0] 29 ∧ y0.heap.size ≤ z0.heap.size) := ⟨one_bxL z0 _ _, Kz0.out.size⟩
      refine ⟨Kz1.out, ?_⟩
      replace hH := Kz1.out
      generalize z0.alloc (.cells #[.int .u8 0, .int .u8 0, .int .u8 0, .int .u8 0, .int .u8 0, .int .u8 0, .int .u8 0, .int .u8 0, .int .u8 0, .int .u8 0, .int .u8 0, .int .u8 0, .int .u8 0, .int .u8 0, .int .u8 0, .int .u8 0, .int .u16 0, .int .u16 0, .slice none 0 0, .int .u8 0, .int .u8 0, .slice none 0 0, .slice none 0 0] 29) = z1 at hH Kz1 Xb  ⊢
      obtain ⟨b, hb⟩ : ∃ x, z0.heap.size = x := ⟨_, rfl⟩
      rw [hb] at Xb 
      rw [hb]
      clear hb
      try simp only [Act.put, List.setIfInBounds_toArray, List.set_cons_zero, List.set_cons_succ]
      refine wpAnyH_ready (rs := [0, 1]) (by kernel_rfl) (by simp) (fun i hi => ?_)
      rcases List.mem_cons.1 hi with rfl | hi
      · clear hi
        refine wpOp_list (o := ⟨some 9, _, _, _, _, _⟩) rfl ?_
        refine at_mkZ 256 (by decide) rfl rfl ?_
        have Kz2 : Hid (Below y0.heap.size y0 (z1.alloc (.cells (rowB (List.replicate 256 0)) 5))) := Kz1.out.trans ((below1 z1 _).mono Kz1.out.size)
        have Xp : Hid (Bx (z1.alloc (.cells (rowB (List.replicate 256 0)) 5)) z1.heap.size (rowB (List.replicate 256 0)) 5 ∧ y0.heap.size ≤ z1.heap.size) := ⟨one_bxL z1 _ _, Kz1.out.size⟩
        replace Xb : Hid (Bx (z1.alloc (.cells (rowB (List.replicate 256 0)) 5)) b #[.int .u8 0, .int .u8 0, .int .u8 0, .int .u8 0, .int .u8 0, .int .u8 0, .int .u8 0, .int .u8 0, .int .u8 0, .int .u8 0, .int .u8 0, .int .u8 0, .int .u8 0, .int .u8 0, .int .u8 0, .int .u8 0, .int .u16 0, .int .u16 0, .slice none 0 0, .int .u8 0, .int .u8 0, .slice none 0 0, .slice none 0 0] 29 ∧ y0.heap.size ≤ b) := ⟨((below1 z1 (.cells (rowB (List.replicate 256 0)) 5)).block b (heap_lt Xb.out.1)).trans Xb.out.1, Xb.out.2⟩
        refine ⟨Kz2.out, ?_⟩
        replace hH := Kz2.out
        generalize z1.alloc (.cells (rowB (List.replicate 256 0)) 5) = z2 at hH Kz2 Xp Xb ⊢
        obtain ⟨p, hp⟩ : ∃ x, z1.heap.size = x := ⟨_, rfl⟩
        rw [hp] at Xp 
        rw [hp]
        clear hp
        try simp only [Act.put, List.setIfInBounds_toArray, List.set_cons_zero, List.set_cons_succ]
        refine wpAnyH_ready (rs := [1]) (by kernel_rfl) (by simp) (fun i hi => ?_)
        obtain rfl := List.mem_singleton.1 hi
        clear hi
        refine wpOp_list (o := ⟨some 10, _, _, _, _, _⟩) rfl ?_
        refine at_mkZ 3232 (by decide) rfl rfl ?_
        have Kz3 : Hid (Below y0.heap.size y0 (z2.alloc (.cells (rowB (List.replicate 3232 0)) 5))) := Kz2.out.trans ((below1 z2 _).mono Kz2.out.size)
        have Xm : Hid (Bx (z2.alloc (.cells (rowB (List.replicate 3232 0)) 5)) z2.heap.size (rowB (List.replicate 3232 0)) 5 ∧ y0.heap.size ≤ z2.heap.size) := ⟨one_bxL z2 _ _, Kz2.out.size⟩
        replace Xb : Hid (Bx (z2.alloc (.cells (rowB (List.replicate 3232 0)) 5)) b #[.int .u8 0, .int .u8 0, .int .u8 0, .int .u8 0, .int .u8 0, .int .u8 0, .int .u8 0, .int .u8 0, .int .u8 0, .int .u8 0, .int .u8 0, .int .u8 0, .int .u8 0, .int .u8 0, .int .u8 0, .int .u8 0, .int .u16 0, .int .u16 0, .slice none 0 0, .int .u8 0, .int .u8 0, .slice none 0 0, .slice none 0 0] 29 ∧ y0.heap.size ≤ b) := ⟨((below1 z2 (.cells (rowB (List.replicate 3232 0)) 5)).block b (heap_lt Xb.out.1)).trans Xb.out.1, Xb.out.2⟩
        have ne0 : Hid (p < z2.heap.size) := heap_lt Xp.out.1
        replace Xp : Hid (Bx (z2.alloc (.cells (rowB (List.replicate 3232 0)) 5)) p (rowB (List.replicate 256 0)) 5 ∧ y0.heap.size ≤ p) := ⟨((below1 z2 (.cells (rowB (List.replicate 3232 0)) 5)).block p (heap_lt Xp.out.1)).trans Xp.out.1, Xp.out.2⟩
        refine ⟨Kz3.out, ?_⟩
        replace hH := Kz3.out
        generalize z2.alloc (.cells (rowB (List.replicate 3232 0)) 5) = z3 at hH Kz3 Xm Xb Xp ⊢
        obtain ⟨m, hm⟩ : ∃ x, z2.heap.size = x := ⟨_, rfl⟩
        rw [hm] at Xm ne0
        rw [hm]
        clear hm
        try simp only [Act.put, List.setIfInBounds_toArray, List.set_cons_zero, List.set_cons_succ]
        refine wpAnyH_take (i := 2) (oi := ⟨some 11, _, _, _, _, _⟩) (v := .agg (gCs (List.replicate 16 0) 0 512 (.slice none 0 0) 0 0 (.slice (some ⟨p, 0, none⟩) 256 256) (.slice (some ⟨m, 0, none⟩) 3232 3232))) rfl (by kernel_rfl) (by kernel_rfl) (by kernel_rfl) (fun _ _ _ h => h) (y_bu #[(2, .const (.int .u16 512)), (6, .tmp 9), (7, .tmp 10)] [(2, .int .u16 512), (6, .slice (some ⟨p, 0, none⟩) 256 256), (7, .slice (some ⟨m, 0, none⟩) 3232 3232)] (gCs (List.replicate 16 0) 0 512 (.slice none 0 0) 0 0 (.slice (some ⟨p, 0, none⟩) 256 256) (.slice (some ⟨m, 0, none⟩) 3232 3232)) (by kernel_rfl) rfl (by kernel_rfl) (built_n p m)) hH ?_
        try simp only [Act.put, List.setIfInBounds_toArray, List.set_cons_zero, List.set_cons_succ]
        refine wpAnyH_ready (rs := [4]) (by kernel_rfl) (by simp) (fun i hi => ?_)
        obtain rfl := List.mem_singleton.1 hi
        clear hi
        refine wpOp_list (o := ⟨none, _, _, _, _, _⟩) rfl ?_
        refine at_st rtG b #[.int .u8 0, .int .u8 0, .int .u8 0, .int .u8 0, .int .u8 0, .int .u8 0, .int .u8 0, .int .u8 0, .int .u8 0, .int .u8 0, .int .u8 0, .int .u8 0, .int .u8 0, .int .u8 0, .int .u8 0, .int .u8 0, .int .u16 0, .int .u16 0, .slice none 0 0, .int .u8 0, .int .u8 0, .slice none 0 0, .slice none 0 0] (gCs (List.replicate 16 0) 0 512 (.slice none 0 0) 0 0 (.slice (some ⟨p, 0, none⟩) 256 256) (.slice (some ⟨m, 0, none⟩) 3232 3232)) Xb.out.1 rfl rfl (gCs_one _ _ _ _ _ _ _ _ _ _ _ _ _ _) (.tmp 4) (.tmp 11) rfl rfl rfl rfl ?_
        intro zE HE
        have KzE : Hid (Below y0.heap.size y0 zE) := Kz3.out.trans (HE.out.2.1 _ Xb.out.2)
        refine ⟨KzE.out, ?_⟩
        refine wpAnyH_done (by kernel_rfl) ?_ _
        try go_wp2
        go_meet
        have np : p ≠ b := Bx.unlike Xp.out.1 Xb.out.1 (by decide)
        have nm : m ≠ b := Bx.unlike Xm.out.1 Xb.out.1 (by decide)
        exact ⟨p, m, b, zE, rfl, rfl, ⟨KzE.out, HE.out.1, (HE.out.2.2 p np).trans Xp.out.1, (HE.out.2.2 m nm).trans Xm.out.1, by have := ne0.out; omega, Xp.out.2, Xm.out.2, Xb.out.2⟩⟩
      · obtain rfl := List.mem_singleton.1 hi
        clear hi
        refine wpOp_list (o := ⟨some 10, _, _, _, _, _⟩) rfl ?_
        refine at_mkZ 3232 (by decide) rfl rfl ?_
        have Kz2 : Hid (Below y0.heap.size y0 (z1.alloc (.cells (rowB (List.replicate 3232 0)) 5))) := Kz1.out.trans ((below1 z1 _).mono Kz1.out.size)
        have Xm : Hid (Bx (z1.alloc (.cells (rowB (List.replicate 3232 0)) 5)) z1.heap.size (rowB (List.replicate 3232 0)) 5 ∧ y0.heap.size ≤ z1.heap.size) := ⟨one_bxL z1 _ _, Kz1.out.size⟩
        replace Xb : Hid (Bx (z1.alloc (.cells (rowB (List.replicate 3232 0)) 5)) b #[.int .u8 0, .int .u8 0, .int .u8 0, .int .u8 0, .int .u8 0, .int .u8 0, .int .u8 0, .int .u8 0, .int .u8 0, .int .u8 0, .int .u8 0, .int .u8 0, .int .u8 0, .int .u8 0, .int .u8 0, .int .u8 0, .int .u16 0, .int .u16 0, .slice none 0 0, .int .u8 0, .int .u8 0, .slice none 0 0, .slice none 0 0] 29 ∧ y0.heap.size ≤ b) := ⟨((below1 z1 (.cells (rowB (List.replicate 3232 0)) 5)).block b (heap_lt Xb.out.1)).trans Xb.out.1, Xb.out.2⟩
        refine ⟨Kz2.out, ?_⟩
        replace hH := Kz2.out
        generalize z1.alloc (.cells (rowB (List.replicate 3232 0)) 5) = z2 at hH Kz2 Xm Xb ⊢
        obtain ⟨m, hm⟩ : ∃ x, z1.heap.size = x := ⟨_, rfl⟩
        rw [hm] at Xm 
        rw [hm]
        clear hm
        try simp only [Act.put, List.setIfInBounds_toArray, List.set_cons_zero, List.set_cons_succ]
        refine wpAnyH_ready (rs := [0]) (by kernel_rfl) (by simp) (fun i hi => ?_)
        obtain rfl := List.mem_singleton.1 hi
        clear hi
        refine wpOp_list (o := ⟨some 9, _, _, _, _, _⟩) rfl ?_
        refine at_mkZ 256 (by decide) rfl rfl ?_
        have Kz3 : Hid (Below y0.heap.size y0 (z2.alloc (.cells (rowB (List.replicate 256 0)) 5))) := Kz2.out.trans ((below1 z2 _).mono Kz2.out.size)
        have Xp : Hid (Bx (z2.alloc (.cells (rowB (List.replicate 256 0)) 5)) z2.heap.size (rowB (List.replicate 256 0)) 5 ∧ y0.heap.size ≤ z2.heap.size) := ⟨one_bxL z2 _ _, Kz2.out.size⟩
        replace Xb : Hid (Bx (z2.alloc (.cells (rowB (List.replicate 256 0)) 5)) b #[.int .u8 0, .int .u8 0, .int .u8 0, .int .u8 0, .int .u8 0, .int .u8 0, .int .u8 0, .int .u8 0, .int .u8 0, .int .u8 0, .int .u8 0, .int .u8 0, .int .u8 0, .int .u8 0, .int .u8 0, .int .u8 0, .int .u16 0, .int .u16 0, .slice none 0 0, .int .u8 0, .int .u8 0, .slice none 0 0, .slice none 0 0] 29 ∧ y0.heap.size ≤ b) := ⟨((below1 z2 (.cells (rowB (List.replicate 256 0)) 5)).block b (heap_lt Xb.out.1)).trans Xb.out.1, Xb.out.2⟩
        have ne0 : Hid (m < z2.heap.size) := heap_lt Xm.out.1
        replace Xm : Hid (Bx (z2.alloc (.cells (rowB (List.replicate 256 0)) 5)) m (rowB (List.replicate 3232 0)) 5 ∧ y0.heap.size ≤ m) := ⟨((below1 z2 (.cells (rowB (List.replicate 256 0)) 5)).block m (heap_lt Xm.out.1)).trans Xm.out.1, Xm.out.2⟩
        refine ⟨Kz3.out, ?_⟩
        replace hH := Kz3.out
        generalize z2.alloc (.cells (rowB (List.replicate 256 0)) 5) = z3 at hH Kz3 Xp Xb Xm ⊢
        obtain ⟨p, hp⟩ : ∃ x, z2.heap.size = x := ⟨_, rfl⟩
        rw [hp] at Xp ne0
        rw [hp]
        clear hp
        try simp only [Act.put, List.setIfInBounds_toArray, List.set_cons_zero, List.set_cons_succ]
        refine wpAnyH_take (i := 2) (oi := ⟨some 11, _, _, _, _, _⟩) (v := .agg (gCs (List.replicate 16 0) 0 512 (.slice none 0 0) 0 0 (.slice (some ⟨p, 0, none⟩) 256 256) (.slice (some ⟨m, 0, none⟩) 3232 3232))) rfl (by kernel_rfl) (by kernel_rfl) (by kernel_rfl) (fun _ _ _ h => h) (y_bu #[(2, .const (.int .u16 512)), (6, .tmp 9), (7, .tmp 10)] [(2, .int .u16 512), (6, .slice (some ⟨p, 0, none⟩) 256 256), (7, .slice (some ⟨m, 0, none⟩) 3232 3232)] (gCs (List.replicate 16 0) 0 512 (.slice none 0 0) 0 0 (.slice (some ⟨p, 0, none⟩) 256 256) (.slice (some ⟨m, 0, none⟩) 3232 3232)) (by kernel_rfl) rfl (by kernel_rfl) (built_n p m)) hH ?_
        try simp only [Act.put, List.setIfInBounds_toArray, List.set_cons_zero, List.set_cons_succ]
        refine wpAnyH_ready (rs := [4]) (by kernel_rfl) (by simp) (fun i hi => ?_)
        obtain rfl := List.mem_singleton.1 hi
        clear hi
        refine wpOp_list (o := ⟨none, _, _, _, _, _⟩) rfl ?_
        refine at_st rtG b #[.int .u8 0, .int .u8 0, .int .u8 0, .int .u8 0, .int .u8 0, .int .u8 0, .int .u8 0, .int .u8 0, .int .u8 0, .int .u8 0, .int .u8 0, .int .u8 0, .int .u8 0, .int .u8 0, .int .u8 0, .int .u8 0, .int .u16 0, .int .u16 0, .slice none 0 0, .int .u8 0, .int .u8 0, .slice none 0 0, .slice none 0 0] (gCs (List.replicate 16 0) 0 512 (.slice none 0 0) 0 0 (.slice (some ⟨p, 0, none⟩) 256 256) (.slice (some ⟨m, 0, none⟩) 3232 3232)) Xb.out.1 rfl rfl (gCs_one _ _ _ _ _ _ _ _ _ _ _ _ _ _) (.tmp 4) (.tmp 11) rfl rfl rfl rfl ?_
        intro zE HE
        have KzE : Hid (Below y0.heap.size y0 zE) := Kz3.out.trans (HE.out.2.1 _ Xb.out.2)
        refine ⟨KzE.out, ?_⟩
        refine wpAnyH_done (by kernel_rfl) ?_ _
        try go_wp2
        go_meet
        have np : p ≠ b := Bx.unlike Xp.out.1 Xb.out.1 (by decide)
        have nm : m ≠ b := Bx.unlike Xm.out.1 Xb.out.1 (by decide)
        exact ⟨p, m, b, zE, rfl, rfl, ⟨KzE.out, HE.out.1, (HE.out.2.2 p np).trans Xp.out.1, (HE.out.2.2 m nm).trans Xm.out.1, by have := ne0.out; omega, Xp.out.2, Xm.out.2, Xb.out.2⟩⟩
  case rest =>
    obtain ⟨p, m, b, y1, rfl, rfl, K1⟩ := hcut
    have cC : Hid (Bx y1 b (gCs (List.replicate 16 0) 0 512 (.slice none 0 0) 0 0 (.slice (some ⟨p, 0, none⟩) 256 256) (.slice (some ⟨m, 0, none⟩) 3232 3232)) 29) := K1.out.2.1
    obtain ⟨CC, hCC⟩ : ∃ x, Hid (x = (gCs (List.replicate 16 0) 0 512 (.slice none 0 0) 0 0 (.slice (some ⟨p, 0, none⟩) 256 256) (.slice (some ⟨m, 0, none⟩) 3232 3232))) := ⟨_, (rfl : (gCs (List.replicate 16 0) 0 512 (.slice none 0 0) 0 0 (.slice (some ⟨p, 0, none⟩) 256 256) (.slice (some ⟨m, 0, none⟩) 3232 3232)) = _)⟩
    have c22 := cC.out.c 22 (.slice (some ⟨m, 0, none⟩) 3232 3232) rfl
    have zC : Hid (CC.size = 23 ∧ CC.all (·.oneCell') = true) := by rw [hCC.out]; exact ⟨rfl, gCs_one _ _ _ _ _ _ _ _ _ _ _ _ _ _⟩
    rw [← hCC.out] at cC
    go_wp2_with (first
      | ((with_reducible refine at_copyN ?_ (.tmp 13) (.tmp 14) ?_ m 3232 3232 sp n cap ?_ ?_ ?_ l ?_ ?_ ?_ ?_); rfl; rfl; rfl; rfl; exact K1.out.2.2.2.1; exact hln'.out.1; exact hln'.out.2; exact hl.out.below (K0.out.1.below K1.out.1).low; intro y2 H2; have K2 : Hid (Bx y2 b CC 29 ∧ Bx y2 p (rowB (List.replicate 256 0)) 5 ∧ Bx y2 m (rowB (l ++ List.replicate (3232 - n) 0)) 5 ∧ Below y0.heap.size y0 y2) := ⟨(H2.out.2.2 b (by have := Bx.unlike cC.out K1.out.2.2.2.1 (by decide); exact this)).trans cC.out, (H2.out.2.2 p K1.out.2.2.2.2.1).trans K1.out.2.2.1, H2.out.1, K1.out.1.trans (H2.out.2.1 _ K1.out.2.2.2.2.2.2.1)⟩; clear H2 c22)
      | ((with_reducible refine at_load rtG b CC ?_ ?_ (.tmp 4) ?_ ?_ ?_ ?_); exact K2.out.1; exact zC.out.1; kernel_rfl; rfl; rfl)
      | ((with_reducible refine at_st rtG w.heap.size Z CC ?_ ?_ ?_ ?_ (.tmp 2) (.tmp 16) ?_ ?_ ?_ ?_ ?_); exact (K0.out.1.below K2.out.2.2.2).bx 0 _ _ _ rfl; exact hZ'.out; exact zC.out.1; exact zC.out.2; rfl; rfl; rfl; rfl; intro yE HE; have KE : Hid (Bx yE w.heap.size CC 29 ∧ Bx yE p (rowB (List.replicate 256 0)) 5 ∧ Bx yE m (rowB (l ++ List.replicate (3232 - n) 0)) 5 ∧ Below w.heap.size w yE) := (by have h0 := K0.out.2; have h1 := K1.out.2.2.2.2.2.1; have h2 := K1.out.2.2.2.2.2.2.1; exact ⟨HE.out.1, (HE.out.2.2 p (by omega)).trans K2.out.2.1, (HE.out.2.2 m (by omega)).trans K2.out.2.2.1, (K0.out.1.below K2.out.2.2.2).low.trans (HE.out.2.1 _ (Nat.le_refl _))⟩)))
    refine ret_two rtG rfl rfl rfl KE.out.1 zC.out.1 rfl ⟨CC, rfl, ⟨⟨⟨.slice none 0 0, .slice (some ⟨p, 0, none⟩) 256 256, .slice (some ⟨m, 0, none⟩) 3232 3232, hCC.out, OwnL.nil _ _, ?_, ?_, ?_⟩, ⟨rfl, by show 0 < 65536; decide, by show 512 < 65536; decide, by simp [newG]⟩⟩, KE.out.2.2.2⟩⟩
    · have := own_of_bx (B := w.heap.size) KE.out.2.1 (by have h0 := K0.out.2; have h1 := K1.out.2.2.2.2.2.1; omega) (by rw [List.length_replicate]; decide)
      rw [List.length_replicate] at this
      exact this
    · have hl3 : (l ++ List.replicate (3232 - n) (0 : UInt8)).length = 3232 := by rw [List.length_append, List.length_replicate, hln'.out.1]; have := hln'.out.2; omega
      have := own_of_bx (B := w.heap.size) KE.out.2.2.1 (by have h0 := K0.out.2; have h1 := K1.out.2.2.2.2.2.2.1; omega) (by rw [hl3]; decide)
      rw [hl3] at this
      have e2 : (newG l).me = l ++ List.replicate (3232 - n) 0 := by show l ++ List.replicate (3232 - l.length) 0 = _; rw [hln'.out.1]
      rw [e2]
      exact this
    · intro q hq hq2
      have e1 : p = q := by simpa [Value.ownBlock] using hq
      have e2 : m = q := by simpa [Value.ownBlock] using hq2
      exact K1.out.2.2.2.2.1 (e1.trans e2.symm)

/-- A machine of its own stays where another block is written. -/
theorem GO.cu {B B' : Nat} {F : Nat → Nat → Prop} {w y : World} {C : Array Value} {g : Gm} (h : GO B w C g) (u : CuL B' F w y) (hF : ∀ q, ownG C q → ∀ j, ¬ F q j) : GO B y C g := by
  obtain ⟨⟨vS, vP, vM, e, h1, h2, h3, h4⟩, ok⟩ := h
  have k18 : C[18]? = some vS := by rw [e]; rfl
  have k21 : C[21]? = some vP := by rw [e]; rfl
  have k22 : C[22]? = some vM := by rw [e]; rfl
  exact ⟨⟨vS, vP, vM, e, h1.keepB fun q e1 => u.blk q (h1.lt q e1).2 fun j => hF q ⟨18, vS, .inl rfl, k18, e1⟩ j, h2.keepB fun q e1 => u.blk q (h2.lt q e1).2 fun j => hF q ⟨21, vP, .inr (.inl rfl), k21, e1⟩ j, h3.keepB fun q e1 => u.blk q (h3.lt q e1).2 fun j => hF q ⟨22, vM, .inr (.inr rfl), k22, e1⟩ j, h4⟩, ok⟩
theorem GO.own {B : Nat} {w : World} {C : Array Value} {g : Gm} (h : GO B w C g) {q : Nat} (hq : ownG C q) : B ≤ q ∧ q < w.heap.size := by
  obtain ⟨⟨vS, vP, vM, e, h1, h2, h3, h4⟩, ok⟩ := h
  obtain ⟨i, v, hi, hv, ho⟩ := hq
  rw [e] at hv
  rcases hi with rfl | rfl | rfl
  · have : vS = v := Option.some.inj hv
    subst this
    exact h1.lt q ho
  · have : vP = v := Option.some.inj hv
    subst this
    exact h2.lt q ho
  · have : vM = v := Option.some.inj hv
    subst this
    exact h3.lt q ho
theorem lentN (w : World) (sp : Option Addr) (cap : Nat) (l : List UInt8) (n : Nat) (e : l.length = n) (hl : Hid (LB w sp l)) (hn : n ≤ 2147483647) :
    Calls Try.prog 5 #[.slice sp n cap] w fun e w' => e = .returned (.slice (some ⟨w.heap.size, 0, none⟩) n (n + 3)) ∧ Hid (Bx w' w.heap.size (rowB (mk3 l)) 5 ∧ Below w.heap.size w w') := by
  subst e
  exact lent18_any w sp cap l hl hn
theorem keptN (y : World) (B g cap : Nat) (sp : Option Addr) (l : List UInt8) (n : Nat) (e : l.length = n) (hBg : B ≤ g) (hbx : Bx y g (rowB (mk3 l)) 5) (hl : ∀ u, CuL B (fun q _ => q = g) y u → LB u sp l) (hn : n ≤ 2147483647) :
    Calls Try.prog 7 #[.slice (some ⟨g, 0, none⟩) n (n + 3), .slice sp n cap] y fun e w' => e = .returned (.bool true) ∧ Hid (CuL B (fun q _ => q = g) y w') := by
  subst e
  exact kept18_any y B g cap sp l hBg hbx hl hn
theorem lent_lb {w : World} {g : Nat} {l : List UInt8} {n : Nat} (h : Bx w g (rowB (mk3 l)) 5) (e : l.length = n) (hn : n ≤ 2147483647) : LB w (some ⟨g, 0, none⟩) l := by
  obtain ⟨sp, c, e0, h2, _⟩ := OwnL.open kByte.len (own_of_bx h (Nat.le_refl _) (by rw [mk3_len]; unfold maxLen; omega))
  injection e0 with e0 _ _
  subst e0
  intro j a hj
  have hjl := (List.getElem?_eq_some_iff.1 hj).1
  obtain ⟨gb, ob, e1, k⟩ := h2 j a (by unfold mk3; rw [List.getElem?_append_left hjl]; exact hj)
  exact ⟨gb, ob, e1, k⟩
theorem lb_keepN {w y u : World} {sp : Option Addr} {l : List UInt8} {B g : Nat} (h : LB w sp l) (hb : Below w.heap.size w y) (hu : CuL B (fun q _ => q = g) y u) (hg : w.heap.size ≤ g) : LB u sp l := fun j a hj => by
  obtain ⟨gb, ob, e1, k⟩ := h j a hj
  refine ⟨gb, ob, e1, fun i v hv => ?_⟩
  have c := k i v hv
  have hlt : gb < w.heap.size := World.block_lt_of_cell? w _ c
  have c2 := (hb.cell (p := ⟨gb, _, none⟩) hlt).trans c
  exact (hu.cell gb _ (World.block_lt_of_cell? y _ c2) (by omega)).trans c2
theorem keepK6 {w y z : World} {b g : Nat} {C1 cs : Array Value} {G : Gm} (hf : Fm w [(b, C1, 29)] y) (hG : GO w.heap.size y C1 G) (hx : Bx y g cs 5) (hn : ∀ q, ownG C1 q → q ≠ g) (u : CuL w.heap.size (fun q _ => q = g) y z) : Fm w [(b, C1, 29)] z ∧ GO w.heap.size z C1 G := by
  refine ⟨⟨fun i b' c t e => ?_, hf.ge, hf.ne, hf.low.trans u.low⟩, hG.cu u fun q hq j e => hn q hq e⟩
  have h0 := hf.get i b' c t e
  have ht : t = 29 := by
    match i with
    | 0 => simp at e; exact e.2.2.symm
    | i + 1 => simp at e
  exact (u.blk b' (heap_lt h0) fun j e2 => Bx.unlike (show Bx y b' c t from h0) hx (by rw [ht]; decide) e2).trans h0
theorem new_walkL (w : World) (sp : Option Addr) (cap n : Nat) (l : List UInt8) (hl : Hid (LB w sp l)) (hln : Hid (l.length = n)) (hn : n ≤ 2147483647) (h3 : 3232 < n) :
    Calls Try.prog 3 #[.slice sp n cap] w fun e w' => e = .returned (.bool true) ∧ Below w.heap.size w w' := by
  have hni : (n : Int) ≤ 2147483647 := by omega
  have q0 : decide ((2147483647 : Int) < (n : Int)) = false := by simp; omega
  have hn' : Hid (n ≤ 2147483647) := hn
  have h3' : Hid (3232 < n) := h3
  clear h3
  have hsm : Hid (decide (gz = gz) = true) := decide_eq_true rfl
  have hst : Hid ((gz).st.length ≤ 4000000000) := by show 0 ≤ 4000000000; decide
  clear hn
  go_enter Try.func3, Try.ntmps3
  go_wp2_with (first
    | (go_at_call 10; refine (spread_any y10 w.heap.size C1 gz K10.out.2 (K10.out.1.low.size : w.heap.size ≤ y10.heap.size)).mono ?_; rintro e y11 ⟨rfl, H⟩; have K11 : Hid (Below w.heap.size w y11) := K10.out.1.low.trans H.out.low)
    | (go_at_call 9; refine (rsame_any y9 C1 C2 gz gz K9.out.2.1.lies K9.out.2.2.lies hst.out hst.out).mono ?_; rintro e y10 ⟨rfl, H⟩; have K10 : Hid (Fm w [(y3.heap.size, C1, 29), (y7.heap.size, C2, 29)] y10 ∧ GO w.heap.size y10 C1 gz) := ⟨K9.out.1.below H, K9.out.2.1.below H⟩; (try rw [hsm.out]); clear H)
    | ((with_reducible refine at_st rtG y7.heap.size #[.int .u8 0, .int .u8 0, .int .u8 0, .int .u8 0, .int .u8 0, .int .u8 0, .int .u8 0, .int .u8 0, .int .u8 0, .int .u8 0, .int .u8 0, .int .u8 0, .int .u8 0, .int .u8 0, .int .u8 0, .int .u8 0, .int .u16 0, .int .u16 0, .slice none 0 0, .int .u8 0, .int .u8 0, .slice none 0 0, .slice none 0 0] C2 ?_ ?_ ?_ ?_ (.tmp 8) (.tmp 29) ?_ ?_ ?_ ?_ ?_); exact K8.out.1.bx 1 _ _ _ rfl; rfl; exact K8.out.2.2.lies.size.1; exact K8.out.2.2.lies.size.2.1; rfl; rfl; rfl; rfl; intro y9 H9; have K9 : Hid (Fm w [(y3.heap.size, C1, 29), (y7.heap.size, C2, 29)] y9 ∧ GO w.heap.size y9 C1 gz ∧ GO w.heap.size y9 C2 gz) := ⟨K8.out.1.put 1 _ _ _ _ rfl H9.out, K8.out.2.1.offT (K8.out.1.bx 1 _ _ _ rfl) (by decide) (by decide) H9.out.2.2, K8.out.2.2.offT (K8.out.1.bx 1 _ _ _ rfl) (by decide) (by decide) H9.out.2.2⟩; clear H9)
    | ((with_reducible refine gen_world (y7.alloc (.cells #[.int .u8 0, .int .u8 0, .int .u8 0, .int .u8 0, .int .u8 0, .int .u8 0, .int .u8 0, .int .u8 0, .int .u8 0, .int .u8 0, .int .u8 0, .int .u8 0, .int .u8 0, .int .u8 0, .int .u8 0, .int .u8 0, .int .u16 0, .int .u16 0, .slice none 0 0, .int .u8 0, .int .u8 0, .slice none 0 0, .slice none 0 0] 29)) (fun y => Fm w [(y3.heap.size, C1, 29), (y7.heap.size, #[.int .u8 0, .int .u8 0, .int .u8 0, .int .u8 0, .int .u8 0, .int .u8 0, .int .u8 0, .int .u8 0, .int .u8 0, .int .u8 0, .int .u8 0, .int .u8 0, .int .u8 0, .int .u8 0, .int .u8 0, .int .u8 0, .int .u16 0, .int .u16 0, .slice none 0 0, .int .u8 0, .int .u8 0, .slice none 0 0, .slice none 0 0], 29)] y ∧ GO w.heap.size y C1 gz ∧ GO w.heap.size y C2 gz) ?_ ?_); (exact ⟨K7.out.1.new _ _, K7.out.2.1.below (below1 y7 _), K7.out.2.2.below (below1 y7 _)⟩); intro y8 K8)
    | (go_at_call 8; refine (rnew_long y6 sp n cap h3'.out).mono ?_; rintro e y7 ⟨C2, rfl, H⟩; have K7 : Hid (Fm w [(y3.heap.size, C1, 29)] y7 ∧ GO w.heap.size y7 C1 gz ∧ GO w.heap.size y7 C2 gz) := ⟨K6.out.1.below H.out.2, K6.out.2.below H.out.2, H.out.1.weak K6.out.1.low.size⟩; clear H)
    | (go_at_call 7; refine (keptN y5 w.heap.size y1.heap.size cap sp l n hln.out K5.out.2.2.2 K5.out.2.2.1 (fun u hu => lb_keepN hl.out K5.out.1.low hu K5.out.2.2.2) hn'.out).mono ?_; rintro e y6 ⟨rfl, H⟩; have K6 : Hid (Fm w [(y3.heap.size, C1, 29)] y6 ∧ GO w.heap.size y6 C1 gz) := (keepK6 K5.out.1 K5.out.2.1 K5.out.2.2.1 K3n.out H.out); clear H)
    | ((with_reducible refine at_st rtG y3.heap.size #[.int .u8 0, .int .u8 0, .int .u8 0, .int .u8 0, .int .u8 0, .int .u8 0, .int .u8 0, .int .u8 0, .int .u8 0, .int .u8 0, .int .u8 0, .int .u8 0, .int .u8 0, .int .u8 0, .int .u8 0, .int .u8 0, .int .u16 0, .int .u16 0, .slice none 0 0, .int .u8 0, .int .u8 0, .slice none 0 0, .slice none 0 0] C1 ?_ ?_ ?_ ?_ (.tmp 5) (.tmp 21) ?_ ?_ ?_ ?_ ?_); exact K4.out.1.bx 0 _ _ _ rfl; rfl; exact K4.out.2.1.lies.size.1; exact K4.out.2.1.lies.size.2.1; rfl; rfl; rfl; rfl; intro y5 H5; have K5 : Hid (Fm w [(y3.heap.size, C1, 29)] y5 ∧ GO w.heap.size y5 C1 gz ∧ Bx y5 y1.heap.size (rowB (mk3 l)) 5 ∧ w.heap.size ≤ y1.heap.size) := ⟨K4.out.1.put 0 _ _ _ _ rfl H5.out, K4.out.2.1.offT (K4.out.1.bx 0 _ _ _ rfl) (by decide) (by decide) H5.out.2.2, (H5.out.2.2 _ (Bx.unlike K4.out.2.2.1 (K4.out.1.bx 0 _ _ _ rfl) (by decide))).trans K4.out.2.2.1, K4.out.2.2.2⟩; clear H5)
    | ((with_reducible refine gen_world (y3.alloc (.cells #[.int .u8 0, .int .u8 0, .int .u8 0, .int .u8 0, .int .u8 0, .int .u8 0, .int .u8 0, .int .u8 0, .int .u8 0, .int .u8 0, .int .u8 0, .int .u8 0, .int .u8 0, .int .u8 0, .int .u8 0, .int .u8 0, .int .u16 0, .int .u16 0, .slice none 0 0, .int .u8 0, .int .u8 0, .slice none 0 0, .slice none 0 0] 29)) (fun y => Fm w [(y3.heap.size, #[.int .u8 0, .int .u8 0, .int .u8 0, .int .u8 0, .int .u8 0, .int .u8 0, .int .u8 0, .int .u8 0, .int .u8 0, .int .u8 0, .int .u8 0, .int .u8 0, .int .u8 0, .int .u8 0, .int .u8 0, .int .u8 0, .int .u16 0, .int .u16 0, .slice none 0 0, .int .u8 0, .int .u8 0, .slice none 0 0, .slice none 0 0], 29)] y ∧ GO w.heap.size y C1 gz ∧ Bx y y1.heap.size (rowB (mk3 l)) 5 ∧ w.heap.size ≤ y1.heap.size) ?_ ?_); (exact ⟨(by have := K3.out.1.new (#[.int .u8 0, .int .u8 0, .int .u8 0, .int .u8 0, .int .u8 0, .int .u8 0, .int .u8 0, .int .u8 0, .int .u8 0, .int .u8 0, .int .u8 0, .int .u8 0, .int .u8 0, .int .u8 0, .int .u8 0, .int .u8 0, .int .u16 0, .int .u16 0, .slice none 0 0, .int .u8 0, .int .u8 0, .slice none 0 0, .slice none 0 0]) 29; exact this), K3.out.2.1.below (below1 y3 _), ((below1 y3 _).block _ (heap_lt K3.out.2.2.1)).trans K3.out.2.2.1, K3.out.2.2.2⟩); intro y4 K4)
    | (go_at_call 6; refine (new_long y2 (some ⟨y1.heap.size, 0, none⟩) n (n + 3) h3'.out).mono ?_; rintro e y3 ⟨C1, rfl, H⟩; have K3n : Hid (∀ q, ownG C1 q → q ≠ y1.heap.size) := (fun q hq e => by have h1 := (H.out.1.own hq).1; have h2 := heap_lt K2.out.2.1; omega); have K3 : Hid (Fm w [] y3 ∧ GO w.heap.size y3 C1 gz ∧ Bx y3 y1.heap.size (rowB (mk3 l)) 5 ∧ w.heap.size ≤ y1.heap.size) := ⟨K2.out.1.below H.out.2, H.out.1.weak K2.out.1.low.size, (H.out.2.block _ (heap_lt K2.out.2.1)).trans K2.out.2.1, K2.out.2.2⟩; clear H)
    | (go_at_call 5; refine (lentN y1 sp cap l n hln.out (hl.out.below K1.out.low) hn'.out).mono ?_; rintro e y2 ⟨rfl, H⟩; have K2 : Hid (Fm w [] y2 ∧ Bx y2 y1.heap.size (rowB (mk3 l)) 5 ∧ w.heap.size ≤ y1.heap.size) := ⟨K1.out.below H.out.2, H.out.1, K1.out.low.size⟩; clear H)
    | (go_at_call 4; refine (awake_any w).mono ?_; rintro e y1 ⟨rfl, H⟩; have K1 : Hid (Fm w [] y1) := (Fm.nil w).below H; clear H)
    | ((with_reducible refine at_load rtG y3.heap.size C1 ?_ ?_ (.tmp 5) ?_ ?_ ?_ ?_); (first | exact K10.out.1.bx 0 _ _ _ rfl | exact K9.out.1.bx 0 _ _ _ rfl); (first | exact K10.out.2.lies.size.1 | exact K9.out.2.1.lies.size.1); kernel_rfl; rfl; rfl)
    | ((with_reducible refine at_load rtG y7.heap.size C2 ?_ ?_ (.tmp 8) ?_ ?_ ?_ ?_); exact K9.out.1.bx 1 _ _ _ rfl; exact K9.out.2.2.lies.size.1; kernel_rfl; rfl; rfl))
  go_ret
  exact ⟨rfl, K11.out⟩
theorem new_walkF (w : World) (sp : Option Addr) (cap n : Nat) (l : List UInt8) (hl : Hid (LB w sp l)) (hln : Hid (l.length = n)) (hn : n ≤ 2147483647) (h3 : n ≤ 3232) :
    Calls Try.prog 3 #[.slice sp n cap] w fun e w' => e = .returned (.bool true) ∧ Below w.heap.size w w' := by
  have hni : (n : Int) ≤ 2147483647 := by omega
  have q0 : decide ((2147483647 : Int) < (n : Int)) = false := by simp; omega
  have hn' : Hid (n ≤ 2147483647) := hn
  have h3' : Hid (n ≤ 3232) := h3
  clear h3
  have hsm : Hid (decide ((newG l) = (newG l)) = true) := decide_eq_true rfl
  have hst : Hid (((newG l)).st.length ≤ 4000000000) := by show 0 ≤ 4000000000; decide
  clear hn
  go_enter Try.func3, Try.ntmps3
  go_wp2_with (first
    | (go_at_call 10; refine (spread_any y10 w.heap.size C1 (newG l) K10.out.2 (K10.out.1.low.size : w.heap.size ≤ y10.heap.size)).mono ?_; rintro e y11 ⟨rfl, H⟩; have K11 : Hid (Below w.heap.size w y11) := K10.out.1.low.trans H.out.low)
    | (go_at_call 9; refine (rsame_any y9 C1 C2 (newG l) (newG l) K9.out.2.1.lies K9.out.2.2.lies hst.out hst.out).mono ?_; rintro e y10 ⟨rfl, H⟩; have K10 : Hid (Fm w [(y3.heap.size, C1, 29), (y7.heap.size, C2, 29)] y10 ∧ GO w.heap.size y10 C1 (newG l)) := ⟨K9.out.1.below H, K9.out.2.1.below H⟩; (try rw [hsm.out]); clear H)
    | ((with_reducible refine at_st rtG y7.heap.size #[.int .u8 0, .int .u8 0, .int .u8 0, .int .u8 0, .int .u8 0, .int .u8 0, .int .u8 0, .int .u8 0, .int .u8 0, .int .u8 0, .int .u8 0, .int .u8 0, .int .u8 0, .int .u8 0, .int .u8 0, .int .u8 0, .int .u16 0, .int .u16 0, .slice none 0 0, .int .u8 0, .int .u8 0, .slice none 0 0, .slice none 0 0] C2 ?_ ?_ ?_ ?_ (.tmp 8) (.tmp 29) ?_ ?_ ?_ ?_ ?_); exact K8.out.1.bx 1 _ _ _ rfl; rfl; exact K8.out.2.2.lies.size.1; exact K8.out.2.2.lies.size.2.1; rfl; rfl; rfl; rfl; intro y9 H9; have K9 : Hid (Fm w [(y3.heap.size, C1, 29), (y7.heap.size, C2, 29)] y9 ∧ GO w.heap.size y9 C1 (newG l) ∧ GO w.heap.size y9 C2 (newG l)) := ⟨K8.out.1.put 1 _ _ _ _ rfl H9.out, K8.out.2.1.offT (K8.out.1.bx 1 _ _ _ rfl) (by decide) (by decide) H9.out.2.2, K8.out.2.2.offT (K8.out.1.bx 1 _ _ _ rfl) (by decide) (by decide) H9.out.2.2⟩; clear H9)
    | ((with_reducible refine gen_world (y7.alloc (.cells #[.int .u8 0, .int .u8 0, .int .u8 0, .int .u8 0, .int .u8 0, .int .u8 0, .int .u8 0, .int .u8 0, .int .u8 0, .int .u8 0, .int .u8 0, .int .u8 0, .int .u8 0, .int .u8 0, .int .u8 0, .int .u8 0, .int .u16 0, .int .u16 0, .slice none 0 0, .int .u8 0, .int .u8 0, .slice none 0 0, .slice none 0 0] 29)) (fun y => Fm w [(y3.heap.size, C1, 29), (y7.heap.size, #[.int .u8 0, .int .u8 0, .int .u8 0, .int .u8 0, .int .u8 0, .int .u8 0, .int .u8 0, .int .u8 0, .int .u8 0, .int .u8 0, .int .u8 0, .int .u8 0, .int .u8 0, .int .u8 0, .int .u8 0, .int .u8 0, .int .u16 0, .int .u16 0, .slice none 0 0, .int .u8 0, .int .u8 0, .slice none 0 0, .slice none 0 0], 29)] y ∧ GO w.heap.size y C1 (newG l) ∧ GO w.heap.size y C2 (newG l)) ?_ ?_); (exact ⟨K7.out.1.new _ _, K7.out.2.1.below (below1 y7 _), K7.out.2.2.below (below1 y7 _)⟩); intro y8 K8)
    | (go_at_call 8; refine (rnew_fit y6 sp cap n l (hl.out.below K6.out.1.low) hln.out h3'.out).mono ?_; rintro e y7 ⟨C2, rfl, H⟩; have K7 : Hid (Fm w [(y3.heap.size, C1, 29)] y7 ∧ GO w.heap.size y7 C1 (newG l) ∧ GO w.heap.size y7 C2 (newG l)) := ⟨K6.out.1.below H.out.2, K6.out.2.below H.out.2, H.out.1.weak K6.out.1.low.size⟩; clear H)
    | (go_at_call 7; refine (keptN y5 w.heap.size y1.heap.size cap sp l n hln.out K5.out.2.2.2 K5.out.2.2.1 (fun u hu => lb_keepN hl.out K5.out.1.low hu K5.out.2.2.2) hn'.out).mono ?_; rintro e y6 ⟨rfl, H⟩; have K6 : Hid (Fm w [(y3.heap.size, C1, 29)] y6 ∧ GO w.heap.size y6 C1 (newG l)) := (keepK6 K5.out.1 K5.out.2.1 K5.out.2.2.1 K3n.out H.out); clear H)
    | ((with_reducible refine at_st rtG y3.heap.size #[.int .u8 0, .int .u8 0, .int .u8 0, .int .u8 0, .int .u8 0, .int .u8 0, .int .u8 0, .int .u8 0, .int .u8 0, .int .u8 0, .int .u8 0, .int .u8 0, .int .u8 0, .int .u8 0, .int .u8 0, .int .u8 0, .int .u16 0, .int .u16 0, .slice none 0 0, .int .u8 0, .int .u8 0, .slice none 0 0, .slice none 0 0] C1 ?_ ?_ ?_ ?_ (.tmp 5) (.tmp 21) ?_ ?_ ?_ ?_ ?_); exact K4.out.1.bx 0 _ _ _ rfl; rfl; exact K4.out.2.1.lies.size.1; exact K4.out.2.1.lies.size.2.1; rfl; rfl; rfl; rfl; intro y5 H5; have K5 : Hid (Fm w [(y3.heap.size, C1, 29)] y5 ∧ GO w.heap.size y5 C1 (newG l) ∧ Bx y5 y1.heap.size (rowB (mk3 l)) 5 ∧ w.heap.size ≤ y1.heap.size) := ⟨K4.out.1.put 0 _ _ _ _ rfl H5.out, K4.out.2.1.offT (K4.out.1.bx 0 _ _ _ rfl) (by decide) (by decide) H5.out.2.2, (H5.out.2.2 _ (Bx.unlike K4.out.2.2.1 (K4.out.1.bx 0 _ _ _ rfl) (by decide))).trans K4.out.2.2.1, K4.out.2.2.2⟩; clear H5)
    | ((with_reducible refine gen_world (y3.alloc (.cells #[.int .u8 0, .int .u8 0, .int .u8 0, .int .u8 0, .int .u8 0, .int .u8 0, .int .u8 0, .int .u8 0, .int .u8 0, .int .u8 0, .int .u8 0, .int .u8 0, .int .u8 0, .int .u8 0, .int .u8 0, .int .u8 0, .int .u16 0, .int .u16 0, .slice none 0 0, .int .u8 0, .int .u8 0, .slice none 0 0, .slice none 0 0] 29)) (fun y => Fm w [(y3.heap.size, #[.int .u8 0, .int .u8 0, .int .u8 0, .int .u8 0, .int .u8 0, .int .u8 0, .int .u8 0, .int .u8 0, .int .u8 0, .int .u8 0, .int .u8 0, .int .u8 0, .int .u8 0, .int .u8 0, .int .u8 0, .int .u8 0, .int .u16 0, .int .u16 0, .slice none 0 0, .int .u8 0, .int .u8 0, .slice none 0 0, .slice none 0 0], 29)] y ∧ GO w.heap.size y C1 (newG l) ∧ Bx y y1.heap.size (rowB (mk3 l)) 5 ∧ w.heap.size ≤ y1.heap.size) ?_ ?_); (exact ⟨(by have := K3.out.1.new (#[.int .u8 0, .int .u8 0, .int .u8 0, .int .u8 0, .int .u8 0, .int .u8 0, .int .u8 0, .int .u8 0, .int .u8 0, .int .u8 0, .int .u8 0, .int .u8 0, .int .u8 0, .int .u8 0, .int .u8 0, .int .u8 0, .int .u16 0, .int .u16 0, .slice none 0 0, .int .u8 0, .int .u8 0, .slice none 0 0, .slice none 0 0]) 29; exact this), K3.out.2.1.below (below1 y3 _), ((below1 y3 _).block _ (heap_lt K3.out.2.2.1)).trans K3.out.2.2.1, K3.out.2.2.2⟩); intro y4 K4)
    | (go_at_call 6; refine (new_fit y2 (some ⟨y1.heap.size, 0, none⟩) (n + 3) n l (lent_lb K2.out.2.1 hln.out hn'.out) hln.out h3'.out).mono ?_; rintro e y3 ⟨C1, rfl, H⟩; have K3n : Hid (∀ q, ownG C1 q → q ≠ y1.heap.size) := (fun q hq e => by have h1 := (H.out.1.own hq).1; have h2 := heap_lt K2.out.2.1; omega); have K3 : Hid (Fm w [] y3 ∧ GO w.heap.size y3 C1 (newG l) ∧ Bx y3 y1.heap.size (rowB (mk3 l)) 5 ∧ w.heap.size ≤ y1.heap.size) := ⟨K2.out.1.below H.out.2, H.out.1.weak K2.out.1.low.size, (H.out.2.block _ (heap_lt K2.out.2.1)).trans K2.out.2.1, K2.out.2.2⟩; clear H)
    | (go_at_call 5; refine (lentN y1 sp cap l n hln.out (hl.out.below K1.out.low) hn'.out).mono ?_; rintro e y2 ⟨rfl, H⟩; have K2 : Hid (Fm w [] y2 ∧ Bx y2 y1.heap.size (rowB (mk3 l)) 5 ∧ w.heap.size ≤ y1.heap.size) := ⟨K1.out.below H.out.2, H.out.1, K1.out.low.size⟩; clear H)
    | (go_at_call 4; refine (awake_any w).mono ?_; rintro e y1 ⟨rfl, H⟩; have K1 : Hid (Fm w [] y1) := (Fm.nil w).below H; clear H)
    | ((with_reducible refine at_load rtG y3.heap.size C1 ?_ ?_ (.tmp 5) ?_ ?_ ?_ ?_); (first | exact K10.out.1.bx 0 _ _ _ rfl | exact K9.out.1.bx 0 _ _ _ rfl); (first | exact K10.out.2.lies.size.1 | exact K9.out.2.1.lies.size.1); kernel_rfl; rfl; rfl)
    | ((with_reducible refine at_load rtG y7.heap.size C2 ?_ ?_ (.tmp 8) ?_ ?_ ?_ ?_); exact K9.out.1.bx 1 _ _ _ rfl; exact K9.out.2.2.lies.size.1; kernel_rfl; rfl; rfl))
  go_ret
  exact ⟨rfl, K11.out⟩
theorem new_walk (w : World) (sp : Option Addr) (l : List UInt8) (cap : Nat) (hl : LB w sp l) :
    Calls Try.prog 3 #[.slice sp l.length cap] w fun e w' => e = .returned (.bool true) ∧ Below w.heap.size w w' := by
  by_cases hn : l.length ≤ 2147483647
  · by_cases h3 : l.length ≤ 3232
    · exact new_walkF w sp cap _ l hl rfl hn h3
    · exact new_walkL w sp cap _ l hl rfl hn (by omega)
  · obtain ⟨n, hn'⟩ : ∃ x, l.length = x := ⟨_, rfl⟩
    rw [hn']
    have q0 : decide ((2147483647 : Int) < (n : Int)) = true := by simp; omega
    clear hn hn'
    go_enter Try.func3, Try.ntmps3
    go_wp2_with (go_at_call 4; refine (awake_any w).mono ?_; rintro e y1 ⟨rfl, H⟩)
    go_ret
    exact ⟨rfl, H⟩
end Go.Proofs.Ytfkifppadngmdaa
