/- Strokes one behind the other: the statement's walk. -/
import Derived.Test.YtiplellfpagclaaDoorE7
import Derived.Deep.RegionHeld
namespace Go.Proofs.YtiplellfpagclaaDoor
open Go Go.RowKit Go.Shelf
set_option linter.unusedVariables false
set_option maxHeartbeats 1000000
set_option maxRecDepth 20000

theorem exact_walk (w : World) (T : Hid (Tg w)) (sp sl : Option Addr) (cap cl : Nat) (p : List UInt8) (L : List St) (s : ByteArray) (hl : Hid (LB w sp p)) (hL : Hid (LiesL 3 cSt w sl L)) (hLr : Hid (∀ x ∈ L, LB w x.sp x.rows ∧ x.rows.length ≤ maxLen)) :
    Calls Tryd.prog 4 #[.slice sp p.length cap, .slice sl L.length cl, .string s] w fun e w' => e = .returned (.bool true) ∧ Below w.heap.size w w' := by
  obtain ⟨np, hnp⟩ : ∃ n, p.length = n := ⟨_, rfl⟩
  obtain ⟨nL, hnL⟩ : ∃ n, L.length = n := ⟨_, rfl⟩
  rw [hnp, hnL]
  by_cases h1 : 2147483647 < np
  · have q1 : decide ((2147483647 : Int) < (np : Int)) = true := by simp; omega
    clear h1 hnp hnL
    go_enter Tryd.func4, Tryd.ntmps4
    go_wp2
    go_ret
    exact ⟨rfl, Below.refl _ _⟩
  have q1 : decide ((2147483647 : Int) < (np : Int)) = false := by simp; omega
  by_cases h2 : 2147483647 < nL
  · have q2 : decide ((2147483647 : Int) < (nL : Int)) = true := by simp; omega
    clear h1 hnp hnL h2
    go_enter Tryd.func4, Tryd.ntmps4
    go_wp2
    go_ret
    exact ⟨rfl, Below.refl _ _⟩
  have q2 : decide ((2147483647 : Int) < (nL : Int)) = false := by simp; omega
  by_cases h3 : 2147483647 < s.size
  · have q3 : decide ((2147483647 : Int) < (s.size : Int)) = true := by simp; omega
    clear h1 hnp hnL h2 h3
    go_enter Tryd.func4, Tryd.ntmps4
    go_wp2
    go_ret
    exact ⟨rfl, Below.refl _ _⟩
  have q3 : decide ((2147483647 : Int) < (s.size : Int)) = false := by simp; omega
  have b1 : (np : Int) ≤ 2147483647 := by omega
  have b2 : (nL : Int) ≤ 2147483647 := by omega
  have b3 : (s.size : Int) ≤ 2147483647 := by omega
  have hnn : Hid (p.length = np ∧ L.length = nL ∧ np ≤ 2147483647 ∧ nL ≤ 2147483647) := ⟨hnp, hnL, by omega, by omega⟩
  clear h1 h2 h3 hnp hnL
  go_enter Tryd.func4, Tryd.ntmps4
  go_wp2
  clear q1 q2 q3
  go_loopw [7, 8, 9] (fun pv nv iv wz => ∃ (i : Nat) (u : World) (sq : Option Addr) (nq cq : Nat) (N : Int), u = wz ∧ i ≤ nL ∧ pv = .slice sq nq cq ∧ nv = .int .i64 N ∧ iv = .int .i64 (i : Int) ∧ (0 ≤ N ∧ N ≤ 6442450941) ∧ Hid (∃ q : List UInt8, q.length = nq ∧ nq ≤ 2147483647 ∧ LB u sq q ∧ Below w.heap.size w u)) (fun _ _ iv _ => (nL - intOf iv).toNat)
  case atStart => exact ⟨0, w, sp, np, cap, _, rfl, Nat.zero_le _, rfl, rfl, rfl, by omega, ⟨p, hnn.out.1, hnn.out.2.2.1, hl.out, Below.refl _ _⟩⟩
  case round =>
    obtain ⟨i, u, sq, nq, cq, N, rfl, hi, rfl, rfl, rfl, hN, K⟩ := hrel
    by_cases hlt : i < nL
    · obtain ⟨q, hq, hq2, hlq0, hbq0⟩ := K.out
      have hlq : Hid (LB u sq q) := hlq0
      have hbq : Hid (Below w.heap.size w u) := hbq0
      have hqn : Hid (q.length = nq ∧ nq ≤ 2147483647) := ⟨hq, hq2⟩
      obtain ⟨x, hx, -⟩ : ∃ x, L[i]? = some x ∧ True := ⟨L[i]'(by have := hnn.out; omega), List.getElem?_eq_getElem _, trivial⟩
      obtain ⟨gl, ol, rfl, hcx⟩ := hL.out i x hx
      have hxr := hLr.out x (List.mem_of_getElem? hx)
      have hlx : Hid (LB w x.sp x.rows) := hxr.1
      obtain ⟨nr, hnr⟩ : ∃ n, x.rows.length = n := ⟨_, rfl⟩
      have cF : Hid (∀ z, Below w.heap.size w z → z.cell? ⟨gl, ol + i * 3, none⟩ = some (.int .u8 (x.x.toNat : Int)) ∧ z.cell? ⟨gl, ol + i * 3 + 1, none⟩ = some (.int .u8 (x.y.toNat : Int)) ∧ z.cell? ⟨gl, ol + i * 3 + 2, none⟩ = some (.slice x.sp nr x.cap)) := fun z hz => by
        have h := range_keep hcx hz
        have h0 := h 0 _ rfl
        have h1 := h 1 _ rfl
        have h2 := h 2 _ rfl
        rw [Nat.add_zero] at h0
        rw [hnr] at h2
        exact ⟨h0, h1, h2⟩
      have ix := fun v => idxP (g := gl) (off := ol) (len := nL) (cap := cl) Tryd.underlying26 (s := 3) (by kernel_rfl) .i64 i v hlt
      have hii : (i : Int) < (nL : Int) := by omega
      have hlt' : Hid (i < nL) := hlt
      have cu2 := (cF.out u hbq.out).2.2
      have N0 : 0 ≤ N := hN.1
      have N1 : N ≤ 6442450941 := hN.2
      clear K hq hq2 hlq0 hbq0 hi hlt hcx hN
      by_cases hN2 : 2147483647 < N
      · have q1 : decide ((2147483647 : Int) < N) = true := by simpa using hN2
        clear hN2
        go_wp2
        go_ret
        exact ⟨rfl, hbq.out⟩
      have q1 : decide ((2147483647 : Int) < N) = false := by simpa using hN2
      by_cases hr2 : 2147483647 < nr
      · have q2 : decide ((2147483647 : Int) < (nr : Int)) = true := by simp; omega
        clear hN2 hr2
        go_wp2
        go_ret
        exact ⟨rfl, hbq.out⟩
      have q2 : decide ((2147483647 : Int) < (nr : Int)) = false := by simp; omega
      have hNN : N ≤ 2147483647 := by omega
      have hri : (nr : Int) ≤ 2147483647 := by omega
      have hrn : Hid (x.rows.length = nr ∧ nr ≤ 2147483647) := ⟨hnr, by omega⟩
      obtain ⟨DA, hDA⟩ : ∃ D, drawA q x.x.toNat x.y.toNat x.rows = D := ⟨_, rfl⟩
      obtain ⟨A, gg, er⟩ := DA
      obtain ⟨nA, hnA⟩ : ∃ n, A.length = n := ⟨_, rfl⟩
      have hA256 : Hid (A.length = nA ∧ nA ≤ 256) := by
        have := draw_most q x.rows x.x.toNat x.y.toNat
        rw [hDA] at this
        exact ⟨hnA, by rw [← hnA]; exact this⟩
      have hL1 : Calls Tryd.prog 6 #[.slice sq nq cq] u fun e w' => ∃ g, g = u.heap.size ∧ e = .returned (.slice (some ⟨g, 0, none⟩) nq (nq + 9)) ∧ Hid (Bx w' g (rowB (mrk q)) 5 ∧ Below u.heap.size u w') := by
        have := lent_any u sq cq q hlq (by have := hqn.out; omega)
        rw [hqn.out.1] at this
        exact this.mono fun e w' h => ⟨_, rfl, h.1, h.2⟩
      have hL2 : Hid (∀ z, Below w.heap.size w z → Calls Tryd.prog 6 #[.slice x.sp nr x.cap] z fun e w' => ∃ g, g = z.heap.size ∧ e = .returned (.slice (some ⟨g, 0, none⟩) nr (nr + 9)) ∧ Hid (Bx w' g (rowB (mrk x.rows)) 5 ∧ Below z.heap.size z w')) := fun z hz => by
        have := lent_any z x.sp x.cap x.rows (hlx.out.below hz) (by have := hrn.out; omega)
        rw [hrn.out.1] at this
        exact this.mono fun e w' h => ⟨_, rfl, h.1, h.2⟩
      have hDr : Hid (∀ z gP gR, Bx z gP (rowB (mrk q)) 5 → Bx z gR (rowB (mrk x.rows)) 5 → Calls Tryd.prog 7 #[.slice (some ⟨gP, 0, none⟩) nq (nq + 9), .int .u8 (x.x.toNat : Int), .int .u8 (x.y.toNat : Int), .slice (some ⟨gR, 0, none⟩) nr (nr + 9)] z (DaE z A nA gg er)) := fun z gP gR h1 h2 => by
        have := da_draw z gP gR nq nr nA q x.rows x.x x.y h1 h2 hqn.out.1 hnr (by rw [hDA]; exact hnA)
        rw [hDA] at this
        exact this
      have hRr : Hid (∀ z, LB z sq q → LB z x.sp x.rows → Calls Tryd.prog 8 #[.slice sq nq cq, .int .u8 (x.x.toNat : Int), .int .u8 (x.y.toNat : Int), .slice x.sp nr x.cap] z (DaE z A nA gg er)) := fun z h1 h2 => by
        have := da_rdraw z sq x.sp cq x.cap nq nr nA q x.rows x.x x.y h1 h2 hqn.out.1 hnr (by rw [hDA]; exact hnA)
        rw [hDA] at this
        exact this
      have hB1 : Hid (∀ z g, u.heap.size ≤ g → Bx z g (rowB (mrk q)) 5 → Below u.heap.size u z → Calls Tryd.prog 9 #[.slice (some ⟨g, 0, none⟩) nq (nq + 9), .slice sq nq cq] z fun e w' => e = .returned (.bool true) ∧ Hid (CuL w.heap.size (fun q _ => q = g) z w')) := fun z g hg hb hz => by
        have := back_any z w.heap.size g cq sq q (Nat.le_trans hbq.out.size hg) hb (fun v hv => lb_old hlq.out hg hz hv) (by have := hqn.out; omega)
        rw [hqn.out.1] at this
        exact this
      have hB2 : Hid (∀ z g, w.heap.size ≤ g → Bx z g (rowB (mrk x.rows)) 5 → Below w.heap.size w z → Calls Tryd.prog 9 #[.slice (some ⟨g, 0, none⟩) nr (nr + 9), .slice x.sp nr x.cap] z fun e w' => e = .returned (.bool true) ∧ Hid (CuL w.heap.size (fun q _ => q = g) z w')) := fun z g hg hb hz => by
        have := back_any z w.heap.size g x.cap x.sp x.rows hg hb (fun v hv => lb_old hlx.out hg hz hv) (by have := hrn.out; omega)
        rw [hrn.out.1] at this
        exact this
      have eg : (gg != gg) = false := by simp
      have ee : (er != er) = false := by simp
      obtain ⟨X, hX⟩ : ∃ X, x.x.toNat = X := ⟨_, rfl⟩
      obtain ⟨Y, hY⟩ : ∃ X, x.y.toNat = X := ⟨_, rfl⟩
      obtain ⟨sr, hsr⟩ : ∃ X, x.sp = X := ⟨_, rfl⟩
      obtain ⟨cr, hcr⟩ : ∃ X, x.cap = X := ⟨_, rfl⟩
      obtain ⟨rr, hrr⟩ : ∃ X, x.rows = X := ⟨_, rfl⟩
      rw [hX, hY, hsr, hcr] at cF
      rw [hX, hY] at hDr
      rw [hX, hY, hsr, hcr] at hRr
      rw [hsr, hcr] at hL2 hB2 cu2
      rw [hsr] at hlx
      rw [hrr] at hL2 hDr hRr hB2 hlx hrn
      clear hN2 hr2 hnr hDA hnA hX hY hsr hcr hrr hxr hx
      go_wp2_with (first
        | (go_at_call 6; refine (hL2.out u1 Lw1.out).mono ?_; rintro e u2 ⟨gR, hgR, rfl, H2⟩; have A2 : Hid (Bx u2 gP (rowB (mrk q)) 5 ∧ Bx u2 gR (rowB (mrk rr)) 5 ∧ Below w.heap.size w u2 ∧ Below u.heap.size u u2 ∧ u.heap.size ≤ gP ∧ gP < gR ∧ gR < u2.heap.size) := (by
            have h1 := heap_lt H1.out.1
            have h0 := hgP.out
            have h2 := heap_lt H2.out.1
            exact ⟨(H2.out.2.block gP h1).trans H1.out.1, H2.out.1, Lw1.out.trans (H2.out.2.mono Lw1.out.size), H1.out.2.trans (H2.out.2.mono H1.out.2.size), by omega, by omega, h2⟩); clear hgR hL2; refine stopAt ?_)
        | (go_at_call 6; refine hL1.mono ?_; rintro e u1 ⟨gP, hgP, rfl, H1⟩; replace hgP : Hid (gP = u.heap.size) := hgP; have Lw1 : Hid (Below w.heap.size w u1) := hbq.out.trans (H1.out.2.mono hbq.out.size); have cu3 := (cF.out u1 Lw1.out).2.2; clear hL1))
      refine Stop.go ?_
      clear cu2 cu3 H1 H2 Lw1 hgP
      go_wp2
      have hPd : Hid (∀ z z1, (Bx z gP (rowB (mrk q)) 5 ∧ Bx z gR (rowB (mrk rr)) 5 ∧ Below w.heap.size w z ∧ Below u.heap.size u z ∧ u.heap.size ≤ gP ∧ gP < gR ∧ gR < z.heap.size) → Below z.heap.size z z1 → (Bx z1 gP (rowB (mrk q)) 5 ∧ Bx z1 gR (rowB (mrk rr)) 5 ∧ Below w.heap.size w z1 ∧ Below u.heap.size u z1 ∧ u.heap.size ≤ gP ∧ gP < gR ∧ gR < z1.heap.size)) := fun z z1 h k => ⟨(k.block gP (heap_lt h.1)).trans h.1, (k.block gR (heap_lt h.2.1)).trans h.2.1, h.2.2.1.trans (k.mono h.2.2.1.size), h.2.2.2.1.trans (k.mono h.2.2.2.1.size), h.2.2.2.2.1, h.2.2.2.2.2.1, Nat.lt_of_lt_of_le h.2.2.2.2.2.2 k.size⟩
      have Az2 : Hid (Bx u2.drew gP (rowB (mrk q)) 5 ∧ Bx u2.drew gR (rowB (mrk rr)) 5 ∧ Below w.heap.size w u2.drew ∧ Below u.heap.size u u2.drew ∧ u.heap.size ≤ gP ∧ gP < gR ∧ gR < u2.drew.heap.size) := hPd.out u2 _ A2.out (below_drew (Below.refl _ _))
      refine wp_region_held_drew (S := (fun z => Below w.heap.size w z)) (by kernel_rfl) Az2.out.2.2.1 (fun hH => ?_)
      generalize u2.drew = z2 at hH Az2  ⊢
      refine wpAnyH_take (i := 0) (oi := ⟨some 93, _, _, _, _, _⟩) (v := .slice (some ⟨gP, 0, none⟩) nq (nq + 9)) rfl (by kernel_rfl) (by kernel_rfl) (by kernel_rfl) (fun _ _ _ h => h) (.inl ⟨by kernel_rfl, fun k hk => by go_simp⟩) hH ?_
      try simp only [Act.put, List.setIfInBounds_toArray, List.set_cons_zero, List.set_cons_succ]
      refine wpAnyH_take (i := 1) (oi := ⟨some 94, _, _, _, _, _⟩) (v := .slice (some ⟨gl, ol, none⟩) nL cl) rfl (by kernel_rfl) (by kernel_rfl) (by kernel_rfl) (fun _ _ _ h => h) (.inl ⟨by kernel_rfl, fun k hk => by go_simp⟩) hH ?_
      try simp only [Act.put, List.setIfInBounds_toArray, List.set_cons_zero, List.set_cons_succ]
      refine wpAnyH_take (i := 2) (oi := ⟨some 95, _, _, _, _, _⟩) (v := .int .i64 (i : Int)) rfl (by kernel_rfl) (by kernel_rfl) (by kernel_rfl) (fun _ _ _ h => h) (.inl ⟨by kernel_rfl, fun k hk => by go_simp⟩) hH ?_
      try simp only [Act.put, List.setIfInBounds_toArray, List.set_cons_zero, List.set_cons_succ]
      refine wpAnyH_take (i := 3) (oi := ⟨some 96, _, _, _, _, _⟩) (v := .pointer (some ⟨gl, ol + i * 3, none⟩)) rfl (by kernel_rfl) (by kernel_rfl) (by kernel_rfl) (fun _ _ _ h => h) (.inl ⟨by kernel_rfl, fun k hk => by have d := ix k; go_simp⟩) hH ?_
      try simp only [Act.put, List.setIfInBounds_toArray, List.set_cons_zero, List.set_cons_succ]
      refine wpAnyH_take (i := 4) (oi := ⟨some 97, _, _, _, _, _⟩) (v := .pointer (some ⟨gl, ol + i * 3, none⟩)) rfl (by kernel_rfl) (by kernel_rfl) (by kernel_rfl) (fun _ _ _ h => h) (.inl ⟨by kernel_rfl, fun k hk => by go_simp⟩) hH ?_
      try simp only [Act.put, List.setIfInBounds_toArray, List.set_cons_zero, List.set_cons_succ]
      refine wpAnyH_take (i := 5) (oi := ⟨some 98, _, _, _, _, _⟩) (v := .int .u8 (X : Int)) rfl (by kernel_rfl) (by kernel_rfl) (by kernel_rfl) (fun _ _ _ h => h) (.inl ⟨by kernel_rfl, fun k hk => by have d := (cF.out k hk).1; go_simp⟩) hH ?_
      try simp only [Act.put, List.setIfInBounds_toArray, List.set_cons_zero, List.set_cons_succ]
      refine wpAnyH_take (i := 6) (oi := ⟨some 99, _, _, _, _, _⟩) (v := .slice (some ⟨gl, ol, none⟩) nL cl) rfl (by kernel_rfl) (by kernel_rfl) (by kernel_rfl) (fun _ _ _ h => h) (.inl ⟨by kernel_rfl, fun k hk => by go_simp⟩) hH ?_
      try simp only [Act.put, List.setIfInBounds_toArray, List.set_cons_zero, List.set_cons_succ]
      refine wpAnyH_take (i := 7) (oi := ⟨some 100, _, _, _, _, _⟩) (v := .int .i64 (i : Int)) rfl (by kernel_rfl) (by kernel_rfl) (by kernel_rfl) (fun _ _ _ h => h) (.inl ⟨by kernel_rfl, fun k hk => by go_simp⟩) hH ?_
      try simp only [Act.put, List.setIfInBounds_toArray, List.set_cons_zero, List.set_cons_succ]
      refine wpAnyH_take (i := 8) (oi := ⟨some 101, _, _, _, _, _⟩) (v := .pointer (some ⟨gl, ol + i * 3, none⟩)) rfl (by kernel_rfl) (by kernel_rfl) (by kernel_rfl) (fun _ _ _ h => h) (.inl ⟨by kernel_rfl, fun k hk => by have d := ix k; go_simp⟩) hH ?_
      try simp only [Act.put, List.setIfInBounds_toArray, List.set_cons_zero, List.set_cons_succ]
      refine wpAnyH_take (i := 9) (oi := ⟨some 102, _, _, _, _, _⟩) (v := .pointer (some ⟨gl, ol + i * 3 + 1, none⟩)) rfl (by kernel_rfl) (by kernel_rfl) (by kernel_rfl) (fun _ _ _ h => h) (.inl ⟨by kernel_rfl, fun k hk => by go_simp⟩) hH ?_
      try simp only [Act.put, List.setIfInBounds_toArray, List.set_cons_zero, List.set_cons_succ]
      refine wpAnyH_take (i := 10) (oi := ⟨some 103, _, _, _, _, _⟩) (v := .int .u8 (Y : Int)) rfl (by kernel_rfl) (by kernel_rfl) (by kernel_rfl) (fun _ _ _ h => h) (.inl ⟨by kernel_rfl, fun k hk => by have d := (cF.out k hk).2.1; go_simp⟩) hH ?_
      try simp only [Act.put, List.setIfInBounds_toArray, List.set_cons_zero, List.set_cons_succ]
      refine wpAnyH_take (i := 11) (oi := ⟨some 104, _, _, _, _, _⟩) (v := .slice (some ⟨gR, 0, none⟩) nr (nr + 9)) rfl (by kernel_rfl) (by kernel_rfl) (by kernel_rfl) (fun _ _ _ h => h) (.inl ⟨by kernel_rfl, fun k hk => by go_simp⟩) hH ?_
      try simp only [Act.put, List.setIfInBounds_toArray, List.set_cons_zero, List.set_cons_succ]
      refine wpAnyH_ready (rs := [12]) (by kernel_rfl) (by simp) (AllReadyH.cons rfl (fun K hK => ?_) AllReadyH.nil)
      rw [if_pos (by rfl)]
      go_wp2_with (go_at_call 7; refine (hDr.out z2 gP gR Az2.out.1 Az2.out.2.1).mono ?_; rintro e u3 ⟨sa, ca, rfl, H3⟩; have A3 : Hid (Bx u3 gP (rowB (mrk q)) 5 ∧ Bx u3 gR (rowB (mrk rr)) 5 ∧ Below w.heap.size w u3 ∧ Below u.heap.size u u3 ∧ u.heap.size ≤ gP ∧ gP < gR ∧ gR < u3.heap.size) := hPd.out z2 u3 Az2.out H3.out.2; refine stopAt ?_)
      refine Stop.go ?_
      refine hK.out _ _ A3.out.2.2.1 (fun hH => ?_)
      clear hK K
      try simp only [Act.put, List.setIfInBounds_toArray, List.set_cons_zero, List.set_cons_succ]
      refine wpAnyH_take (i := 13) (oi := ⟨some 92, _, _, _, _, _⟩) (v := .tuple #[.slice sa nA ca, .bool gg, .int .i64 er]) rfl (by kernel_rfl) (by kernel_rfl) (by kernel_rfl) (fun _ _ _ h => h) (.inl ⟨by kernel_rfl, fun k hk => by go_simp⟩) hH ?_
      try simp only [Act.put, List.setIfInBounds_toArray, List.set_cons_zero, List.set_cons_succ]
      refine wpAnyH_take (i := 14) (oi := ⟨some 106, _, _, _, _, _⟩) (v := .slice sa nA ca) rfl (by kernel_rfl) (by kernel_rfl) (by kernel_rfl) (fun _ _ _ h => h) (.inl ⟨by kernel_rfl, fun k hk => by go_simp⟩) hH ?_
      try simp only [Act.put, List.setIfInBounds_toArray, List.set_cons_zero, List.set_cons_succ]
      refine wpAnyH_take (i := 15) (oi := ⟨some 107, _, _, _, _, _⟩) (v := .bool gg) rfl (by kernel_rfl) (by kernel_rfl) (by kernel_rfl) (fun _ _ _ h => h) (.inl ⟨by kernel_rfl, fun k hk => by go_simp⟩) hH ?_
      try simp only [Act.put, List.setIfInBounds_toArray, List.set_cons_zero, List.set_cons_succ]
      refine wpAnyH_take (i := 16) (oi := ⟨some 108, _, _, _, _, _⟩) (v := .int .i64 er) rfl (by kernel_rfl) (by kernel_rfl) (by kernel_rfl) (fun _ _ _ h => h) (.inl ⟨by kernel_rfl, fun k hk => by go_simp⟩) hH ?_
      try simp only [Act.put, List.setIfInBounds_toArray, List.set_cons_zero, List.set_cons_succ]
      refine wpAnyH_take (i := 17) (oi := ⟨some 12, _, _, _, _, _⟩) (v := .slice sa nA ca) rfl (by kernel_rfl) (by kernel_rfl) (by kernel_rfl) (fun _ _ _ h => h) (.inl ⟨by kernel_rfl, fun k hk => by go_simp⟩) hH ?_
      try simp only [Act.put, List.setIfInBounds_toArray, List.set_cons_zero, List.set_cons_succ]
      refine wpAnyH_take (i := 18) (oi := ⟨some 13, _, _, _, _, _⟩) (v := .bool gg) rfl (by kernel_rfl) (by kernel_rfl) (by kernel_rfl) (fun _ _ _ h => h) (.inl ⟨by kernel_rfl, fun k hk => by go_simp⟩) hH ?_
      try simp only [Act.put, List.setIfInBounds_toArray, List.set_cons_zero, List.set_cons_succ]
      refine wpAnyH_take (i := 19) (oi := ⟨some 14, _, _, _, _, _⟩) (v := .int .i64 er) rfl (by kernel_rfl) (by kernel_rfl) (by kernel_rfl) (fun _ _ _ h => h) (.inl ⟨by kernel_rfl, fun k hk => by go_simp⟩) hH ?_
      try simp only [Act.put, List.setIfInBounds_toArray, List.set_cons_zero, List.set_cons_succ]
      refine wpAnyH_done (by kernel_rfl) ?_ _
      obtain ⟨B1, hb1⟩ : ∃ b, z2.heap.size = b := ⟨_, rfl⟩
      have hb1' : Hid (gR < B1 ∧ w.heap.size ≤ B1) := by rw [← hb1]; exact ⟨Az2.out.2.2.2.2.2.2, Az2.out.2.2.1.size⟩
      have O3 : Hid (OwnL 5 1 cB B1 u3 (.slice sa nA ca) A ∧ B1 ≤ u3.heap.size) := by rw [← hb1]; exact ⟨H3.out.1, H3.out.2.size⟩
      clear H3 hb1 Az2 A2
      go_wp2
      have Az3 : Hid (Bx u3.drew gP (rowB (mrk q)) 5 ∧ Bx u3.drew gR (rowB (mrk rr)) 5 ∧ Below w.heap.size w u3.drew ∧ Below u.heap.size u u3.drew ∧ u.heap.size ≤ gP ∧ gP < gR ∧ gR < u3.drew.heap.size) := hPd.out u3 _ A3.out (below_drew (Below.refl _ _))
      have Oaz3 : Hid (OwnL 5 1 cB B1 u3.drew (.slice sa nA ca) A ∧ B1 ≤ u3.drew.heap.size) := ⟨O3.out.1.below (below_drew (Below.refl _ _)), O3.out.2⟩
      refine wp_region_held_drew (S := (fun z => Below w.heap.size w z)) (by kernel_rfl) Az3.out.2.2.1 (fun hH => ?_)
      generalize u3.drew = z3 at hH Az3 Oaz3 ⊢
      refine wpAnyH_take (i := 0) (oi := ⟨some 110, _, _, _, _, _⟩) (v := .slice (some ⟨gP, 0, none⟩) nq (nq + 9)) rfl (by kernel_rfl) (by kernel_rfl) (by kernel_rfl) (fun _ _ _ h => h) (.inl ⟨by kernel_rfl, fun k hk => by go_simp⟩) hH ?_
      try simp only [Act.put, List.setIfInBounds_toArray, List.set_cons_zero, List.set_cons_succ]
      refine wpAnyH_take (i := 1) (oi := ⟨some 111, _, _, _, _, _⟩) (v := .slice (some ⟨gl, ol, none⟩) nL cl) rfl (by kernel_rfl) (by kernel_rfl) (by kernel_rfl) (fun _ _ _ h => h) (.inl ⟨by kernel_rfl, fun k hk => by go_simp⟩) hH ?_
      try simp only [Act.put, List.setIfInBounds_toArray, List.set_cons_zero, List.set_cons_succ]
      refine wpAnyH_take (i := 2) (oi := ⟨some 112, _, _, _, _, _⟩) (v := .int .i64 (i : Int)) rfl (by kernel_rfl) (by kernel_rfl) (by kernel_rfl) (fun _ _ _ h => h) (.inl ⟨by kernel_rfl, fun k hk => by go_simp⟩) hH ?_
      try simp only [Act.put, List.setIfInBounds_toArray, List.set_cons_zero, List.set_cons_succ]
      refine wpAnyH_take (i := 3) (oi := ⟨some 113, _, _, _, _, _⟩) (v := .pointer (some ⟨gl, ol + i * 3, none⟩)) rfl (by kernel_rfl) (by kernel_rfl) (by kernel_rfl) (fun _ _ _ h => h) (.inl ⟨by kernel_rfl, fun k hk => by have d := ix k; go_simp⟩) hH ?_
      try simp only [Act.put, List.setIfInBounds_toArray, List.set_cons_zero, List.set_cons_succ]
      refine wpAnyH_take (i := 4) (oi := ⟨some 114, _, _, _, _, _⟩) (v := .pointer (some ⟨gl, ol + i * 3, none⟩)) rfl (by kernel_rfl) (by kernel_rfl) (by kernel_rfl) (fun _ _ _ h => h) (.inl ⟨by kernel_rfl, fun k hk => by go_simp⟩) hH ?_
      try simp only [Act.put, List.setIfInBounds_toArray, List.set_cons_zero, List.set_cons_succ]
      refine wpAnyH_take (i := 5) (oi := ⟨some 115, _, _, _, _, _⟩) (v := .int .u8 (X : Int)) rfl (by kernel_rfl) (by kernel_rfl) (by kernel_rfl) (fun _ _ _ h => h) (.inl ⟨by kernel_rfl, fun k hk => by have d := (cF.out k hk).1; go_simp⟩) hH ?_
      try simp only [Act.put, List.setIfInBounds_toArray, List.set_cons_zero, List.set_cons_succ]
      refine wpAnyH_take (i := 6) (oi := ⟨some 116, _, _, _, _, _⟩) (v := .slice (some ⟨gl, ol, none⟩) nL cl) rfl (by kernel_rfl) (by kernel_rfl) (by kernel_rfl) (fun _ _ _ h => h) (.inl ⟨by kernel_rfl, fun k hk => by go_simp⟩) hH ?_
      try simp only [Act.put, List.setIfInBounds_toArray, List.set_cons_zero, List.set_cons_succ]
      refine wpAnyH_take (i := 7) (oi := ⟨some 117, _, _, _, _, _⟩) (v := .int .i64 (i : Int)) rfl (by kernel_rfl) (by kernel_rfl) (by kernel_rfl) (fun _ _ _ h => h) (.inl ⟨by kernel_rfl, fun k hk => by go_simp⟩) hH ?_
      try simp only [Act.put, List.setIfInBounds_toArray, List.set_cons_zero, List.set_cons_succ]
      refine wpAnyH_take (i := 8) (oi := ⟨some 118, _, _, _, _, _⟩) (v := .pointer (some ⟨gl, ol + i * 3, none⟩)) rfl (by kernel_rfl) (by kernel_rfl) (by kernel_rfl) (fun _ _ _ h => h) (.inl ⟨by kernel_rfl, fun k hk => by have d := ix k; go_simp⟩) hH ?_
      try simp only [Act.put, List.setIfInBounds_toArray, List.set_cons_zero, List.set_cons_succ]
      refine wpAnyH_take (i := 9) (oi := ⟨some 119, _, _, _, _, _⟩) (v := .pointer (some ⟨gl, ol + i * 3 + 1, none⟩)) rfl (by kernel_rfl) (by kernel_rfl) (by kernel_rfl) (fun _ _ _ h => h) (.inl ⟨by kernel_rfl, fun k hk => by go_simp⟩) hH ?_
      try simp only [Act.put, List.setIfInBounds_toArray, List.set_cons_zero, List.set_cons_succ]
      refine wpAnyH_take (i := 10) (oi := ⟨some 120, _, _, _, _, _⟩) (v := .int .u8 (Y : Int)) rfl (by kernel_rfl) (by kernel_rfl) (by kernel_rfl) (fun _ _ _ h => h) (.inl ⟨by kernel_rfl, fun k hk => by have d := (cF.out k hk).2.1; go_simp⟩) hH ?_
      try simp only [Act.put, List.setIfInBounds_toArray, List.set_cons_zero, List.set_cons_succ]
      refine wpAnyH_take (i := 11) (oi := ⟨some 121, _, _, _, _, _⟩) (v := .slice (some ⟨gR, 0, none⟩) nr (nr + 9)) rfl (by kernel_rfl) (by kernel_rfl) (by kernel_rfl) (fun _ _ _ h => h) (.inl ⟨by kernel_rfl, fun k hk => by go_simp⟩) hH ?_
      try simp only [Act.put, List.setIfInBounds_toArray, List.set_cons_zero, List.set_cons_succ]
      refine wpAnyH_ready (rs := [12]) (by kernel_rfl) (by simp) (AllReadyH.cons rfl (fun K hK => ?_) AllReadyH.nil)
      rw [if_pos (by rfl)]
      go_wp2_with (go_at_call 7; refine (hDr.out z3 gP gR Az3.out.1 Az3.out.2.1).mono ?_; rintro e u4 ⟨sb, cb, rfl, H4⟩; have A4 : Hid (Bx u4 gP (rowB (mrk q)) 5 ∧ Bx u4 gR (rowB (mrk rr)) 5 ∧ Below w.heap.size w u4 ∧ Below u.heap.size u u4 ∧ u.heap.size ≤ gP ∧ gP < gR ∧ gR < u4.heap.size) := hPd.out z3 u4 Az3.out H4.out.2; refine stopAt ?_)
      refine Stop.go ?_
      refine hK.out _ _ A4.out.2.2.1 (fun hH => ?_)
      clear hK K
      try simp only [Act.put, List.setIfInBounds_toArray, List.set_cons_zero, List.set_cons_succ]
      refine wpAnyH_take (i := 13) (oi := ⟨some 109, _, _, _, _, _⟩) (v := .tuple #[.slice sb nA cb, .bool gg, .int .i64 er]) rfl (by kernel_rfl) (by kernel_rfl) (by kernel_rfl) (fun _ _ _ h => h) (.inl ⟨by kernel_rfl, fun k hk => by go_simp⟩) hH ?_
      try simp only [Act.put, List.setIfInBounds_toArray, List.set_cons_zero, List.set_cons_succ]
      refine wpAnyH_take (i := 14) (oi := ⟨some 123, _, _, _, _, _⟩) (v := .slice sb nA cb) rfl (by kernel_rfl) (by kernel_rfl) (by kernel_rfl) (fun _ _ _ h => h) (.inl ⟨by kernel_rfl, fun k hk => by go_simp⟩) hH ?_
      try simp only [Act.put, List.setIfInBounds_toArray, List.set_cons_zero, List.set_cons_succ]
      refine wpAnyH_take (i := 15) (oi := ⟨some 124, _, _, _, _, _⟩) (v := .bool gg) rfl (by kernel_rfl) (by kernel_rfl) (by kernel_rfl) (fun _ _ _ h => h) (.inl ⟨by kernel_rfl, fun k hk => by go_simp⟩) hH ?_
      try simp only [Act.put, List.setIfInBounds_toArray, List.set_cons_zero, List.set_cons_succ]
      refine wpAnyH_take (i := 16) (oi := ⟨some 125, _, _, _, _, _⟩) (v := .int .i64 er) rfl (by kernel_rfl) (by kernel_rfl) (by kernel_rfl) (fun _ _ _ h => h) (.inl ⟨by kernel_rfl, fun k hk => by go_simp⟩) hH ?_
      try simp only [Act.put, List.setIfInBounds_toArray, List.set_cons_zero, List.set_cons_succ]
      refine wpAnyH_take (i := 17) (oi := ⟨some 15, _, _, _, _, _⟩) (v := .slice sb nA cb) rfl (by kernel_rfl) (by kernel_rfl) (by kernel_rfl) (fun _ _ _ h => h) (.inl ⟨by kernel_rfl, fun k hk => by go_simp⟩) hH ?_
      try simp only [Act.put, List.setIfInBounds_toArray, List.set_cons_zero, List.set_cons_succ]
      refine wpAnyH_take (i := 18) (oi := ⟨some 16, _, _, _, _, _⟩) (v := .bool gg) rfl (by kernel_rfl) (by kernel_rfl) (by kernel_rfl) (fun _ _ _ h => h) (.inl ⟨by kernel_rfl, fun k hk => by go_simp⟩) hH ?_
      try simp only [Act.put, List.setIfInBounds_toArray, List.set_cons_zero, List.set_cons_succ]
      refine wpAnyH_take (i := 19) (oi := ⟨some 17, _, _, _, _, _⟩) (v := .int .i64 er) rfl (by kernel_rfl) (by kernel_rfl) (by kernel_rfl) (fun _ _ _ h => h) (.inl ⟨by kernel_rfl, fun k hk => by go_simp⟩) hH ?_
      try simp only [Act.put, List.setIfInBounds_toArray, List.set_cons_zero, List.set_cons_succ]
      refine wpAnyH_done (by kernel_rfl) ?_ _
      obtain ⟨B2, hb2⟩ : ∃ b, z3.heap.size = b := ⟨_, rfl⟩
      have hA2 : Hid (∀ g, (Value.slice sa nA ca).ownBlock = some g → g < B2) := fun g e => by rw [← hb2]; exact (Oaz3.out.1.lt g e).2
      have O4 : Hid (OwnL 5 1 cB B1 u4 (.slice sa nA ca) A ∧ OwnL 5 1 cB B2 u4 (.slice sb nA cb) A ∧ B2 ≤ u4.heap.size) := by rw [← hb2]; exact ⟨Oaz3.out.1.below H4.out.2, H4.out.1, H4.out.2.size⟩
      have hB12 : Hid (B1 ≤ B2) := by rw [← hb2]; exact Oaz3.out.2
      clear H4 hb2 Az3 A3 O3 Oaz3
      go_wp2
      have Az4 : Hid (Bx u4.drew gP (rowB (mrk q)) 5 ∧ Bx u4.drew gR (rowB (mrk rr)) 5 ∧ Below w.heap.size w u4.drew ∧ Below u.heap.size u u4.drew ∧ u.heap.size ≤ gP ∧ gP < gR ∧ gR < u4.drew.heap.size) := hPd.out u4 _ A4.out (below_drew (Below.refl _ _))
      have Obz4 : Hid (OwnL 5 1 cB B1 u4.drew (.slice sa nA ca) A ∧ OwnL 5 1 cB B2 u4.drew (.slice sb nA cb) A ∧ B2 ≤ u4.drew.heap.size) := ⟨O4.out.1.below (below_drew (Below.refl _ _)), O4.out.2.1.below (below_drew (Below.refl _ _)), O4.out.2.2⟩
      refine wp_region_held_drew (S := (fun z => Below w.heap.size w z)) (by kernel_rfl) Az4.out.2.2.1 (fun hH => ?_)
      generalize u4.drew = z4 at hH Az4 Obz4 ⊢
      refine wpAnyH_take (i := 0) (oi := ⟨some 127, _, _, _, _, _⟩) (v := .slice sq nq cq) rfl (by kernel_rfl) (by kernel_rfl) (by kernel_rfl) (fun _ _ _ h => h) (.inl ⟨by kernel_rfl, fun k hk => by go_simp⟩) hH ?_
      try simp only [Act.put, List.setIfInBounds_toArray, List.set_cons_zero, List.set_cons_succ]
      refine wpAnyH_take (i := 1) (oi := ⟨some 128, _, _, _, _, _⟩) (v := .slice (some ⟨gl, ol, none⟩) nL cl) rfl (by kernel_rfl) (by kernel_rfl) (by kernel_rfl) (fun _ _ _ h => h) (.inl ⟨by kernel_rfl, fun k hk => by go_simp⟩) hH ?_
      try simp only [Act.put, List.setIfInBounds_toArray, List.set_cons_zero, List.set_cons_succ]
      refine wpAnyH_take (i := 2) (oi := ⟨some 129, _, _, _, _, _⟩) (v := .int .i64 (i : Int)) rfl (by kernel_rfl) (by kernel_rfl) (by kernel_rfl) (fun _ _ _ h => h) (.inl ⟨by kernel_rfl, fun k hk => by go_simp⟩) hH ?_
      try simp only [Act.put, List.setIfInBounds_toArray, List.set_cons_zero, List.set_cons_succ]
      refine wpAnyH_take (i := 3) (oi := ⟨some 130, _, _, _, _, _⟩) (v := .pointer (some ⟨gl, ol + i * 3, none⟩)) rfl (by kernel_rfl) (by kernel_rfl) (by kernel_rfl) (fun _ _ _ h => h) (.inl ⟨by kernel_rfl, fun k hk => by have d := ix k; go_simp⟩) hH ?_
      try simp only [Act.put, List.setIfInBounds_toArray, List.set_cons_zero, List.set_cons_succ]
      refine wpAnyH_take (i := 4) (oi := ⟨some 131, _, _, _, _, _⟩) (v := .pointer (some ⟨gl, ol + i * 3, none⟩)) rfl (by kernel_rfl) (by kernel_rfl) (by kernel_rfl) (fun _ _ _ h => h) (.inl ⟨by kernel_rfl, fun k hk => by go_simp⟩) hH ?_
      try simp only [Act.put, List.setIfInBounds_toArray, List.set_cons_zero, List.set_cons_succ]
      refine wpAnyH_take (i := 5) (oi := ⟨some 132, _, _, _, _, _⟩) (v := .int .u8 (X : Int)) rfl (by kernel_rfl) (by kernel_rfl) (by kernel_rfl) (fun _ _ _ h => h) (.inl ⟨by kernel_rfl, fun k hk => by have d := (cF.out k hk).1; go_simp⟩) hH ?_
      try simp only [Act.put, List.setIfInBounds_toArray, List.set_cons_zero, List.set_cons_succ]
      refine wpAnyH_take (i := 6) (oi := ⟨some 133, _, _, _, _, _⟩) (v := .slice (some ⟨gl, ol, none⟩) nL cl) rfl (by kernel_rfl) (by kernel_rfl) (by kernel_rfl) (fun _ _ _ h => h) (.inl ⟨by kernel_rfl, fun k hk => by go_simp⟩) hH ?_
      try simp only [Act.put, List.setIfInBounds_toArray, List.set_cons_zero, List.set_cons_succ]
      refine wpAnyH_take (i := 7) (oi := ⟨some 134, _, _, _, _, _⟩) (v := .int .i64 (i : Int)) rfl (by kernel_rfl) (by kernel_rfl) (by kernel_rfl) (fun _ _ _ h => h) (.inl ⟨by kernel_rfl, fun k hk => by go_simp⟩) hH ?_
      try simp only [Act.put, List.setIfInBounds_toArray, List.set_cons_zero, List.set_cons_succ]
      refine wpAnyH_take (i := 8) (oi := ⟨some 135, _, _, _, _, _⟩) (v := .pointer (some ⟨gl, ol + i * 3, none⟩)) rfl (by kernel_rfl) (by kernel_rfl) (by kernel_rfl) (fun _ _ _ h => h) (.inl ⟨by kernel_rfl, fun k hk => by have d := ix k; go_simp⟩) hH ?_
      try simp only [Act.put, List.setIfInBounds_toArray, List.set_cons_zero, List.set_cons_succ]
      refine wpAnyH_take (i := 9) (oi := ⟨some 136, _, _, _, _, _⟩) (v := .pointer (some ⟨gl, ol + i * 3 + 1, none⟩)) rfl (by kernel_rfl) (by kernel_rfl) (by kernel_rfl) (fun _ _ _ h => h) (.inl ⟨by kernel_rfl, fun k hk => by go_simp⟩) hH ?_
      try simp only [Act.put, List.setIfInBounds_toArray, List.set_cons_zero, List.set_cons_succ]
      refine wpAnyH_take (i := 10) (oi := ⟨some 137, _, _, _, _, _⟩) (v := .int .u8 (Y : Int)) rfl (by kernel_rfl) (by kernel_rfl) (by kernel_rfl) (fun _ _ _ h => h) (.inl ⟨by kernel_rfl, fun k hk => by have d := (cF.out k hk).2.1; go_simp⟩) hH ?_
      try simp only [Act.put, List.setIfInBounds_toArray, List.set_cons_zero, List.set_cons_succ]
      refine wpAnyH_take (i := 11) (oi := ⟨some 138, _, _, _, _, _⟩) (v := .slice (some ⟨gl, ol, none⟩) nL cl) rfl (by kernel_rfl) (by kernel_rfl) (by kernel_rfl) (fun _ _ _ h => h) (.inl ⟨by kernel_rfl, fun k hk => by go_simp⟩) hH ?_
      try simp only [Act.put, List.setIfInBounds_toArray, List.set_cons_zero, List.set_cons_succ]
      refine wpAnyH_take (i := 12) (oi := ⟨some 139, _, _, _, _, _⟩) (v := .int .i64 (i : Int)) rfl (by kernel_rfl) (by kernel_rfl) (by kernel_rfl) (fun _ _ _ h => h) (.inl ⟨by kernel_rfl, fun k hk => by go_simp⟩) hH ?_
      try simp only [Act.put, List.setIfInBounds_toArray, List.set_cons_zero, List.set_cons_succ]
      refine wpAnyH_take (i := 13) (oi := ⟨some 140, _, _, _, _, _⟩) (v := .pointer (some ⟨gl, ol + i * 3, none⟩)) rfl (by kernel_rfl) (by kernel_rfl) (by kernel_rfl) (fun _ _ _ h => h) (.inl ⟨by kernel_rfl, fun k hk => by have d := ix k; go_simp⟩) hH ?_
      try simp only [Act.put, List.setIfInBounds_toArray, List.set_cons_zero, List.set_cons_succ]
      refine wpAnyH_take (i := 14) (oi := ⟨some 141, _, _, _, _, _⟩) (v := .pointer (some ⟨gl, ol + i * 3 + 2, none⟩)) rfl (by kernel_rfl) (by kernel_rfl) (by kernel_rfl) (fun _ _ _ h => h) (.inl ⟨by kernel_rfl, fun k hk => by go_simp⟩) hH ?_
      try simp only [Act.put, List.setIfInBounds_toArray, List.set_cons_zero, List.set_cons_succ]
      refine wpAnyH_take (i := 15) (oi := ⟨some 142, _, _, _, _, _⟩) (v := .slice sr nr cr) rfl (by kernel_rfl) (by kernel_rfl) (by kernel_rfl) (fun _ _ _ h => h) (.inl ⟨by kernel_rfl, fun k hk => by have d := (cF.out k hk).2.2; go_simp⟩) hH ?_
      try simp only [Act.put, List.setIfInBounds_toArray, List.set_cons_zero, List.set_cons_succ]
      refine wpAnyH_ready (rs := [16]) (by kernel_rfl) (by simp) (AllReadyH.cons rfl (fun K hK => ?_) AllReadyH.nil)
      rw [if_pos (by rfl)]
      go_wp2_with (go_at_call 8; refine (hRr.out z4 (hlq.out.below Az4.out.2.2.2.1) (hlx.out.below Az4.out.2.2.1)).mono ?_; rintro e u5 ⟨sw, cw, rfl, H5⟩; have A5 : Hid (Bx u5 gP (rowB (mrk q)) 5 ∧ Bx u5 gR (rowB (mrk rr)) 5 ∧ Below w.heap.size w u5 ∧ Below u.heap.size u u5 ∧ u.heap.size ≤ gP ∧ gP < gR ∧ gR < u5.heap.size) := hPd.out z4 u5 Az4.out H5.out.2; refine stopAt ?_)
      refine Stop.go ?_
      refine hK.out _ _ A5.out.2.2.1 (fun hH => ?_)
      clear hK K
      try simp only [Act.put, List.setIfInBounds_toArray, List.set_cons_zero, List.set_cons_succ]
      refine wpAnyH_take (i := 17) (oi := ⟨some 126, _, _, _, _, _⟩) (v := .tuple #[.slice sw nA cw, .bool gg, .int .i64 er]) rfl (by kernel_rfl) (by kernel_rfl) (by kernel_rfl) (fun _ _ _ h => h) (.inl ⟨by kernel_rfl, fun k hk => by go_simp⟩) hH ?_
      try simp only [Act.put, List.setIfInBounds_toArray, List.set_cons_zero, List.set_cons_succ]
      refine wpAnyH_take (i := 18) (oi := ⟨some 144, _, _, _, _, _⟩) (v := .slice sw nA cw) rfl (by kernel_rfl) (by kernel_rfl) (by kernel_rfl) (fun _ _ _ h => h) (.inl ⟨by kernel_rfl, fun k hk => by go_simp⟩) hH ?_
      try simp only [Act.put, List.setIfInBounds_toArray, List.set_cons_zero, List.set_cons_succ]
      refine wpAnyH_take (i := 19) (oi := ⟨some 145, _, _, _, _, _⟩) (v := .bool gg) rfl (by kernel_rfl) (by kernel_rfl) (by kernel_rfl) (fun _ _ _ h => h) (.inl ⟨by kernel_rfl, fun k hk => by go_simp⟩) hH ?_
      try simp only [Act.put, List.setIfInBounds_toArray, List.set_cons_zero, List.set_cons_succ]
      refine wpAnyH_take (i := 20) (oi := ⟨some 146, _, _, _, _, _⟩) (v := .int .i64 er) rfl (by kernel_rfl) (by kernel_rfl) (by kernel_rfl) (fun _ _ _ h => h) (.inl ⟨by kernel_rfl, fun k hk => by go_simp⟩) hH ?_
      try simp only [Act.put, List.setIfInBounds_toArray, List.set_cons_zero, List.set_cons_succ]
      refine wpAnyH_take (i := 21) (oi := ⟨some 18, _, _, _, _, _⟩) (v := .slice sw nA cw) rfl (by kernel_rfl) (by kernel_rfl) (by kernel_rfl) (fun _ _ _ h => h) (.inl ⟨by kernel_rfl, fun k hk => by go_simp⟩) hH ?_
      try simp only [Act.put, List.setIfInBounds_toArray, List.set_cons_zero, List.set_cons_succ]
      refine wpAnyH_take (i := 22) (oi := ⟨some 19, _, _, _, _, _⟩) (v := .bool gg) rfl (by kernel_rfl) (by kernel_rfl) (by kernel_rfl) (fun _ _ _ h => h) (.inl ⟨by kernel_rfl, fun k hk => by go_simp⟩) hH ?_
      try simp only [Act.put, List.setIfInBounds_toArray, List.set_cons_zero, List.set_cons_succ]
      refine wpAnyH_take (i := 23) (oi := ⟨some 20, _, _, _, _, _⟩) (v := .int .i64 er) rfl (by kernel_rfl) (by kernel_rfl) (by kernel_rfl) (fun _ _ _ h => h) (.inl ⟨by kernel_rfl, fun k hk => by go_simp⟩) hH ?_
      try simp only [Act.put, List.setIfInBounds_toArray, List.set_cons_zero, List.set_cons_succ]
      refine wpAnyH_done (by kernel_rfl) ?_ _
      have O5 : Hid (OwnL 5 1 cB B1 u5 (.slice sa nA ca) A ∧ OwnL 5 1 cB B2 u5 (.slice sb nA cb) A ∧ OwnL 5 1 cB B2 u5 (.slice sw nA cw) A) := ⟨Obz4.out.1.below H5.out.2, Obz4.out.2.1.below H5.out.2, H5.out.1.weak Obz4.out.2.2⟩
      clear H5 Az4 A4 O4 Obz4 hDr hRr
      have W5 : Hid (Ow3 w B1 B2 nA A sa sb sw ca cb cw u5) := ⟨A5.out.2.2.1, O5.out.1, O5.out.2.1, O5.out.2.2, hA2.out, hb1'.out.2, hB12.out⟩
      have V5 : Hid (Below u.heap.size u u5 ∧ Bx u5 gP (rowB (mrk q)) 5 ∧ Bx u5 gR (rowB (mrk rr)) 5 ∧ u.heap.size ≤ gP ∧ gP < gR) := ⟨A5.out.2.2.2.1, A5.out.1, A5.out.2.1, A5.out.2.2.2.2.1, A5.out.2.2.2.2.2.1⟩
      clear O5 A5 hPd
      go_wp2_with (first
        | (go_at_call 10; refine (same_own u9 sb sw cb cw nA A X9.out.1 X9.out.2.1 hA256.out.1 (by have := hA256.out.2; omega)).mono ?_; rintro e uA ⟨rfl, HA⟩; have XA : Hid (LB uA sw A ∧ Below w.heap.size w uA ∧ Below u.heap.size u uA) := ⟨X9.out.2.1.below HA, X9.out.2.2.1.trans (HA.mono X9.out.2.2.1.size), X9.out.2.2.2.trans (HA.mono X9.out.2.2.2.size)⟩)
        | (go_at_call 11; refine (wipe_any u8 B1 (.slice sa nA ca) A W8.out.oa).mono ?_; rintro e u9 ⟨rfl, C9⟩; have X9 : Hid (LB u9 sb A ∧ LB u9 sw A ∧ Below w.heap.size w u9 ∧ Below u.heap.size u u9) := (by
        have h := W8.out.wiped C9.out
        have hu : u.heap.size ≤ B1 := (by have h1 := hb1'.out.1; have h2 := V5.out.2.2.2; omega)
        exact ⟨h.1, h.2.1, h.2.2, V8.out.trans (cu_low C9.out V8.out.size (fun q j hq => Nat.le_trans hu (W8.out.oa.lt q hq).1))⟩))
        | (go_at_call 10; refine (same_own u7 sa sw ca cw nA A (own_block W7.out.oa).1 (own_block W7.out.ow).1 hA256.out.1 (by have := hA256.out.2; omega)).mono ?_; rintro e u8 ⟨rfl, H8⟩; have W8 : Hid (Ow3 w B1 B2 nA A sa sb sw ca cb cw u8) := W7.out.below H8; have V8 : Hid (Below u.heap.size u u8) := V7.out.trans (H8.mono V7.out.size))
        | (go_at_call 9; refine (hB2.out u6 gR (by have h2 := V5.out.2.2.2; have h3 := hbq.out.size; omega) V6.out.2 W6.out.low).mono ?_; rintro e u7 ⟨rfl, C7⟩; have W7 : Hid (Ow3 w B1 B2 nA A sa sb sw ca cb cw u7) := W6.out.cu C7.out hb1'.out.1; have V7 : Hid (Below u.heap.size u u7) := V6.out.1.trans (cu_low C7.out V6.out.1.size (fun q j hq => by subst hq; have h2 := V5.out.2.2.2; omega)))
        | (go_at_call 9; refine (hB1.out u5 gP V5.out.2.2.2.1 V5.out.2.1 V5.out.1).mono ?_; rintro e u6 ⟨rfl, C6⟩; have W6 : Hid (Ow3 w B1 B2 nA A sa sb sw ca cb cw u6) := W5.out.cu C6.out (by have h1 := hb1'.out.1; have h2 := V5.out.2.2.2; omega); have V6 : Hid (Below u.heap.size u u6 ∧ Bx u6 gR (rowB (mrk rr)) 5) := ⟨V5.out.1.trans (cu_low C6.out V5.out.1.size (fun q j hq => by subst hq; exact V5.out.2.2.2.1)), (C6.out.blk gR (heap_lt V5.out.2.2.1) (fun _ e => by have h2 := V5.out.2.2.2; omega)).trans V5.out.2.2.1⟩; have cu6 := (cF.out u6 W6.out.low).2.2))
      · go_roundw
        case rel => exact ⟨i + 1, uA, sw, nA, cw, _, rfl, hlt'.out, rfl, rfl, by simp, by omega, ⟨A, hA256.out.1, by have := hA256.out.2; omega, XA.out.1, XA.out.2.1⟩⟩
        case measure => have := hlt'.out; simp [intOf]; omega
      · go_roundw
        case rel => exact ⟨i + 1, uA, sq, nq, cq, _, rfl, hlt'.out, rfl, rfl, by simp, by omega, ⟨q, hqn.out.1, hqn.out.2, hlq.out.below XA.out.2.2, XA.out.2.1⟩⟩
        case measure => have := hlt'.out; simp [intOf]; omega
    · have hie : i = nL := by omega
      subst hie
      clear hi hlt
      obtain ⟨q, hq, hq2, hlq, hbq⟩ := K.out
      have hlq : Hid (LB u sq q) := hlq
      have hbq : Hid (Below w.heap.size w u) := hbq
      have hqn : Hid (q.length = nq ∧ nq ≤ 2147483647) := ⟨hq, hq2⟩
      have hD1 : Hid (∀ (z : World) (d : Nat), d < 256 → Below w.heap.size w z → Calls Tryd.prog 5 #[.int .u8 (d : Int)] z fun e w' => e = .returned (.agg (dgC d)) ∧ Below z.heap.size z w') := fun z d hd hb => digit_any z d hd (T.out.below hb)
      have hD2 : Hid (∀ (z : World) (d : Nat), d < 256 → Calls Tryd.prog 12 #[.int .u8 (d : Int)] z fun e w' => e = .returned (.agg (dgC d)) ∧ Below z.heap.size z w') := fun z d hd => rdigit_any z d hd
      have hE : Hid (∀ d, (∀ z, (Op.equalIn 10000 22 (.agg (dgC d)) (.agg (dgC d))).run Tryd.prog z = .ok true z)) := fun d z => by have := (eqDg d d).e z; rw [dg_same] at this; exact this
      clear K hq hq2
      go_wp2
      go_loopw [25] (fun dv wz => ∃ (d : Nat) (v : World), v = wz ∧ d ≤ 256 ∧ dv = .int .i64 (d : Int) ∧ Hid (Below u.heap.size u v)) (fun dv _ => (256 - intOf dv).toNat)
      case atStart => exact ⟨0, u, rfl, by omega, rfl, Below.refl _ _⟩
      case round =>
        obtain ⟨d, v, rfl, hd, rfl, V⟩ := hrel
        have hbv : Hid (Below w.heap.size w v) := hbq.out.trans (V.out.mono hbq.out.size)
        by_cases hdl : d < 256
        · have hdi : (d : Int) < 256 := by omega
          have hd1 := hD1.out v d hdl hbv.out
          have hd2 : Hid (∀ z, Calls Tryd.prog 12 #[.int .u8 (d : Int)] z fun e w' => e = .returned (.agg (dgC d)) ∧ Below z.heap.size z w') := fun z => hD2.out z d hdl
          have he := hE.out d
          obtain ⟨X, hX⟩ : ∃ X, dgC d = X := ⟨_, rfl⟩
          rw [hX] at hd1 hd2 he
          have hdl' : Hid (d < 256) := hdl
          clear hd hdl hX hD1 hD2 hE
          go_wp2_with (first
            | (go_at_call 12; refine (hd2.out v1).mono ?_; rintro e v2 ⟨rfl, H2⟩)
            | (go_at_call 5; refine hd1.mono ?_; rintro e v1 ⟨rfl, H1⟩))
          go_roundw
          case rel => exact ⟨d + 1, v2, rfl, hdl'.out, by simp, (V.out.trans (H1.mono V.out.size)).trans (H2.mono (Nat.le_trans V.out.size H1.size))⟩
          case measure => have := hdl'.out; simp [intOf]; omega
        · have hde : d = 256 := by omega
          subst hde
          clear hd hdl hD1 hD2 hE
          have hlv : Hid (LB v sq q) := hlq.out.below V.out
          have hL1 : Calls Tryd.prog 6 #[.slice sq nq cq] v fun e w' => ∃ g, g = v.heap.size ∧ e = .returned (.slice (some ⟨g, 0, none⟩) nq (nq + 9)) ∧ Hid (Bx w' g (rowB (mrk q)) 5 ∧ Below v.heap.size v w') := by
            have := lent_any v sq cq q hlv (by have := hqn.out; omega)
            rw [hqn.out.1] at this
            exact this.mono fun e w' h => ⟨_, rfl, h.1, h.2⟩
          have hS1 : Hid (∀ z g, Bx z g (rowB (mrk q)) 5 → Calls Tryd.prog 13 #[.slice (some ⟨g, 0, none⟩) nq (nq + 9)] z fun e w' => e = .returned (.tuple #[.string (strB (showA q).1), .int .i64 (showA q).2]) ∧ Below z.heap.size z w') := fun z g h => by
            have := show_any z (some ⟨g, 0, none⟩) (nq + 9) q (lb_mrk h)
            rw [hqn.out.1] at this
            exact this
          have hS2 : Hid (∀ z, LB z sq q → Calls Tryd.prog 14 #[.slice sq nq cq] z fun e w' => e = .returned (.tuple #[.string (strB (showA q).1), .int .i64 (showA q).2]) ∧ Below z.heap.size z w') := fun z h => by
            have := rshow_any z sq cq q h
            rw [hqn.out.1] at this
            exact this
          have hBk : Hid (∀ z g, w.heap.size ≤ g → Bx z g (rowB (mrk q)) 5 → v.heap.size ≤ g → Below v.heap.size v z → Calls Tryd.prog 9 #[.slice (some ⟨g, 0, none⟩) nq (nq + 9), .slice sq nq cq] z fun e w' => e = .returned (.bool true) ∧ Hid (CuL w.heap.size (fun q _ => q = g) z w')) := fun z g hg hb hv hz => by
            have := back_any z w.heap.size g cq sq q hg hb (fun u hu => lb_old hlv.out hv hz hu) (by have := hqn.out; omega)
            rw [hqn.out.1] at this
            exact this
          have hR1 : Hid (∀ z, Calls Tryd.prog 15 #[.string s] z fun e w' => ∃ sa na ca, e = .returned (.tuple #[.slice sa na ca, .int .i64 (readA (strL s)).2]) ∧ Hid ((readA (strL s)).1.length = na ∧ LB w' sa (readA (strL s)).1 ∧ Below z.heap.size z w')) := fun z => by
            refine (read_any z s).mono ?_
            rintro e w' ⟨v, rfl, K⟩
            obtain ⟨s2, c2, rfl, hl2, _⟩ := OwnL.open kByte.len K.out.own
            exact ⟨s2, _, c2, rfl, ⟨rfl, hl2, K.out.low⟩⟩
          have hR2 : Hid (∀ z, Calls Tryd.prog 16 #[.string s] z fun e w' => ∃ sa na ca, e = .returned (.tuple #[.slice sa na ca, .int .i64 (readA (strL s)).2]) ∧ Hid ((readA (strL s)).1.length = na ∧ LB w' sa (readA (strL s)).1 ∧ Below z.heap.size z w')) := fun z => by
            refine (rread_any z s).mono ?_
            rintro e w' ⟨v, rfl, K⟩
            obtain ⟨s2, c2, rfl, hl2, _⟩ := OwnL.open kByte.len K.out.own
            exact ⟨s2, _, c2, rfl, ⟨rfl, hl2, K.out.low⟩⟩
          have hlenR : Hid ((readA (strL s)).1.length ≤ 256) := by
            show _ ≤ _
            unfold readA
            split
            · show (readS (strL s) 2048).length ≤ 256
              rw [read_len]
              omega
            · simp
          obtain ⟨RA, hRA⟩ : ∃ R, readA (strL s) = R := ⟨_, rfl⟩
          rw [hRA] at hR1 hR2 hlenR
          obtain ⟨R, er⟩ := RA
          obtain ⟨SA, hSA⟩ : ∃ R, showA q = R := ⟨_, rfl⟩
          rw [hSA] at hS1 hS2
          obtain ⟨S, es⟩ := SA
          dsimp only at hR1 hR2 hlenR hS1 hS2
          obtain ⟨SB, hSB⟩ : ∃ T, strB S = T := ⟨_, rfl⟩
          rw [hSB] at hS1 hS2
          have t1 : (SB.toList == SB.toList) = true := by simp
          have t2 : (es == es) = true := by simp
          have t3 : (er == er) = true := by simp
          clear hRA hSA hSB
          go_wp2_with (first
            | (go_at_call 10; (refine (same_own v6 sa sb ca cb na R (La.out.2.1.below Lb.out.2.2) ?_ La.out.1 (by have := La.out.1; have := hlenR.out; omega)).mono ?_); exact Lb.out.2.1; rintro e v7 ⟨rfl, H7⟩)
            | (go_at_call 16; refine (hR2.out v5).mono ?_; rintro e v6 ⟨sb, nb, cb, rfl, Lb⟩; obtain rfl : na = nb := La.out.1.symm.trans Lb.out.1)
            | (go_at_call 15; refine (hR1.out v4).mono ?_; rintro e v5 ⟨sa, na, ca, rfl, La⟩)
            | (go_at_call 9; refine (hBk.out v3 g G.out.1 B3.out.1 G.out.2 B3.out.2).mono ?_; rintro e v4 ⟨rfl, C4⟩)
            | (go_at_call 14; refine (hS2.out v2 (hlv.out.below B2.out.2)).mono ?_; rintro e v3 ⟨rfl, H3⟩; have B3 : Hid (Bx v3 g (rowB (mrk q)) 5 ∧ Below v.heap.size v v3) := ⟨(H3.block g (heap_lt B2.out.1)).trans B2.out.1, B2.out.2.trans (H3.mono B2.out.2.size)⟩)
            | (go_at_call 13; refine (hS1.out v1 g B1.out.1).mono ?_; rintro e v2 ⟨rfl, H2⟩; have B2 : Hid (Bx v2 g (rowB (mrk q)) 5 ∧ Below v.heap.size v v2) := ⟨(H2.block g (heap_lt B1.out.1)).trans B1.out.1, B1.out.2.trans (H2.mono B1.out.2.size)⟩)
            | (go_at_call 6; refine hL1.mono ?_; rintro e v1 ⟨g, hg, rfl, B1⟩; have G : Hid (w.heap.size ≤ g ∧ v.heap.size ≤ g) := (by rw [hg]; exact ⟨hbv.out.size, Nat.le_refl _⟩); clear hg))
          go_ret
          have l4 : Below w.heap.size w v4 := (hbv.out.trans (B3.out.2.mono hbv.out.size)).trans C4.out.low
          have l5 := l4.trans (La.out.2.2.mono l4.size)
          have l6 := l5.trans (Lb.out.2.2.mono l5.size)
          exact ⟨rfl, l6.trans (H7.mono l6.size)⟩
end Go.Proofs.YtiplellfpagclaaDoor
