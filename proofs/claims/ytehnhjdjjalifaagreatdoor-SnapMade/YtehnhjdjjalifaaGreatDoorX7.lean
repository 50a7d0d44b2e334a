/- The document's own: two machines that are alike. -/
import Derived.Test.YtehnhjdjjalifaaGreatDoorX6
import Derived.BigQuiet
namespace Go.Proofs.YtehnhjdjjalifaaGreatDoor
open Go Go.RowKit
set_option linter.unusedVariables false
set_option maxHeartbeats 8000000
set_option maxRecDepth 20000

theorem rtPd : Rt Tryz.prog 30 1 := ⟨⟨_, Tryz.underlying30, rfl⟩, by kernel_rfl⟩
def rgs (a : Nat → Int) : Array Value := #[.int .u16 (a 0), .int .u16 (a 1), .int .u16 (a 2), .int .u16 (a 3), .int .u16 (a 4), .int .u16 (a 5), .int .u16 (a 6), .int .u16 (a 7), .int .u16 (a 8), .int .u16 (a 9), .int .u16 (a 10), .int .u16 (a 11), .int .u16 (a 12), .int .u16 (a 13), .int .u16 (a 14), .int .u16 (a 15)]
theorem infoU6 : (Tryz.prog.info? 22).map (fun i => (i.zero, i.size, i.bytes)) = some (some (.int .u16 0), 1, 2) := by kernel_rfl
theorem eqRg (a : Nat → Int) (w : World) : (Op.equalIn 9999 23 (.agg (rgs a)) (.agg (rgs a))).run Tryz.prog w = .ok true w := by
  obtain ⟨inf, hi, _⟩ := Option.map_eq_some_iff.1 infoU6
  rw [run_equalIn_array w 9998 _ _ Tryz.underlying23 hi]
  have e1 : Tryz.prog.cellsOf 22 = 1 := by kernel_rfl
  rw [e1]
  have key : ∀ l : List Nat, (∀ k ∈ l, k < 16) → (Op.eqItems 9998 22 1 (rgs a) (rgs a) l).run Tryz.prog w = .ok true w := fun l => by
    induction l with
    | nil => intro _; rfl
    | cons k l ih =>
      intro hk
      have ih' := ih fun j hj => hk j (List.mem_cons_of_mem _ hj)
      have hp : (part 22 (rgs a) (k * 1)).run Tryz.prog w = .ok (.int .u16 (a k)) w := by
        have h16 := hk k (List.mem_cons_self)
        rcases (show k = 0 ∨ k = 1 ∨ k = 2 ∨ k = 3 ∨ k = 4 ∨ k = 5 ∨ k = 6 ∨ k = 7 ∨ k = 8 ∨ k = 9 ∨ k = 10 ∨ k = 11 ∨ k = 12 ∨ k = 13 ∨ k = 14 ∨ k = 15 by omega) with rfl | rfl | rfl | rfl | rfl | rfl | rfl | rfl | rfl | rfl | rfl | rfl | rfl | rfl | rfl | rfl <;> (unfold rgs; go_simp)
      have he : (Op.equalIn 9998 22 (.int .u16 (a k)) (.int .u16 (a k))).run Tryz.prog w = .ok true w := by
        generalize a k = z
        go_simp
      unfold Op.eqItems
      simp only [Sem.run_bind, hp, he, Result.andThen_ok, Bool.not_true]
      exact ih'
  exact key _ fun k hk => List.mem_range.1 hk
theorem eqCp (s : Bd) : Eqs Tryz.prog 26 (cCs s) (cCs s) true := ⟨by kernel_rfl, fun w => by
  have h := eqRg (fun i => ((s.r.getD i 0 : Nat) : Int)) w
  unfold rgs at h
  simp only at h
  unfold cCs byV
  generalize ((s.r.getD 0 0 : Nat) : Int) = a0 at h ⊢
  generalize ((s.r.getD 1 0 : Nat) : Int) = a1 at h ⊢
  generalize ((s.r.getD 2 0 : Nat) : Int) = a2 at h ⊢
  generalize ((s.r.getD 3 0 : Nat) : Int) = a3 at h ⊢
  generalize ((s.r.getD 4 0 : Nat) : Int) = a4 at h ⊢
  generalize ((s.r.getD 5 0 : Nat) : Int) = a5 at h ⊢
  generalize ((s.r.getD 6 0 : Nat) : Int) = a6 at h ⊢
  generalize ((s.r.getD 7 0 : Nat) : Int) = a7 at h ⊢
  generalize ((s.r.getD 8 0 : Nat) : Int) = a8 at h ⊢
  generalize ((s.r.getD 9 0 : Nat) : Int) = a9 at h ⊢
  generalize ((s.r.getD 10 0 : Nat) : Int) = a10 at h ⊢
  generalize ((s.r.getD 11 0 : Nat) : Int) = a11 at h ⊢
  generalize ((s.r.getD 12 0 : Nat) : Int) = a12 at h ⊢
  generalize ((s.r.getD 13 0 : Nat) : Int) = a13 at h ⊢
  generalize ((s.r.getD 14 0 : Nat) : Int) = a14 at h ⊢
  generalize ((s.r.getD 15 0 : Nat) : Int) = a15 at h ⊢
  go_simp⟩
theorem eqRa (s : Bd) : Eqs Tryz.prog 28 (rCs s) (rCs s) true := ⟨by kernel_rfl, fun w => by
  unfold rCs
  go_simp⟩
theorem eqPd (n : Int) : Eqs Tryz.prog 30 #[.int .u8 n] #[.int .u8 n] true := ⟨by kernel_rfl, fun w => by
  go_simp⟩
theorem lb_cellB {y : World} {sp : Option Addr} {l : List UInt8} (h : LB y sp l) (i : Nat) (hi : i < l.length) : ∃ g o, sp = some ⟨g, o, none⟩ ∧ y.cell? ⟨g, o + i, none⟩ = some (.int .u8 ((l.getD i 0).toNat : Int)) := by
  obtain ⟨g, o, e, hc⟩ := h i (l.getD i 0) (by rw [List.getD_eq_getElem?_getD, List.getElem?_eq_getElem hi]; rfl)
  refine ⟨g, o, e, ?_⟩
  have := hc 0 (byV (l.getD i 0)) rfl
  rw [Nat.mul_one, Nat.add_zero] at this
  exact this
theorem same08_true (w : World) (Ca Cb : Array Value) (s : Bd) (ha : Hid (BL w Ca s)) (hb : Hid (BL w Cb s)) (hR : s.ram.length ≤ 4000000000) (hO : s.rom.length ≤ 4000000000) :
    Calls Tryz.prog 13 #[.agg Ca, .agg Cb] w fun e w' => e = .returned (.bool true) ∧ Below w.heap.size w w' := by
  obtain ⟨sR, cR, sO, cO, ea, lR, lO⟩ := ha.out.c
  obtain ⟨sR', cR', sO', cO', eb, lR', lO'⟩ := hb.out.c
  have K0 : Hid (Fm w [(w.heap.size, Ca, 34), (w.heap.size + 1, Cb, 34)] ((w.alloc (.cells Ca 34)).alloc (.cells Cb 34))) := Fm.two w _ _ _ _
  have hm : Hid (∀ y, Fm w [(w.heap.size, Ca, 34), (w.heap.size + 1, Cb, 34)] y → (y.rangeAt w.heap.size 0 (cCs s).toList ∧ y.rangeAt w.heap.size 26 (rCs s).toList ∧ y.rangeAt w.heap.size 30 #[Value.int .u8 (s.pd.toNat : Int)].toList) ∧ (y.rangeAt (w.heap.size + 1) 0 (cCs s).toList ∧ y.rangeAt (w.heap.size + 1) 26 (rCs s).toList ∧ y.rangeAt (w.heap.size + 1) 30 #[Value.int .u8 (s.pd.toNat : Int)].toList)) := fun y h => by
    have h1 := h.bx 0 _ _ _ rfl
    have h2 := h.bx 1 _ _ _ rfl
    rw [ea] at h1
    rw [eb] at h2
    exact ⟨⟨mid_c h1, mid_r h1, fun k v hv => by
      have hk : k < 1 := (List.getElem?_eq_some_iff.1 hv).1
      obtain rfl : k = 0 := by omega
      exact h1.c 30 v hv⟩, ⟨mid_c h2, mid_r h2, fun k v hv => by
      have hk : k < 1 := (List.getElem?_eq_some_iff.1 hv).1
      obtain rfl : k = 0 := by omega
      exact h2.c 30 v hv⟩⟩
  obtain ⟨nR, hnR⟩ : ∃ n, s.ram.length = n := ⟨_, rfl⟩
  obtain ⟨nO, hnO⟩ : ∃ n, s.rom.length = n := ⟨_, rfl⟩
  have hc : Hid (∀ y, Fm w [(w.heap.size, Ca, 34), (w.heap.size + 1, Cb, 34)] y → (y.cell? ⟨w.heap.size, 31, none⟩ = some (.bool s.lt) ∧ y.cell? ⟨w.heap.size, 32, none⟩ = some (.slice sR nR cR) ∧ y.cell? ⟨w.heap.size, 33, none⟩ = some (.slice sO nO cO) ∧ y.cell? ⟨w.heap.size, 34, none⟩ = some (.int .u64 ((s.cc : Nat) : Int))) ∧ (y.cell? ⟨w.heap.size + 1, 31, none⟩ = some (.bool s.lt) ∧ y.cell? ⟨w.heap.size + 1, 32, none⟩ = some (.slice sR' nR cR') ∧ y.cell? ⟨w.heap.size + 1, 33, none⟩ = some (.slice sO' nO cO') ∧ y.cell? ⟨w.heap.size + 1, 34, none⟩ = some (.int .u64 ((s.cc : Nat) : Int)))) := fun y h => by
    have h1 := h.bx 0 _ _ _ rfl
    have h2 := h.bx 1 _ _ _ rfl
    rw [ea] at h1
    rw [eb] at h2
    rw [← hnR, ← hnO]
    exact ⟨⟨h1.c 31 _ rfl, h1.c 32 _ rfl, h1.c 33 _ rfl, h1.c 34 _ rfl⟩, ⟨h2.c 31 _ rfl, h2.c 32 _ rfl, h2.c 33 _ rfl, h2.c 34 _ rfl⟩⟩
  have hl1 : Hid (LB w sR s.ram ∧ LB w sR' s.ram ∧ s.ram.length = nR) := ⟨lR, lR', hnR⟩
  have hl2 : Hid (LB w sO s.rom ∧ LB w sO' s.rom ∧ s.rom.length = nO) := ⟨lO, lO', hnO⟩
  have iR : (nR : Int) ≤ 4000000000 := by omega
  have iO : (nO : Int) ≤ 4000000000 := by omega
  have e4 : Hid (Eqs Tryz.prog 26 (cCs s) (cCs s) true ∧ (cCs s).size = 26) := ⟨eqCp s, rfl⟩
  have e5 : Hid (Eqs Tryz.prog 28 (rCs s) (rCs s) true ∧ (rCs s).size = 4) := ⟨eqRa s, rfl⟩
  have e6 : Hid (Eqs Tryz.prog 30 #[.int .u8 (s.pd.toNat : Int)] #[.int .u8 (s.pd.toNat : Int)] true) := eqPd _
  generalize cCs s = CC at hm e4
  generalize rCs s = RR at hm e5
  generalize s.pd.toNat = PD at hm e6
  generalize s.lt = LT at hc
  generalize s.cc = CY at hc
  clear ea eb lR lO lR' lO' hnR hnO hR hO ha hb
  obtain ⟨⟨_, z1, z2, _⟩, ⟨_, z3, z4, _⟩⟩ := hc.out _ K0.out
  go_enter Tryz.func13, Tryz.ntmps13
  go_wp2
  clear z1 z2 z3 z4
  go_loopw [5] (fun t wz => ∃ (i : Nat) (y : World), y = wz ∧ t = .int .i64 (i : Int) ∧ Hid (i ≤ nR) ∧ Hid (Fm w [(w.heap.size, Ca, 34), (w.heap.size + 1, Cb, 34)] y)) (fun t _ => (nR - intOf t).toNat)
  case atStart => exact ⟨0, _, rfl, rfl, Nat.zero_le _, K0⟩
  case round =>
    obtain ⟨i, y, rfl, rfl, J, K⟩ := hrel
    obtain ⟨⟨_, z1, z2, _⟩, ⟨_, z3, z4, _⟩⟩ := hc.out _ K.out
    by_cases hlt : i < nR
    · obtain ⟨g1, o1, rfl, x1⟩ := lb_cellB (hl1.out.1.below K.out.low) i (by rw [hl1.out.2.2]; exact hlt)
      obtain ⟨g2, o2, rfl, x2⟩ := lb_cellB (hl1.out.2.1.below K.out.low) i (by rw [hl1.out.2.2]; exact hlt)
      have j1 : ∀ u, (Instr.indexAt 31 (.slice (some ⟨g1, o1, none⟩) nR cR) (.int .i64 (i : Int))).run Tryz.prog u = .ok (.pointer (some ⟨g1, o1 + i, none⟩)) u := fun u => by
        have := idxP (P := Tryz.prog) (g := g1) (off := o1) (len := nR) (cap := cR) Tryz.underlying31 (s := 1) (by kernel_rfl) .i64 i u hlt
        rw [Nat.mul_one] at this
        exact this
      have j2 : ∀ u, (Instr.indexAt 31 (.slice (some ⟨g2, o2, none⟩) nR cR') (.int .i64 (i : Int))).run Tryz.prog u = .ok (.pointer (some ⟨g2, o2 + i, none⟩)) u := fun u => by
        have := idxP (P := Tryz.prog) (g := g2) (off := o2) (len := nR) (cap := cR') Tryz.underlying31 (s := 1) (by kernel_rfl) .i64 i u hlt
        rw [Nat.mul_one] at this
        exact this
      have hii : (i : Int) < nR := by omega
      have hlt' : Hid (i < nR) := hlt
      generalize (s.ram.getD i 0).toNat = v at x1 x2
      clear hlt
      go_wp2
      go_quiet (fail)
      go_wp2
      go_roundw
      case rel => exact ⟨i + 1, _, rfl, by simp, hlt'.out, K.out.below (below_drewN (Below.refl _ _))⟩
      case measure => have := hlt'.out; simp [intOf]; omega
    · have hie : i = nR := by have := J.out; omega
      subst hie
      clear hlt
      go_wp2
      go_loopw [6] (fun t wz => ∃ (j : Nat) (z : World), z = wz ∧ t = .int .i64 (j : Int) ∧ Hid (j ≤ nO) ∧ Hid (Fm w [(w.heap.size, Ca, 34), (w.heap.size + 1, Cb, 34)] z)) (fun t _ => (nO - intOf t).toNat)
      case atStart => exact ⟨0, _, rfl, rfl, Nat.zero_le _, K⟩
      case round =>
        clear z1 z2 z3 z4
        obtain ⟨j, z, rfl, rfl, J2, K2⟩ := hrel
        obtain ⟨⟨y1, y2, y3, y4⟩, ⟨y5, y6, y7, y8⟩⟩ := hc.out _ K2.out
        by_cases hlt : j < nO
        · obtain ⟨g1, o1, rfl, x1⟩ := lb_cellB (hl2.out.1.below K2.out.low) j (by rw [hl2.out.2.2]; exact hlt)
          obtain ⟨g2, o2, rfl, x2⟩ := lb_cellB (hl2.out.2.1.below K2.out.low) j (by rw [hl2.out.2.2]; exact hlt)
          have j1 : ∀ u, (Instr.indexAt 31 (.slice (some ⟨g1, o1, none⟩) nO cO) (.int .i64 (j : Int))).run Tryz.prog u = .ok (.pointer (some ⟨g1, o1 + j, none⟩)) u := fun u => by
            have := idxP (P := Tryz.prog) (g := g1) (off := o1) (len := nO) (cap := cO) Tryz.underlying31 (s := 1) (by kernel_rfl) .i64 j u hlt
            rw [Nat.mul_one] at this
            exact this
          have j2 : ∀ u, (Instr.indexAt 31 (.slice (some ⟨g2, o2, none⟩) nO cO') (.int .i64 (j : Int))).run Tryz.prog u = .ok (.pointer (some ⟨g2, o2 + j, none⟩)) u := fun u => by
            have := idxP (P := Tryz.prog) (g := g2) (off := o2) (len := nO) (cap := cO') Tryz.underlying31 (s := 1) (by kernel_rfl) .i64 j u hlt
            rw [Nat.mul_one] at this
            exact this
          have hii : (j : Int) < nO := by omega
          have hlt' : Hid (j < nO) := hlt
          generalize (s.rom.getD j 0).toNat = v at x1 x2
          clear hlt
          go_wp2
          go_quiet (fail)
          go_wp2
          go_roundw
          case rel => exact ⟨j + 1, _, rfl, by simp, hlt'.out, K2.out.below (below_drewN (Below.refl _ _))⟩
          case measure => have := hlt'.out; simp [intOf]; omega
        · have hje : j = nO := by have := J2.out; omega
          subst hje
          clear hlt
          go_wp2_with (first
            | ((with_reducible refine at_loadm rtCp w.heap.size 0 CC ?_ ?_ (.tmp 59) ?_ ?_ ?_ ?_); exact (hm.out _ K2.out).1.1; exact e4.out.2; (first | rfl | kernel_rfl); rfl; rfl)
            | ((with_reducible refine at_loadm rtCp (w.heap.size + 1) 0 CC ?_ ?_ (.tmp 61) ?_ ?_ ?_ ?_); exact (hm.out _ K2.out).2.1; exact e4.out.2; (first | rfl | kernel_rfl); rfl; rfl)
            | ((with_reducible refine at_eq e4.out.1 (.tmp 60) (.tmp 62) 26 ?_ ?_ ?_ ?_ ?_); (first | rfl | kernel_rfl); rfl; rfl; rfl)
            | ((with_reducible refine at_loadm rtRa w.heap.size 26 RR ?_ ?_ (.tmp 65) ?_ ?_ ?_ ?_); exact (hm.out _ K2.out).1.2.1; exact e5.out.2; (first | rfl | kernel_rfl); rfl; rfl)
            | ((with_reducible refine at_loadm rtRa (w.heap.size + 1) 26 RR ?_ ?_ (.tmp 67) ?_ ?_ ?_ ?_); exact (hm.out _ K2.out).2.2.1; exact e5.out.2; (first | rfl | kernel_rfl); rfl; rfl)
            | ((with_reducible refine at_eq e5.out.1 (.tmp 66) (.tmp 68) 28 ?_ ?_ ?_ ?_ ?_); (first | rfl | kernel_rfl); rfl; rfl; rfl)
            | ((with_reducible refine at_loadm rtPd w.heap.size 30 #[.int .u8 (PD : Int)] ?_ ?_ (.tmp 72) ?_ ?_ ?_ ?_); exact (hm.out _ K2.out).1.2.2; rfl; (first | rfl | kernel_rfl); rfl; rfl)
            | ((with_reducible refine at_loadm rtPd (w.heap.size + 1) 30 #[.int .u8 (PD : Int)] ?_ ?_ (.tmp 74) ?_ ?_ ?_ ?_); exact (hm.out _ K2.out).2.2.2; rfl; (first | rfl | kernel_rfl); rfl; rfl)
            | ((with_reducible refine at_eq e6.out (.tmp 73) (.tmp 75) 30 ?_ ?_ ?_ ?_ ?_); (first | rfl | kernel_rfl); rfl; rfl; rfl))
          go_ret
          exact ⟨rfl, K2.out.low⟩
end Go.Proofs.YtehnhjdjjalifaaGreatDoor
