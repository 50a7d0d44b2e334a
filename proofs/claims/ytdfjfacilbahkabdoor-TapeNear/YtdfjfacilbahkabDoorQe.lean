/- What the next wave of a tape is: the program's. -/
import Derived.Test.YtdfjfacilbahkabDoorQd
namespace Go.Proofs.YtdfjfacilbahkabDoor
open Go Go.RowKit
set_option linter.unusedVariables false
set_option maxHeartbeats 1000000
set_option maxRecDepth 20000

/-- A head that goes along a tape. -/
def hdC (sp : Option Addr) (n cap : Nat) (j : Nat) : Array Value := #[.slice sp n cap, .int .i64 (j : Int)]
def fltV (E : Int) (j : Nat) : Value := .iface 46 (.agg #[.int .i64 E, .int .i64 (j : Int)])
/-- A head has moved: its own box alone is another, and what is new. -/
structure Mv (hb : Nat) (y z : World) : Prop where
  low : ∀ B, B ≤ hb → B ≤ y.heap.size → Below B y z
  size : y.heap.size ≤ z.heap.size
  oth : ∀ q, q < y.heap.size → q ≠ hb → z.heap[q]? = y.heap[q]?
theorem Mv.of {hb : Nat} {y z : World} (h : Below y.heap.size y z) : Mv hb y z := ⟨fun B _ hB => h.mono hB, h.size, fun q hq _ => h.block q hq⟩
theorem Mv.trans {hb : Nat} {x y z : World} (h : Mv hb x y) (k : Mv hb y z) : Mv hb x z := ⟨fun B h1 h2 => (h.low B h1 h2).trans (k.low B h1 (Nat.le_trans h2 h.size)), Nat.le_trans h.size k.size, fun q hq hne => (k.oth q (Nat.lt_of_lt_of_le hq h.size) hne).trans (h.oth q hq hne)⟩
theorem builtFa (x y : Int) : Tryd.prog.built 46 [(0, .int .i64 x), (1, .int .i64 y)] = some #[.int .i64 x, .int .i64 y] := by kernel_rfl
theorem hbit_end (y : World) (hb : Nat) (sp : Option Addr) (n cap : Nat) (hn : (n : Int) ≤ 9223372036854775807) (hB : Hid (Bx y hb (hdC sp n cap n) 43)) :
    Calls Tryd.prog 19 #[.pointer (some ⟨hb, 0, none⟩)] y fun e z => e = .returned (.tuple #[.int .u8 0, fltV 122 n]) ∧ Below y.heap.size y z := by
  have c0 := hB.out.c 0 (.slice sp n cap) rfl
  have c1 := hB.out.c 1 (.int .i64 (n : Int)) rfl
  have hbu := builtFa 122 n
  go_enter Tryd.func19, Tryd.ntmps19
  go_wp2
  go_quiet (fail)
  go_wp2
  go_quiet (fail)
  go_wp2
  go_ret2
  exact ⟨rfl, below_drewN (below_drewN (Below.refl _ _))⟩
theorem zeroWa (w : World) : (zeroValue 30).run Tryd.prog w = .ok (.agg (c2 (0, 0)).toArray) w := by kernel_rfl
theorem hbit_wrong (y : World) (hb : Nat) (sp : Option Addr) (n cap j : Nat) (l : List (Int × Int)) (hl : Hid (L2 y sp l)) (hln : l.length = n) (hn : (n : Int) ≤ 9223372036854775807) (hlt : j < n) (p : Int × Int) (hp : l[j]? = some p) (hbad : bitW p < 0) (hB : Hid (Bx y hb (hdC sp n cap j) 43)) :
    Calls Tryd.prog 19 #[.pointer (some ⟨hb, 0, none⟩)] y fun e z => e = .returned (.tuple #[.int .u8 0, fltV 120 j]) ∧ Below y.heap.size y z := by
  have hji : (j : Int) < n := by omega
  have hne : ((j : Int) == n) = false := by simp; omega
  obtain ⟨g, o, rfl, hrow, -, -⟩ := l2_at hl.out j p hp
  have c0 := hB.out.c 0 (.slice (some ⟨g, o, none⟩) n cap) rfl
  have c1 := hB.out.c 1 (.int .i64 (j : Int)) rfl
  have cc0 : Hid (∀ u, Below y.heap.size y u → u.cell? ⟨hb, 0, none⟩ = some (.slice (some ⟨g, o, none⟩) n cap)) := fun u hu => (hu.cell (p := ⟨hb, 0, none⟩) (heap_lt hB.out)).trans c0
  have cc1 : Hid (∀ u, Below y.heap.size y u → u.cell? ⟨hb, 1, none⟩ = some (.int .i64 (j : Int))) := fun u hu => (hu.cell (p := ⟨hb, 1, none⟩) (heap_lt hB.out)).trans c1
  have hrg : Hid (∀ u, Below y.heap.size y u → u.rangeAt g (o + j * 2) (c2 p).toArray.toList) := fun u hu => range_keep hrow hu
  have ij := fun u => idxP (g := g) (off := o) (len := n) (cap := cap) Tryd.underlying25 (s := 2) (by kernel_rfl) .i64 j u hlt
  have zz := zeroWa
  have qb : (!decide (bitW p < 0)) = false := by simp; omega
  have hI : Hid (∀ y5 : World, Calls Tryd.prog 23 #[.agg (c2 p).toArray] y5 fun e w' => e = .returned (.bool false) ∧ Below y5.heap.size y5 w') := fun y5 => by
    have h := isBit_any y5 p
    rw [qb] at h
    exact h
  have hC1 : Hid ((c2 p).toArray.size = 2 ∧ (c2 p).toArray.all (·.oneCell') = true) := ⟨rfl, c2_all p⟩
  obtain ⟨Z, hZ⟩ : ∃ Z, (c2 (0, 0)).toArray = Z := ⟨_, rfl⟩
  have hZ1 : Hid (Z.size = 2) := by rw [← hZ]; exact rfl
  rw [hZ] at zz
  obtain ⟨C, hC⟩ : ∃ C, (c2 p).toArray = C := ⟨_, rfl⟩
  rw [hC] at hI hC1 hrg
  clear hp hln hl hrow hbad qb hC hZ
  go_enter Tryd.func19, Tryd.ntmps19
  go_wp2
  go_quiet (fail)
  go_wp2
  refine wp_region_held_drew (S := Below y.heap.size y) (by kernel_rfl) (below_drew (below_drewN (Below.refl _ _))) (fun hH => ?_)
  generalize (y.drewN _).drew = z0 at hH ⊢
  refine wpAnyH_take (i := 0) (v := .pointer (some ⟨hb, 0, none⟩)) rfl (by kernel_rfl) (by kernel_rfl) (by kernel_rfl) (fun _ _ _ h => h) (.inl ⟨by rfl, fun u hu => by go_simp⟩) hH ?_
  simp only [Act.put, List.setIfInBounds_toArray]
  refine wpAnyH_take (i := 1) (v := .pointer (some ⟨hb, 0, none⟩)) rfl (by kernel_rfl) (by kernel_rfl) (by kernel_rfl) (fun _ _ _ h => h) (.inl ⟨by rfl, fun u hu => by go_simp⟩) hH ?_
  simp only [Act.put]
  refine wpAnyH_take (i := 2) (v := .pointer (some ⟨hb, 0, none⟩)) rfl (by kernel_rfl) (by kernel_rfl) (by kernel_rfl) (fun _ _ _ h => h) (.inl ⟨by rfl, fun u hu => by go_simp⟩) hH ?_
  simp only [Act.put]
  refine wpAnyH_take (i := 3) (v := .slice (some ⟨g, o, none⟩) n cap) rfl (by kernel_rfl) (by kernel_rfl) (by kernel_rfl) (fun _ _ _ h => h) (.inl ⟨by rfl, fun u hu => by have d := cc0.out u hu; go_simp⟩) hH ?_
  simp only [Act.put]
  refine wpAnyH_take (i := 4) (v := .pointer (some ⟨hb, 0, none⟩)) rfl (by kernel_rfl) (by kernel_rfl) (by kernel_rfl) (fun _ _ _ h => h) (.inl ⟨by rfl, fun u hu => by go_simp⟩) hH ?_
  simp only [Act.put]
  refine wpAnyH_take (i := 5) (v := .pointer (some ⟨hb, 0, none⟩)) rfl (by kernel_rfl) (by kernel_rfl) (by kernel_rfl) (fun _ _ _ h => h) (.inl ⟨by rfl, fun u hu => by go_simp⟩) hH ?_
  simp only [Act.put]
  refine wpAnyH_take (i := 6) (v := .pointer (some ⟨hb, 1, none⟩)) rfl (by kernel_rfl) (by kernel_rfl) (by kernel_rfl) (fun _ _ _ h => h) (.inl ⟨by rfl, fun u hu => by go_simp⟩) hH ?_
  simp only [Act.put]
  refine wpAnyH_take (i := 7) (v := .int .i64 (j : Int)) rfl (by kernel_rfl) (by kernel_rfl) (by kernel_rfl) (fun _ _ _ h => h) (.inl ⟨by rfl, fun u hu => by have d := cc1.out u hu; go_simp⟩) hH ?_
  simp only [Act.put]
  refine wpAnyH_take (i := 8) (v := .pointer (some ⟨g, o + j * 2, none⟩)) rfl (by kernel_rfl) (by kernel_rfl) (by kernel_rfl) (fun _ _ _ h => h) (.inl ⟨by rfl, fun u hu => by have d := ij u; go_simp⟩) hH ?_
  simp only [Act.put]
  refine wpAnyH_take (i := 9) (v := .agg C) rfl (by kernel_rfl) (by kernel_rfl) (by kernel_rfl) (fun _ _ _ h => h) (y_loadm rtWa g (o + j * 2) C (fun u hu => hrg.out u hu) hC1.out.1 (.tmp 29) (by kernel_rfl) rfl (by go_simp)) hH ?_
  simp only [Act.put]
  refine wpAnyH_ready (rs := [10]) (by kernel_rfl) (by simp) (AllReadyH.cons rfl (fun K hK => ?_) AllReadyH.nil)
  rw [if_pos (by rfl)]
  go_wp2
  have F1 : Fm y [(z0.heap.size, Z, 30)] (z0.alloc (.cells Z 30)) := (show Fm y [] z0 from ⟨fun _ _ _ _ h => by simp at h, fun _ _ _ _ h => by simp at h, fun _ _ _ _ _ _ _ h => by simp at h, hH⟩).new _ _
  refine hK.out _ _ F1.low (fun hH => ?_)
  clear hK K
  try simp only [Act.put, List.setIfInBounds_toArray, List.set_cons_zero, List.set_cons_succ]
  generalize z0.heap.size = bl at F1 ⊢
  generalize z0.alloc _ = y4 at F1 hH ⊢
  refine wpAnyH_ready (rs := [11]) (by kernel_rfl) (by simp) (AllReadyH.cons rfl (fun K hK => ?_) AllReadyH.nil)
  rw [if_pos (by rfl)]
  refine wp_st rtWa bl Z C (F1.bx 0 _ _ _ rfl) hZ1.out hC1.out.1 hC1.out.2 _ _ rfl rfl rfl ?_
  intro y5 hw5
  have F2 : Hid (Fm y [(bl, C, 30)] y5) := F1.put 0 _ _ _ _ rfl hw5.out
  refine hK.out _ _ F2.out.low (fun _ => ?_)
  clear hK K hH F1 hw5
  try simp only [Act.put, List.setIfInBounds_toArray]
  refine wpAnyH_done (by kernel_rfl) ?_ _
  --HERE
  go_wp2_with (first
    | ((with_reducible refine at_load rtWa bl C ?_ ?_ (.tmp 4) ?_ ?_ ?_ ?_); exact F2.out.bx 0 _ _ _ rfl; exact hC1.out.1; kernel_rfl; rfl; rfl)
    | (go_at_call 23; refine (hI.out y5).mono ?_; rintro e y6 ⟨rfl, h6⟩; have L6 : Hid (Below y.heap.size y y6) := F2.out.low.trans (h6.mono F2.out.low.size); have d1 := cc1.out y6 L6.out))
  have hbu := builtFa 120 j
  go_quiet (fail)
  go_wp2
  go_ret2
  exact ⟨rfl, below_drewN L6.out⟩
theorem hbit_good (y : World) (hb : Nat) (sp : Option Addr) (n cap j : Nat) (l : List (Int × Int)) (hl : Hid (L2 y sp l)) (hln : l.length = n) (hn : (n : Int) ≤ 9223372036854775807) (hlt : j < n) (p : Int × Int) (hp : l[j]? = some p) (hok : 0 ≤ bitW p) (hB : Hid (Bx y hb (hdC sp n cap j) 43)) :
    Calls Tryd.prog 19 #[.pointer (some ⟨hb, 0, none⟩)] y fun e z => e = .returned (.tuple #[.int .u8 (bitW p), .nilIface]) ∧ Hid (Bx z hb (hdC sp n cap (j + 1)) 43 ∧ Mv hb y z) := by
  have hji : (j : Int) < n := by omega
  have hne : ((j : Int) == n) = false := by simp; omega
  obtain ⟨g, o, rfl, hrow, -, -⟩ := l2_at hl.out j p hp
  have c0 := hB.out.c 0 (.slice (some ⟨g, o, none⟩) n cap) rfl
  have c1 := hB.out.c 1 (.int .i64 (j : Int)) rfl
  have cc0 : Hid (∀ u, Below y.heap.size y u → u.cell? ⟨hb, 0, none⟩ = some (.slice (some ⟨g, o, none⟩) n cap)) := fun u hu => (hu.cell (p := ⟨hb, 0, none⟩) (heap_lt hB.out)).trans c0
  have cc1 : Hid (∀ u, Below y.heap.size y u → u.cell? ⟨hb, 1, none⟩ = some (.int .i64 (j : Int))) := fun u hu => (hu.cell (p := ⟨hb, 1, none⟩) (heap_lt hB.out)).trans c1
  have hrg : Hid (∀ u, Below y.heap.size y u → u.rangeAt g (o + j * 2) (c2 p).toArray.toList) := fun u hu => range_keep hrow hu
  have ij := fun u => idxP (g := g) (off := o) (len := n) (cap := cap) Tryd.underlying25 (s := 2) (by kernel_rfl) .i64 j u hlt
  have zz := zeroWa
  have qb : (!decide (bitW p < 0)) = true := by simp; omega
  have hI : Hid (∀ y5 : World, Calls Tryd.prog 23 #[.agg (c2 p).toArray] y5 fun e w' => e = .returned (.bool true) ∧ Below y5.heap.size y5 w') := fun y5 => by
    have h := isBit_any y5 p
    rw [qb] at h
    exact h
  have hC1 : Hid ((c2 p).toArray.size = 2 ∧ (c2 p).toArray.all (·.oneCell') = true) := ⟨rfl, c2_all p⟩
  obtain ⟨Z, hZ⟩ : ∃ Z, (c2 (0, 0)).toArray = Z := ⟨_, rfl⟩
  have hZ1 : Hid (Z.size = 2) := by rw [← hZ]; exact rfl
  rw [hZ] at zz
  have hC2 : Hid ((c2 p).toArray[0]? = some (.int .i64 p.1)) := rfl
  have hC3 : Hid ((c2 p).toArray[1]? = some (.int .i64 p.2)) := rfl
  have hbd : 1 ≤ p.1 ∧ p.1 ≤ 800 ∧ 1 ≤ p.2 ∧ p.2 ≤ 800 ∧ bitW p = (if p.1 + p.2 ≤ 195 then 0 else 1) := by
    unfold bitW at hok ⊢
    by_cases a1 : p.1 < 1 ∨ p.2 < 1 ∨ 800 < p.1 ∨ 800 < p.2
    · rw [if_pos a1] at hok; omega
    · rw [if_neg a1] at hok ⊢
      by_cases a2 : p.1 + p.2 < 40 ∨ 800 < p.1 + p.2
      · rw [if_pos a2] at hok; omega
      · rw [if_neg a2]
        refine ⟨by omega, by omega, by omega, by omega, rfl⟩
  obtain ⟨H0, H1, L0, L1, hbw⟩ := hbd
  obtain ⟨R, hR⟩ : ∃ R, bitW p = R := ⟨_, rfl⟩
  rw [hR] at hbw ⊢
  obtain ⟨Hh, hHh⟩ : ∃ x, p.1 = x := ⟨_, rfl⟩
  obtain ⟨Ll, hLl⟩ : ∃ x, p.2 = x := ⟨_, rfl⟩
  rw [hHh] at H0 H1 hbw hC2
  rw [hLl] at L0 L1 hbw hC3
  obtain ⟨C, hC⟩ : ∃ C, (c2 p).toArray = C := ⟨_, rfl⟩
  rw [hC] at hI hC1 hrg hC2 hC3
  replace hbw : Hid _ := hbw
  clear hp hln hl hrow hok qb hC hZ hR hHh hLl
  go_enter Tryd.func19, Tryd.ntmps19
  go_wp2
  go_quiet (fail)
  go_wp2
  refine wp_region_held_drew (S := Below y.heap.size y) (by kernel_rfl) (below_drew (below_drewN (Below.refl _ _))) (fun hH => ?_)
  generalize (y.drewN _).drew = z0 at hH ⊢
  refine wpAnyH_take (i := 0) (v := .pointer (some ⟨hb, 0, none⟩)) rfl (by kernel_rfl) (by kernel_rfl) (by kernel_rfl) (fun _ _ _ h => h) (.inl ⟨by rfl, fun u hu => by go_simp⟩) hH ?_
  simp only [Act.put, List.setIfInBounds_toArray]
  refine wpAnyH_take (i := 1) (v := .pointer (some ⟨hb, 0, none⟩)) rfl (by kernel_rfl) (by kernel_rfl) (by kernel_rfl) (fun _ _ _ h => h) (.inl ⟨by rfl, fun u hu => by go_simp⟩) hH ?_
  simp only [Act.put]
  refine wpAnyH_take (i := 2) (v := .pointer (some ⟨hb, 0, none⟩)) rfl (by kernel_rfl) (by kernel_rfl) (by kernel_rfl) (fun _ _ _ h => h) (.inl ⟨by rfl, fun u hu => by go_simp⟩) hH ?_
  simp only [Act.put]
  refine wpAnyH_take (i := 3) (v := .slice (some ⟨g, o, none⟩) n cap) rfl (by kernel_rfl) (by kernel_rfl) (by kernel_rfl) (fun _ _ _ h => h) (.inl ⟨by rfl, fun u hu => by have d := cc0.out u hu; go_simp⟩) hH ?_
  simp only [Act.put]
  refine wpAnyH_take (i := 4) (v := .pointer (some ⟨hb, 0, none⟩)) rfl (by kernel_rfl) (by kernel_rfl) (by kernel_rfl) (fun _ _ _ h => h) (.inl ⟨by rfl, fun u hu => by go_simp⟩) hH ?_
  simp only [Act.put]
  refine wpAnyH_take (i := 5) (v := .pointer (some ⟨hb, 0, none⟩)) rfl (by kernel_rfl) (by kernel_rfl) (by kernel_rfl) (fun _ _ _ h => h) (.inl ⟨by rfl, fun u hu => by go_simp⟩) hH ?_
  simp only [Act.put]
  refine wpAnyH_take (i := 6) (v := .pointer (some ⟨hb, 1, none⟩)) rfl (by kernel_rfl) (by kernel_rfl) (by kernel_rfl) (fun _ _ _ h => h) (.inl ⟨by rfl, fun u hu => by go_simp⟩) hH ?_
  simp only [Act.put]
  refine wpAnyH_take (i := 7) (v := .int .i64 (j : Int)) rfl (by kernel_rfl) (by kernel_rfl) (by kernel_rfl) (fun _ _ _ h => h) (.inl ⟨by rfl, fun u hu => by have d := cc1.out u hu; go_simp⟩) hH ?_
  simp only [Act.put]
  refine wpAnyH_take (i := 8) (v := .pointer (some ⟨g, o + j * 2, none⟩)) rfl (by kernel_rfl) (by kernel_rfl) (by kernel_rfl) (fun _ _ _ h => h) (.inl ⟨by rfl, fun u hu => by have d := ij u; go_simp⟩) hH ?_
  simp only [Act.put]
  refine wpAnyH_take (i := 9) (v := .agg C) rfl (by kernel_rfl) (by kernel_rfl) (by kernel_rfl) (fun _ _ _ h => h) (y_loadm rtWa g (o + j * 2) C (fun u hu => hrg.out u hu) hC1.out.1 (.tmp 29) (by kernel_rfl) rfl (by go_simp)) hH ?_
  simp only [Act.put]
  refine wpAnyH_ready (rs := [10]) (by kernel_rfl) (by simp) (AllReadyH.cons rfl (fun K hK => ?_) AllReadyH.nil)
  rw [if_pos (by rfl)]
  go_wp2
  have F1 : Fm y [(z0.heap.size, Z, 30)] (z0.alloc (.cells Z 30)) := (show Fm y [] z0 from ⟨fun _ _ _ _ h => by simp at h, fun _ _ _ _ h => by simp at h, fun _ _ _ _ _ _ _ h => by simp at h, hH⟩).new _ _
  refine hK.out _ _ F1.low (fun hH => ?_)
  clear hK K
  try simp only [Act.put, List.setIfInBounds_toArray, List.set_cons_zero, List.set_cons_succ]
  generalize z0.heap.size = bl at F1 ⊢
  generalize z0.alloc _ = y4 at F1 hH ⊢
  refine wpAnyH_ready (rs := [11]) (by kernel_rfl) (by simp) (AllReadyH.cons rfl (fun K hK => ?_) AllReadyH.nil)
  rw [if_pos (by rfl)]
  refine wp_st rtWa bl Z C (F1.bx 0 _ _ _ rfl) hZ1.out hC1.out.1 hC1.out.2 _ _ rfl rfl rfl ?_
  intro y5 hw5
  have F2 : Hid (Fm y [(bl, C, 30)] y5) := F1.put 0 _ _ _ _ rfl hw5.out
  refine hK.out _ _ F2.out.low (fun _ => ?_)
  clear hK K hH F1 hw5
  try simp only [Act.put, List.setIfInBounds_toArray]
  refine wpAnyH_done (by kernel_rfl) ?_ _
  --HERE
  have hbne : Hid (hb ≠ bl) := fun e => by have h1 := F2.out.ge 0 _ _ _ rfl; have h2 := heap_lt hB.out; omega
  by_cases hs : Hh + Ll ≤ 195
  · have qs : decide (Hh + Ll ≤ 195) = true := by simpa using hs
    obtain rfl : R = 0 := by rw [hbw.out, if_pos hs]
    clear hbw hs
    go_wp2_with (first
      | ((with_reducible refine at_load rtWa bl C ?_ ?_ (.tmp 4) ?_ ?_ ?_ ?_); exact F2.out.bx 0 _ _ _ rfl; exact hC1.out.1; kernel_rfl; rfl; rfl)
      | (go_at_call 23; refine (hI.out y5).mono ?_; rintro e y6 ⟨rfl, h6⟩; refine stopAt ?_))
    have F3 : Hid (Fm y [(bl, C, 30)] y6) := F2.out.below h6
    have hB6 : Hid (Bx y6 hb (hdC (some ⟨g, o, none⟩) n cap j) 43) := (F3.out.low.block hb (heap_lt hB.out)).trans hB.out
    have d1 : y6.cell? ⟨hb, 1, none⟩ = some (.int .i64 (j : Int)) := cc1.out y6 F3.out.low
    have f1 : y6.frozen? ⟨hb, 1, none⟩ = false := hB6.out.fz 1
    obtain ⟨W, hwx⟩ : ∃ W, y6.setCell ⟨hb, 1, none⟩ (.int .i64 ((j : Int) + 1)) = W := ⟨_, rfl⟩
    have e0 : W.cell? ⟨bl, 0, none⟩ = some (.int .i64 Hh) := by
      rw [← hwx, World.cell?_setCell_far _ _ _ _ hbne.out]
      exact (F3.out.bx 0 _ _ _ rfl).c 0 _ hC2.out
    have e1 : W.cell? ⟨bl, 1, none⟩ = some (.int .i64 Ll) := by
      rw [← hwx, World.cell?_setCell_far _ _ _ _ hbne.out]
      exact (F3.out.bx 0 _ _ _ rfl).c 1 _ hC3.out
    have fin : Hid (Bx W hb (hdC (some ⟨g, o, none⟩) n cap (j + 1)) 43 ∧ Mv hb y W) := by
      rw [← hwx]
      refine ⟨?_, (Mv.of F3.out.low).trans ⟨fun B hBb _ => (Below.refl B y6).setCell (p := ⟨hb, 1, none⟩) hBb _, ((Below.refl 0 y6).setCell (p := ⟨hb, 1, none⟩) (Nat.zero_le _) _).size, fun q _ hq => heap_setCell_other y6 ⟨hb, 1, none⟩ q _ hq⟩⟩
      have := heap_setCell_same y6 hb 1 _ _ (.int .i64 ((j : Int) + 1)) hB6.out
      exact this
    have hwx : Hid _ := hwx
    refine Stop.go ?_
    go_wp2_with ((with_reducible refine gen_world (y6.setCell ⟨hb, 1, none⟩ (.int .i64 ((j : Int) + 1))) (fun z => z = W) hwx.out ?_); intro y7 e7; obtain rfl := e7.out)
    go_ret2
    exact ⟨rfl, fin⟩
  · have qs : decide (Hh + Ll ≤ 195) = false := by simpa using hs
    obtain rfl : R = 1 := by rw [hbw.out, if_neg hs]
    clear hbw hs
    go_wp2_with (first
      | ((with_reducible refine at_load rtWa bl C ?_ ?_ (.tmp 4) ?_ ?_ ?_ ?_); exact F2.out.bx 0 _ _ _ rfl; exact hC1.out.1; kernel_rfl; rfl; rfl)
      | (go_at_call 23; refine (hI.out y5).mono ?_; rintro e y6 ⟨rfl, h6⟩; refine stopAt ?_))
    have F3 : Hid (Fm y [(bl, C, 30)] y6) := F2.out.below h6
    have hB6 : Hid (Bx y6 hb (hdC (some ⟨g, o, none⟩) n cap j) 43) := (F3.out.low.block hb (heap_lt hB.out)).trans hB.out
    have d1 : y6.cell? ⟨hb, 1, none⟩ = some (.int .i64 (j : Int)) := cc1.out y6 F3.out.low
    have f1 : y6.frozen? ⟨hb, 1, none⟩ = false := hB6.out.fz 1
    obtain ⟨W, hwx⟩ : ∃ W, y6.setCell ⟨hb, 1, none⟩ (.int .i64 ((j : Int) + 1)) = W := ⟨_, rfl⟩
    have e0 : W.cell? ⟨bl, 0, none⟩ = some (.int .i64 Hh) := by
      rw [← hwx, World.cell?_setCell_far _ _ _ _ hbne.out]
      exact (F3.out.bx 0 _ _ _ rfl).c 0 _ hC2.out
    have e1 : W.cell? ⟨bl, 1, none⟩ = some (.int .i64 Ll) := by
      rw [← hwx, World.cell?_setCell_far _ _ _ _ hbne.out]
      exact (F3.out.bx 0 _ _ _ rfl).c 1 _ hC3.out
    have fin : Hid (Bx W hb (hdC (some ⟨g, o, none⟩) n cap (j + 1)) 43 ∧ Mv hb y W) := by
      rw [← hwx]
      refine ⟨?_, (Mv.of F3.out.low).trans ⟨fun B hBb _ => (Below.refl B y6).setCell (p := ⟨hb, 1, none⟩) hBb _, ((Below.refl 0 y6).setCell (p := ⟨hb, 1, none⟩) (Nat.zero_le _) _).size, fun q _ hq => heap_setCell_other y6 ⟨hb, 1, none⟩ q _ hq⟩⟩
      have := heap_setCell_same y6 hb 1 _ _ (.int .i64 ((j : Int) + 1)) hB6.out
      exact this
    have hwx : Hid _ := hwx
    refine Stop.go ?_
    go_wp2_with ((with_reducible refine gen_world (y6.setCell ⟨hb, 1, none⟩ (.int .i64 ((j : Int) + 1))) (fun z => z = W) hwx.out ?_); intro y7 e7; obtain rfl := e7.out)
    go_ret2
    exact ⟨rfl, fin⟩
end Go.Proofs.YtdfjfacilbahkabDoor
