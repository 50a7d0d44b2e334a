/- The document's own: a line as an item: an order that names a label. -/
import Derived.Test.YthaijjehplomfaaDoorJ35
namespace Go.Proofs.YthaijjehplomfaaDoor
open Go Go.RowKit
set_option linter.unusedVariables false
set_option maxHeartbeats 1000000
set_option maxRecDepth 20000

theorem fs_a : ∀ i, i < 31 → ((⟨((fsR i).map chK).toArray⟩ : ByteArray).toList == [97]) = decide (fsR i = [4]) := by
  intro i hi
  rw [toList_eq]
  have key : ∀ i : Fin 31, (((fsR i.val).map chK) == [97]) = decide (fsR i.val = [4]) := by decide +kernel
  exact key ⟨i, hi⟩
/-- Has this row the name, and the field of an address alone? -/
def isTo (s : List UInt8) (i : Nat) : Prop := nmR i = s ∧ fsR i = [4]
/-- What is answered of a word, the word "to" and a label. -/
def ItoE (w : World) (s x : ByteArray) (e : Ending) (z : World) : Prop :=
  (∃ i A, i < 31 ∧ isTo s.data.toList i ∧ e = .returned (.tuple #[.agg (it4 (.slice (some ⟨A, 0, none⟩) 2 2) ⟨#[]⟩ x (opR i)), .bool (isNm x)]) ∧ w.heap.size ≤ A ∧ Bx z A #[.int .u8 0, .int .u8 0] 5 ∧ Below w.heap.size w z)
  ∨ ((∀ i, i < 31 → ¬ isTo s.data.toList i) ∧ e = .returned (.tuple #[.agg (it4 (.slice none 0 0) ⟨#[]⟩ ⟨#[]⟩ 0), .bool false]) ∧ Below w.heap.size w z)
theorem item_to (w : World) (gs os cap m n : Nat) (s0 x1 x2 : ByteArray) (hm : m = 3) (hL : Hid (LiesL 1 strC w (some ⟨gs, os, none⟩) [s0, x1, x2])) (hsn : s0.size ≤ 4294967280) (hn : s0.size = n + 1) (hd : ¬ s0 = ⟨#[100, 97, 116, 97]⟩) (ht : x1 = ⟨#[116, 111]⟩) :
    Calls Tryd.prog 53 #[.slice (some ⟨gs, os, none⟩) m cap] w (ItoE w s0 x2) := by
  have hF : Hid (Fm w [(w.heap.size, it0, 111)] (w.alloc (.cells it0 111))) := Fm.one w _ _
  obtain ⟨WT, hWT⟩ : ∃ x : Array Value, Hid (x = (rowL dwC ((List.range 31).map dR)).toArray) := ⟨_, (rfl : (rowL dwC ((List.range 31).map dR)).toArray = (rowL dwC ((List.range 31).map dR)).toArray)⟩
  have ixa : ∀ (k : Nat), k < m → ∀ z, (Instr.indexAt 70 (.slice (some ⟨gs, os, none⟩) m cap) (.int .i64 (k : Int))).run Tryd.prog z = .ok (.pointer (some ⟨gs, os + k, none⟩)) z := fun k hk z => idxW (g := gs) (off := os) (len := m) (cap := cap) k z hk
  have ix0 : ∀ z, (Instr.indexAt 70 (.slice (some ⟨gs, os, none⟩) m cap) (.int .i64 0)).run Tryd.prog z = .ok (.pointer (some ⟨gs, os, none⟩)) z := fun z => by
    have h := ixa 0 (by omega) z
    rw [Nat.add_zero] at h
    exact h
  have ix1 : ∀ z, (Instr.indexAt 70 (.slice (some ⟨gs, os, none⟩) m cap) (.int .i64 1)).run Tryd.prog z = .ok (.pointer (some ⟨gs, os + 1, none⟩)) z := ixa 1 (by omega)
  have ix2 : ∀ z, (Instr.indexAt 70 (.slice (some ⟨gs, os, none⟩) m cap) (.int .i64 2)).run Tryd.prog z = .ok (.pointer (some ⟨gs, os + 2, none⟩)) z := ixa 2 (by omega)
  have hcq : ∀ (q : Nat) (s : ByteArray), [s0, x1, x2][q]? = some s → ∀ z, Below w.heap.size w z → z.cell? ⟨gs, os + q, none⟩ = some (.string s) := fun q s h z hz => by
    have h := word_at hL.out q s h
    exact (hz.cell (World.block_lt_of_cell? w _ h)).trans h
  have hc0 : Hid (∀ z, Below w.heap.size w z → z.cell? ⟨gs, os, none⟩ = some (.string s0)) := fun z hz => by
    have h := hcq 0 s0 rfl z hz
    rw [Nat.add_zero] at h
    exact h
  have hc1 : Hid (∀ z, Below w.heap.size w z → z.cell? ⟨gs, os + 1, none⟩ = some (.string x1)) := hcq 1 x1 rfl
  have hc2 : Hid (∀ z, Below w.heap.size w z → z.cell? ⟨gs, os + 2, none⟩ = some (.string x2)) := hcq 2 x2 rfl
  have wn : IntKind.i64.wrap ((s0.size : Int) - 1) = (n : Int) := by rw [IntKind.wrap_i64]; omega
  have hns : (n : Int) ≤ s0.size := by omega
  have hn0 : (0 : Int) ≤ n := by omega
  have q0 : (s0.toList == [100, 97, 116, 97]) = false := by rw [str_is]; exact decide_eq_false hd
  have q1 : (x1.toList == [116, 111]) = true := by rw [str_is]; exact decide_eq_true ht
  have e1 : ((m : Int) == 1) = false := by simp; omega
  have e3 : ((m : Int) == 3) = true := by simp; omega
  have hix := last_at s0 n hn
  generalize (s0[n]'(by omega)).toNat = c at hix
  have hN := fun z => risn_any x2 z
  obtain ⟨bb, hbb⟩ : ∃ bb, isNm x2 = bb := ⟨_, rfl⟩
  unfold ItoE
  rw [hbb] at hN ⊢
  clear hm hn hd ht hsn hcq hbb ixa
  go_enter Tryd.func53, Tryd.ntmps53
  go_wp2_with (first
    | (go_at_call 21; refine (rWords_any y1).mono ?_; rintro e y2 ⟨rfl, H⟩; have K2 : Hid (Fm w [(w.heap.size, it0, 111), (y1.heap.size, WT, 64)] y2) := K1.out.add H.out.2 (Nat.le_refl _) (by rw [hWT.out]; exact H.out.1); clear H)
    | ((with_reducible refine gen_world (w.alloc (.cells it0 111)) (Fm w [(w.heap.size, it0, 111)]) hF.out ?_); intro y1 K1; have cS := hc0.out y1 K1.out.low; have cS1 := hc1.out y1 K1.out.low))
  generalize y1.heap.size = gW at K2 ⊢
  clear cS cS1
  go_loopw [11] (fun fi wz => ∃ (j : Nat) (u : World), u = wz ∧ j ≤ 31 ∧ fi = .int .i64 (j : Int) ∧ Hid (Fm w [(w.heap.size, it0, 111), (gW, WT, 64)] u) ∧ Hid (∀ j', j' < j → ¬ isTo s0.data.toList (dR j'))) (fun fi _ => (31 - intOf fi).toNat)
  case atStart => exact ⟨0, _, rfl, by decide, rfl, K2.out, fun j' h => by omega⟩
  case round =>
    obtain ⟨j, u, rfl, hj, rfl, Ku, J⟩ := hrel
    by_cases hlt : j < 31
    · have hji : (j : Int) < 31 := by omega
      have hj' : Hid (j < 31) := hlt
      obtain ⟨p, hp⟩ : ∃ x, j * 4 = x := ⟨_, rfl⟩
      have ix := fun v => idxP (P := Tryd.prog) (g := gW) (off := 0) (len := 31) (cap := 31) Tryd.underlying61 (s := 4) (by kernel_rfl) .i64 j v hlt
      simp only [Nat.zero_add] at ix
      rw [hp] at ix
      obtain ⟨i0, hi0⟩ : ∃ i0, dR j = i0 := ⟨_, rfl⟩
      have hi31 : i0 < 31 := by rw [← hi0]; exact dR_lt j hlt
      obtain ⟨op, hopk⟩ : ∃ x, opR i0 = x := ⟨_, rfl⟩
      obtain ⟨NM, hNM⟩ : ∃ x : ByteArray, nmB i0 = x := ⟨_, rfl⟩
      obtain ⟨FS, hFS⟩ : ∃ x : ByteArray, x = ⟨((fsR i0).map chK).toArray⟩ := ⟨_, rfl⟩
      have hcell : Hid (∀ v, Bx v gW WT 64 → v.cell? ⟨gW, p, none⟩ = some (.int .u8 (op : Int)) ∧ v.cell? ⟨gW, p + 2, none⟩ = some (.string FS) ∧ v.cell? ⟨gW, p + 3, none⟩ = some (.string NM)) := fun v h => by
        rw [hWT.out] at h
        have h1 := dw_at h j hlt
        rw [hp, hi0] at h1
        refine ⟨?_, ?_, ?_⟩
        · have := h1 0 (.int .u8 (op : Int)) (by rw [← hopk]; rfl)
          exact this
        · have := h1 2 (.string FS) (by rw [hFS]; rfl)
          exact this
        · have := h1 3 (.string NM) (by rw [← hNM]; rfl)
          exact this
      have cs := hcell.out u (Ku.out.bx 1 _ _ _ rfl)
      have cN := cs.2.2
      have cF := cs.2.1
      have cX := hc2.out u Ku.out.low
      have hNd : NM.data.toList = nmR i0 := by rw [← hNM]; simp [nmB]
      have hdr : Hid (dR j = i0 ∧ i0 < 31 ∧ opR i0 = op) := ⟨hi0, hi31, hopk⟩
      have J1 : Hid (¬ isTo s0.data.toList i0 → ∀ j', j' < j + 1 → ¬ isTo s0.data.toList (dR j')) := fun h j' hl => by
        rcases Nat.lt_or_ge j' j with h1 | h1
        · exact J.out j' h1
        · rw [show j' = j by omega, hdr.out.1]; exact h
      by_cases he : nmR i0 = s0.data.toList
      · have a1 : (NM.toList == s0.toList) = true := by rw [toList_eq, toList_eq, hNd, he]; simp
        by_cases hf : fsR i0 = [4]
        · have a2 : (FS.toList == [97]) = true := by rw [hFS, fs_a i0 hi31]; exact decide_eq_true hf
          have hto : Hid (isTo s0.data.toList i0) := ⟨he, hf⟩
          clear he hf hp hopk hNM hFS hlt hj cs hi0 hi31 hNd
          go_wp2_with (go_at_call 75; refine (hN _).mono ?_; rintro e z ⟨rfl, hz⟩; replace hz := hz.symm; subst hz)
          have Kd : Hid (Fm w [(w.heap.size, it0, 111), (gW, WT, 64)] u.drew) := Ku.out.drew
          refine wp_region_held_drew (S := fun z => ∃ c9, Fm w [(w.heap.size, c9, 111), (gW, WT, 64)] z) (by kernel_rfl) ⟨_, Kd.out⟩ (fun hH => ?_)
          generalize u.drew = z0 at hH Kd ⊢
          refine wpAnyH_take (oi := ⟨some 107, _, _, _, _, _⟩) (i := 0) (v := .slice (some ⟨gs, os, none⟩) m cap) rfl (by kernel_rfl) (by kernel_rfl) (by kernel_rfl) (fun _ _ _ h => h) (.inl ⟨by kernel_rfl, fun u hu => by go_simp⟩) hH ?_
          try simp only [Act.put, List.setIfInBounds_toArray, List.set_cons_zero, List.set_cons_succ]
          refine wpAnyH_take (oi := ⟨some 108, _, _, _, _, _⟩) (i := 1) (v := .pointer (some ⟨gs, os + 2, none⟩)) rfl (by kernel_rfl) (by kernel_rfl) (by kernel_rfl) (fun _ _ _ h => h) (.inl ⟨by kernel_rfl, fun u hu => by go_simp⟩) hH ?_
          try simp only [Act.put, List.setIfInBounds_toArray, List.set_cons_zero, List.set_cons_succ]
          refine wpAnyH_take (oi := ⟨some 109, _, _, _, _, _⟩) (i := 2) (v := .string x2) rfl (by kernel_rfl) (by kernel_rfl) (by kernel_rfl) (fun _ _ _ h => h) (.inl ⟨by kernel_rfl, fun u hu => by obtain ⟨c9, hu⟩ := hu; have x := hc2.out u hu.low; go_simp⟩) hH ?_
          try simp only [Act.put, List.setIfInBounds_toArray, List.set_cons_zero, List.set_cons_succ]
          refine wpAnyH_take (oi := ⟨some 110, _, _, _, _, _⟩) (i := 3) (v := .slice (some ⟨gW, 0, none⟩) 31 31) rfl (by kernel_rfl) (by kernel_rfl) (by kernel_rfl) (fun _ _ _ h => h) (.inl ⟨by kernel_rfl, fun u hu => by go_simp⟩) hH ?_
          try simp only [Act.put, List.setIfInBounds_toArray, List.set_cons_zero, List.set_cons_succ]
          refine wpAnyH_take (oi := ⟨some 111, _, _, _, _, _⟩) (i := 4) (v := .int .i64 (j : Int)) rfl (by kernel_rfl) (by kernel_rfl) (by kernel_rfl) (fun _ _ _ h => h) (.inl ⟨by kernel_rfl, fun u hu => by go_simp⟩) hH ?_
          try simp only [Act.put, List.setIfInBounds_toArray, List.set_cons_zero, List.set_cons_succ]
          refine wpAnyH_take (oi := ⟨some 112, _, _, _, _, _⟩) (i := 5) (v := .pointer (some ⟨gW, p, none⟩)) rfl (by kernel_rfl) (by kernel_rfl) (by kernel_rfl) (fun _ _ _ h => h) (.inl ⟨by kernel_rfl, fun u hu => by go_simp⟩) hH ?_
          try simp only [Act.put, List.setIfInBounds_toArray, List.set_cons_zero, List.set_cons_succ]
          refine wpAnyH_take (oi := ⟨some 113, _, _, _, _, _⟩) (i := 6) (v := .pointer (some ⟨gW, p, none⟩)) rfl (by kernel_rfl) (by kernel_rfl) (by kernel_rfl) (fun _ _ _ h => h) (.inl ⟨by kernel_rfl, fun u hu => by go_simp⟩) hH ?_
          try simp only [Act.put, List.setIfInBounds_toArray, List.set_cons_zero, List.set_cons_succ]
          refine wpAnyH_take (oi := ⟨some 114, _, _, _, _, _⟩) (i := 7) (v := .int .u8 (op : Int)) rfl (by kernel_rfl) (by kernel_rfl) (by kernel_rfl) (fun _ _ _ h => h) (.inl ⟨by kernel_rfl, fun u hu => by obtain ⟨c9, hu⟩ := hu; have x := (hcell.out u (hu.bx 1 _ _ _ rfl)).1; go_simp⟩) hH ?_
          try simp only [Act.put, List.setIfInBounds_toArray, List.set_cons_zero, List.set_cons_succ]
          refine wpAnyH_take (oi := ⟨some 117, _, _, _, _, _⟩) (i := 10) (v := .bool bb) rfl (by kernel_rfl) (by kernel_rfl) (by kernel_rfl) (fun _ _ _ h => h) (.inl ⟨by kernel_rfl, fun u hu => by go_simp⟩) hH ?_
          try simp only [Act.put, List.setIfInBounds_toArray, List.set_cons_zero, List.set_cons_succ]
          refine wpAnyH_ready (rs := [8]) (by kernel_rfl) (by simp) (fun i9 hi9 => ?_)
          obtain rfl := List.mem_singleton.1 hi9
          clear hi9
          refine wpOp_list (o := ⟨some 115, _, _, _, _, _⟩) rfl ?_
          refine at_bs2 0 0 (.const (.int .u8 0)) (.const (.int .u8 0)) rfl rfl rfl rfl ?_
          go_wp2
          have K6 : Hid (Fm w [(w.heap.size, it0, 111), (gW, WT, 64), (z0.heap.size, #[.int .u8 0, .int .u8 0], 5)] (z0.alloc (.cells #[.int .u8 0, .int .u8 0] 5))) := Kd.out.new _ _
          replace hH := (⟨_, K6.out.pre (l' := [_])⟩ : ∃ c9, Fm w [(w.heap.size, c9, 111), (gW, WT, 64)] (z0.alloc (.cells #[.int .u8 0, .int .u8 0] 5)))
          refine ⟨hH, ?_⟩
          generalize z0.alloc (.cells #[.int .u8 0, .int .u8 0] 5) = z1 at hH K6 ⊢
          have hbA : Hid (w.heap.size ≤ z0.heap.size) := Kd.out.low.size
          generalize z0.heap.size = bA at K6 hbA ⊢
          try simp only [Act.put, List.setIfInBounds_toArray, List.set_cons_zero, List.set_cons_succ]
          refine wpAnyH_take (oi := ⟨some 116, _, _, _, _, _⟩) (i := 9) (v := .agg #[.slice (some ⟨bA, 0, none⟩) 2 2, .string ⟨#[]⟩, .string x2, .int .u8 (op : Int)]) rfl (by kernel_rfl) (by kernel_rfl) (by kernel_rfl) (fun _ _ _ h => h) (.inl ⟨by kernel_rfl, fun u hu => by go_simp⟩) hH ?_
          try simp only [Act.put, List.setIfInBounds_toArray, List.set_cons_zero, List.set_cons_succ]
          refine wpAnyH_ready (rs := [11]) (by kernel_rfl) (by simp) (fun i9 hi9 => ?_)
          obtain rfl := List.mem_singleton.1 hi9
          clear hi9
          refine wpOp_list (o := ⟨none, _, _, _, _, _⟩) rfl ?_
          go_wp2_with ((with_reducible refine at_st rtI w.heap.size it0 #[.slice (some ⟨bA, 0, none⟩) 2 2, .string ⟨#[]⟩, .string x2, .int .u8 (op : Int)] ?_ ?_ ?_ ?_ (.tmp 2) (.tmp 116) ?_ ?_ ?_ ?_ ?_); exact K6.out.bx 0 _ _ _ rfl; rfl; rfl; simp [Value.oneCell']; rfl; rfl; rfl; rfl; intro z2 hw2; have K7 : Hid (Fm w [(w.heap.size, #[.slice (some ⟨bA, 0, none⟩) 2 2, .string ⟨#[]⟩, .string x2, .int .u8 (op : Int)], 111), (gW, WT, 64), (bA, #[.int .u8 0, .int .u8 0], 5)] z2) := K6.out.put 0 _ _ _ _ rfl hw2.out)
          replace hH := (⟨_, K7.out.pre (l' := [_])⟩ : ∃ c9, Fm w [(w.heap.size, c9, 111), (gW, WT, 64)] z2)
          refine ⟨hH, ?_⟩
          try simp only [Act.put, List.setIfInBounds_toArray, List.set_cons_zero, List.set_cons_succ]
          refine wpAnyH_take (oi := ⟨some 3, _, _, _, _, _⟩) (i := 12) (v := .bool bb) rfl (by kernel_rfl) (by kernel_rfl) (by kernel_rfl) (fun _ _ _ h => h) (.inl ⟨by kernel_rfl, fun u hu => by go_simp⟩) hH ?_
          try simp only [Act.put, List.setIfInBounds_toArray, List.set_cons_zero, List.set_cons_succ]
          refine wpAnyH_done (by kernel_rfl) ?_ _
          clear hH
          go_wp2
          exact ret_two (v := .bool bb) rtI rfl rfl rfl (K7.out.bx 0 _ _ _ rfl) rfl rfl (.inl ⟨i0, bA, hdr.out.2.1, hto.out, by rw [hdr.out.2.2]; rfl, hbA.out, K7.out.bx 2 _ _ _ rfl, K7.out.low⟩)
        · have a2 : (FS.toList == [97]) = false := by rw [hFS, fs_a i0 hi31]; exact decide_eq_false hf
          have J2 : Hid (∀ j', j' < j + 1 → ¬ isTo s0.data.toList (dR j')) := J1.out fun h => hf h.2
          clear he hf hp hopk hNM hFS hlt hj cs hi0 hi31 hNd
          go_wp2
          go_roundw
          case rel => exact ⟨j + 1, _, rfl, hj'.out, by simp, by first | exact Ku.out.below (below_drewN (Below.refl _ _)) | exact Ku.out.drew | exact Ku, J2⟩
          case measure => have := hj'.out; simp [intOf]; omega
      · have a1 : (NM.toList == s0.toList) = false := by rw [toList_eq, toList_eq, hNd, beq_eq_false_iff_ne]; exact he
        have J2 : Hid (∀ j', j' < j + 1 → ¬ isTo s0.data.toList (dR j')) := J1.out fun h => he h.1
        clear he hp hopk hNM hFS hlt hj cs hi0 hi31 hNd
        go_wp2
        go_roundw
        case rel => exact ⟨j + 1, _, rfl, hj'.out, by simp, by first | exact Ku.out.below (below_drewN (Below.refl _ _)) | exact Ku.out.drew | exact Ku, J2⟩
        case measure => have := hj'.out; simp [intOf]; omega
    · have hje : j = 31 := by omega
      have fin : Hid (∀ i, i < 31 → ¬ isTo s0.data.toList i) := fun i hi => by
        obtain ⟨j2, h1, h2⟩ := dR_back i hi
        rw [← h2]
        exact J.out j2 (by omega)
      clear hlt
      go_wp2_with ((with_reducible refine at_st rtI w.heap.size it0 it0 ?_ ?_ ?_ ?_ (.tmp 2) (.tmp 118) ?_ ?_ ?_ ?_ ?_); exact Ku.out.bx 0 _ _ _ rfl; rfl; rfl; exact it4_one _ _ _ ⟨#[]⟩ ⟨#[]⟩ 0; rfl; rfl; rfl; rfl; intro y9 hw9; have K9 : Hid (Fm w [(w.heap.size, it0, 111), (gW, WT, 64)] y9) := Ku.out.put 0 _ _ _ _ rfl hw9.out)
      exact ret_two (v := .bool false) rtI rfl rfl rfl (K9.out.bx 0 _ _ _ rfl) rfl rfl (.inr ⟨fin.out, rfl, K9.out.low⟩)
end Go.Proofs.YthaijjehplomfaaDoor
