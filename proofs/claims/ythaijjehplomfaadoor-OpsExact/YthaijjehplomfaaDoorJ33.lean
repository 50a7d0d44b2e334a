/- The document's own: the order of a line's words. -/
import Derived.Test.YthaijjehplomfaaDoorJ24
import Derived.Test.YthaijjehplomfaaDoorJ32
import Derived.Test.YthaijjehplomfaaDoorJ25
namespace Go.Proofs.YthaijjehplomfaaDoor
open Go Go.RowKit
set_option linter.unusedVariables false
set_option maxHeartbeats 1000000
set_option maxRecDepth 20000

/-- What one row reads of words. -/
def rowRd (ws : List (List UInt8)) (i : Nat) : Option Od := if rdP ws i = true then match rdF (fsR i) ws.tail ⟨opR i, 0, 0, 0, 0, 0⟩ with
    | none => none
    | some o => if (encW o).isSome then some o else none
  else none
theorem rdO_none {ws : List (List UInt8)} (h : ∀ i, i < 31 → rowRd ws i = none) : rdO ws = none := by
  unfold rdO
  rcases hf : fstI (rdP ws) 31 with _ | i
  · rfl
  · obtain ⟨h1, h2, _⟩ := fstI_of hf
    have := h i h1
    unfold rowRd at this
    rw [if_pos h2] at this
    exact this
theorem rdP_one {ws : List (List UInt8)} {i j : Nat} (hi : i < 31) (hj : j < 31) (h1 : rdP ws i = true) (h2 : rdP ws j = true) : i = j := by
  unfold rdP at h1 h2
  rw [Bool.and_eq_true, beq_iff_eq] at h1 h2
  exact (nm_row j hj i hi (by rw [h1.1, h2.1]))
theorem rdO_some {ws : List (List UInt8)} {i : Nat} {o : Od} (hi : i < 31) (h : rowRd ws i = some o) : rdO ws = some o := by
  unfold rowRd at h
  split at h
  · rename_i hp
    unfold rdO
    rw [fstI_some hi hp fun j hj => by
      rcases hb : rdP ws j with _ | _
      · rfl
      · exact absurd (rdP_one hi (by omega) hp hb) (by omega)]
    exact h
  · cases h
/-- What is answered. -/
def ofE (r : Option Od) : Array Value := #[.agg (o6 (r.getD od0)), .bool r.isSome]
theorem tail_at (ws : List (List UInt8)) (q : Nat) (s : List UInt8) (h : ws[q + 1]? = some s) : ws.tail[q]? = some s := by
  rcases ws with _ | ⟨a, r⟩
  · simp at h
  · simpa using h
theorem rdF_at (fs : List Nat) (ts : List (List UInt8)) (o : Od) (q k : Nat) (s : List UInt8) (hk : fs[q]? = some k) (hs : ts[q]? = some s) : rdF (fs.drop q) (ts.drop q) o = match rdK k s with
    | none => none
    | some v => rdF (fs.drop (q + 1)) (ts.drop (q + 1)) (putK k o v) := by
  rw [drop_one hk, drop_one hs]
  rfl
theorem ofwords_any (w : World) (gs os cap m : Nat) (ws : List ByteArray) (hm : Hid (ws.length = m)) (hm1 : 1 ≤ m) (hm2 : (m : Int) ≤ 4294967290) (hL : Hid (LiesL 1 strC w (some ⟨gs, os, none⟩) ws)) (hsz : Hid (∀ s ∈ ws, s.size ≤ 4294967280)) :
    Calls Tryd.prog 30 #[.slice (some ⟨gs, os, none⟩) m cap] w fun e w' => e = .returned (.tuple (ofE (rdO (ws.map (·.data.toList))))) ∧ Below w.heap.size w w' := by
  have hF : Hid (Fm w [(w.heap.size, o6 od0, 30)] (w.alloc (.cells #[.int .u8 0, .int .u8 0, .int .u8 0, .int .u8 0, .int .u8 0, .int .u16 0] 30))) := Fm.one w _ _
  obtain ⟨ds, hds⟩ : ∃ ds, Hid (ws.map (·.data.toList) = ds) := ⟨_, (rfl : ws.map (·.data.toList) = _)⟩
  rw [hds.out]
  obtain ⟨WT, hWT⟩ : ∃ x : Array Value, Hid (x = (rowL dwC ((List.range 31).map dR)).toArray) := ⟨_, (rfl : (rowL dwC ((List.range 31).map dR)).toArray = (rowL dwC ((List.range 31).map dR)).toArray)⟩
  obtain ⟨s0, hs0⟩ : ∃ s0, ws[0]? = some s0 := ⟨_, List.getElem?_eq_getElem (by rw [hm.out]; exact hm1)⟩
  have hc0 : Hid (∀ z, Below w.heap.size w z → z.cell? ⟨gs, os, none⟩ = some (.string s0)) := fun z hz => by
    have h := word_at hL.out 0 s0 hs0
    rw [Nat.add_zero] at h
    exact (hz.cell (World.block_lt_of_cell? w _ h)).trans h
  have hcq : Hid (∀ (q : Nat) (s : ByteArray), ws[q]? = some s → ∀ z, Below w.heap.size w z → z.cell? ⟨gs, os + q, none⟩ = some (.string s)) := fun q s h z hz => by
    have h := word_at hL.out q s h
    exact (hz.cell (World.block_lt_of_cell? w _ h)).trans h
  have hmm : Hid (1 ≤ m) := hm1
  have ix0 : ∀ z, (Instr.indexAt 70 (.slice (some ⟨gs, os, none⟩) m cap) (.int .i64 0)).run Tryd.prog z = .ok (.pointer (some ⟨gs, os, none⟩)) z := fun z => by
    have h := idxW (g := gs) (off := os) (len := m) (cap := cap) 0 z hm1
    rw [Nat.add_zero] at h
    exact h
  have w0 : IntKind.i64.wrap ((m : Int) - 1) = (m : Int) - 1 := by rw [IntKind.wrap_i64]; omega
  have hs0' : Hid (ds.headD [] = s0.data.toList) := by
    show _ = _
    rw [← hds.out]
    rcases ws with _ | ⟨a, r⟩
    · simp at hs0
    · simp at hs0; rw [hs0]; rfl
  have hdl : Hid (ds.length = m) := by show _ = _; rw [← hds.out, List.length_map, hm.out]
  clear hs0 hm1
  go_enter Tryd.func30, Tryd.ntmps30
  go_wp2_with (first
    | (go_at_call 21; refine (rWords_any y1).mono ?_; rintro e y2 ⟨rfl, H⟩; have K2 : Hid (Fm w [(w.heap.size, o6 od0, 30), (y1.heap.size, WT, 64)] y2) := K1.out.add H.out.2 (Nat.le_refl _) (by rw [hWT.out]; exact H.out.1); clear H)
    | ((with_reducible refine gen_world (w.alloc (.cells #[.int .u8 0, .int .u8 0, .int .u8 0, .int .u8 0, .int .u8 0, .int .u16 0] 30)) (Fm w [(w.heap.size, o6 od0, 30)]) hF.out ?_); intro y1 K1))
  generalize y1.heap.size = gW at K2 ⊢
  go_loopw [5] (fun fi wz => ∃ (j : Nat) (u : World), u = wz ∧ j ≤ 31 ∧ fi = .int .i64 (j : Int) ∧ Hid (Fm w [(w.heap.size, o6 od0, 30), (gW, WT, 64)] u) ∧ Hid (∀ j', j' < j → rowRd ds (dR j') = none)) (fun fi _ => (31 - intOf fi).toNat)
  case atStart => exact ⟨0, _, rfl, by decide, rfl, K2.out, fun j' h => by omega⟩
  case round =>
    obtain ⟨j, u, rfl, hj, rfl, Ku, J⟩ := hrel
    by_cases hlt : j < 31
    · have hji : (j : Int) < 31 := by omega
      have hj' : Hid (j < 31) := hlt
      obtain ⟨p, hp⟩ : ∃ x, j * 4 = x := ⟨_, rfl⟩
      have ix := fun v => idxP (P := Tryd.prog) (g := gW) (off := 0) (len := 31) (cap := 31) Tryd.underlying61 (s := 4) (by kernel_rfl) .i64 j v hlt
      simp only [Nat.zero_add] at ix
      rw [hp] at ix
      obtain ⟨i0, hi0⟩ : ∃ i0, dR j = i0 := ⟨_, rfl⟩
      have hi31 : i0 < 31 := by rw [← hi0]; exact dR_lt j hlt
      obtain ⟨op, hopk⟩ : ∃ x, opR i0 = x := ⟨_, rfl⟩
      obtain ⟨NM, hNM⟩ : ∃ x : ByteArray, nmB i0 = x := ⟨_, rfl⟩
      obtain ⟨FS, hFS⟩ : ∃ x : ByteArray, x = ⟨((fsR i0).map chK).toArray⟩ := ⟨_, rfl⟩
      have hcell : Hid (∀ v, Bx v gW WT 64 → v.cell? ⟨gW, p, none⟩ = some (.int .u8 (op : Int)) ∧ v.cell? ⟨gW, p + 2, none⟩ = some (.string FS) ∧ v.cell? ⟨gW, p + 3, none⟩ = some (.string NM)) := fun v h => by
        rw [hWT.out] at h
        have h1 := dw_at h j hlt
        rw [hp, hi0] at h1
        refine ⟨?_, ?_, ?_⟩
        · have := h1 0 (.int .u8 (op : Int)) (by rw [← hopk]; rfl)
          exact this
        · have := h1 2 (.string FS) (by rw [hFS]; rfl)
          exact this
        · have := h1 3 (.string NM) (by rw [← hNM]; rfl)
          exact this
      have cs := hcell.out u (Ku.out.bx 1 _ _ _ rfl)
      have cN := cs.2.2
      have cF := cs.2.1
      have cO := cs.1
      have cS := hc0.out u Ku.out.low
      obtain ⟨n, hn⟩ : ∃ n, Hid ((fsR i0).length = n) := ⟨_, (rfl : (fsR i0).length = _)⟩
      have hn3 : (n : Int) ≤ 3 := by have := fs_len3 i0 hi31; have := hn.out; omega
      have hFn : (FS.size : Int) = (n : Int) := by
        rw [hFS, ← hn.out]
        show ((((fsR i0).map chK).toArray.size : Nat) : Int) = _
        simp
      have hNd : NM.data.toList = nmR i0 := by rw [← hNM]; simp [nmB]
      have hdr : Hid (dR j = i0 ∧ i0 < 31 ∧ opR i0 = op ∧ FS = ⟨((fsR i0).map chK).toArray⟩) := ⟨hi0, hi31, hopk, hFS⟩
      have J1 : Hid (rowRd ds i0 = none → ∀ j', j' < j + 1 → rowRd ds (dR j') = none) := fun h j' hl => by
        rcases Nat.lt_or_ge j' j with h1 | h1
        · exact J.out j' h1
        · rw [show j' = j by omega, hdr.out.1]; exact h
      by_cases he : nmR i0 = s0.data.toList
      · by_cases hl : n = m - 1
        · have hmm1 : m = n + 1 := by have := hmm.out; omega
          have e1 : (NM.toList == s0.toList) = true := by rw [toList_eq, toList_eq, hNd, he]; simp
          have e1' : (NM.toList != s0.toList) = false := by rw [bne, e1]; rfl
          have e2 : ((n : Int) != (m : Int) - 1) = false := by simp; omega
          have hP : Hid (rdP ds i0 = true) := by
            show _ = _
            unfold rdP
            rw [hs0'.out, he, hdl.out, hn.out, hl]
            simp
          have hmn : Hid (m = n + 1) := hmm1
          clear he hl hmm1 hp hopk hNM hFS hlt hj cs hi0 hi31 hNd
          go_wp2
          go_quiet (fail)
          have Ku2 := Ku.out.below (below_drewN (Below.refl _ _) : Below u.heap.size u (u.drewN nq))
          generalize u.drewN nq = u2 at Ku2 ⊢
          have Ku2 : Hid (Fm w [(w.heap.size, o6 od0, 30), (gW, WT, 64)] u2) := Ku2
          have cs2 := (hcell.out u2 (Ku2.out.bx 1 _ _ _ rfl)).1
          obtain ⟨O1, hO1⟩ : ∃ O1 : Array Value, Hid (#[.int .u8 (op : Int), .int .u8 0, .int .u8 0, .int .u8 0, .int .u8 0, .int .u16 0] = O1) := ⟨_, (rfl : (#[.int .u8 (op : Int), .int .u8 0, .int .u8 0, .int .u8 0, .int .u8 0, .int .u16 0] : Array Value) = _)⟩
          have hO1z : Hid (O1 = o6 ⟨op, 0, 0, 0, 0, 0⟩) := by rw [← hO1.out]; exact (rfl : _ = _)
          clear cN cF cO cS
          go_wp2_with (first
            | ((with_reducible refine at_st rtO u2.heap.size (o6 od0) #[.int .u8 (op : Int), .int .u8 0, .int .u8 0, .int .u8 0, .int .u8 0, .int .u16 0] ?_ ?_ ?_ ?_ (.tmp 6) (.tmp 44) ?_ ?_ ?_ ?_ ?_); exact K3.out.bx 2 _ _ _ rfl; rfl; rfl; simp [Value.oneCell']; rfl; rfl; rfl; rfl; intro y4 hw4; have K4 : Hid (Fm w [(w.heap.size, o6 od0, 30), (gW, WT, 64), (u2.heap.size, #[.int .u8 (op : Int), .int .u8 0, .int .u8 0, .int .u8 0, .int .u8 0, .int .u16 0], 30)] y4) := K3.out.put 2 _ _ _ _ rfl hw4.out)
            | ((with_reducible refine gen_world (u2.alloc (.cells #[.int .u8 0, .int .u8 0, .int .u8 0, .int .u8 0, .int .u8 0, .int .u16 0] 30)) (Fm w [(w.heap.size, o6 od0, 30), (gW, WT, 64), (u2.heap.size, o6 od0, 30)]) ?_ ?_); exact Ku2.out.new _ _; intro y3 K3))
          have K4 : Hid (Fm w [(w.heap.size, o6 od0, 30), (gW, WT, 64), (u2.heap.size, O1, 30)] y4) := by rw [hO1.out] at K4; exact K4
          generalize u2.heap.size = bo at K4 ⊢
          clear cs2
          go_loopw [7, 8] (fun fb fk wz => ∃ (q : Nat) (b : Bool) (O : Od) (BO : Array Value) (v : World), v = wz ∧ q ≤ n ∧ fb = .bool b ∧ fk = .int .i64 (q : Int) ∧ Hid (Fm w [(w.heap.size, o6 od0, 30), (gW, WT, 64), (bo, BO, 30)] v) ∧ Hid (BO = o6 O ∧ OdR O) ∧ Hid ((b = true → rdF (fsR i0) ds.tail ⟨op, 0, 0, 0, 0, 0⟩ = rdF ((fsR i0).drop q) (ds.tail.drop q) O) ∧ (b = false → rdF (fsR i0) ds.tail ⟨op, 0, 0, 0, 0, 0⟩ = none))) (fun _ fk _ => (n - intOf fk).toNat)
          case atStart => exact ⟨0, true, ⟨op, 0, 0, 0, 0, 0⟩, O1, y4, rfl, Nat.zero_le _, rfl, rfl, K4, ⟨hO1z.out, OdR.zero _ (by rw [← hdr.out.2.2.1]; exact Nat.lt_of_le_of_lt (op_bnd i0 hdr.out.2.1).2 (by decide))⟩, ⟨fun _ => rfl, fun h => by cases h⟩⟩
          case round =>
            obtain ⟨q, b, O, BO, v, rfl, hqn, rfl, rfl, Kv, hBO0, G⟩ := hrel
            have cFv := (hcell.out v (Kv.out.bx 1 _ _ _ rfl)).2.1
            have hBO : Hid (BO.size = 6) := by rw [hBO0.out.1]; exact (rfl : _ = _)
            clear K2 K3 K4
            by_cases hgo : q < n ∧ b = true
            · obtain ⟨hql, rfl⟩ := hgo
              have hqi : (q : Int) < (n : Int) := by omega
              have hqF : (q : Int) < (FS.size : Int) := by omega
              have hql' : Hid (q < n) := hql
              obtain ⟨k, hk⟩ : ∃ k, (fsR i0)[q]? = some k := ⟨_, List.getElem?_eq_getElem (by rw [hn.out]; exact hql)⟩
              obtain ⟨sq, hsq0⟩ : ∃ sq, ws[q + 1]? = some sq := ⟨_, List.getElem?_eq_getElem (by rw [hm.out, hmn.out]; omega)⟩
              have hk5 : k < 5 := fs_lt i0 hdr.out.2.1 k (List.mem_of_getElem? hk)
              have hix := fs_at i0 q k hk FS hdr.out.2.2.2
              obtain ⟨q1, hq1⟩ : ∃ q1, q + 1 = q1 := ⟨_, rfl⟩
              have hsq : Hid (∀ z, Below w.heap.size w z → z.cell? ⟨gs, os + q1, none⟩ = some (.string sq)) := by rw [← hq1]; exact hcq.out (q + 1) sq hsq0
              have ixq : ∀ z, (Instr.indexAt 70 (.slice (some ⟨gs, os, none⟩) m cap) (.int .i64 (q1 : Int))).run Tryd.prog z = .ok (.pointer (some ⟨gs, os + q1, none⟩)) z := fun z => idxW q1 z (by have := hmn.out; omega)
              have wq : IntKind.i64.wrap ((q : Int) + 1) = (q1 : Int) := by rw [IntKind.wrap_i64]; omega
              have hRd := fun z => rread_any z k hk5 O hBO0.out.2 sq (by have := hsz.out sq (List.mem_of_getElem? hsq0); omega)
              have hstep : rdF ((fsR i0).drop q) (ds.tail.drop q) O = match rdK k sq.data.toList with
                  | none => none
                  | some v => rdF ((fsR i0).drop (q + 1)) (ds.tail.drop (q + 1)) (putK k O v) := rdF_at _ _ O q k _ hk (tail_at ds q _ (by rw [← hds.out, List.getElem?_map, hsq0]; rfl))
              obtain ⟨NO, hNO⟩ : ∃ NO, (rdE k sq.data.toList O).1 = NO := ⟨_, rfl⟩
              obtain ⟨bb, hbb⟩ : ∃ bb, (rdE k sq.data.toList O).2 = bb := ⟨_, rfl⟩
              have hnR : OdR NO ∧ ((bb = true → rdF (fsR i0) ds.tail ⟨op, 0, 0, 0, 0, 0⟩ = rdF ((fsR i0).drop q1) (ds.tail.drop q1) NO) ∧ (bb = false → rdF (fsR i0) ds.tail ⟨op, 0, 0, 0, 0, 0⟩ = none)) := by
                have g := G.out.1 rfl
                rw [g, hstep, ← hNO, ← hbb, ← hq1]
                unfold rdE
                rcases hr : rdK k sq.data.toList with _ | x
                · exact ⟨hBO0.out.2, fun h => (by cases h), fun _ => rfl⟩
                · exact ⟨hBO0.out.2.put k x (rdK_lt hr), fun _ => rfl, fun h => (by cases h)⟩
              rw [hNO, hbb, ← hBO0.out.1] at hRd
              obtain ⟨BX, hBXe⟩ : ∃ BX, o6 NO = BX := ⟨_, rfl⟩
              have hBX : Hid (BX.size = 6 ∧ BX.all (·.oneCell') = true) := by rw [← hBXe]; exact ⟨rfl, o6_one _⟩
              rw [hBXe] at hRd
              have nxt : Hid (BX = o6 NO ∧ OdR NO) := ⟨hBXe.symm, hnR.1⟩
              have nx2 : Hid ((bb = true → rdF (fsR i0) ds.tail ⟨op, 0, 0, 0, 0, 0⟩ = rdF ((fsR i0).drop q1) (ds.tail.drop q1) NO) ∧ (bb = false → rdF (fsR i0) ds.tail ⟨op, 0, 0, 0, 0, 0⟩ = none)) := hnR.2
              have hq1' : Hid (q + 1 = q1) := hq1
              obtain ⟨FK, hFK⟩ : ∃ FK, fsC k = FK := ⟨_, rfl⟩
              rw [hFK] at hix hRd
              clear hk hsq0 hk5 hstep hNO hbb hnR hBXe hFK hql hqn hq1
              go_wp2
              have Kd : Hid (Fm w [(w.heap.size, o6 od0, 30), (gW, WT, 64), (bo, BO, 30)] v.drew) := Kv.out.drew
              refine wp_region_held_drew (S := fun z => Fm w [(w.heap.size, o6 od0, 30), (gW, WT, 64)] z) (by kernel_rfl) (Kv.out.drew.pre (l' := [_])) (fun hH => ?_)
              generalize v.drew = z0 at hH Kd ⊢
              refine wpAnyH_take (oi := ⟨some 60, _, _, _, _, _⟩) (i := 1) (v := .slice (some ⟨gW, 0, none⟩) 31 31) rfl (by kernel_rfl) (by kernel_rfl) (by kernel_rfl) (fun _ _ _ h => h) (.inl ⟨by kernel_rfl, fun u hu => by go_simp⟩) hH ?_
              try simp only [Act.put, List.setIfInBounds_toArray, List.set_cons_zero, List.set_cons_succ]
              refine wpAnyH_take (oi := ⟨some 61, _, _, _, _, _⟩) (i := 2) (v := .int .i64 (j : Int)) rfl (by kernel_rfl) (by kernel_rfl) (by kernel_rfl) (fun _ _ _ h => h) (.inl ⟨by kernel_rfl, fun u hu => by go_simp⟩) hH ?_
              try simp only [Act.put, List.setIfInBounds_toArray, List.set_cons_zero, List.set_cons_succ]
              refine wpAnyH_take (oi := ⟨some 62, _, _, _, _, _⟩) (i := 3) (v := .pointer (some ⟨gW, p, none⟩)) rfl (by kernel_rfl) (by kernel_rfl) (by kernel_rfl) (fun _ _ _ h => h) (.inl ⟨by kernel_rfl, fun u hu => by go_simp⟩) hH ?_
              try simp only [Act.put, List.setIfInBounds_toArray, List.set_cons_zero, List.set_cons_succ]
              refine wpAnyH_take (oi := ⟨some 63, _, _, _, _, _⟩) (i := 4) (v := .pointer (some ⟨gW, p + 2, none⟩)) rfl (by kernel_rfl) (by kernel_rfl) (by kernel_rfl) (fun _ _ _ h => h) (.inl ⟨by kernel_rfl, fun u hu => by go_simp⟩) hH ?_
              try simp only [Act.put, List.setIfInBounds_toArray, List.set_cons_zero, List.set_cons_succ]
              refine wpAnyH_take (oi := ⟨some 64, _, _, _, _, _⟩) (i := 5) (v := .string FS) rfl (by kernel_rfl) (by kernel_rfl) (by kernel_rfl) (fun _ _ _ h => h) (.inl ⟨by kernel_rfl, fun u hu => by have x := (hcell.out u (hu.bx 1 _ _ _ rfl)).2.1; go_simp⟩) hH ?_
              try simp only [Act.put, List.setIfInBounds_toArray, List.set_cons_zero, List.set_cons_succ]
              refine wpAnyH_take (oi := ⟨some 65, _, _, _, _, _⟩) (i := 6) (v := .int .i64 (q : Int)) rfl (by kernel_rfl) (by kernel_rfl) (by kernel_rfl) (fun _ _ _ h => h) (.inl ⟨by kernel_rfl, fun u hu => by go_simp⟩) hH ?_
              try simp only [Act.put, List.setIfInBounds_toArray, List.set_cons_zero, List.set_cons_succ]
              refine wpAnyH_take (oi := ⟨some 66, _, _, _, _, _⟩) (i := 7) (v := .int .u8 (FK : Int)) rfl (by kernel_rfl) (by kernel_rfl) (by kernel_rfl) (fun _ _ _ h => h) (.inl ⟨by kernel_rfl, fun u hu => by go_simp⟩) hH ?_
              try simp only [Act.put, List.setIfInBounds_toArray, List.set_cons_zero, List.set_cons_succ]
              refine wpAnyH_take (oi := ⟨some 67, _, _, _, _, _⟩) (i := 8) (v := .slice (some ⟨gs, os, none⟩) m cap) rfl (by kernel_rfl) (by kernel_rfl) (by kernel_rfl) (fun _ _ _ h => h) (.inl ⟨by kernel_rfl, fun u hu => by go_simp⟩) hH ?_
              try simp only [Act.put, List.setIfInBounds_toArray, List.set_cons_zero, List.set_cons_succ]
              refine wpAnyH_take (oi := ⟨some 68, _, _, _, _, _⟩) (i := 9) (v := .int .i64 (q : Int)) rfl (by kernel_rfl) (by kernel_rfl) (by kernel_rfl) (fun _ _ _ h => h) (.inl ⟨by kernel_rfl, fun u hu => by go_simp⟩) hH ?_
              try simp only [Act.put, List.setIfInBounds_toArray, List.set_cons_zero, List.set_cons_succ]
              refine wpAnyH_take (oi := ⟨some 69, _, _, _, _, _⟩) (i := 10) (v := .int .i64 (q1 : Int)) rfl (by kernel_rfl) (by kernel_rfl) (by kernel_rfl) (fun _ _ _ h => h) (.inl ⟨by kernel_rfl, fun u hu => by go_simp⟩) hH ?_
              try simp only [Act.put, List.setIfInBounds_toArray, List.set_cons_zero, List.set_cons_succ]
              refine wpAnyH_take (oi := ⟨some 70, _, _, _, _, _⟩) (i := 11) (v := .pointer (some ⟨gs, os + q1, none⟩)) rfl (by kernel_rfl) (by kernel_rfl) (by kernel_rfl) (fun _ _ _ h => h) (.inl ⟨by kernel_rfl, fun u hu => by go_simp⟩) hH ?_
              try simp only [Act.put, List.setIfInBounds_toArray, List.set_cons_zero, List.set_cons_succ]
              refine wpAnyH_take (oi := ⟨some 71, _, _, _, _, _⟩) (i := 12) (v := .string sq) rfl (by kernel_rfl) (by kernel_rfl) (by kernel_rfl) (fun _ _ _ h => h) (.inl ⟨by kernel_rfl, fun u hu => by have x := hsq.out u hu.low; go_simp⟩) hH ?_
              try simp only [Act.put, List.setIfInBounds_toArray, List.set_cons_zero, List.set_cons_succ]
              refine wpAnyH_ready (rs := [0]) (by kernel_rfl) (by simp) (fun i9 hi9 => ?_)
              obtain rfl := List.mem_singleton.1 hi9
              clear hi9
              refine wpOp_list (o := ⟨some 59, _, _, _, _, _⟩) rfl ?_
              refine at_load rtO bo BO (Kd.out.bx 2 _ _ _ rfl) hBO.out (.tmp 6) (by kernel_rfl) rfl rfl ?_
              go_wp2
              refine ⟨hH, ?_⟩
              try simp only [Act.put, List.setIfInBounds_toArray, List.set_cons_zero, List.set_cons_succ]
              refine wpAnyH_ready (rs := [13]) (by kernel_rfl) (by simp) (fun i9 hi9 => ?_)
              obtain rfl := List.mem_singleton.1 hi9
              clear hi9
              refine wpOp_list (o := ⟨some 72, _, _, _, _, _⟩) rfl ?_
              go_wp2_with (go_at_call 42; refine (hRd z0).mono ?_; rintro e z1 ⟨rfl, hb1⟩; have K1 : Hid (Fm w [(w.heap.size, o6 od0, 30), (gW, WT, 64), (bo, BO, 30)] z1) := Kd.out.below hb1; clear hb1)
              refine ⟨K1.out.pre (l' := [_]), ?_⟩
              replace hH : Fm w [(w.heap.size, o6 od0, 30), (gW, WT, 64)] z1 := K1.out.pre (l' := [_])
              try simp only [Act.put, List.setIfInBounds_toArray, List.set_cons_zero, List.set_cons_succ]
              refine wpAnyH_take (oi := ⟨some 58, _, _, _, _, _⟩) (i := 14) (v := .tuple #[.agg BX, .bool bb]) rfl (by kernel_rfl) (by kernel_rfl) (by kernel_rfl) (fun _ _ _ h => h) (.inl ⟨by kernel_rfl, fun u hu => by go_simp⟩) hH ?_
              try simp only [Act.put, List.setIfInBounds_toArray, List.set_cons_zero, List.set_cons_succ]
              refine wpAnyH_take (oi := ⟨some 73, _, _, _, _, _⟩) (i := 15) (v := .agg BX) rfl (by kernel_rfl) (by kernel_rfl) (by kernel_rfl) (fun _ _ _ h => h) (.inl ⟨by kernel_rfl, fun u hu => by go_simp⟩) hH ?_
              try simp only [Act.put, List.setIfInBounds_toArray, List.set_cons_zero, List.set_cons_succ]
              refine wpAnyH_take (oi := ⟨some 74, _, _, _, _, _⟩) (i := 16) (v := .bool bb) rfl (by kernel_rfl) (by kernel_rfl) (by kernel_rfl) (fun _ _ _ h => h) (.inl ⟨by kernel_rfl, fun u hu => by go_simp⟩) hH ?_
              try simp only [Act.put, List.setIfInBounds_toArray, List.set_cons_zero, List.set_cons_succ]
              refine wpAnyH_ready (rs := [17]) (by kernel_rfl) (by simp) (fun i9 hi9 => ?_)
              obtain rfl := List.mem_singleton.1 hi9
              clear hi9
              refine wpOp_list (o := ⟨none, _, _, _, _, _⟩) rfl ?_
              go_wp2_with ((with_reducible refine at_st rtO bo BO BX ?_ ?_ ?_ ?_ (.tmp 6) (.tmp 73) ?_ ?_ ?_ ?_ ?_); exact K1.out.bx 2 _ _ _ rfl; exact hBO.out; exact hBX.out.1; exact hBX.out.2; rfl; rfl; rfl; rfl; intro z2 hw2; have K2 : Hid (Fm w [(w.heap.size, o6 od0, 30), (gW, WT, 64), (bo, BX, 30)] z2) := K1.out.put 2 _ _ _ _ rfl hw2.out)
              refine ⟨K2.out.pre (l' := [_]), ?_⟩
              replace hH : Fm w [(w.heap.size, o6 od0, 30), (gW, WT, 64)] z2 := K2.out.pre (l' := [_])
              try simp only [Act.put, List.setIfInBounds_toArray, List.set_cons_zero, List.set_cons_succ]
              refine wpAnyH_take (oi := ⟨some 7, _, _, _, _, _⟩) (i := 18) (v := .bool bb) rfl (by kernel_rfl) (by kernel_rfl) (by kernel_rfl) (fun _ _ _ h => h) (.inl ⟨by kernel_rfl, fun u hu => by go_simp⟩) hH ?_
              try simp only [Act.put, List.setIfInBounds_toArray, List.set_cons_zero, List.set_cons_succ]
              refine wpAnyH_done (by kernel_rfl) ?_ _
              clear hH
              go_wp2
              go_roundw
              case rel => exact ⟨q1, bb, NO, BX, z2, rfl, by have := hql'.out; have := hq1'.out; omega, rfl, by first | rfl | (rw [← hq1'.out]; simp), K2, nxt, nx2⟩
              case measure => have := hql'.out; have := hq1'.out; simp [intOf]; omega
            · have hEn := fun z => rencode_any z O hBO0.out.2
              have hres : b = true → rdF (fsR i0) ds.tail ⟨op, 0, 0, 0, 0, 0⟩ = some O := fun hb => by
                have hqe : q = n := by
                  rcases Nat.lt_or_ge q n with h | h
                  · exact absurd ⟨h, hb⟩ hgo
                  · omega
                rw [G.out.1 hb, hqe, List.drop_eq_nil_of_le (by rw [hn.out]; exact Nat.le_refl _)]
                rfl
              rw [← hBO0.out.1] at hEn
              have hrow : rowRd ds i0 = match rdF (fsR i0) ds.tail ⟨op, 0, 0, 0, 0, 0⟩ with | none => none | some o => if (encW o).isSome then some o else none := by
                unfold rowRd
                rw [if_pos hP.out, hdr.out.2.2.1]
              have KvL : Hid (Fm w [(w.heap.size, o6 od0, 30), (gW, WT, 64), (bo, BO, 30)] v) := Kv
              have hB1 : Hid (BO.all (·.oneCell') = true) := by rw [hBO0.out.1]; exact o6_one _
              obtain ⟨EV, hEV⟩ : ∃ EV : Int, Hid ((if (encW O).isSome then (0 : Int) else 160) = EV) := ⟨_, (rfl : (if (encW O).isSome then (0 : Int) else 160) = _)⟩
              obtain ⟨EW, hEW⟩ : ∃ EW : Nat, (encW O).getD 0 = EW := ⟨_, rfl⟩
              rw [hEV.out, hEW] at hEn
              clear hEW
              rcases b with _ | _
              · have J2 : Hid (∀ j', j' < j + 1 → rowRd ds (dR j') = none) := J1.out (by rw [hrow, G.out.2 rfl])
                by_cases hql : q < n
                · have hqi : (q : Int) < (n : Int) := by omega
                  have hqF : (q : Int) < (FS.size : Int) := by omega
                  clear hql hgo hres hrow
                  go_wp2_with (first
                    | (go_at_call 9; refine (hEn _).mono ?_; rintro e v1 ⟨rfl, hv1⟩; have K5 : Hid (Fm w [(w.heap.size, o6 od0, 30), (gW, WT, 64), (bo, BO, 30)] v1) := KvL.out.below hv1; clear hv1)
                    | ((with_reducible refine at_load rtO bo BO ?_ ?_ (.tmp 6) ?_ ?_ ?_ ?_); exact KvL.out.bx 2 _ _ _ rfl; exact hBO.out; kernel_rfl; rfl; rfl)
                    | ((with_reducible refine at_load rtO bo BO ?_ ?_ (.tmp 6) ?_ ?_ ?_ ?_); exact K5.out.bx 2 _ _ _ rfl; exact hBO.out; kernel_rfl; rfl; rfl)
                    | ((with_reducible refine at_st rtO w.heap.size (o6 od0) BO ?_ ?_ ?_ ?_ (.tmp 2) (.tmp 85) ?_ ?_ ?_ ?_ ?_); exact K5.out.bx 0 _ _ _ rfl; rfl; exact hBO.out; exact hB1.out; rfl; rfl; rfl; rfl; intro y9 hw9; have K9 : Hid (Fm w [(w.heap.size, BO, 30), (gW, WT, 64), (bo, BO, 30)] y9) := K5.out.put 0 _ _ _ _ rfl hw9.out))
                  go_roundw
                  case rel => exact ⟨j + 1, _, rfl, hj'.out, by simp, K5.out.pre (l' := [_]), J2⟩
                  case measure => have := hj'.out; simp [intOf]; omega
                · have hqi : ¬ ((q : Int) < (n : Int)) := by omega
                  have hqF : ¬ ((q : Int) < (FS.size : Int)) := by omega
                  clear hql hgo hres hrow
                  go_wp2_with (first
                    | (go_at_call 9; refine (hEn _).mono ?_; rintro e v1 ⟨rfl, hv1⟩; have K5 : Hid (Fm w [(w.heap.size, o6 od0, 30), (gW, WT, 64), (bo, BO, 30)] v1) := KvL.out.below hv1; clear hv1)
                    | ((with_reducible refine at_load rtO bo BO ?_ ?_ (.tmp 6) ?_ ?_ ?_ ?_); exact KvL.out.bx 2 _ _ _ rfl; exact hBO.out; kernel_rfl; rfl; rfl)
                    | ((with_reducible refine at_load rtO bo BO ?_ ?_ (.tmp 6) ?_ ?_ ?_ ?_); exact K5.out.bx 2 _ _ _ rfl; exact hBO.out; kernel_rfl; rfl; rfl)
                    | ((with_reducible refine at_st rtO w.heap.size (o6 od0) BO ?_ ?_ ?_ ?_ (.tmp 2) (.tmp 85) ?_ ?_ ?_ ?_ ?_); exact K5.out.bx 0 _ _ _ rfl; rfl; exact hBO.out; exact hB1.out; rfl; rfl; rfl; rfl; intro y9 hw9; have K9 : Hid (Fm w [(w.heap.size, BO, 30), (gW, WT, 64), (bo, BO, 30)] y9) := K5.out.put 0 _ _ _ _ rfl hw9.out))
                  go_roundw
                  case rel => exact ⟨j + 1, _, rfl, hj'.out, by simp, K5.out.pre (l' := [_]), J2⟩
                  case measure => have := hj'.out; simp [intOf]; omega
              · have hqi : ¬ ((q : Int) < (n : Int)) := fun h => hgo ⟨by omega, rfl⟩
                have hqF : ¬ ((q : Int) < (FS.size : Int)) := by omega
                rcases he : (encW O).isSome with _ | _
                · have J2 : Hid (∀ j', j' < j + 1 → rowRd ds (dR j') = none) := J1.out (by rw [hrow, hres rfl]; show (if (encW O).isSome = true then some O else none) = none; rw [he]; rfl)
                  have hV : EV = 160 := by rw [← hEV.out, he]; rfl
                  subst hV
                  clear he hgo hres hrow
                  go_wp2_with (first
                    | (go_at_call 9; refine (hEn _).mono ?_; rintro e v1 ⟨rfl, hv1⟩; have K5 : Hid (Fm w [(w.heap.size, o6 od0, 30), (gW, WT, 64), (bo, BO, 30)] v1) := KvL.out.below hv1; clear hv1)
                    | ((with_reducible refine at_load rtO bo BO ?_ ?_ (.tmp 6) ?_ ?_ ?_ ?_); exact KvL.out.bx 2 _ _ _ rfl; exact hBO.out; kernel_rfl; rfl; rfl)
                    | ((with_reducible refine at_load rtO bo BO ?_ ?_ (.tmp 6) ?_ ?_ ?_ ?_); exact K5.out.bx 2 _ _ _ rfl; exact hBO.out; kernel_rfl; rfl; rfl)
                    | ((with_reducible refine at_st rtO w.heap.size (o6 od0) BO ?_ ?_ ?_ ?_ (.tmp 2) (.tmp 85) ?_ ?_ ?_ ?_ ?_); exact K5.out.bx 0 _ _ _ rfl; rfl; exact hBO.out; exact hB1.out; rfl; rfl; rfl; rfl; intro y9 hw9; have K9 : Hid (Fm w [(w.heap.size, BO, 30), (gW, WT, 64), (bo, BO, 30)] y9) := K5.out.put 0 _ _ _ _ rfl hw9.out))
                  go_roundw
                  case rel => exact ⟨j + 1, _, rfl, hj'.out, by simp, K5.out.pre (l' := [_]), J2⟩
                  case measure => have := hj'.out; simp [intOf]; omega
                · have hfin : Hid (rdO ds = some O) := rdO_some hdr.out.2.1 (by rw [hrow, hres rfl]; show (if (encW O).isSome = true then some O else none) = some O; rw [he]; rfl)
                  have hV : EV = 0 := by rw [← hEV.out, he]; rfl
                  subst hV
                  clear he hgo hres hrow
                  go_wp2_with (first
                    | (go_at_call 9; refine (hEn _).mono ?_; rintro e v1 ⟨rfl, hv1⟩; have K5 : Hid (Fm w [(w.heap.size, o6 od0, 30), (gW, WT, 64), (bo, BO, 30)] v1) := KvL.out.below hv1; clear hv1)
                    | ((with_reducible refine at_load rtO bo BO ?_ ?_ (.tmp 6) ?_ ?_ ?_ ?_); exact KvL.out.bx 2 _ _ _ rfl; exact hBO.out; kernel_rfl; rfl; rfl)
                    | ((with_reducible refine at_load rtO bo BO ?_ ?_ (.tmp 6) ?_ ?_ ?_ ?_); exact K5.out.bx 2 _ _ _ rfl; exact hBO.out; kernel_rfl; rfl; rfl)
                    | ((with_reducible refine at_st rtO w.heap.size (o6 od0) BO ?_ ?_ ?_ ?_ (.tmp 2) (.tmp 85) ?_ ?_ ?_ ?_ ?_); exact K5.out.bx 0 _ _ _ rfl; rfl; exact hBO.out; exact hB1.out; rfl; rfl; rfl; rfl; intro y9 hw9; have K9 : Hid (Fm w [(w.heap.size, BO, 30), (gW, WT, 64), (bo, BO, 30)] y9) := K5.out.put 0 _ _ _ _ rfl hw9.out))
                  exact ret_two (v := .bool true) rtO rfl rfl rfl (K9.out.bx 0 _ _ _ rfl) hBO.out rfl ⟨by rw [hfin.out, hBO0.out.1]; rfl, K9.out.low⟩
        · have e1 : (NM.toList == s0.toList) = true := by rw [toList_eq, toList_eq, hNd, he]; simp
          have e1' : (NM.toList != s0.toList) = false := by rw [bne, e1]; rfl
          have e2 : ((n : Int) != (m : Int) - 1) = true := by have := hmm.out; simp; omega
          have hP : rowRd ds i0 = none := by
            unfold rowRd
            rw [if_neg]
            unfold rdP
            rw [hdl.out, hn.out]
            simp [hl]
          have J2 : Hid (∀ j', j' < j + 1 → rowRd ds (dR j') = none) := J1.out hP
          clear he hl hP hp hopk hNM hFS hlt hj cs hi0 hi31 hNd
          go_wp2
          go_quiet (fail)
          go_wp2
          go_roundw
          case rel => exact ⟨j + 1, _, rfl, hj'.out, by simp, by first | exact Ku.out.below (below_drewN (Below.refl _ _)) | exact Ku.out.drew | exact Ku, J2⟩
          case measure => have := hj'.out; simp [intOf]; omega
      · have e1 : (NM.toList == s0.toList) = false := by rw [toList_eq, toList_eq, hNd, beq_eq_false_iff_ne]; exact he
        have e1' : (NM.toList != s0.toList) = true := by rw [bne, e1]; rfl
        have hP : rowRd ds i0 = none := by
          unfold rowRd
          rw [if_neg]
          unfold rdP
          rw [hs0'.out]
          simp [he]
        have J2 : Hid (∀ j', j' < j + 1 → rowRd ds (dR j') = none) := J1.out hP
        clear he hP hp hopk hNM hFS hlt hj cs hi0 hi31 hNd
        go_wp2
        go_quiet (fail)
        go_wp2
        go_roundw
        case rel => exact ⟨j + 1, _, rfl, hj'.out, by simp, by first | exact Ku.out.below (below_drewN (Below.refl _ _)) | exact Ku.out.drew | exact Ku, J2⟩
        case measure => have := hj'.out; simp [intOf]; omega
    · have hje : j = 31 := by omega
      have fin : Hid (rdO ds = none) := rdO_none fun i hi => by
        obtain ⟨j2, h1, h2⟩ := dR_back i hi
        rw [← h2]
        exact J.out j2 (by omega)
      clear hlt
      go_wp2_with ((with_reducible refine at_st rtO w.heap.size (o6 od0) #[.int .u8 0, .int .u8 0, .int .u8 0, .int .u8 0, .int .u8 0, .int .u16 0] ?_ ?_ ?_ ?_ (.tmp 2) (.tmp 86) ?_ ?_ ?_ ?_ ?_); exact Ku.out.bx 0 _ _ _ rfl; rfl; rfl; simp [Value.oneCell']; rfl; rfl; rfl; rfl; intro y9 hw9; have K9 : Hid (Fm w [(w.heap.size, #[.int .u8 0, .int .u8 0, .int .u8 0, .int .u8 0, .int .u8 0, .int .u16 0], 30), (gW, WT, 64)] y9) := Ku.out.put 0 _ _ _ _ rfl hw9.out)
      exact ret_two (v := .bool false) rtO rfl rfl rfl (K9.out.bx 0 _ _ _ rfl) rfl rfl ⟨by rw [fin.out]; rfl, K9.out.low⟩
end Go.Proofs.YthaijjehplomfaaDoor
