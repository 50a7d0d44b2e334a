/- The program's reading of a line. -/
import Derived.Test.YthpahpfnpapoiaaDoorVs0
import Derived.WalkMore
namespace Go.Proofs.YthpahpfnpapoiaaDoor
open Go Go.RowKit
set_option linter.unusedVariables false
set_option maxHeartbeats 4000000
set_option maxRecDepth 20000

theorem trim_le (L : List UInt8) : (Lib.trimSuffix L [10]).length ≤ L.length := by
  unfold Lib.trimSuffix
  split
  · rw [List.length_take]; omega
  · exact Nat.le_refl _
theorem words_get (ws : List ByteArray) (k : Nat) (x : ByteArray) (h : ws[k]? = some x) : (ws.map Value.string).toArray[k]? = some (.string x) := by
  rw [List.getElem?_toArray, List.getElem?_map, h]
  rfl
theorem drop_word (ws : List ByteArray) (k : Nat) (x : ByteArray) (h : ws[k]? = some x) : ws.drop k = x :: ws.drop (k + 1) := by
  obtain ⟨h1, h2⟩ := List.getElem?_eq_some_iff.1 h
  rw [List.drop_eq_getElem_cons h1, h2]

theorem pt_one (pw : ByteArray) (dg : Int) : (#[Value.string pw, Value.int .i64 dg] : Array Value).all (·.oneCell') = true := by simp [Value.oneCell']

theorem read_any (w : World) (tb : Hid (Tp w)) (line : ByteArray) (hs : line.size ≤ 65536) :
    Calls Tryd.prog 44 #[.string line] w fun e w' => ∃ s', e = .returned (.tuple #[.agg (spC s'), .bool (lineO (strL line)).isSome]) ∧ Hid ((∀ t, lineO (strL line) = some t → s' = t) ∧ Below w.heap.size w w') := by
  have zz := zeroVS
  have zS0 := zero_S
  have zw := zeroVW
  have zp := zeroVP
  obtain ⟨Z, hZ⟩ : ∃ Z, (⟨0, ⟨0, false, false, false, false, false, false, false, 0⟩⟩ : Sn) = Z := ⟨_, rfl⟩
  rw [hZ] at zz
  have zS : Hid (Tryd.prog.built 34 [] = some (spC Z)) := by rw [← hZ]; exact zS0
  have hcut := fun y => cutsuf_any line y (by omega)
  obtain ⟨BD, hBD⟩ : ∃ x : ByteArray, (⟨(Lib.trimSuffix (strL line) [10]).toArray⟩ : ByteArray) = x := ⟨_, rfl⟩
  obtain ⟨en, hen⟩ : ∃ b, Lib.hasSuffix (strL line) [10] = b := ⟨_, rfl⟩
  rw [hBD, hen] at hcut
  have hBL : strL BD = Lib.trimSuffix (strL line) [10] := by rw [← hBD]; simp [strL]
  have hBs : BD.size ≤ 65536 := by have h1 := trim_le (strL line); rw [← hBL, strL_len, strL_len] at h1; omega
  have hsplit := fun y (t : Tp y) => split_any y t BD (by omega)
  obtain ⟨R, hR⟩ : ∃ R, lineO (strL line) = R := ⟨_, rfl⟩
  have hR0 : Hid (R = if en = true then rdW (splitW (strL BD)) else none) := by
    show _ = _
    rw [← hR, rd_split, hBL, ← hen]
    rfl
  rw [hR]
  have hF : Hid (Fm w [(w.heap.size, spC Z, 34)] (w.alloc (.cells (spC Z) 34))) := Fm.one w _ _
  clear hR hBD hen hZ zS0
  go_enter Tryd.func44, Tryd.ntmps44
  go_wp2
  go_step3
  go_wp2_with (first
    | ((with_reducible refine gen_world (w.alloc (.cells (spC Z) 34)) (Fm w [(w.heap.size, spC Z, 34)]) hF.out ?_); intro y0 K0)
    | (go_at_call 52; refine (hcut y0).mono ?_; rintro e z ⟨rfl, hz⟩; replace hz := hz.symm; subst hz)
    | (go_at_call 53; refine (hsplit y0 (tb.out.below K0.out.low)).mono ?_; rintro e y1 ⟨ws, rfl, hz, hws⟩; have K1 : Hid (Fm w [(w.heap.size, spC Z, 34), (y0.heap.size, (ws.map Value.string).toArray, 9)] y1) := (by rw [hz]; exact K0.out.new _ _); clear hz; refine stopAt ?_))
  obtain ⟨g, hg⟩ : ∃ x, y0.heap.size = x := ⟨_, rfl⟩
  obtain ⟨WS, hWS⟩ : ∃ x : Array Value, (ws.map Value.string).toArray = x := ⟨_, rfl⟩
  rw [hg, hWS] at K1
  rw [hg]
  have K1 : Hid (Fm w [(w.heap.size, spC Z, 34), (g, WS, 9)] y1) := K1
  have wc : Hid (∀ k x, ws[k]? = some x → WS[k]? = some (Value.string x)) := fun k x h => by rw [← hWS]; exact words_get ws k x h
  have hsz : Hid (∀ u ∈ ws, u.size ≤ 65536) := fun u hu => by
    have h1 := (split_len (strL BD)).2 (strL u) (by rw [← hws]; exact List.mem_map_of_mem hu)
    rw [strL_len, strL_len] at h1
    omega
  obtain ⟨m, hm⟩ : ∃ m, ws.length = m := ⟨_, rfl⟩
  have m1 : m ≤ 65537 := by
    have h1 := (split_len (strL BD)).1
    rw [← hws, List.length_map, strL_len] at h1
    omega
  obtain ⟨x, r, hxr⟩ : ∃ x r, ws = x :: r := by
    cases ws with
    | nil => exact absurd hws.symm (splitW_ne _)
    | cons x r => exact ⟨x, r, rfl⟩
  have hx0 : ws[0]? = some x := by rw [hxr]; rfl
  have m0 : 0 < m := by rw [← hm, hxr]; simp
  obtain ⟨CN, hCN⟩ : ∃ c, cntW (strL x) = c := ⟨_, rfl⟩
  obtain ⟨RS, hRS⟩ : ∃ c, scanW partsL ((ws.drop 1).map strL) = c := ⟨_, rfl⟩
  have hR1 : Hid (R = if en = true then (if CN = 0 then none else RS.map fun vs => ⟨CN, atV vs⟩) else none) := by
    show _ = _
    rw [hR0.out, ← hws, ← hRS, ← hCN, hxr]
    rfl
  have hRS : Hid (scanW partsL ((ws.drop 1).map strL) = RS) := hRS
  have hcnt := count_any y1 (tb.out.below K1.out.low) x (by have := hsz.out x (List.mem_of_getElem? hx0); omega)
  rw [hCN] at hcnt
  have c0 := (K1.out.bx 1 _ _ _ rfl).c 0 _ (wc.out 0 x hx0)
  have i0 : ∀ v, (Instr.indexAt 85 (.slice (some ⟨g, 0, none⟩) m m) (.int .i64 0)).run Tryd.prog v = .ok (.pointer (some ⟨g, 0, none⟩)) v := fun v => by
    have := idxP (g := g) (off := 0) (len := m) (cap := m) Tryd.underlying85 (s := 1) (by kernel_rfl) .i64 0 v m0
    simpa using this
  obtain ⟨sp1, hs1, hs2⟩ := slc1 g 0 m (some ⟨g, 0, none⟩) m0 (fun _ => rfl)
  have hs2 : Hid (0 < m - 1 → sp1 = some ⟨g, 1, none⟩) := fun h => by rw [hs2 h]
  rw [hm]
  have hmm : Hid (ws.length = m) := hm
  clear hcut hsplit hR0 hws hBL hBs hg hWS hxr hm hx0 hCN K0
  refine Stop.go ?_
  go_wp2_with (first
    | (go_at_call 54; refine hcnt.mono ?_; rintro e y2 ⟨rfl, hb2⟩; have K2 : Hid (Fm w [(w.heap.size, spC Z, 34), (g, WS, 9)] y2) := K1.out.below hb2)
    | ((with_reducible refine at_sl 85 (.tmp 21) (.const (.int .i64 1)) (.slice (some ⟨g, 0, none⟩) m m) (.int .i64 1) (.slice sp1 (m - 1) (m - 1)) ?_ ?_ ?_ ?_ ?_ ?_); kernel_rfl; rfl; rfl; rfl; exact hs1)
    | fail)
  go_step3
  go_wp2_with (first
    | ((with_reducible refine gen_world (y2.alloc (.cells w0 74)) (Fm w [(w.heap.size, spC Z, 34), (g, WS, 9), (y2.heap.size, w0, 74)]) ?_ ?_); exact K2.out.new _ _; intro y3 K3; have hR3 := part_row (tb.out.below K3.out.low))
    | ((with_reducible refine at_loadm rtPs 0 0 partC ?_ ?_ (.global 0) ?_ ?_ ?_ ?_); exact hR3; rfl; kernel_rfl; rfl; rfl))
  rw [show w0 = cellsV [] from rfl] at K3
  obtain ⟨bw, hbw⟩ : ∃ b, y2.heap.size = b := ⟨_, rfl⟩
  rw [hbw] at K3 ⊢
  clear K1 K2 hcnt c0 i0 hb2 hR3 hbw hs1
  go_loopw [5, 24] (fun t i wz => ∃ (j k : Nat) (sp : Option Addr) (vs : List Int) (y : World), y = wz ∧ t = .slice sp (m - k) (m - k) ∧ i = .int .i64 (j : Int) ∧ j ≤ 9 ∧ k ≤ m ∧ Hid (0 < m - k → sp = some ⟨g, k, none⟩) ∧ Hid (vs.length = j ∧ RS = (scanW (partsL.drop j) ((ws.drop k).map strL)).map (vs ++ ·)) ∧ Hid (Fm w [(w.heap.size, spC Z, 34), (g, WS, 9), (bw, cellsV vs, 74)] y)) (fun _ i _ => (9 - intOf i).toNat)
  case atStart => exact ⟨0, 1, sp1, [], y3, rfl, rfl, rfl, by decide, by omega, hs2, ⟨rfl, by rw [List.drop_zero, hRS.out]; cases RS <;> rfl⟩, K3⟩
  case round =>
    obtain ⟨j, k, sp, vs, y, rfl, rfl, rfl, j9, km, hsp, J, K⟩ := hrel
    clear K3 hs2
    obtain ⟨n, hn⟩ : ∃ n, m - k = n := ⟨_, rfl⟩
    rw [hn] at hsp ⊢
    have nm : n ≤ 65537 := by omega
    by_cases hlt : j < 9
    · obtain ⟨pw, dg, ixp, p3, p4, p5⟩ := part_ix j hlt
      have ivj := fun v => idxV bw j hlt v
      have hvl : Hid (vs.length = j) := J.out.1
      have hji : (j : Int) < 9 := by omega
      have J1 : Hid (RS = (scanW ((strL pw, dg) :: partsL.drop (j + 1)) ((ws.drop k).map strL)).map (vs ++ ·)) := by have := J.out.2; rw [drop_part j _ p3] at this; exact this
      have skip : Hid ((∀ x, ws[k]? = some x → strL x ≠ strL pw) → RS = (scanW (partsL.drop (j + 1)) ((ws.drop k).map strL)).map ((vs ++ [0]) ++ ·)) := fun h => by
        have h1 := J1.out
        rw [h1]
        cases hk : ws[k]? with
        | none =>
          rw [List.drop_eq_nil_of_le (List.getElem?_eq_none_iff.1 hk)]
          rw [List.map_nil, scan_nil, map_app]
        | some x =>
          rw [drop_word ws k x hk, List.map_cons, scan_cons, if_pos (h x hk), map_app]
      have fz : Hid (cellsV (vs ++ [0]) = cellsV vs) := cellsV_zero vs (by rw [hvl.out]; exact hlt)
      have dgi : (dg : Int) ≤ 4 := by omega
      have hlt' : Hid (j < 9) := hlt
      clear hlt p3
      go_wp2_with (first
        | ((with_reducible refine gen_world (y.alloc (.cells #[.string ⟨#[]⟩, .int .i64 0] 77)) (Fm w [(w.heap.size, spC Z, 34), (g, WS, 9), (bw, cellsV vs, 74), (y.heap.size, #[.string ⟨#[]⟩, .int .i64 0], 77)]) ?_ ?_); exact K.out.new _ _; intro y1 K1)
        | ((with_reducible refine at_st rtPt y.heap.size #[.string ⟨#[]⟩, .int .i64 0] #[.string pw, .int .i64 (dg : Int)] ?_ ?_ ?_ ?_ (.tmp 9) (.tmp 27) ?_ ?_ ?_ ?_ ?_); exact K1.out.bx 3 _ _ _ rfl; rfl; rfl; exact pt_one _ _; rfl; rfl; rfl; rfl; intro y2 hw2; have K2 : Hid (Fm w [(w.heap.size, spC Z, 34), (g, WS, 9), (bw, cellsV vs, 74), (y.heap.size, #[.string pw, .int .i64 (dg : Int)], 77)] y2) := K1.out.put 3 _ _ _ _ rfl hw2.out))
      obtain ⟨b9, hb9⟩ : ∃ b, y.heap.size = b := ⟨_, rfl⟩
      rw [hb9] at K2 ⊢
      clear K1 hw2 hb9 ixp
      replace K : Hid (Fm w [(w.heap.size, spC Z, 34), (g, WS, 9), (bw, cellsV vs, 74), (b9, #[.string pw, .int .i64 (dg : Int)], 77)] y2) := K2
      clear K2
      have Kd : Hid (Fm w [(w.heap.size, spC Z, 34), (g, WS, 9), (bw, cellsV vs, 74), (b9, #[.string pw, .int .i64 (dg : Int)], 77)] y2.drew) := K.out.below (below_drew (Below.refl _ _))
      by_cases hn0 : n = 0
      · subst hn0
        have fin : Hid (RS = (scanW (partsL.drop (j + 1)) ((ws.drop k).map strL)).map ((vs ++ [0]) ++ ·)) := skip.out (fun x hx => absurd (List.getElem?_eq_some_iff.1 hx).1 (by rw [hmm.out]; omega))
        refine region_class_tail 11 (Fm w [(w.heap.size, spC Z, 34), (g, WS, 9), (bw, cellsV vs, 74), (b9, #[.string pw, .int .i64 (dg : Int)], 77)]) (by kernel_rfl) (by kernel_rfl) Kd.out ?_
        simp only [List.take_succ_cons, List.take_zero, List.drop_succ_cons, List.drop_zero]
        with_reducible refine quiet_one (.slice sp 0 0) ?_ ?_ ?_
        · kernel_rfl
        · intro u hu
          go_simp
        with_reducible refine quiet_one (.int .i64 0) ?_ ?_ ?_
        · kernel_rfl
        · intro u hu
          go_simp
        with_reducible refine quiet_one (.bool true) ?_ ?_ ?_
        · kernel_rfl
        · intro u hu
          go_simp
        with_reducible refine quiet_one (.bool true) ?_ ?_ ?_
        · kernel_rfl
        · intro u hu
          go_simp
        iterate 6
          with_reducible refine quiet_skip ?_ ?_
          · kernel_rfl
        with_reducible refine quiet_one (.bool true) ?_ ?_ ?_
        · kernel_rfl
        · intro u hu
          go_simp
        refine wpQuiet_nil ?_
        intro y4 K4
        replace K4 : Hid _ := K4
        go_simp
        go_wp2
        go_roundw
        case rel => exact ⟨j + 1, k, sp, vs ++ [0], _, rfl, by rw [hn], by simp, by have := hlt'.out; omega, km, (fun h => by omega), ⟨by rw [List.length_append, hvl.out]; rfl, fin.out⟩, (by rw [fz.out]; exact K4.out.pre (l := [(w.heap.size, spC Z, 34), (g, WS, 9), (bw, cellsV vs, 74)]))⟩
        case measure => have := hlt'.out; simp [intOf]; omega
      · have n0 : 0 < n := by omega
        obtain rfl := hsp.out n0
        obtain ⟨x, hx⟩ : ∃ x, ws[k]? = some x := ⟨ws[k]'(by rw [hmm.out]; omega), List.getElem?_eq_getElem _⟩
        have wk := wc.out k x hx
        have q0 : ((n : Int) == 0) = false := by simp; omega
        have ik : ∀ v, (Instr.indexAt 85 (.slice (some ⟨g, k, none⟩) n n) (.int .i64 0)).run Tryd.prog v = .ok (.pointer (some ⟨g, k, none⟩)) v := fun v => by
          have := idxP (g := g) (off := k) (len := n) (cap := n) Tryd.underlying85 (s := 1) (by kernel_rfl) .i64 0 v n0
          simpa using this
        have xsz : x.size ≤ 65536 := hsz.out x (List.mem_of_getElem? hx)
        obtain ⟨ne, hne⟩ : ∃ b, (!(x.toList == pw.toList)) = b := ⟨_, rfl⟩
        refine region_class_tail 11 (Fm w [(w.heap.size, spC Z, 34), (g, WS, 9), (bw, cellsV vs, 74), (b9, #[.string pw, .int .i64 (dg : Int)], 77)]) (by kernel_rfl) (by kernel_rfl) Kd.out ?_
        simp only [List.take_succ_cons, List.take_zero, List.drop_succ_cons, List.drop_zero]
        with_reducible refine quiet_one (.slice (some ⟨g, k, none⟩) n n) ?_ ?_ ?_
        · kernel_rfl
        · intro u hu
          go_simp
        with_reducible refine quiet_one (.int .i64 (n : Int)) ?_ ?_ ?_
        · kernel_rfl
        · intro u hu
          go_simp
        with_reducible refine quiet_one (.bool false) ?_ ?_ ?_
        · kernel_rfl
        · intro u hu
          go_simp
        with_reducible refine quiet_one (.bool false) ?_ ?_ ?_
        · kernel_rfl
        · intro u hu
          go_simp
        with_reducible refine quiet_one (.slice (some ⟨g, k, none⟩) n n) ?_ ?_ ?_
        · kernel_rfl
        · intro u hu
          go_simp
        with_reducible refine quiet_one (.pointer (some ⟨g, k, none⟩)) ?_ ?_ ?_
        · kernel_rfl
        · intro u hu
          go_simp
        with_reducible refine quiet_one (.string x) ?_ ?_ ?_
        · kernel_rfl
        · intro u hu
          have d := (hu.bx 1 _ _ _ rfl).c k _ wk
          go_simp
        with_reducible refine quiet_one (.pointer (some ⟨b9, 0, none⟩)) ?_ ?_ ?_
        · kernel_rfl
        · intro u hu
          go_simp
        with_reducible refine quiet_one (.string pw) ?_ ?_ ?_
        · kernel_rfl
        · intro u hu
          have d := (hu.bx 3 _ _ _ rfl).c 0 (.string pw) rfl
          go_simp
        with_reducible refine quiet_one (.bool ne) ?_ ?_ ?_
        · kernel_rfl
        · intro u hu
          go_simp
          all_goals exact hne
        with_reducible refine quiet_one (.bool ne) ?_ ?_ ?_
        · kernel_rfl
        · intro u hu
          go_simp
        refine wpQuiet_nil ?_
        intro y4 K4
        replace K4 : Hid _ := K4
        go_simp
        have d0 := (K4.out.bx 3 _ _ _ rfl).c 1 (.int .i64 (dg : Int)) rfl
        have z9 := (K4.out.bx 2 _ _ _ rfl).fz j
        have hcj := cellsV_get vs 0 []
        rw [fz.out, hvl.out] at hcj
        have hcj : Hid _ := hcj
        have c9 := (K4.out.bx 2 _ _ _ rfl).c j _ hcj.out
        have hx : Hid _ := hx
        have wk : Hid _ := wk
        clear Kd K
        cases ne with
        | true =>
          have hxp : strL x ≠ strL pw := fun e => by
            rw [toL, toL, e] at hne
            simp at hne
          have fin : Hid (RS = (scanW (partsL.drop (j + 1)) ((ws.drop k).map strL)).map ((vs ++ [0]) ++ ·)) := skip.out (fun x' hx' => by rw [hx.out] at hx'; cases hx'; exact hxp)
          clear hne hxp skip J1 hcj c9 z9 d0
          go_wp2
          go_roundw
          case rel => exact ⟨j + 1, k, _, vs ++ [0], _, rfl, by rw [hn], by simp, by have := hlt'.out; omega, km, (fun h => rfl), ⟨by rw [List.length_append, hvl.out]; rfl, fin.out⟩, (by rw [fz.out]; exact K4.out.pre (l := [(w.heap.size, spC Z, 34), (g, WS, 9), (bw, cellsV vs, 74)]))⟩
          case measure => have := hlt'.out; simp [intOf]; omega
        | false =>
          have hxp : strL x = strL pw := by
            rw [toL, toL] at hne
            simpa using hne
          have J2 : Hid (RS = (if dg = 0 then (scanW (partsL.drop (j + 1)) ((ws.drop (k + 1)).map strL)).map (1 :: ·) else if numD dg ((ws.drop (k + 1)).map strL) = 0 then none else (scanW (partsL.drop (j + 1)) (((ws.drop (k + 1)).map strL).drop 1)).map (numD dg ((ws.drop (k + 1)).map strL) :: ·)).map (vs ++ ·)) := by
            have h1 := J1.out
            rw [drop_word ws k x hx.out, List.map_cons, scan_cons, if_neg (by simpa using hxp)] at h1
            exact h1
          clear hne hxp skip J1
          by_cases hd : dg = 0
          · have q2 : ((dg : Int) == 0) = true := by simp [hd]
            obtain ⟨sp2, hs3, hs4⟩ := slc1 g k n (some ⟨g, k, none⟩) n0 (fun _ => rfl)
            have hs4 : Hid (0 < n - 1 → sp2 = some ⟨g, k + 1, none⟩) := hs4
            have fin : Hid (RS = (scanW (partsL.drop (j + 1)) ((ws.drop (k + 1)).map strL)).map ((vs ++ [1]) ++ ·)) := by
              have h1 := J2.out
              rw [if_pos hd, map_app] at h1
              exact h1
            have fs : Hid ((cellsV vs).setIfInBounds j (.int .i64 1) = cellsV (vs ++ [1])) := by have h1 := cellsV_set vs 1 (by rw [hvl.out]; exact hlt'.out); rw [hvl.out] at h1; exact h1
            clear J2
            go_wp2_with (first
              | ((with_reducible refine gen_world (y4.setCell ⟨bw, j, none⟩ (.int .i64 1)) (Fm w [(w.heap.size, spC Z, 34), (g, WS, 9), (bw, cellsV (vs ++ [1]), 74), (b9, #[.string pw, .int .i64 (dg : Int)], 77)]) ?_ ?_); exact K4.out.setCell 2 _ _ _ _ rfl j _ fs.out; intro y5 K5)
              | ((with_reducible refine at_sl 85 (.tmp 59) (.const (.int .i64 1)) (.slice (some ⟨g, k, none⟩) n n) (.int .i64 1) (.slice sp2 (n - 1) (n - 1)) ?_ ?_ ?_ ?_ ?_ ?_); kernel_rfl; rfl; rfl; rfl; exact hs3))
            go_roundw
            case rel => exact ⟨j + 1, k + 1, sp2, vs ++ [1], _, rfl, by rw [show m - (k + 1) = n - 1 by omega], by simp, by have := hlt'.out; omega, by omega, (by rw [show m - (k + 1) = n - 1 by omega]; exact hs4), ⟨by rw [List.length_append, hvl.out]; rfl, fin.out⟩, (by exact K5.out.pre (l := [(w.heap.size, spC Z, 34), (g, WS, 9), (bw, cellsV (vs ++ [1]), 74)]))⟩
            case measure => have := hlt'.out; simp [intOf]; omega
          · have q2 : ((dg : Int) == 0) = false := by simp; omega
            obtain ⟨sp2, hs3, hs4⟩ := slc1 g k n (some ⟨g, k, none⟩) n0 (fun _ => rfl)
            obtain ⟨V, hV⟩ : ∃ v, numD dg ((ws.drop (k + 1)).map strL) = v := ⟨_, rfl⟩
            have hnum : Hid (∀ u, Fm w [(w.heap.size, spC Z, 34), (g, WS, 9), (bw, cellsV vs, 74), (b9, #[.string pw, .int .i64 (dg : Int)], 77)] u → Calls Tryd.prog 55 #[.slice sp2 (n - 1) (n - 1), .int .i64 (dg : Int)] u fun e w' => e = .returned (.int .i64 V) ∧ Below u.heap.size u w') := fun u hu => by
              have h1 := digits_any u sp2 (n - 1) (ws.drop (k + 1)) dg (fun x1 hx1 => by
                have hx2 : ws[k + 1]? = some x1 := by rw [List.head?_drop] at hx1; exact hx1
                have hl1 := (List.getElem?_eq_some_iff.1 hx2).1
                refine ⟨by have := hsz.out x1 (List.mem_of_getElem? hx2); omega, g, k + 1, hs4 (by rw [hmm.out] at hl1; omega), (hu.bx 1 _ _ _ rfl).c (k + 1) _ (wc.out _ _ hx2)⟩) (by rw [List.length_drop, hmm.out]; omega) (by omega)
              rw [hV, List.length_drop, hmm.out, show m - (k + 1) = n - 1 by omega] at h1
              exact h1
            rw [hV] at J2
            rw [if_neg hd] at J2
            have hd : Hid _ := hd
            clear c9
            go_wp2
            refine region_class_tail 7 (Fm w [(w.heap.size, spC Z, 34), (g, WS, 9), (bw, cellsV vs, 74), (b9, #[.string pw, .int .i64 (dg : Int)], 77)]) (by kernel_rfl) (by kernel_rfl) (K4.out.below (below_drew (Below.refl _ _))) ?_
            simp only [List.take_succ_cons, List.take_zero, List.drop_succ_cons, List.drop_zero]
            with_reducible refine quiet_one (.int .i64 (j : Int)) ?_ ?_ ?_
            · kernel_rfl
            · intro u hu
              go_simp
            with_reducible refine quiet_one (.slice (some ⟨g, k, none⟩) n n) ?_ ?_ ?_
            · kernel_rfl
            · intro u hu
              go_simp
            with_reducible refine quiet_one (.slice sp2 (n - 1) (n - 1)) ?_ ?_ ?_
            · kernel_rfl
            · intro u hu
              generalize ha : Act.put _ _ _ = a
              have e29 : a.eval (.tmp 29) = .slice (some ⟨g, k, none⟩) n n := by rw [← ha]; go_simp
              clear ha
              exact q_sl 85 (.tmp 29) (.const (.int .i64 1)) _ _ _ rfl e29 rfl hs3 u hu
            with_reducible refine quiet_one (.pointer (some ⟨b9, 1, none⟩)) ?_ ?_ ?_
            · kernel_rfl
            · intro u hu
              go_simp
            with_reducible refine quiet_one (.int .i64 (dg : Int)) ?_ ?_ ?_
            · kernel_rfl
            · intro u hu
              have d := (hu.bx 3 _ _ _ rfl).c 1 (.int .i64 (dg : Int)) rfl
              go_simp
            with_reducible refine quiet_one (.int .i64 V) ?_ ?_ ?_
            · kernel_rfl
            · intro u hu
              have d := (hnum.out u hu).mono fun e w' (h : _ ∧ _) => And.intro h.1 (hu.below h.2)
              go_simp
              all_goals exact d
            with_reducible refine quiet_one (.pointer (some ⟨bw, j, none⟩)) ?_ ?_ ?_
            · kernel_rfl
            · intro u hu
              go_simp
            refine wpQuiet_nil ?_
            intro y5 K5
            replace K5 : Hid _ := K5
            go_simp
            have z9 := (K5.out.bx 2 _ _ _ rfl).fz j
            have c9 := (K5.out.bx 2 _ _ _ rfl).c j _ hcj.out
            have fs : Hid ((cellsV vs).setIfInBounds j (.int .i64 V) = cellsV (vs ++ [V])) := by have h1 := cellsV_set vs V (by rw [hvl.out]; exact hlt'.out); rw [hvl.out] at h1; exact h1
            have hcv := cellsV_get vs V []
            rw [hvl.out] at hcv
            have hcv : Hid _ := hcv
            by_cases hV0 : V = 0
            · subst hV0
              have finS : Hid (RS = none) := by have h1 := J2.out; rw [if_pos rfl] at h1; exact h1
              have finR : Hid (R = none) := by show R = none; rw [hR1.out, finS.out]; (repeat' split) <;> rfl
              obtain rfl := finR.out
              clear J2 hR1 finS finR
              cases en
              · go_wp2_with ((with_reducible refine gen_world (y5.setCell ⟨bw, j, none⟩ (.int .i64 0)) (Fm w [(w.heap.size, spC Z, 34), (g, WS, 9), (bw, cellsV (vs ++ [0]), 74), (b9, #[.string pw, .int .i64 (dg : Int)], 77)]) ?_ ?_); exact K5.out.setCell 2 _ _ _ _ rfl j _ fs.out; intro y6 K6; have c6 := (K6.out.bx 2 _ _ _ rfl).c j _ hcv.out; refine stopAt ?_)
                refine Stop.go ?_
                go_wp2_with (first
                  | ((with_reducible refine at_bu (t := 34) #[] [] (spC Z) ?_ ?_ ?_ ?_ ?_); kernel_rfl; rfl; rfl; exact zS.out)
                  | ((with_reducible refine at_st rtS w.heap.size (spC Z) (spC Z) ?_ ?_ ?_ ?_ (.tmp 2) (.tmp 73) ?_ ?_ ?_ ?_ ?_); exact K6.out.bx 0 _ _ _ rfl; rfl; rfl; exact spC_one _; rfl; rfl; rfl; rfl; intro yf hwf; have Kf : Hid (Fm w [(w.heap.size, spC Z, 34), (g, WS, 9), (bw, cellsV (vs ++ [0]), 74), (b9, #[.string pw, .int .i64 (dg : Int)], 77)] yf) := K6.out.put 0 _ _ _ _ rfl hwf.out))
                rw [Exit.noGoto_ret]
                refine ret_row2 rtS Tryd.results44 rfl rfl (Kf.out.bx 0 _ _ _ rfl) rfl rfl ?_
                exact ⟨Z, rfl, ⟨(fun t ht => by cases ht), Kf.out.low⟩⟩
              · by_cases hc0 : CN = 0
                · subst hc0
                  go_wp2_with ((with_reducible refine gen_world (y5.setCell ⟨bw, j, none⟩ (.int .i64 0)) (Fm w [(w.heap.size, spC Z, 34), (g, WS, 9), (bw, cellsV (vs ++ [0]), 74), (b9, #[.string pw, .int .i64 (dg : Int)], 77)]) ?_ ?_); exact K5.out.setCell 2 _ _ _ _ rfl j _ fs.out; intro y6 K6; have c6 := (K6.out.bx 2 _ _ _ rfl).c j _ hcv.out; refine stopAt ?_)
                  refine Stop.go ?_
                  go_wp2_with (first
                    | ((with_reducible refine at_bu (t := 34) #[] [] (spC Z) ?_ ?_ ?_ ?_ ?_); kernel_rfl; rfl; rfl; exact zS.out)
                    | ((with_reducible refine at_st rtS w.heap.size (spC Z) (spC Z) ?_ ?_ ?_ ?_ (.tmp 2) (.tmp 73) ?_ ?_ ?_ ?_ ?_); exact K6.out.bx 0 _ _ _ rfl; rfl; rfl; exact spC_one _; rfl; rfl; rfl; rfl; intro yf hwf; have Kf : Hid (Fm w [(w.heap.size, spC Z, 34), (g, WS, 9), (bw, cellsV (vs ++ [0]), 74), (b9, #[.string pw, .int .i64 (dg : Int)], 77)] yf) := K6.out.put 0 _ _ _ _ rfl hwf.out))
                  rw [Exit.noGoto_ret]
                  refine ret_row2 rtS Tryd.results44 rfl rfl (Kf.out.bx 0 _ _ _ rfl) rfl rfl ?_
                  exact ⟨Z, rfl, ⟨(fun t ht => by cases ht), Kf.out.low⟩⟩
                · have qc : (CN == 0) = false := by simpa using hc0
                  have qn : 0 < (n : Int) := by omega
                  clear hc0
                  go_wp2_with ((with_reducible refine gen_world (y5.setCell ⟨bw, j, none⟩ (.int .i64 0)) (Fm w [(w.heap.size, spC Z, 34), (g, WS, 9), (bw, cellsV (vs ++ [0]), 74), (b9, #[.string pw, .int .i64 (dg : Int)], 77)]) ?_ ?_); exact K5.out.setCell 2 _ _ _ _ rfl j _ fs.out; intro y6 K6; have c6 := (K6.out.bx 2 _ _ _ rfl).c j _ hcv.out; refine stopAt ?_)
                  refine Stop.go ?_
                  go_wp2_with (first
                    | ((with_reducible refine at_bu (t := 34) #[] [] (spC Z) ?_ ?_ ?_ ?_ ?_); kernel_rfl; rfl; rfl; exact zS.out)
                    | ((with_reducible refine at_st rtS w.heap.size (spC Z) (spC Z) ?_ ?_ ?_ ?_ (.tmp 2) (.tmp 73) ?_ ?_ ?_ ?_ ?_); exact K6.out.bx 0 _ _ _ rfl; rfl; rfl; exact spC_one _; rfl; rfl; rfl; rfl; intro yf hwf; have Kf : Hid (Fm w [(w.heap.size, spC Z, 34), (g, WS, 9), (bw, cellsV (vs ++ [0]), 74), (b9, #[.string pw, .int .i64 (dg : Int)], 77)] yf) := K6.out.put 0 _ _ _ _ rfl hwf.out))
                  rw [Exit.noGoto_ret]
                  refine ret_row2 rtS Tryd.results44 rfl rfl (Kf.out.bx 0 _ _ _ rfl) rfl rfl ?_
                  exact ⟨Z, rfl, ⟨(fun t ht => by cases ht), Kf.out.low⟩⟩
            · have qv : (V == 0) = false := by simpa using hV0
              have n2 : 2 ≤ n := by
                rcases Nat.lt_or_ge n 2 with h | h
                · exfalso
                  apply hV0
                  rw [← hV, List.drop_eq_nil_of_le (by rw [hmm.out]; omega)]
                  rfl
                · exact h
              obtain ⟨sp3, hs5, hs6⟩ := slc2 g k n (some ⟨g, k, none⟩) n2 (fun _ => rfl)
              have hs6 : Hid (0 < n - 2 → sp3 = some ⟨g, k + 2, none⟩) := hs6
              have fin : Hid (RS = (scanW (partsL.drop (j + 1)) ((ws.drop (k + 2)).map strL)).map ((vs ++ [V]) ++ ·)) := by
                have h1 := J2.out
                rw [if_neg hV0, map_app, ← List.map_drop, List.drop_drop] at h1
                exact h1
              clear J2 hV0
              go_wp2_with (first
                | ((with_reducible refine gen_world (y5.setCell ⟨bw, j, none⟩ (.int .i64 V)) (Fm w [(w.heap.size, spC Z, 34), (g, WS, 9), (bw, cellsV (vs ++ [V]), 74), (b9, #[.string pw, .int .i64 (dg : Int)], 77)]) ?_ ?_); exact K5.out.setCell 2 _ _ _ _ rfl j _ fs.out; intro y6 K6; have c6 := (K6.out.bx 2 _ _ _ rfl).c j _ hcv.out; refine stopAt ?_))
              refine Stop.go ?_
              go_wp2_with (first
                | ((with_reducible refine at_sl 85 (.tmp 39) (.const (.int .i64 2)) (.slice (some ⟨g, k, none⟩) n n) (.int .i64 2) (.slice sp3 (n - 2) (n - 2)) ?_ ?_ ?_ ?_ ?_ ?_); kernel_rfl; rfl; rfl; rfl; exact hs5))
              go_roundw
              case rel => exact ⟨j + 1, k + 2, sp3, vs ++ [V], _, rfl, by rw [show m - (k + 2) = n - 2 by omega], by simp, by have := hlt'.out; omega, by omega, (by rw [show m - (k + 2) = n - 2 by omega]; exact hs6), ⟨by rw [List.length_append, hvl.out]; rfl, fin.out⟩, (by exact K6.out.pre (l := [(w.heap.size, spC Z, 34), (g, WS, 9), (bw, cellsV (vs ++ [V]), 74)]))⟩
              case measure => have := hlt'.out; simp [intOf]; omega
    · have hje : j = 9 := by omega
      subst hje
      have hvl := J.out.1
      have fin : RS = if ws.drop k = [] then some vs else none := by
        have h1 := J.out.2
        rw [show partsL.drop 9 = [] from rfl] at h1
        rw [h1]
        unfold scanW
        by_cases hd : ws.drop k = []
        · rw [if_pos (by rw [hd]; rfl), if_pos hd]; simp
        · rw [if_neg (by simpa using hd), if_neg hd]; rfl
      have hdn : ws.drop k = [] ↔ n = 0 := by
        rw [List.drop_eq_nil_iff, hmm.out]
        omega
      clear hlt J
      cases en
      · have finR : Hid (R = none) := by show R = none; rw [hR1.out]; rfl
        obtain rfl := finR.out
        clear hR1 finR
        go_wp2_with (first
          | ((with_reducible refine at_bu (t := 34) #[] [] (spC Z) ?_ ?_ ?_ ?_ ?_); kernel_rfl; rfl; rfl; exact zS.out)
          | ((with_reducible refine at_st rtS w.heap.size (spC Z) (spC Z) ?_ ?_ ?_ ?_ (.tmp 2) (.tmp 73) ?_ ?_ ?_ ?_ ?_); exact K.out.bx 0 _ _ _ rfl; rfl; rfl; exact spC_one _; rfl; rfl; rfl; rfl; intro yf hwf; have Kf : Hid (Fm w [(w.heap.size, spC Z, 34), (g, WS, 9), (bw, cellsV vs, 74)] yf) := K.out.put 0 _ _ _ _ rfl hwf.out))
        rw [Exit.noGoto_ret]
        refine ret_row2 rtS Tryd.results44 rfl rfl (Kf.out.bx 0 _ _ _ rfl) rfl rfl ?_
        exact ⟨Z, rfl, ⟨(fun t ht => by cases ht), Kf.out.low⟩⟩
      · by_cases hc0 : CN = 0
        · subst hc0
          have finR : Hid (R = none) := by show R = none; rw [hR1.out]; rfl
          obtain rfl := finR.out
          clear hR1 finR
          go_wp2_with (first
            | ((with_reducible refine at_bu (t := 34) #[] [] (spC Z) ?_ ?_ ?_ ?_ ?_); kernel_rfl; rfl; rfl; exact zS.out)
            | ((with_reducible refine at_st rtS w.heap.size (spC Z) (spC Z) ?_ ?_ ?_ ?_ (.tmp 2) (.tmp 73) ?_ ?_ ?_ ?_ ?_); exact K.out.bx 0 _ _ _ rfl; rfl; rfl; exact spC_one _; rfl; rfl; rfl; rfl; intro yf hwf; have Kf : Hid (Fm w [(w.heap.size, spC Z, 34), (g, WS, 9), (bw, cellsV vs, 74)] yf) := K.out.put 0 _ _ _ _ rfl hwf.out))
          rw [Exit.noGoto_ret]
          refine ret_row2 rtS Tryd.results44 rfl rfl (Kf.out.bx 0 _ _ _ rfl) rfl rfl ?_
          exact ⟨Z, rfl, ⟨(fun t ht => by cases ht), Kf.out.low⟩⟩
        · have qc : (CN == 0) = false := by simpa using hc0
          by_cases hn0 : n = 0
          · rw [if_pos (hdn.2 hn0)] at fin
            subst hn0
            subst fin
            have okv := (scan_some partsL parts_d _ _ hRS.out).2
            obtain ⟨_, a1, a2, a3, a4⟩ := ok_at vs okv
            have hsp := span_any y CN (vs.getD 0 0) (vs.getD 1 0) (vs.getD 2 0) (vs.getD 3 0) (vs.getD 4 0) (vs.getD 5 0) (vs.getD 6 0) (vs.getD 7 0) (vs.getD 8 0) a1 a2 a3 a4
            rw [← cellsV_nine vs hvl] at hsp
            have finR : Hid (R = some ⟨CN, atV vs⟩) := by show R = _; rw [hR1.out, if_pos rfl, if_neg hc0]; rfl
            obtain rfl := finR.out
            have hsp : Calls Tryd.prog 56 #[.int .i64 CN, .agg (cellsV vs)] y fun e w' => e = .returned (.agg (spC ⟨CN, atV vs⟩)) ∧ Below y.heap.size y w' := hsp
            have csz : (cellsV vs).size = 9 := cellsV_size vs (by omega)
            clear hc0 hR1 finR hdn a1 a2 a3 a4 okv
            go_wp2_with (first
              | ((with_reducible refine at_load rtW bw (cellsV vs) ?_ ?_ (.tmp 7) ?_ ?_ ?_ ?_); exact K.out.bx 2 _ _ _ rfl; exact csz; kernel_rfl; rfl; rfl)
              | (go_at_call 56; refine hsp.mono ?_; rintro e y7 ⟨rfl, hb7⟩; have K7 : Hid (Fm w [(w.heap.size, spC Z, 34), (g, WS, 9), (bw, cellsV vs, 74)] y7) := K.out.below hb7)
              | ((with_reducible refine at_st rtS w.heap.size (spC Z) (spC ⟨CN, atV vs⟩) ?_ ?_ ?_ ?_ (.tmp 2) (.tmp 76) ?_ ?_ ?_ ?_ ?_); exact K7.out.bx 0 _ _ _ rfl; rfl; rfl; exact spC_one _; rfl; rfl; rfl; rfl; intro yf hwf; have Kf : Hid (Fm w [(w.heap.size, spC ⟨CN, atV vs⟩, 34), (g, WS, 9), (bw, cellsV vs, 74)] yf) := K7.out.put 0 _ _ _ _ rfl hwf.out))
            rw [Exit.noGoto_ret]
            refine ret_row2 rtS Tryd.results44 rfl rfl (Kf.out.bx 0 _ _ _ rfl) rfl rfl ?_
            exact ⟨⟨CN, atV vs⟩, rfl, ⟨(fun t ht => by cases ht; rfl), Kf.out.low⟩⟩
          · rw [if_neg (fun h => hn0 (hdn.1 h))] at fin
            have finR : Hid (R = none) := by show R = none; rw [hR1.out, fin]; (repeat' split) <;> rfl
            obtain rfl := finR.out
            have qn : 0 < (n : Int) := by omega
            have qn2 : 0 < n := by omega
            clear hc0 hR1 finR hn0 hdn fin
            go_wp2_with (first
              | ((with_reducible refine at_bu (t := 34) #[] [] (spC Z) ?_ ?_ ?_ ?_ ?_); kernel_rfl; rfl; rfl; exact zS.out)
              | ((with_reducible refine at_st rtS w.heap.size (spC Z) (spC Z) ?_ ?_ ?_ ?_ (.tmp 2) (.tmp 73) ?_ ?_ ?_ ?_ ?_); exact K.out.bx 0 _ _ _ rfl; rfl; rfl; exact spC_one _; rfl; rfl; rfl; rfl; intro yf hwf; have Kf : Hid (Fm w [(w.heap.size, spC Z, 34), (g, WS, 9), (bw, cellsV vs, 74)] yf) := K.out.put 0 _ _ _ _ rfl hwf.out))
            rw [Exit.noGoto_ret]
            refine ret_row2 rtS Tryd.results44 rfl rfl (Kf.out.bx 0 _ _ _ rfl) rfl rfl ?_
            exact ⟨Z, rfl, ⟨(fun t ht => by cases ht), Kf.out.low⟩⟩
end Go.Proofs.YthpahpfnpapoiaaDoor
