/- The span of a line, by the document. -/
import Derived.Test.YthpahpfnpapoiabDoorXu
import Derived.Test.YthpahpfnpapoiabDoorXs
namespace Go.Proofs.YthpahpfnpapoiabDoor
open Go Go.RowKit
set_option linter.unusedVariables false
set_option maxHeartbeats 3000000
set_option maxRecDepth 20000

theorem rspan_any (w : World) (tb : Hid (Tp w)) (line : ByteArray) (hs : line.size ≤ 1000000) :
    Calls Tryd.prog 21 #[.string line] w fun e w' => ∃ s', e = .returned (.tuple #[.agg (spC s'), .bool (spanOf (strL line)).isSome]) ∧ Hid ((∀ t, spanOf (strL line) = some t → s' = t) ∧ Below w.heap.size w w') := by
  have si : (line.size : Int) ≤ 1000000 := by omega
  have zz0 := zeroV_S
  have hF : Hid (Fm w [(w.heap.size, spC ⟨0, zA⟩, 43)] (w.alloc (.cells (spC ⟨0, zA⟩) 43))) := Fm.one w _ _
  by_cases hbig : 100 < line.size
  · have e : spanOf (strL line) = none := by unfold spanOf; rw [if_pos (by rw [strL_len]; exact hbig)]
    rw [e]
    have q : decide ((100 : Int) < line.size) = true := by simp; omega
    have hb0 : Hid (Tryd.prog.built 43 [] = some (spC ⟨0, zA⟩)) := zero_S
    clear hbig e hs
    go_enter Tryd.func21, Tryd.ntmps21
    go_wp2_with (first
      | ((with_reducible refine gen_world (w.alloc (.cells (spC ⟨0, zA⟩) 43)) (Fm w [(w.heap.size, spC ⟨0, zA⟩, 43)]) hF.out ?_); intro y0 K0)
      | ((with_reducible refine at_bu #[] [] (spC ⟨0, zA⟩) ?_ ?_ ?_ hb0.out ?_); kernel_rfl; rfl; rfl)
      | ((with_reducible refine at_st rtS w.heap.size (spC ⟨0, zA⟩) (spC ⟨0, zA⟩) ?_ ?_ ?_ ?_ (.tmp 2) (.tmp 11) ?_ ?_ ?_ ?_ ?_); exact K0.out.bx 0 _ _ _ rfl; rfl; rfl; exact spC_one _; rfl; rfl; rfl; rfl; intro y1 hw1; have K1 : Hid (Fm w [(w.heap.size, spC ⟨0, zA⟩, 43)] y1) := K0.out.put 0 _ _ _ _ rfl hw1.out))
    exact ret_row2 rtS rfl rfl rfl (K1.out.bx 0 _ _ _ rfl) rfl rfl ⟨_, rfl, (fun t h => by cases h), K1.out.low⟩
  have q : decide ((100 : Int) < line.size) = false := by simp; omega
  have hW := fun v => rwords_any v line hs
  have hsz : Hid (line.size ≤ 100) := by show line.size ≤ 100; omega
  obtain ⟨SW, hSW⟩ : ∃ x, splitW (strL line) = x := ⟨_, rfl⟩
  have hSWl := split_len (strL line)
  rw [hSW, strL_len] at hSWl
  have hSWl' : Hid (SW.length ≤ line.size + 1 ∧ ∀ x ∈ SW, x.length ≤ line.size) := hSWl
  obtain ⟨w0, r0', hne⟩ : ∃ w0 r, SW = w0 :: r := by
    cases hx : SW with
    | nil => rw [hx] at hSW; exact absurd hSW (splitW_ne _)
    | cons a b => exact ⟨a, b, rfl⟩
  rw [hSW] at hW
  have hspan : Hid (spanOf (strL line) = if spanB (readS SW) (strL line) then some (readS SW) else none) := by
    show _ = _
    unfold spanOf
    rw [if_neg (by rw [strL_len]; omega), hSW]
  have hrd : Hid (readS SW = ⟨decS w0, readGo r0' zA⟩) := by show _ = _; rw [hne]; rfl
  have hne' : Hid (SW = w0 :: r0') := hne
  obtain ⟨c, hcd⟩ : ∃ c, decS w0 = c := ⟨_, rfl⟩
  obtain ⟨FA, hFA⟩ : ∃ x, readGo r0' zA = x := ⟨_, rfl⟩
  rw [hcd, hFA] at hrd
  have hcd' : Hid (decS w0 = c) := hcd
  have hFA' : Hid (readGo r0' zA = FA) := hFA
  have hFr : Hid (Rg FA) := by rw [← hFA]; exact read_range r0' zA (by decide)
  clear hbig hs hSW hSWl hne hcd hFA
  go_enter Tryd.func21, Tryd.ntmps21
  go_wp2_with (first
    | ((with_reducible refine gen_world (w.alloc (.cells (spC ⟨0, zA⟩) 43)) (Fm w [(w.heap.size, spC ⟨0, zA⟩, 43)]) hF.out ?_); intro y0 K0)
    | (go_at_call 36; refine (hW y0).mono ?_; rintro e y1 ⟨v, ws, rfl, H1⟩; obtain ⟨sp, cap, rfl, hlt1⟩ := H1.out.1.open; have K1 : Hid (Fm w [(w.heap.size, spC ⟨0, zA⟩, 43)] y1 ∧ LiesT y1 sp ws) := ⟨K0.out.below H1.out.1.2, hlt1⟩; have hws : Hid (ws.map strL = SW) := H1.out.2; clear H1 hlt1; refine stopAt ?_))
  refine Stop.go ?_
  have hwl : Hid (ws.length = SW.length ∧ ws.length ≤ 101 ∧ ∀ s ∈ ws, s.size ≤ 100) := by
    have h1 := hws.out
    have h2 := hSWl'.out
    have h3 := hsz.out
    have e : ws.length = SW.length := by rw [← h1, List.length_map]
    refine ⟨e, by omega, fun s hs => ?_⟩
    have := h2.2 (strL s) (by rw [← h1]; exact List.mem_map_of_mem hs)
    rw [strL_len] at this
    omega
  obtain ⟨x0, hx0, hx0e⟩ : ∃ x0, ws[0]? = some x0 ∧ strL x0 = w0 := by
    have h1 := hws.out
    rw [hne'.out] at h1
    cases ws with
    | nil => simp at h1
    | cons a r => simp at h1; exact ⟨a, rfl, h1.1⟩
  obtain ⟨g, rfl, hc0⟩ := K1.out.2 0 x0 hx0
  have hdrop1 : Hid ((ws.drop 1).map strL = r0') := by
    have h1 := hws.out
    rw [hne'.out] at h1
    cases ws with
    | nil => simp at h1
    | cons a r => simp at h1 ⊢; exact h1.2
  obtain ⟨n, hn⟩ : ∃ n, ws.length = n := ⟨_, rfl⟩
  have hn' : Hid (ws.length = n) := hn
  have hn1 : Hid (1 ≤ n ∧ n ≤ 101) := by
    have := (List.getElem?_eq_some_iff.1 hx0).1
    have := hwl.out.2.1
    show 1 ≤ n ∧ n ≤ 101
    omega
  have ni : (n : Int) ≤ 101 := by have := hn1.out; omega
  have hD : ∀ v, Calls Tryd.prog 37 #[.string x0] v fun e w' => e = .returned (.int .i64 c) ∧ w' = v := fun v => by
    have := rdecimal_any v x0 (by have := hwl.out.2.2 x0 (List.mem_of_getElem? hx0); omega)
    rw [hx0e, hcd'.out] at this
    exact this
  rw [hn]
  have i0 : ∀ v, (Instr.indexAt 50 (.slice (some ⟨g, 0, none⟩) n cap) (.int .i64 0)).run Tryd.prog v = .ok (.pointer (some ⟨g, 0, none⟩)) v := fun v => idxT g n cap 0 (by have := hn1.out; omega) v
  have hbc : Hid (Tryd.prog.built 43 [(0, .int .i64 c)] = some (spC ⟨c, zA⟩)) := built_S c
  have hX : Hid (∀ (y : World) (k : Nat), LiesT y (some ⟨g, 0, none⟩) ws → k ≤ 1000 → Calls Tryd.prog 38 #[.slice (some ⟨g, 0, none⟩) n cap, .int .i64 (k : Int)] y fun e w' => e = .returned (.int .i64 (hexV ((ws.drop k).map strL))) ∧ w' = y) := fun y k h hk => by
    have := rhexw_any y (some ⟨g, 0, none⟩) cap ws k h (by have := hwl.out.2.1; omega) (by omega) (fun s hs => by have := hwl.out.2.2 s hs; omega)
    rw [hn] at this
    exact this
  have hg1 : Hid (g < y1.heap.size ∧ w.heap.size ≠ g) := by
    refine ⟨World.block_lt_of_cell? y1 _ hc0, fun e => ?_⟩
    have h1 := (K1.out.1.bx 0 _ _ _ rfl).c 0 _ (spC_c ⟨0, zA⟩)
    rw [e, hc0] at h1
    cases h1
  replace hx0 : Hid _ := hx0
  replace hx0e : Hid _ := hx0e
  clear hn
  go_wp2_with (first
    | (go_at_call 37; refine (hD _).mono ?_; rintro e y2 ⟨rfl, hy2⟩; replace hy2 := hy2.symm; subst hy2)
    | ((with_reducible refine at_bu #[(0, .tmp 17)] [(0, .int .i64 c)] (spC ⟨c, zA⟩) ?_ ?_ ?_ hbc.out ?_); kernel_rfl; rfl; kernel_rfl)
    | ((with_reducible refine gen_world (y1.alloc (.cells (spC ⟨0, zA⟩) 43)) (fun z => Fm w [(w.heap.size, spC ⟨0, zA⟩, 43), (y1.heap.size, spC ⟨0, zA⟩, 43)] z ∧ LiesT z (some ⟨g, 0, none⟩) ws) ?_ ?_); exact ⟨K1.out.1.new _ _, K1.out.2.below (below1 _ _)⟩; intro y3 K3)
    | ((with_reducible refine at_st rtS y1.heap.size (spC ⟨0, zA⟩) (spC ⟨c, zA⟩) ?_ ?_ ?_ ?_ (.tmp 5) (.tmp 18) ?_ ?_ ?_ ?_ ?_); exact K3.out.1.bx 1 _ _ _ rfl; rfl; rfl; exact spC_one _; rfl; rfl; rfl; rfl; intro y4 hw4; have K4 : Hid (Fm w [(w.heap.size, spC ⟨0, zA⟩, 43), (y1.heap.size, spC ⟨c, zA⟩, 43)] y4 ∧ LiesT y4 (some ⟨g, 0, none⟩) ws) := ⟨K3.out.1.put 1 _ _ _ _ rfl hw4.out, fun j s hj => (by obtain ⟨g', e', hc'⟩ := K3.out.2 j s hj; cases e'; exact ⟨g, rfl, (World.cell?_of_block (w := y3) (a := ⟨g, j, none⟩) (hw4.out.2.2 g (Nat.ne_of_lt hg1.out.1))).trans hc'⟩)⟩))
  obtain ⟨b2, hb2⟩ : ∃ b, y1.heap.size = b := ⟨_, rfl⟩
  rw [hb2] at K4 hg1 ⊢
  have L4 : Hid (∀ (z z' : World) (a' : At) (j' : Nat) (v' : Value), z' = z.setCell ⟨b2, j', none⟩ v' → LiesT z (some ⟨g, 0, none⟩) ws → LiesT z' (some ⟨g, 0, none⟩) ws) := fun z z' a' j' v' e h j s hj => by
    subst e
    obtain ⟨g', e', hc'⟩ := h j s hj
    cases e'
    exact ⟨g, rfl, (World.cell?_of_block (w := z) (a := ⟨g, j, none⟩) (heap_setCell_other z ⟨b2, j', none⟩ g v' (Nat.ne_of_lt hg1.out.1))).trans hc'⟩
  clear hb2 K1 hD hcd' i0
  go_loopw [6] (fun i wz => ∃ (k : Nat) (a : At) (y : World), y = wz ∧ i = .int .i64 (k : Int) ∧ Hid (1 ≤ k ∧ k ≤ n ∧ readGo ((ws.drop k).map strL) a = FA) ∧ Hid (Rg a) ∧ Hid (Fm w [(w.heap.size, spC ⟨0, zA⟩, 43), (b2, spC ⟨c, a⟩, 43)] y ∧ LiesT y (some ⟨g, 0, none⟩) ws)) (fun i _ => (n - intOf i).toNat)
  case atStart => exact ⟨1, zA, _, rfl, rfl, ⟨Nat.le_refl _, hn1.out.1, by rw [hdrop1.out]; exact hFA'.out⟩, (show Rg zA by unfold Rg zA; decide), K4⟩
  case round =>
    obtain ⟨k, a, y, rfl, rfl, J, r, K⟩ := hrel
    clear K4
    by_cases hlt : k < n
    · obtain ⟨x, hx⟩ : ∃ x, ws[k]? = some x := ⟨_, List.getElem?_eq_getElem (by rw [hn'.out]; exact hlt)⟩
      obtain ⟨g', e', hcx⟩ := K.out.2 k x hx
      cases e'
      have hdk : ws.drop k = x :: ws.drop (k + 1) := by
        have h := List.getElem?_eq_some_iff.1 hx
        rw [List.drop_eq_getElem_cons h.1, h.2]
      have J2 : Hid (readGo ((ws.drop (k + 1)).map strL) (stepW (strL x) ((ws.drop (k + 1)).map strL) a) = FA) := by
        have := J.out.2.2
        rw [hdk] at this
        exact this
      have hxl : Hid (x.toList = strL x) := toL x
      obtain ⟨H, hH0⟩ : ∃ H, hexV ((ws.drop (k + 1)).map strL) = H := ⟨_, rfl⟩
      have hH : Hid (hexV ((ws.drop (k + 1)).map strL) = H) := hH0
      have hHr : Hid (0 ≤ H ∧ H ≤ 65535) := by rw [← hH0]; exact hexV_range _
      have hXk := hX.out y (k + 1) K.out.2 (by have := hn1.out; omega)
      rw [hH0, show ((k + 1 : Nat) : Int) = (k : Int) + 1 by omega] at hXk
      have ik := idxT g n cap k hlt
      have hki : (k : Int) < n := by omega
      have hlt' : Hid (k < n) := hlt
      have K' : Hid (Fm w [(w.heap.size, spC ⟨0, zA⟩, 43), (b2, spC ⟨c, a⟩, 43)] y) := K.out.1
      replace hx : Hid _ := hx
      replace hdk : Hid _ := hdk
      clear hH0 hlt
      by_cases hc : strL x = wKeys
      · have qq : (x.toList == [107, 101, 121, 115]) = true := by rw [hxl.out, hc]; rfl
        have fin : Hid (readGo ((ws.drop (k + 1)).map strL) ({ a with Ke := H }) = FA ∧ Rg ({ a with Ke := H })) := by
          have h1 := J2.out
          rw [hc] at h1
          unfold stepW at h1
          rw [if_pos rfl] at h1
          rw [hH.out] at h1
          exact ⟨h1, ⟨hHr.out.1, hHr.out.2, r.out.2.2.1, r.out.2.2.2⟩⟩
        clear hc
        have dd := (K.out.1.bx 1 _ _ _ rfl).c 1 _ (spC_Ke ⟨c, a⟩)
        have zz := (K.out.1.bx 1 _ _ _ rfl).fz 1
        have r0 := hHr.out.1
        have r1 := hHr.out.2
        go_wp2_with (first
          | (go_at_call 38; refine hXk.mono ?_; rintro e y8 ⟨rfl, hy8⟩; replace hy8 := hy8.symm; subst hy8)
          | ((with_reducible refine gen_world (y.setCell ⟨b2, 1, none⟩ (.int .u16 H)) (fun z => Fm w [(w.heap.size, spC ⟨0, zA⟩, 43), (b2, spC ⟨c, { a with Ke := H }⟩, 43)] z ∧ LiesT z (some ⟨g, 0, none⟩) ws) ?_ ?_); exact ⟨K'.out.setCell 1 _ _ _ _ rfl 1 _ rfl, L4.out y _ a 1 (.int .u16 H) rfl K.out.2⟩; intro y9 K9))
        go_roundw
        case rel => exact ⟨k + 1, _, y9, rfl, by simp, ⟨by have := J.out.1; omega, by have := hlt'.out; omega, fin.out.1⟩, fin.out.2, K9⟩
        case measure => have := hlt'.out; simp [intOf]; omega
      have n0 : (x.toList == [107, 101, 121, 115]) = false := by rw [hxl.out, beq_eq_false_iff_ne]; exact hc
      have m0 : Hid (strL x ≠ wKeys) := hc
      clear hc
      by_cases hc : strL x = wTape
      · have qq : (x.toList == [116, 97, 112, 101]) = true := by rw [hxl.out, hc]; rfl
        have fin : Hid (readGo ((ws.drop (k + 1)).map strL) ({ a with Ta := true }) = FA ∧ Rg ({ a with Ta := true })) := by
          have h1 := J2.out
          rw [hc] at h1
          unfold stepW at h1
          rw [if_neg (by decide)] at h1
          rw [if_pos rfl] at h1
          exact ⟨h1, r.out⟩
        clear hc
        have dd := (K.out.1.bx 1 _ _ _ rfl).c 2 _ (spC_Ta ⟨c, a⟩)
        have zz := (K.out.1.bx 1 _ _ _ rfl).fz 2
        go_wp2_with (((with_reducible refine gen_world (y.setCell ⟨b2, 2, none⟩ (.bool true)) (fun z => Fm w [(w.heap.size, spC ⟨0, zA⟩, 43), (b2, spC ⟨c, { a with Ta := true }⟩, 43)] z ∧ LiesT z (some ⟨g, 0, none⟩) ws) ?_ ?_); exact ⟨K'.out.setCell 1 _ _ _ _ rfl 2 _ rfl, L4.out y _ a 2 (.bool true) rfl K.out.2⟩; intro y9 K9))
        go_roundw
        case rel => exact ⟨k + 1, _, y9, rfl, by simp, ⟨by have := J.out.1; omega, by have := hlt'.out; omega, fin.out.1⟩, fin.out.2, K9⟩
        case measure => have := hlt'.out; simp [intOf]; omega
      have n1 : (x.toList == [116, 97, 112, 101]) = false := by rw [hxl.out, beq_eq_false_iff_ne]; exact hc
      have m1 : Hid (strL x ≠ wTape) := hc
      clear hc
      by_cases hc : strL x = wFlag
      · have qq : (x.toList == [102, 108, 97, 103]) = true := by rw [hxl.out, hc]; rfl
        have fin : Hid (readGo ((ws.drop (k + 1)).map strL) ({ a with Fl := true }) = FA ∧ Rg ({ a with Fl := true })) := by
          have h1 := J2.out
          rw [hc] at h1
          unfold stepW at h1
          rw [if_neg (by decide)] at h1
          rw [if_neg (by decide)] at h1
          rw [if_pos rfl] at h1
          exact ⟨h1, r.out⟩
        clear hc
        have dd := (K.out.1.bx 1 _ _ _ rfl).c 3 _ (spC_Fl ⟨c, a⟩)
        have zz := (K.out.1.bx 1 _ _ _ rfl).fz 3
        go_wp2_with (((with_reducible refine gen_world (y.setCell ⟨b2, 3, none⟩ (.bool true)) (fun z => Fm w [(w.heap.size, spC ⟨0, zA⟩, 43), (b2, spC ⟨c, { a with Fl := true }⟩, 43)] z ∧ LiesT z (some ⟨g, 0, none⟩) ws) ?_ ?_); exact ⟨K'.out.setCell 1 _ _ _ _ rfl 3 _ rfl, L4.out y _ a 3 (.bool true) rfl K.out.2⟩; intro y9 K9))
        go_roundw
        case rel => exact ⟨k + 1, _, y9, rfl, by simp, ⟨by have := J.out.1; omega, by have := hlt'.out; omega, fin.out.1⟩, fin.out.2, K9⟩
        case measure => have := hlt'.out; simp [intOf]; omega
      have n2 : (x.toList == [102, 108, 97, 103]) = false := by rw [hxl.out, beq_eq_false_iff_ne]; exact hc
      have m2 : Hid (strL x ≠ wFlag) := hc
      clear hc
      by_cases hc : strL x = wIn
      · have qq : (x.toList == [105, 110]) = true := by rw [hxl.out, hc]; rfl
        have fin : Hid (readGo ((ws.drop (k + 1)).map strL) ({ a with DI := true }) = FA ∧ Rg ({ a with DI := true })) := by
          have h1 := J2.out
          rw [hc] at h1
          unfold stepW at h1
          rw [if_neg (by decide)] at h1
          rw [if_neg (by decide)] at h1
          rw [if_neg (by decide)] at h1
          rw [if_pos rfl] at h1
          exact ⟨h1, r.out⟩
        clear hc
        have dd := (K.out.1.bx 1 _ _ _ rfl).c 4 _ (spC_DI ⟨c, a⟩)
        have zz := (K.out.1.bx 1 _ _ _ rfl).fz 4
        go_wp2_with (((with_reducible refine gen_world (y.setCell ⟨b2, 4, none⟩ (.bool true)) (fun z => Fm w [(w.heap.size, spC ⟨0, zA⟩, 43), (b2, spC ⟨c, { a with DI := true }⟩, 43)] z ∧ LiesT z (some ⟨g, 0, none⟩) ws) ?_ ?_); exact ⟨K'.out.setCell 1 _ _ _ _ rfl 4 _ rfl, L4.out y _ a 4 (.bool true) rfl K.out.2⟩; intro y9 K9))
        go_roundw
        case rel => exact ⟨k + 1, _, y9, rfl, by simp, ⟨by have := J.out.1; omega, by have := hlt'.out; omega, fin.out.1⟩, fin.out.2, K9⟩
        case measure => have := hlt'.out; simp [intOf]; omega
      have n3 : (x.toList == [105, 110]) = false := by rw [hxl.out, beq_eq_false_iff_ne]; exact hc
      have m3 : Hid (strL x ≠ wIn) := hc
      clear hc
      by_cases hc : strL x = wOut
      · have qq : (x.toList == [111, 117, 116]) = true := by rw [hxl.out, hc]; rfl
        have fin : Hid (readGo ((ws.drop (k + 1)).map strL) ({ a with DO := true }) = FA ∧ Rg ({ a with DO := true })) := by
          have h1 := J2.out
          rw [hc] at h1
          unfold stepW at h1
          rw [if_neg (by decide)] at h1
          rw [if_neg (by decide)] at h1
          rw [if_neg (by decide)] at h1
          rw [if_neg (by decide)] at h1
          rw [if_pos rfl] at h1
          exact ⟨h1, r.out⟩
        clear hc
        have dd := (K.out.1.bx 1 _ _ _ rfl).c 5 _ (spC_DO ⟨c, a⟩)
        have zz := (K.out.1.bx 1 _ _ _ rfl).fz 5
        go_wp2_with (((with_reducible refine gen_world (y.setCell ⟨b2, 5, none⟩ (.bool true)) (fun z => Fm w [(w.heap.size, spC ⟨0, zA⟩, 43), (b2, spC ⟨c, { a with DO := true }⟩, 43)] z ∧ LiesT z (some ⟨g, 0, none⟩) ws) ?_ ?_); exact ⟨K'.out.setCell 1 _ _ _ _ rfl 5 _ rfl, L4.out y _ a 5 (.bool true) rfl K.out.2⟩; intro y9 K9))
        go_roundw
        case rel => exact ⟨k + 1, _, y9, rfl, by simp, ⟨by have := J.out.1; omega, by have := hlt'.out; omega, fin.out.1⟩, fin.out.2, K9⟩
        case measure => have := hlt'.out; simp [intOf]; omega
      have n4 : (x.toList == [111, 117, 116]) = false := by rw [hxl.out, beq_eq_false_iff_ne]; exact hc
      have m4 : Hid (strL x ≠ wOut) := hc
      clear hc
      by_cases hc : strL x = wInt
      · have qq : (x.toList == [105, 110, 116]) = true := by rw [hxl.out, hc]; rfl
        have fin : Hid (readGo ((ws.drop (k + 1)).map strL) ({ a with In := true }) = FA ∧ Rg ({ a with In := true })) := by
          have h1 := J2.out
          rw [hc] at h1
          unfold stepW at h1
          rw [if_neg (by decide)] at h1
          rw [if_neg (by decide)] at h1
          rw [if_neg (by decide)] at h1
          rw [if_neg (by decide)] at h1
          rw [if_neg (by decide)] at h1
          rw [if_pos rfl] at h1
          exact ⟨h1, r.out⟩
        clear hc
        have dd := (K.out.1.bx 1 _ _ _ rfl).c 6 _ (spC_In ⟨c, a⟩)
        have zz := (K.out.1.bx 1 _ _ _ rfl).fz 6
        go_wp2_with (((with_reducible refine gen_world (y.setCell ⟨b2, 6, none⟩ (.bool true)) (fun z => Fm w [(w.heap.size, spC ⟨0, zA⟩, 43), (b2, spC ⟨c, { a with In := true }⟩, 43)] z ∧ LiesT z (some ⟨g, 0, none⟩) ws) ?_ ?_); exact ⟨K'.out.setCell 1 _ _ _ _ rfl 6 _ rfl, L4.out y _ a 6 (.bool true) rfl K.out.2⟩; intro y9 K9))
        go_roundw
        case rel => exact ⟨k + 1, _, y9, rfl, by simp, ⟨by have := J.out.1; omega, by have := hlt'.out; omega, fin.out.1⟩, fin.out.2, K9⟩
        case measure => have := hlt'.out; simp [intOf]; omega
      have n5 : (x.toList == [105, 110, 116]) = false := by rw [hxl.out, beq_eq_false_iff_ne]; exact hc
      have m5 : Hid (strL x ≠ wInt) := hc
      clear hc
      by_cases hc : strL x = wClear
      · have qq : (x.toList == [99, 108, 101, 97, 114]) = true := by rw [hxl.out, hc]; rfl
        have fin : Hid (readGo ((ws.drop (k + 1)).map strL) ({ a with Cl := true }) = FA ∧ Rg ({ a with Cl := true })) := by
          have h1 := J2.out
          rw [hc] at h1
          unfold stepW at h1
          rw [if_neg (by decide)] at h1
          rw [if_neg (by decide)] at h1
          rw [if_neg (by decide)] at h1
          rw [if_neg (by decide)] at h1
          rw [if_neg (by decide)] at h1
          rw [if_neg (by decide)] at h1
          rw [if_pos rfl] at h1
          exact ⟨h1, r.out⟩
        clear hc
        have dd := (K.out.1.bx 1 _ _ _ rfl).c 7 _ (spC_Cl ⟨c, a⟩)
        have zz := (K.out.1.bx 1 _ _ _ rfl).fz 7
        go_wp2_with (((with_reducible refine gen_world (y.setCell ⟨b2, 7, none⟩ (.bool true)) (fun z => Fm w [(w.heap.size, spC ⟨0, zA⟩, 43), (b2, spC ⟨c, { a with Cl := true }⟩, 43)] z ∧ LiesT z (some ⟨g, 0, none⟩) ws) ?_ ?_); exact ⟨K'.out.setCell 1 _ _ _ _ rfl 7 _ rfl, L4.out y _ a 7 (.bool true) rfl K.out.2⟩; intro y9 K9))
        go_roundw
        case rel => exact ⟨k + 1, _, y9, rfl, by simp, ⟨by have := J.out.1; omega, by have := hlt'.out; omega, fin.out.1⟩, fin.out.2, K9⟩
        case measure => have := hlt'.out; simp [intOf]; omega
      have n6 : (x.toList == [99, 108, 101, 97, 114]) = false := by rw [hxl.out, beq_eq_false_iff_ne]; exact hc
      have m6 : Hid (strL x ≠ wClear) := hc
      clear hc
      by_cases hc : strL x = wWait
      · have qq : (x.toList == [119, 97, 105, 116]) = true := by rw [hxl.out, hc]; rfl
        have fin : Hid (readGo ((ws.drop (k + 1)).map strL) ({ a with Wa := true }) = FA ∧ Rg ({ a with Wa := true })) := by
          have h1 := J2.out
          rw [hc] at h1
          unfold stepW at h1
          rw [if_neg (by decide)] at h1
          rw [if_neg (by decide)] at h1
          rw [if_neg (by decide)] at h1
          rw [if_neg (by decide)] at h1
          rw [if_neg (by decide)] at h1
          rw [if_neg (by decide)] at h1
          rw [if_neg (by decide)] at h1
          rw [if_pos rfl] at h1
          exact ⟨h1, r.out⟩
        clear hc
        have dd := (K.out.1.bx 1 _ _ _ rfl).c 8 _ (spC_Wa ⟨c, a⟩)
        have zz := (K.out.1.bx 1 _ _ _ rfl).fz 8
        go_wp2_with (((with_reducible refine gen_world (y.setCell ⟨b2, 8, none⟩ (.bool true)) (fun z => Fm w [(w.heap.size, spC ⟨0, zA⟩, 43), (b2, spC ⟨c, { a with Wa := true }⟩, 43)] z ∧ LiesT z (some ⟨g, 0, none⟩) ws) ?_ ?_); exact ⟨K'.out.setCell 1 _ _ _ _ rfl 8 _ rfl, L4.out y _ a 8 (.bool true) rfl K.out.2⟩; intro y9 K9))
        go_roundw
        case rel => exact ⟨k + 1, _, y9, rfl, by simp, ⟨by have := J.out.1; omega, by have := hlt'.out; omega, fin.out.1⟩, fin.out.2, K9⟩
        case measure => have := hlt'.out; simp [intOf]; omega
      have n7 : (x.toList == [119, 97, 105, 116]) = false := by rw [hxl.out, beq_eq_false_iff_ne]; exact hc
      have m7 : Hid (strL x ≠ wWait) := hc
      clear hc
      by_cases hc : strL x = wBus
      · have qq : (x.toList == [98, 117, 115]) = true := by rw [hxl.out, hc]; rfl
        have fin : Hid (readGo ((ws.drop (k + 1)).map strL) ({ a with Bu := H % 256 }) = FA ∧ Rg ({ a with Bu := H % 256 })) := by
          have h1 := J2.out
          rw [hc] at h1
          unfold stepW at h1
          rw [if_neg (by decide)] at h1
          rw [if_neg (by decide)] at h1
          rw [if_neg (by decide)] at h1
          rw [if_neg (by decide)] at h1
          rw [if_neg (by decide)] at h1
          rw [if_neg (by decide)] at h1
          rw [if_neg (by decide)] at h1
          rw [if_neg (by decide)] at h1
          rw [if_pos rfl] at h1
          rw [hH.out] at h1
          exact ⟨h1, ⟨r.out.1, r.out.2.1, by show 0 ≤ H % 256; omega, by show H % 256 ≤ 255; omega⟩⟩
        clear hc
        have dd := (K.out.1.bx 1 _ _ _ rfl).c 9 _ (spC_Bu ⟨c, a⟩)
        have zz := (K.out.1.bx 1 _ _ _ rfl).fz 9
        have r0 := hHr.out.1
        have r1 := hHr.out.2
        go_wp2_with (first
          | (go_at_call 38; refine hXk.mono ?_; rintro e y8 ⟨rfl, hy8⟩; replace hy8 := hy8.symm; subst hy8)
          | ((with_reducible refine gen_world (y.setCell ⟨b2, 9, none⟩ (.int .u8 (H % 256))) (fun z => Fm w [(w.heap.size, spC ⟨0, zA⟩, 43), (b2, spC ⟨c, { a with Bu := H % 256 }⟩, 43)] z ∧ LiesT z (some ⟨g, 0, none⟩) ws) ?_ ?_); exact ⟨K'.out.setCell 1 _ _ _ _ rfl 9 _ rfl, L4.out y _ a 9 (.int .u8 (H % 256)) rfl K.out.2⟩; intro y9 K9))
        go_roundw
        case rel => exact ⟨k + 1, _, y9, rfl, by simp, ⟨by have := J.out.1; omega, by have := hlt'.out; omega, fin.out.1⟩, fin.out.2, K9⟩
        case measure => have := hlt'.out; simp [intOf]; omega
      have n8 : (x.toList == [98, 117, 115]) = false := by rw [hxl.out, beq_eq_false_iff_ne]; exact hc
      have m8 : Hid (strL x ≠ wBus) := hc
      clear hc
      have fin : Hid (readGo ((ws.drop (k + 1)).map strL) a = FA) := by
        have h1 := J2.out
        unfold stepW at h1
        rw [if_neg m0.out, if_neg m1.out, if_neg m2.out, if_neg m3.out, if_neg m4.out, if_neg m5.out, if_neg m6.out, if_neg m7.out, if_neg m8.out] at h1
        exact h1
      go_wp2
      go_roundw
      case rel => exact ⟨k + 1, a, y, rfl, by simp, ⟨by have := J.out.1; omega, by have := hlt'.out; omega, fin.out⟩, r, K⟩
      case measure => have := hlt'.out; simp [intOf]; omega
    · have hke : k = n := by have := J.out.2.1; omega
      subst hke
      have hafa : a = FA := by
        have := J.out.2.2
        rw [List.drop_eq_nil_of_le (by rw [hn'.out]; exact Nat.le_refl _)] at this
        exact this
      subst hafa
      have K5 : Hid (Fm w [(w.heap.size, spC ⟨0, zA⟩, 43), (b2, spC ⟨c, a⟩, 43)] y) := K.out.1
      have dc := (K5.out.bx 1 _ _ _ rfl).c 0 _ (spC_c ⟨c, a⟩)
      dsimp only at dc
      clear hlt hX L4 J r hne' hdrop1 hx0 hx0e
      by_cases hgood : 1 ≤ c ∧ c ≤ 1048576
      · have G : Good ⟨c, a⟩ := ⟨hgood.1, hgood.2, hFr.out.1, hFr.out.2.1, hFr.out.2.2.1, hFr.out.2.2.2⟩
        have hL := fun v t => rline_val v t ⟨c, a⟩ G
        obtain ⟨ST, hST⟩ : ∃ x, lineB ⟨c, a⟩ = x := ⟨_, rfl⟩
        rw [hST] at hL
        obtain ⟨b, hb⟩ : ∃ b, (ST.toList == line.toList) = b := ⟨_, rfl⟩
        have fin : Hid ((spanOf (strL line)).isSome = b ∧ ∀ t, spanOf (strL line) = some t → (⟨c, a⟩ : Sn) = t) := by
          have h1 := hspan.out
          rw [hrd.out] at h1
          have h2 : spanB ⟨c, a⟩ (strL line) = b := by
            unfold spanB
            rw [← hb, toL, toL, ← hST]
            have h3 : strL (lineB ⟨c, a⟩) = lineL ⟨c, a⟩ := by simp [strL, lineB]
            rw [h3]
            simp only [hgood.1, hgood.2, decide_true, Bool.true_and]
            rw [Bool.eq_iff_iff]
            simp
          rw [h2] at h1
          refine ⟨?_, fun t ht => ?_⟩
          · rw [h1]; cases b <;> rfl
          · rw [h1] at ht
            cases b
            · cases ht
            · exact Option.some.inj ht
        have g1 := hgood.1
        have g2 := hgood.2
        have p1 : decide (1 ≤ c) = true := by simpa using g1
        have p2 : decide (c ≤ 1048576) = true := by simpa using g2
        clear hgood G hST
        go_wp2
        refine wp_region_held_drew (S := Sx w b2 ⟨c, a⟩) (by kernel_rfl) (Sx.of (K5.out.below (below_drew (Below.refl _ _)))) (fun hH => ?_)
        have K50 : Fm w [(w.heap.size, spC ⟨0, zA⟩, 43), (b2, spC ⟨c, a⟩, 43)] y.drew := K5.out.below (below_drew (Below.refl _ _))
        generalize y.drew = z0 at hH K50 ⊢
        refine wpAnyH_take (i := 0) (v := .agg (spC ⟨c, a⟩)) rfl (by kernel_rfl) (by kernel_rfl) (by kernel_rfl) (fun _ _ _ h => h) (y_load rtS b2 (spC ⟨c, a⟩) (fun _ h => Sx.b h) rfl (.tmp 5) (by kernel_rfl) rfl rfl) hH ?_
        try simp only [Act.put, List.setIfInBounds_toArray]
        refine wpAnyH_take (i := 1) (v := .bool true) rfl (by kernel_rfl) (by kernel_rfl) (by kernel_rfl) (fun _ _ _ h => h) (.inl ⟨by kernel_rfl, fun u hu => by go_simp⟩) hH ?_
        try simp only [Act.put]
        refine wpAnyH_take (i := 2) (v := .bool true) rfl (by kernel_rfl) (by kernel_rfl) (by kernel_rfl) (fun _ _ _ h => h) (.inl ⟨by kernel_rfl, fun u hu => by go_simp⟩) hH ?_
        try simp only [Act.put]
        refine wpAnyH_take (i := 3) (v := .agg (spC ⟨c, a⟩)) rfl (by kernel_rfl) (by kernel_rfl) (by kernel_rfl) (fun _ _ _ h => h) (y_load rtS b2 (spC ⟨c, a⟩) (fun _ h => Sx.b h) rfl (.tmp 5) (by kernel_rfl) rfl rfl) hH ?_
        try simp only [Act.put]
        refine wpAnyH_take (i := 5) (v := .string line) rfl (by kernel_rfl) (by kernel_rfl) (by kernel_rfl) (fun _ _ _ h => h) (.inl ⟨by kernel_rfl, fun u hu => by go_simp⟩) hH ?_
        try simp only [Act.put]
        refine wpAnyH_ready (rs := [4]) (by kernel_rfl) (by simp) (AllReadyH.cons rfl (fun K hK => ?_) AllReadyH.nil)
        rw [if_pos (by rfl)]
        go_wp2_with (go_at_call 39; refine (hL z0 (tb.out.below K50.low)).mono ?_; rintro e v5 ⟨rfl, hb5⟩)
        have K51 := K50.below hb5
        refine hK.out _ _ ⟨_, K51, rfl⟩ (fun hH => ?_)
        clear hK K
        try simp only [Act.put, List.setIfInBounds_toArray, List.set_cons_zero, List.set_cons_succ]
        refine wpAnyH_take (i := 6) (v := .bool b) rfl (by kernel_rfl) (by kernel_rfl) (by kernel_rfl) (fun _ _ _ h => h) (.inl ⟨by kernel_rfl, fun u hu => by go_simp⟩) hH ?_
        try simp only [Act.put, List.setIfInBounds_toArray]
        refine wpAnyH_take (i := 7) (v := .bool b) rfl (by kernel_rfl) (by kernel_rfl) (by kernel_rfl) (fun _ _ _ h => h) (.inl ⟨by kernel_rfl, fun u hu => by go_simp⟩) hH ?_
        try simp only [Act.put]
        refine wpAnyH_ready (rs := [8]) (by kernel_rfl) (by simp) (AllReadyH.cons rfl (fun K hK => ?_) AllReadyH.nil)
        rw [if_pos (by rfl)]
        with_reducible refine wp_st rtS w.heap.size (spC ⟨0, zA⟩) (spC ⟨c, a⟩) (K51.bx 0 _ _ _ rfl) rfl rfl (spC_one _) (.tmp 2) (.tmp 75) ?_ ?_ ?_ ?_
        · rfl
        · go_simp
        · go_simp
        intro y7 hw7
        have K7 : Fm w [(w.heap.size, spC ⟨c, a⟩, 43), (b2, spC ⟨c, a⟩, 43)] y7 := K51.put 0 _ _ _ _ rfl hw7.out
        refine hK.out _ _ ⟨_, K7, rfl⟩ (fun hH => ?_)
        clear hK K
        try simp only [Act.put]
        refine wpAnyH_ready (rs := [9]) (by kernel_rfl) (by simp) (AllReadyH.cons rfl (fun K hK => ?_) AllReadyH.nil)
        rw [if_pos (by rfl)]
        go_wp2
        refine hK.out _ _ hH (fun _ => ?_)
        clear hK K
        try simp only [Act.put, List.setIfInBounds_toArray, List.set_cons_zero, List.set_cons_succ]
        refine wpAnyH_done (by kernel_rfl) ?_ _
        go_wp2
        exact ret_row2 rtS rfl rfl rfl (K7.bx 0 _ _ _ rfl) rfl rfl ⟨_, by rw [fin.out.1]; rfl, fin.out.2, K7.low⟩
      · have fin : Hid (spanOf (strL line) = none) := by
          have h1 := hspan.out
          rw [hrd.out] at h1
          show _ = _
          rw [h1, if_neg]
          intro h2
          simp [spanB] at h2
          exact hgood ⟨h2.1.1, h2.1.2⟩
        by_cases g1 : 1 ≤ c
        · have p1 : decide (1 ≤ c) = true := by simpa using g1
          have p2 : decide (c ≤ 1048576) = false := by simp; omega
          clear hgood
          go_wp2
          refine wp_region_held_drew (S := Sx w b2 ⟨c, a⟩) (by kernel_rfl) (Sx.of (K5.out.below (below_drew (Below.refl _ _)))) (fun hH => ?_)
          have K50 : Fm w [(w.heap.size, spC ⟨0, zA⟩, 43), (b2, spC ⟨c, a⟩, 43)] y.drew := K5.out.below (below_drew (Below.refl _ _))
          generalize y.drew = z0 at hH K50 ⊢
          refine wpAnyH_take (i := 0) (v := .agg (spC ⟨c, a⟩)) rfl (by kernel_rfl) (by kernel_rfl) (by kernel_rfl) (fun _ _ _ h => h) (y_load rtS b2 (spC ⟨c, a⟩) (fun _ h => Sx.b h) rfl (.tmp 5) (by kernel_rfl) rfl rfl) hH ?_
          try simp only [Act.put, List.setIfInBounds_toArray]
          refine wpAnyH_take (i := 1) (v := .bool false) rfl (by kernel_rfl) (by kernel_rfl) (by kernel_rfl) (fun _ _ _ h => h) (.inl ⟨by kernel_rfl, fun u hu => by go_simp⟩) hH ?_
          try simp only [Act.put]
          refine wpAnyH_take (i := 2) (v := .bool false) rfl (by kernel_rfl) (by kernel_rfl) (by kernel_rfl) (fun _ _ _ h => h) (.inl ⟨by kernel_rfl, fun u hu => by go_simp⟩) hH ?_
          try simp only [Act.put]
          refine wpAnyH_take (i := 3) (v := undef) rfl (by kernel_rfl) (by kernel_rfl) (by kernel_rfl) (fun _ _ _ h => h) (.inr ⟨by kernel_rfl, rfl⟩) hH ?_
          try simp only [Act.put]
          refine wpAnyH_take (i := 4) (v := undef) rfl (by kernel_rfl) (by kernel_rfl) (by kernel_rfl) (fun _ _ _ h => h) (.inr ⟨by kernel_rfl, rfl⟩) hH ?_
          try simp only [Act.put]
          refine wpAnyH_take (i := 5) (v := undef) rfl (by kernel_rfl) (by kernel_rfl) (by kernel_rfl) (fun _ _ _ h => h) (.inr ⟨by kernel_rfl, rfl⟩) hH ?_
          try simp only [Act.put]
          refine wpAnyH_take (i := 6) (v := undef) rfl (by kernel_rfl) (by kernel_rfl) (by kernel_rfl) (fun _ _ _ h => h) (.inr ⟨by kernel_rfl, rfl⟩) hH ?_
          try simp only [Act.put]
          refine wpAnyH_take (i := 7) (v := .bool false) rfl (by kernel_rfl) (by kernel_rfl) (by kernel_rfl) (fun _ _ _ h => h) (.inl ⟨by kernel_rfl, fun u hu => by go_simp⟩) hH ?_
          try simp only [Act.put]
          refine wpAnyH_ready (rs := [8]) (by kernel_rfl) (by simp) (AllReadyH.cons rfl (fun K hK => ?_) AllReadyH.nil)
          rw [if_pos (by rfl)]
          with_reducible refine wp_st rtS w.heap.size (spC ⟨0, zA⟩) (spC ⟨c, a⟩) (K50.bx 0 _ _ _ rfl) rfl rfl (spC_one _) (.tmp 2) (.tmp 75) ?_ ?_ ?_ ?_
          · rfl
          · go_simp
          · go_simp
          intro y7 hw7
          have K7 : Fm w [(w.heap.size, spC ⟨c, a⟩, 43), (b2, spC ⟨c, a⟩, 43)] y7 := K50.put 0 _ _ _ _ rfl hw7.out
          refine hK.out _ _ ⟨_, K7, rfl⟩ (fun hH => ?_)
          clear hK K
          try simp only [Act.put]
          refine wpAnyH_ready (rs := [9]) (by kernel_rfl) (by simp) (AllReadyH.cons rfl (fun K hK => ?_) AllReadyH.nil)
          rw [if_pos (by rfl)]
          go_wp2
          refine hK.out _ _ hH (fun _ => ?_)
          clear hK K
          try simp only [Act.put, List.setIfInBounds_toArray, List.set_cons_zero, List.set_cons_succ]
          refine wpAnyH_done (by kernel_rfl) ?_ _
          go_wp2
          exact ret_row2 rtS rfl rfl rfl (K7.bx 0 _ _ _ rfl) rfl rfl ⟨_, by rw [fin.out]; rfl, (fun t h => by rw [fin.out] at h; cases h), K7.low⟩
        · have p1 : decide (1 ≤ c) = false := by simpa using g1
          clear hgood
          go_wp2
          refine wp_region_held_drew (S := Sx w b2 ⟨c, a⟩) (by kernel_rfl) (Sx.of (K5.out.below (below_drew (Below.refl _ _)))) (fun hH => ?_)
          have K50 : Fm w [(w.heap.size, spC ⟨0, zA⟩, 43), (b2, spC ⟨c, a⟩, 43)] y.drew := K5.out.below (below_drew (Below.refl _ _))
          generalize y.drew = z0 at hH K50 ⊢
          refine wpAnyH_take (i := 0) (v := .agg (spC ⟨c, a⟩)) rfl (by kernel_rfl) (by kernel_rfl) (by kernel_rfl) (fun _ _ _ h => h) (y_load rtS b2 (spC ⟨c, a⟩) (fun _ h => Sx.b h) rfl (.tmp 5) (by kernel_rfl) rfl rfl) hH ?_
          try simp only [Act.put, List.setIfInBounds_toArray]
          refine wpAnyH_take (i := 1) (v := .bool false) rfl (by kernel_rfl) (by kernel_rfl) (by kernel_rfl) (fun _ _ _ h => h) (.inl ⟨by kernel_rfl, fun u hu => by go_simp⟩) hH ?_
          try simp only [Act.put]
          refine wpAnyH_take (i := 2) (v := .bool false) rfl (by kernel_rfl) (by kernel_rfl) (by kernel_rfl) (fun _ _ _ h => h) (.inl ⟨by kernel_rfl, fun u hu => by go_simp⟩) hH ?_
          try simp only [Act.put]
          refine wpAnyH_take (i := 3) (v := undef) rfl (by kernel_rfl) (by kernel_rfl) (by kernel_rfl) (fun _ _ _ h => h) (.inr ⟨by kernel_rfl, rfl⟩) hH ?_
          try simp only [Act.put]
          refine wpAnyH_take (i := 4) (v := undef) rfl (by kernel_rfl) (by kernel_rfl) (by kernel_rfl) (fun _ _ _ h => h) (.inr ⟨by kernel_rfl, rfl⟩) hH ?_
          try simp only [Act.put]
          refine wpAnyH_take (i := 5) (v := undef) rfl (by kernel_rfl) (by kernel_rfl) (by kernel_rfl) (fun _ _ _ h => h) (.inr ⟨by kernel_rfl, rfl⟩) hH ?_
          try simp only [Act.put]
          refine wpAnyH_take (i := 6) (v := undef) rfl (by kernel_rfl) (by kernel_rfl) (by kernel_rfl) (fun _ _ _ h => h) (.inr ⟨by kernel_rfl, rfl⟩) hH ?_
          try simp only [Act.put]
          refine wpAnyH_take (i := 7) (v := .bool false) rfl (by kernel_rfl) (by kernel_rfl) (by kernel_rfl) (fun _ _ _ h => h) (.inl ⟨by kernel_rfl, fun u hu => by go_simp⟩) hH ?_
          try simp only [Act.put]
          refine wpAnyH_ready (rs := [8]) (by kernel_rfl) (by simp) (AllReadyH.cons rfl (fun K hK => ?_) AllReadyH.nil)
          rw [if_pos (by rfl)]
          with_reducible refine wp_st rtS w.heap.size (spC ⟨0, zA⟩) (spC ⟨c, a⟩) (K50.bx 0 _ _ _ rfl) rfl rfl (spC_one _) (.tmp 2) (.tmp 75) ?_ ?_ ?_ ?_
          · rfl
          · go_simp
          · go_simp
          intro y7 hw7
          have K7 : Fm w [(w.heap.size, spC ⟨c, a⟩, 43), (b2, spC ⟨c, a⟩, 43)] y7 := K50.put 0 _ _ _ _ rfl hw7.out
          refine hK.out _ _ ⟨_, K7, rfl⟩ (fun hH => ?_)
          clear hK K
          try simp only [Act.put]
          refine wpAnyH_ready (rs := [9]) (by kernel_rfl) (by simp) (AllReadyH.cons rfl (fun K hK => ?_) AllReadyH.nil)
          rw [if_pos (by rfl)]
          go_wp2
          refine hK.out _ _ hH (fun _ => ?_)
          clear hK K
          try simp only [Act.put, List.setIfInBounds_toArray, List.set_cons_zero, List.set_cons_succ]
          refine wpAnyH_done (by kernel_rfl) ?_ _
          go_wp2
          exact ret_row2 rtS rfl rfl rfl (K7.bx 0 _ _ _ rfl) rfl rfl ⟨_, by rw [fin.out]; rfl, (fun t h => by rw [fin.out] at h; cases h), K7.low⟩
end Go.Proofs.YthpahpfnpapoiabDoor
