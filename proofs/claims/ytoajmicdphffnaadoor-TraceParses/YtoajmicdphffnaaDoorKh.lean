/- The record of a line, by the document. -/
import Derived.Test.YtoajmicdphffnaaDoorKg
import Derived.Test.YtoajmicdphffnaaDoorKs
import Derived.Test.YtoajmicdphffnaaDoorXpn
namespace Go.Proofs.YtoajmicdphffnaaDoor
open Go Go.RowKit
set_option linter.unusedVariables false
set_option maxHeartbeats 3000000
set_option maxRecDepth 20000

theorem built3 (c a d : Int) : Tryd.prog.built 45 [(0, .int .u8 c), (1, .int .u16 a), (2, .int .u8 d)] = some (rcC ⟨c, a, d, false, false, 0, false, 0⟩) := by kernel_rfl
def Rx (w : World) (b2 : Nat) (s : Rc) (z : World) : Prop := ∃ r : Array Value, Fm w [(w.heap.size, r, 45), (b2, rcC s, 45)] z ∧ r.size = 8
theorem Rx.b {w : World} {b2 : Nat} {s : Rc} {z : World} (h : Rx w b2 s z) : Bx z b2 (rcC s) 45 := by
  obtain ⟨r, h1, _⟩ := h
  exact h1.bx 1 _ _ _ rfl
theorem Rx.of {w : World} {b2 : Nat} {s t : Rc} {z : World} (h : Fm w [(w.heap.size, rcC t, 45), (b2, rcC s, 45)] z) : Rx w b2 s z := ⟨_, h, rfl⟩
theorem drop_one {α : Type} {l : List α} {k : Nat} {x : α} (h : l[k]? = some x) : l.drop k = x :: l.drop (k + 1) := by
  have h := List.getElem?_eq_some_iff.1 h
  rw [List.drop_eq_getElem_cons h.1, h.2]
theorem getD_one (x : ByteArray) (h : 1 < x.size) : (strL x).getD 1 0 = x[1]'h := by
  have := strL_get x 1 h
  rw [List.getD_eq_getElem?_getD, this]
  rfl
theorem rrecord_any (w : World) (line : ByteArray) (hs : line.size ≤ 1000000) :
    Calls Tryd.prog 40 #[.string line] w fun e w' => ∃ s', e = .returned (.tuple #[.agg (rcC s'), .bool (recOf (strL line)).isSome]) ∧ Hid ((∀ t, recOf (strL line) = some t → s' = t) ∧ Below w.heap.size w w') := by
  have si : (line.size : Int) ≤ 1000000 := by omega
  have zz0 := zeroV_R
  have hF : Hid (Fm w [(w.heap.size, rcC zR, 45)] (w.alloc (.cells (rcC zR) 45))) := Fm.one w _ _
  have hb0 : Hid (Tryd.prog.built 45 [] = some (rcC zR)) := built0
  have hW := fun v => rwords_any v line hs
  obtain ⟨SW, hSW⟩ : ∃ x, splitW (strL line) = x := ⟨_, rfl⟩
  have hSWl := split_len (strL line)
  rw [hSW, strL_len] at hSWl
  have hSWl' : Hid (SW.length ≤ line.size + 1 ∧ ∀ x ∈ SW, x.length ≤ line.size) := hSWl
  rw [hSW] at hW
  have hrec : Hid (recOf (strL line) = if 40 < line.size then none else recP (strL line) (recW SW)) := by
    show _ = _
    unfold recOf
    rw [strL_len, hSW]
  have hs' : Hid (line.size ≤ 1000000) := hs
  clear hSW hSWl hs
  go_enter Tryd.func40, Tryd.ntmps40
  go_wp2_with (first
    | ((with_reducible refine gen_world (w.alloc (.cells (rcC zR) 45)) (Fm w [(w.heap.size, rcC zR, 45)]) hF.out ?_); intro y0 K0)
    | (go_at_call 73; refine (hW y0).mono ?_; rintro e y1 ⟨v, ws, rfl, H1⟩; obtain ⟨sp, cap, rfl, hlt1⟩ := H1.out.1.open; have K1 : Hid (Fm w [(w.heap.size, rcC zR, 45)] y1 ∧ LiesT y1 sp ws) := ⟨K0.out.below H1.out.1.2, hlt1⟩; have hws : Hid (ws.map strL = SW) := H1.out.2; clear H1 hlt1; refine stopAt ?_))
  refine Stop.go ?_
  have hwl : Hid (ws.length ≤ 1000001 ∧ ∀ s ∈ ws, s.size ≤ 1000000) := by
    have h1 := hws.out
    have h2 := hSWl'.out
    have h3 := hs'.out
    have e : ws.length = SW.length := by rw [← h1, List.length_map]
    refine ⟨by omega, fun s hs => ?_⟩
    have := h2.2 (strL s) (by rw [← h1]; exact List.mem_map_of_mem hs)
    rw [strL_len] at this
    omega
  obtain ⟨n, hn⟩ : ∃ n, ws.length = n := ⟨_, rfl⟩
  have hn' : Hid (ws.length = n) := hn
  have ni : (n : Int) ≤ 1000001 := by have := hwl.out.1; omega
  rw [hn]
  clear hn hW K0 hF
  by_cases hbig : 40 < line.size
  · have fin : Hid (recOf (strL line) = none) := by show _ = _; rw [hrec.out, if_pos hbig]
    have q : decide ((40 : Int) < line.size) = true := by simp; omega
    clear hbig
    go_wp2_with (first
      | ((with_reducible refine at_bu #[] [] (rcC zR) ?_ ?_ ?_ hb0.out ?_); kernel_rfl; rfl; rfl)
      | ((with_reducible refine at_st rtR w.heap.size (rcC zR) (rcC zR) ?_ ?_ ?_ ?_ (.tmp 2) (.tmp 29) ?_ ?_ ?_ ?_ ?_); exact K1.out.1.bx 0 _ _ _ rfl; rfl; rfl; exact rcC_one _; rfl; rfl; rfl; rfl; intro y2 hw2; have K2 : Hid (Fm w [(w.heap.size, rcC zR, 45)] y2) := K1.out.1.put 0 _ _ _ _ rfl hw2.out))
    exact ret_row2 rtR rfl rfl rfl (K2.out.bx 0 _ _ _ rfl) rfl rfl ⟨_, by rw [fin.out]; rfl, (fun t h => by rw [fin.out] at h; cases h), K2.out.low⟩

  have q : decide ((40 : Int) < line.size) = false := by simp; omega
  have hrec2 : Hid (recOf (strL line) = recP (strL line) (recW SW)) := by show _ = _; rw [hrec.out, if_neg hbig]
  clear hbig
  by_cases hfew : n < 3
  · have fin : Hid (recOf (strL line) = none) := by
      have e : recW SW = none := by
        rw [← hws.out]
        have h := hn'.out
        unfold recW
        match ws, h with
        | [], _ => rfl
        | [_], _ => rfl
        | [_, _], _ => rfl
        | _ :: _ :: _ :: _, h => simp at h; omega
      show _ = _
      rw [hrec2.out, e]
      rfl
    have q2 : decide ((n : Int) < 3) = true := by simp; omega
    clear hfew
    go_wp2_with (first
      | ((with_reducible refine at_bu #[] [] (rcC zR) ?_ ?_ ?_ hb0.out ?_); kernel_rfl; rfl; rfl)
      | ((with_reducible refine at_st rtR w.heap.size (rcC zR) (rcC zR) ?_ ?_ ?_ ?_ (.tmp 2) (.tmp 29) ?_ ?_ ?_ ?_ ?_); exact K1.out.1.bx 0 _ _ _ rfl; rfl; rfl; exact rcC_one _; rfl; rfl; rfl; rfl; intro y2 hw2; have K2 : Hid (Fm w [(w.heap.size, rcC zR, 45)] y2) := K1.out.1.put 0 _ _ _ _ rfl hw2.out))
    exact ret_row2 rtR rfl rfl rfl (K2.out.bx 0 _ _ _ rfl) rfl rfl ⟨_, by rw [fin.out]; rfl, (fun t h => by rw [fin.out] at h; cases h), K2.out.low⟩

  have q2 : decide ((n : Int) < 3) = false := by simp; omega
  have hfew' : Hid (3 ≤ n) := by show 3 ≤ n; omega
  obtain ⟨x0, x1, x2, rest, hx⟩ : ∃ x0 x1 x2 rest, ws = x0 :: x1 :: x2 :: rest := by
    have h := hn'.out
    match ws, h with
    | [], h => simp at h; omega
    | [_], h => simp at h; omega
    | [_, _], h => simp at h; omega
    | a :: b :: c :: r, _ => exact ⟨a, b, c, r, rfl⟩
  have g0 : ws[0]? = some x0 := by rw [hx]; rfl
  have g1 : ws[1]? = some x1 := by rw [hx]; rfl
  have g2 : ws[2]? = some x2 := by rw [hx]; rfl
  have hSWx : Hid (SW = strL x0 :: strL x1 :: strL x2 :: rest.map strL) := by show _ = _; rw [← hws.out, hx]; rfl
  have hd3 : Hid (ws.drop 3 = rest) := by show _ = _; rw [hx]; rfl
  obtain ⟨g, rfl, c0⟩ := K1.out.2 0 x0 g0
  obtain ⟨g', e', c1⟩ := K1.out.2 1 x1 g1
  cases e'
  obtain ⟨g', e', c2⟩ := K1.out.2 2 x2 g2
  cases e'
  have i0 : ∀ v, (Instr.indexAt 65 (.slice (some ⟨g, 0, none⟩) n cap) (.int .i64 0)).run Tryd.prog v = .ok (.pointer (some ⟨g, 0, none⟩)) v := fun v => idxT g n cap 0 (by omega) v
  have i1 : ∀ v, (Instr.indexAt 65 (.slice (some ⟨g, 0, none⟩) n cap) (.int .i64 1)).run Tryd.prog v = .ok (.pointer (some ⟨g, 1, none⟩)) v := fun v => idxT g n cap 1 (by omega) v
  have i2 : ∀ v, (Instr.indexAt 65 (.slice (some ⟨g, 0, none⟩) n cap) (.int .i64 2)).run Tryd.prog v = .ok (.pointer (some ⟨g, 2, none⟩)) v := fun v => idxT g n cap 2 (by omega) v
  have hg1 : Hid (g < y1.heap.size ∧ w.heap.size ≠ g) := by
    refine ⟨World.block_lt_of_cell? y1 _ c0, fun e => ?_⟩
    have h1 := (K1.out.1.bx 0 _ _ _ rfl).c 0 _ (rcC_co zR)
    rw [e, c0] at h1
    cases h1
  have s0 : (x0.size : Int) ≤ 1000000 := by have := hwl.out.2 x0 (List.mem_of_getElem? g0); omega
  have hN1 := fun v => rnumber_any x1 v (by have := hwl.out.2 x1 (List.mem_of_getElem? g1); unfold maxLen; omega)
  have hN2 := fun v => rnumber_any x2 v (by have := hwl.out.2 x2 (List.mem_of_getElem? g2); unfold maxLen; omega)
  replace g0 : Hid _ := g0
  replace g1 : Hid _ := g1
  replace g2 : Hid _ := g2
  replace hx : Hid _ := hx
  clear hfew
  by_cases hz : ¬ x0.size = 2
  · have fin : Hid (recOf (strL line) = none) := by
      show _ = _
      rw [hrec2.out, hSWx.out]
      unfold recW
      simp only [strL_len]
      rw [if_neg hz]
      rfl
    have q3 : ((x0.size : Int) != 2) = true := by simp; omega
    clear hz
    go_wp2_with (first
      | ((with_reducible refine at_bu #[] [] (rcC zR) ?_ ?_ ?_ hb0.out ?_); kernel_rfl; rfl; rfl)
      | ((with_reducible refine at_st rtR w.heap.size (rcC zR) (rcC zR) ?_ ?_ ?_ ?_ (.tmp 2) (.tmp 29) ?_ ?_ ?_ ?_ ?_); exact K1.out.1.bx 0 _ _ _ rfl; rfl; rfl; exact rcC_one _; rfl; rfl; rfl; rfl; intro y2 hw2; have K2 : Hid (Fm w [(w.heap.size, rcC zR, 45)] y2) := K1.out.1.put 0 _ _ _ _ rfl hw2.out))
    exact ret_row2 rtR rfl rfl rfl (K2.out.bx 0 _ _ _ rfl) rfl rfl ⟨_, by rw [fin.out]; rfl, (fun t h => by rw [fin.out] at h; cases h), K2.out.low⟩

  have q3 : ((x0.size : Int) != 2) = false := by simp; omega
  have hz' : Hid (x0.size = 2) := show x0.size = 2 from Decidable.of_not_not hz
  have h01 : 1 < x0.size := by have := hz'.out; omega
  have hsz : (x0.size : Int) = 2 := by have := hz'.out; omega
  have hrec3 : Hid (recOf (strL line) = recP (strL line) (recN (rest.map strL) (x0[1]'h01) (numOf x1) (numOf x2))) := by
    show _ = _
    rw [hrec2.out, hSWx.out]
    unfold recW
    simp only [strL_len, strL_mk]
    rw [if_pos hz'.out, getD_one x0 h01]
  clear hz
  rcases hn1 : numOf x1 with _ | a
  · obtain ⟨e1, e2⟩ := num_none x1 hn1
    simp only [e1, e2] at hN1
    have fin : Hid (recOf (strL line) = none) := by show _ = _; rw [hrec3.out, hn1]; rfl
    obtain ⟨V2, hV2⟩ : ∃ x, numV x2 = x := ⟨_, rfl⟩
    obtain ⟨E2, hE2⟩ : ∃ x, numE x2 = x := ⟨_, rfl⟩
    simp only [hV2, hE2] at hN2
    clear hn1 e1 e2 hV2 hE2
    go_wp2_with (first
      | ((with_reducible refine at_bu #[] [] (rcC zR) ?_ ?_ ?_ hb0.out ?_); kernel_rfl; rfl; rfl)
      | (go_at_call_of 74 (Value.string x1); refine (hN1 _).mono ?_; rintro e v1 ⟨rfl, hv1⟩; replace hv1 := hv1.symm; subst hv1)
      | (go_at_call_of 74 (Value.string x2); refine (hN2 _).mono ?_; rintro e v2 ⟨rfl, hv2⟩; replace hv2 := hv2.symm; subst hv2)
      | ((with_reducible refine at_st rtR w.heap.size (rcC zR) (rcC zR) ?_ ?_ ?_ ?_ (.tmp 2) (.tmp 58) ?_ ?_ ?_ ?_ ?_); exact K1.out.1.bx 0 _ _ _ rfl; rfl; rfl; exact rcC_one _; rfl; rfl; rfl; rfl; intro y2 hw2; have K2 : Hid (Fm w [(w.heap.size, rcC zR, 45)] y2) := K1.out.1.put 0 _ _ _ _ rfl hw2.out))
    exact ret_row2 rtR rfl rfl rfl (K2.out.bx 0 _ _ _ rfl) rfl rfl ⟨_, by rw [fin.out]; rfl, (fun t h => by rw [fin.out] at h; cases h), K2.out.low⟩

  obtain ⟨e1, e2⟩ := num_some x1 a hn1
  simp only [e1, e2] at hN1
  have a0 : 0 ≤ a := num_lo hn1
  rcases hn2 : numOf x2 with _ | d
  · obtain ⟨e3, e4⟩ := num_none x2 hn2
    simp only [e3, e4] at hN2
    have fin : Hid (recOf (strL line) = none) := by show _ = _; rw [hrec3.out, hn1, hn2]; rfl
    clear hn1 e1 e2 hn2 e3 e4
    go_wp2_with (first
      | ((with_reducible refine at_bu #[] [] (rcC zR) ?_ ?_ ?_ hb0.out ?_); kernel_rfl; rfl; rfl)
      | (go_at_call_of 74 (Value.string x1); refine (hN1 _).mono ?_; rintro e v1 ⟨rfl, hv1⟩; replace hv1 := hv1.symm; subst hv1)
      | (go_at_call_of 74 (Value.string x2); refine (hN2 _).mono ?_; rintro e v2 ⟨rfl, hv2⟩; replace hv2 := hv2.symm; subst hv2)
      | ((with_reducible refine at_st rtR w.heap.size (rcC zR) (rcC zR) ?_ ?_ ?_ ?_ (.tmp 2) (.tmp 58) ?_ ?_ ?_ ?_ ?_); exact K1.out.1.bx 0 _ _ _ rfl; rfl; rfl; exact rcC_one _; rfl; rfl; rfl; rfl; intro y2 hw2; have K2 : Hid (Fm w [(w.heap.size, rcC zR, 45)] y2) := K1.out.1.put 0 _ _ _ _ rfl hw2.out))
    exact ret_row2 rtR rfl rfl rfl (K2.out.bx 0 _ _ _ rfl) rfl rfl ⟨_, by rw [fin.out]; rfl, (fun t h => by rw [fin.out] at h; cases h), K2.out.low⟩

  obtain ⟨e3, e4⟩ := num_some x2 d hn2
  simp only [e3, e4] at hN2
  have d0 : 0 ≤ d := num_lo hn2
  have hrec4 : Hid (recOf (strL line) = recP (strL line) (if a ≤ 65535 ∧ d ≤ 255 then some (readR (rest.map strL) (begR (x0[1]'h01) a d)) else none)) := by show _ = _; rw [hrec3.out, hn1, hn2]; rfl
  clear hn1 hn2 e1 e2 e3 e4 hrec3 hrec2 hrec
  by_cases ha : 65535 < a
  · have qa : decide (65535 < a) = true := by simpa using ha
    have fin : Hid (recOf (strL line) = none) := by show _ = _; rw [hrec4.out, if_neg (by omega)]; rfl
    clear ha
    go_wp2_with (first
      | ((with_reducible refine at_bu #[] [] (rcC zR) ?_ ?_ ?_ hb0.out ?_); kernel_rfl; rfl; rfl)
      | (go_at_call_of 74 (Value.string x1); refine (hN1 _).mono ?_; rintro e v1 ⟨rfl, hv1⟩; replace hv1 := hv1.symm; subst hv1)
      | (go_at_call_of 74 (Value.string x2); refine (hN2 _).mono ?_; rintro e v2 ⟨rfl, hv2⟩; replace hv2 := hv2.symm; subst hv2)
      | ((with_reducible refine at_st rtR w.heap.size (rcC zR) (rcC zR) ?_ ?_ ?_ ?_ (.tmp 2) (.tmp 58) ?_ ?_ ?_ ?_ ?_); exact K1.out.1.bx 0 _ _ _ rfl; rfl; rfl; exact rcC_one _; rfl; rfl; rfl; rfl; intro y2 hw2; have K2 : Hid (Fm w [(w.heap.size, rcC zR, 45)] y2) := K1.out.1.put 0 _ _ _ _ rfl hw2.out))
    exact ret_row2 rtR rfl rfl rfl (K2.out.bx 0 _ _ _ rfl) rfl rfl ⟨_, by rw [fin.out]; rfl, (fun t h => by rw [fin.out] at h; cases h), K2.out.low⟩

  have qa : decide (65535 < a) = false := by simpa using ha
  have a1 : a ≤ 65535 := by omega
  clear ha
  by_cases hd : 255 < d
  · have qd : decide (255 < d) = true := by simpa using hd
    have fin : Hid (recOf (strL line) = none) := by show _ = _; rw [hrec4.out, if_neg (by omega)]; rfl
    clear hd
    go_wp2_with (first
      | ((with_reducible refine at_bu #[] [] (rcC zR) ?_ ?_ ?_ hb0.out ?_); kernel_rfl; rfl; rfl)
      | (go_at_call_of 74 (Value.string x1); refine (hN1 _).mono ?_; rintro e v1 ⟨rfl, hv1⟩; replace hv1 := hv1.symm; subst hv1)
      | (go_at_call_of 74 (Value.string x2); refine (hN2 _).mono ?_; rintro e v2 ⟨rfl, hv2⟩; replace hv2 := hv2.symm; subst hv2)
      | ((with_reducible refine at_st rtR w.heap.size (rcC zR) (rcC zR) ?_ ?_ ?_ ?_ (.tmp 2) (.tmp 58) ?_ ?_ ?_ ?_ ?_); exact K1.out.1.bx 0 _ _ _ rfl; rfl; rfl; exact rcC_one _; rfl; rfl; rfl; rfl; intro y2 hw2; have K2 : Hid (Fm w [(w.heap.size, rcC zR, 45)] y2) := K1.out.1.put 0 _ _ _ _ rfl hw2.out))
    exact ret_row2 rtR rfl rfl rfl (K2.out.bx 0 _ _ _ rfl) rfl rfl ⟨_, by rw [fin.out]; rfl, (fun t h => by rw [fin.out] at h; cases h), K2.out.low⟩

  have qd : decide (255 < d) = false := by simpa using hd
  have d1 : d ≤ 255 := by omega
  clear hd
  obtain ⟨C, hC⟩ : ∃ C, (((x0[1]'h01).toNat : Int) - 48) % 256 = C := ⟨_, rfl⟩
  have hbeg : Hid (begR (x0[1]'h01) a d = ⟨C, a, d, false, false, 0, false, 0⟩) := by show _ = _; unfold begR; rw [hC]
  have hCr : Hid (0 ≤ C ∧ C ≤ 255) := by rw [← hC]; exact ⟨by omega, by omega⟩
  obtain ⟨FR, hFR⟩ : ∃ x, readR (rest.map strL) ⟨C, a, d, false, false, 0, false, 0⟩ = x := ⟨_, rfl⟩
  have hFR' : Hid (readR (rest.map strL) ⟨C, a, d, false, false, 0, false, 0⟩ = FR) := hFR
  have hFr : Hid (Rr FR) := by rw [← hFR]; exact read_range _ _ ⟨hCr.out.1, hCr.out.2, a0, a1, d0, d1, by dsimp only; decide, by dsimp only; decide, by dsimp only; decide, by dsimp only; decide⟩
  have hrec5 : Hid (recOf (strL line) = if recB FR (strL line) then some FR else none) := by
    show _ = _
    rw [hrec4.out, if_pos ⟨a1, d1⟩, hbeg.out, hFR]
    rfl
  have hbc : Hid (Tryd.prog.built 45 [(0, .int .u8 C), (1, .int .u16 a), (2, .int .u8 d)] = some (rcC ⟨C, a, d, false, false, 0, false, 0⟩)) := built3 C a d
  clear hFR hrec4 hbeg
  go_wp2_with (first
    | (go_at_call_of 74 (Value.string x1); refine (hN1 _).mono ?_; rintro e v1 ⟨rfl, hv1⟩; replace hv1 := hv1.symm; subst hv1)
    | (go_at_call_of 74 (Value.string x2); refine (hN2 _).mono ?_; rintro e v2 ⟨rfl, hv2⟩; replace hv2 := hv2.symm; subst hv2)
    | ((with_reducible refine at_bu #[(0, .tmp 63), (1, .tmp 65), (2, .tmp 67)] [(0, .int .u8 C), (1, .int .u16 a), (2, .int .u8 d)] (rcC ⟨C, a, d, false, false, 0, false, 0⟩) ?_ ?_ ?_ hbc.out ?_); kernel_rfl; rfl; (simp only [List.map_toArray, List.map_cons, List.map_nil]; rfl))
    | ((with_reducible refine gen_world (y1.alloc (.cells (rcC zR) 45)) (fun z => Fm w [(w.heap.size, rcC zR, 45), (y1.heap.size, rcC zR, 45)] z ∧ LiesT z (some ⟨g, 0, none⟩) ws) ?_ ?_); exact ⟨K1.out.1.new _ _, K1.out.2.below (below1 _ _)⟩; intro y3 K3)
    | ((with_reducible refine at_st rtR y1.heap.size (rcC zR) (rcC ⟨C, a, d, false, false, 0, false, 0⟩) ?_ ?_ ?_ ?_ (.tmp 9) (.tmp 68) ?_ ?_ ?_ ?_ ?_); exact K3.out.1.bx 1 _ _ _ rfl; rfl; rfl; exact rcC_one _; rfl; rfl; rfl; rfl; intro y4 hw4; have K4 : Hid (Fm w [(w.heap.size, rcC zR, 45), (y1.heap.size, rcC ⟨C, a, d, false, false, 0, false, 0⟩, 45)] y4 ∧ LiesT y4 (some ⟨g, 0, none⟩) ws) := ⟨K3.out.1.put 1 _ _ _ _ rfl hw4.out, fun j s hj => (by obtain ⟨g', e', hc'⟩ := K3.out.2 j s hj; cases e'; exact ⟨g, rfl, (World.cell?_of_block (w := y3) (a := ⟨g, j, none⟩) (hw4.out.2.2 g (Nat.ne_of_lt hg1.out.1))).trans hc'⟩)⟩))
  obtain ⟨b2, hb2⟩ : ∃ b, y1.heap.size = b := ⟨_, rfl⟩
  rw [hb2] at K4 hg1 ⊢
  have L4 : Hid (∀ (z z' : World) (j' : Nat) (v' : Value), z' = z.setCell ⟨b2, j', none⟩ v' → LiesT z (some ⟨g, 0, none⟩) ws → LiesT z' (some ⟨g, 0, none⟩) ws) := fun z z' j' v' e h j s hj => by
    subst e
    obtain ⟨g', e', hc'⟩ := h j s hj
    cases e'
    exact ⟨g, rfl, (World.cell?_of_block (w := z) (a := ⟨g, j, none⟩) (heap_setCell_other z ⟨b2, j', none⟩ g v' (Nat.ne_of_lt hg1.out.1))).trans hc'⟩
  clear hb2 K1 i0 i1 i2 c0 c1 c2 hN1 hN2 hC
  go_loopw [10] (fun i wz => ∃ (k : Nat) (s : Rc) (y : World), y = wz ∧ i = .int .i64 (k : Int) ∧ Hid (3 ≤ k ∧ k ≤ n ∧ readR ((ws.drop k).map strL) s = FR) ∧ Hid (Fm w [(w.heap.size, rcC zR, 45), (b2, rcC s, 45)] y ∧ LiesT y (some ⟨g, 0, none⟩) ws)) (fun i _ => (n - intOf i).toNat)
  case atStart => exact ⟨3, _, _, rfl, rfl, ⟨Nat.le_refl _, hfew'.out, by rw [hd3.out]; exact hFR'.out⟩, K4⟩
  case round =>
    obtain ⟨k, s, y, rfl, rfl, J, K⟩ := hrel
    clear K4
    by_cases hlt : k < n
    · obtain ⟨x, hx⟩ : ∃ x, ws[k]? = some x := ⟨_, List.getElem?_eq_getElem (by rw [hn'.out]; exact hlt)⟩
      obtain ⟨g', e', hcx⟩ := K.out.2 k x hx
      cases e'
      have hdk := drop_one hx
      have J2 : Hid (readR ((ws.drop (k + 1)).map strL) (stepR (strL x) s) = FR) := by
        have := J.out.2.2
        rw [hdk] at this
        exact this
      have hxl : Hid (x.toList = strL x) := toL x
      have sx : (x.size : Int) ≤ 1000000 := by have := hwl.out.2 x (List.mem_of_getElem? hx); omega
      have ik := idxT g n cap k hlt
      have hki : (k : Int) < n := by omega
      have hlt' : Hid (k < n) := hlt
      have K' : Hid (Fm w [(w.heap.size, rcC zR, 45), (b2, rcC s, 45)] y) := K.out.1
      replace hx : Hid _ := hx
      replace hdk : Hid _ := hdk
      clear hlt
      by_cases hc : strL x = wR
      · have qq : (x.toList == [114]) = true := by rw [hxl.out, hc]; rfl
        have fin : Hid (readR ((ws.drop (k + 1)).map strL) ({ s with re := true }) = FR) := by
          have h1 := J2.out
          rw [hc] at h1
          unfold stepR at h1
          rw [if_pos rfl] at h1
          exact h1
        clear hc
        have dd := (K.out.1.bx 1 _ _ _ rfl).c 3 _ (rcC_re s)
        have zz := (K.out.1.bx 1 _ _ _ rfl).fz 3
        go_wp2_with (((with_reducible refine gen_world (y.setCell ⟨b2, 3, none⟩ (.bool true)) (fun z => Fm w [(w.heap.size, rcC zR, 45), (b2, rcC { s with re := true }, 45)] z ∧ LiesT z (some ⟨g, 0, none⟩) ws) ?_ ?_); exact ⟨K'.out.setCell 1 _ _ _ _ rfl 3 _ rfl, L4.out y _ 3 (.bool true) rfl K.out.2⟩; intro y9 K9))
        go_roundw
        case rel => exact ⟨k + 1, _, y9, rfl, by simp, ⟨by have := J.out.1; omega, by have := hlt'.out; omega, fin.out⟩, K9⟩
        case measure => have := hlt'.out; simp [intOf]; omega
      have n0 : (x.toList == [114]) = false := by rw [hxl.out, beq_eq_false_iff_ne]; exact hc
      have m0 : Hid (strL x ≠ wR) := hc
      clear hc
      by_cases hc : strL x = wW
      · have qq : (x.toList == [119]) = true := by rw [hxl.out, hc]; rfl
        have fin : Hid (readR ((ws.drop (k + 1)).map strL) ({ s with wr := true }) = FR) := by
          have h1 := J2.out
          rw [hc] at h1
          unfold stepR at h1
          rw [if_neg (by decide)] at h1
          rw [if_pos rfl] at h1
          exact h1
        clear hc
        have dd := (K.out.1.bx 1 _ _ _ rfl).c 4 _ (rcC_wr s)
        have zz := (K.out.1.bx 1 _ _ _ rfl).fz 4
        go_wp2_with (((with_reducible refine gen_world (y.setCell ⟨b2, 4, none⟩ (.bool true)) (fun z => Fm w [(w.heap.size, rcC zR, 45), (b2, rcC { s with wr := true }, 45)] z ∧ LiesT z (some ⟨g, 0, none⟩) ws) ?_ ?_); exact ⟨K'.out.setCell 1 _ _ _ _ rfl 4 _ rfl, L4.out y _ 4 (.bool true) rfl K.out.2⟩; intro y9 K9))
        go_roundw
        case rel => exact ⟨k + 1, _, y9, rfl, by simp, ⟨by have := J.out.1; omega, by have := hlt'.out; omega, fin.out⟩, K9⟩
        case measure => have := hlt'.out; simp [intOf]; omega
      have n1 : (x.toList == [119]) = false := by rw [hxl.out, beq_eq_false_iff_ne]; exact hc
      have m1 : Hid (strL x ≠ wW) := hc
      clear hc
      by_cases hc : strL x = wQ
      · have qq : (x.toList == [113]) = true := by rw [hxl.out, hc]; rfl
        have fin : Hid (readR ((ws.drop (k + 1)).map strL) ({ s with q := true }) = FR) := by
          have h1 := J2.out
          rw [hc] at h1
          unfold stepR at h1
          rw [if_neg (by decide)] at h1
          rw [if_neg (by decide)] at h1
          rw [if_pos rfl] at h1
          exact h1
        clear hc
        have dd := (K.out.1.bx 1 _ _ _ rfl).c 6 _ (rcC_q s)
        have zz := (K.out.1.bx 1 _ _ _ rfl).fz 6
        go_wp2_with (((with_reducible refine gen_world (y.setCell ⟨b2, 6, none⟩ (.bool true)) (fun z => Fm w [(w.heap.size, rcC zR, 45), (b2, rcC { s with q := true }, 45)] z ∧ LiesT z (some ⟨g, 0, none⟩) ws) ?_ ?_); exact ⟨K'.out.setCell 1 _ _ _ _ rfl 6 _ rfl, L4.out y _ 6 (.bool true) rfl K.out.2⟩; intro y9 K9))
        go_roundw
        case rel => exact ⟨k + 1, _, y9, rfl, by simp, ⟨by have := J.out.1; omega, by have := hlt'.out; omega, fin.out⟩, K9⟩
        case measure => have := hlt'.out; simp [intOf]; omega
      have n2 : (x.toList == [113]) = false := by rw [hxl.out, beq_eq_false_iff_ne]; exact hc
      have m2 : Hid (strL x ≠ wQ) := hc
      clear hc
      by_cases hc : strL x = wPause
      · have qq : (x.toList == [112, 97, 117, 115, 101]) = true := by rw [hxl.out, hc]; rfl
        have fin : Hid (readR ((ws.drop (k + 1)).map strL) ({ s with mo := 1 }) = FR) := by
          have h1 := J2.out
          rw [hc] at h1
          unfold stepR at h1
          rw [if_neg (by decide)] at h1
          rw [if_neg (by decide)] at h1
          rw [if_neg (by decide)] at h1
          rw [if_pos rfl] at h1
          exact h1
        clear hc
        have dd := (K.out.1.bx 1 _ _ _ rfl).c 7 _ (rcC_mo s)
        have zz := (K.out.1.bx 1 _ _ _ rfl).fz 7
        go_wp2_with (((with_reducible refine gen_world (y.setCell ⟨b2, 7, none⟩ (.int .u8 1)) (fun z => Fm w [(w.heap.size, rcC zR, 45), (b2, rcC { s with mo := 1 }, 45)] z ∧ LiesT z (some ⟨g, 0, none⟩) ws) ?_ ?_); exact ⟨K'.out.setCell 1 _ _ _ _ rfl 7 _ rfl, L4.out y _ 7 (.int .u8 1) rfl K.out.2⟩; intro y9 K9))
        go_roundw
        case rel => exact ⟨k + 1, _, y9, rfl, by simp, ⟨by have := J.out.1; omega, by have := hlt'.out; omega, fin.out⟩, K9⟩
        case measure => have := hlt'.out; simp [intOf]; omega
      have n3 : (x.toList == [112, 97, 117, 115, 101]) = false := by rw [hxl.out, beq_eq_false_iff_ne]; exact hc
      have m3 : Hid (strL x ≠ wPause) := hc
      clear hc
      by_cases hc : strL x = wReset
      · have qq : (x.toList == [114, 101, 115, 101, 116]) = true := by rw [hxl.out, hc]; rfl
        have fin : Hid (readR ((ws.drop (k + 1)).map strL) ({ s with mo := 2 }) = FR) := by
          have h1 := J2.out
          rw [hc] at h1
          unfold stepR at h1
          rw [if_neg (by decide)] at h1
          rw [if_neg (by decide)] at h1
          rw [if_neg (by decide)] at h1
          rw [if_neg (by decide)] at h1
          rw [if_pos rfl] at h1
          exact h1
        clear hc
        have dd := (K.out.1.bx 1 _ _ _ rfl).c 7 _ (rcC_mo s)
        have zz := (K.out.1.bx 1 _ _ _ rfl).fz 7
        go_wp2_with (((with_reducible refine gen_world (y.setCell ⟨b2, 7, none⟩ (.int .u8 2)) (fun z => Fm w [(w.heap.size, rcC zR, 45), (b2, rcC { s with mo := 2 }, 45)] z ∧ LiesT z (some ⟨g, 0, none⟩) ws) ?_ ?_); exact ⟨K'.out.setCell 1 _ _ _ _ rfl 7 _ rfl, L4.out y _ 7 (.int .u8 2) rfl K.out.2⟩; intro y9 K9))
        go_roundw
        case rel => exact ⟨k + 1, _, y9, rfl, by simp, ⟨by have := J.out.1; omega, by have := hlt'.out; omega, fin.out⟩, K9⟩
        case measure => have := hlt'.out; simp [intOf]; omega
      have n4 : (x.toList == [114, 101, 115, 101, 116]) = false := by rw [hxl.out, beq_eq_false_iff_ne]; exact hc
      have m4 : Hid (strL x ≠ wReset) := hc
      clear hc
      by_cases hc : strL x = wLoad
      · have qq : (x.toList == [108, 111, 97, 100]) = true := by rw [hxl.out, hc]; rfl
        have fin : Hid (readR ((ws.drop (k + 1)).map strL) ({ s with mo := 3 }) = FR) := by
          have h1 := J2.out
          rw [hc] at h1
          unfold stepR at h1
          rw [if_neg (by decide)] at h1
          rw [if_neg (by decide)] at h1
          rw [if_neg (by decide)] at h1
          rw [if_neg (by decide)] at h1
          rw [if_neg (by decide)] at h1
          rw [if_pos rfl] at h1
          exact h1
        clear hc
        have dd := (K.out.1.bx 1 _ _ _ rfl).c 7 _ (rcC_mo s)
        have zz := (K.out.1.bx 1 _ _ _ rfl).fz 7
        go_wp2_with (((with_reducible refine gen_world (y.setCell ⟨b2, 7, none⟩ (.int .u8 3)) (fun z => Fm w [(w.heap.size, rcC zR, 45), (b2, rcC { s with mo := 3 }, 45)] z ∧ LiesT z (some ⟨g, 0, none⟩) ws) ?_ ?_); exact ⟨K'.out.setCell 1 _ _ _ _ rfl 7 _ rfl, L4.out y _ 7 (.int .u8 3) rfl K.out.2⟩; intro y9 K9))
        go_roundw
        case rel => exact ⟨k + 1, _, y9, rfl, by simp, ⟨by have := J.out.1; omega, by have := hlt'.out; omega, fin.out⟩, K9⟩
        case measure => have := hlt'.out; simp [intOf]; omega
      have n5 : (x.toList == [108, 111, 97, 100]) = false := by rw [hxl.out, beq_eq_false_iff_ne]; exact hc
      have m5 : Hid (strL x ≠ wLoad) := hc
      clear hc
      by_cases hc : x.size = 2
      · have qq : ((x.size : Int) == 2) = true := by simp; omega
        have hx1 : 1 < x.size := by omega
        obtain ⟨D, hD⟩ : ∃ D, (((x[1]'hx1).toNat : Int) - 48) % 256 = D := ⟨_, rfl⟩
        have fin : Hid (readR ((ws.drop (k + 1)).map strL) ({ s with po := D }) = FR) := by
          have h1 := J2.out
          unfold stepR at h1
          rw [if_neg m0.out, if_neg m1.out, if_neg m2.out, if_neg m3.out, if_neg m4.out, if_neg m5.out, if_pos (by rw [strL_len]; exact hc), getD_one x hx1, hD] at h1
          exact h1
        have hsx : (x.size : Int) = 2 := by omega
        clear hc
        have dd := (K.out.1.bx 1 _ _ _ rfl).c 5 _ (rcC_po s)
        have zz := (K.out.1.bx 1 _ _ _ rfl).fz 5
        go_wp2_with (((with_reducible refine gen_world (y.setCell ⟨b2, 5, none⟩ (.int .u8 D)) (fun z => Fm w [(w.heap.size, rcC zR, 45), (b2, rcC { s with po := D }, 45)] z ∧ LiesT z (some ⟨g, 0, none⟩) ws) ?_ ?_); exact ⟨K'.out.setCell 1 _ _ _ _ rfl 5 _ rfl, L4.out y _ 5 (.int .u8 D) rfl K.out.2⟩; intro y9 K9))
        go_roundw
        case rel => exact ⟨k + 1, _, y9, rfl, by simp, ⟨by have := J.out.1; omega, by have := hlt'.out; omega, fin.out⟩, K9⟩
        case measure => have := hlt'.out; simp [intOf]; omega
      have n6 : ((x.size : Int) == 2) = false := by simp; omega
      have fin : Hid (readR ((ws.drop (k + 1)).map strL) s = FR) := by
        have h1 := J2.out
        unfold stepR at h1
        rw [if_neg m0.out, if_neg m1.out, if_neg m2.out, if_neg m3.out, if_neg m4.out, if_neg m5.out, if_neg (by rw [strL_len]; exact hc)] at h1
        exact h1
      clear hc
      go_wp2
      go_roundw
      case rel => exact ⟨k + 1, s, y, rfl, by simp, ⟨by have := J.out.1; omega, by have := hlt'.out; omega, fin.out⟩, K⟩
      case measure => have := hlt'.out; simp [intOf]; omega
    · have hke : k = n := by have := J.out.2.1; omega
      subst hke
      have hafa : s = FR := by
        have := J.out.2.2
        rw [List.drop_eq_nil_of_le (by rw [hn'.out]; exact Nat.le_refl _)] at this
        exact this
      subst hafa
      have K5 : Hid (Fm w [(w.heap.size, rcC zR, 45), (b2, rcC s, 45)] y) := K.out.1
      have hM := rmay_any y s
      obtain ⟨mb, hmb⟩ : ∃ b, mayR s = b := ⟨_, rfl⟩
      rw [hmb] at hM
      have hmb' : Hid (mayR s = mb) := hmb
      clear hlt L4 J hmb hd3 hx
      cases mb
      · have fin : Hid (recOf (strL line) = none) := by
          show _ = _
          rw [hrec5.out]
          unfold recB
          rw [hmb'.out]
          rfl
        go_wp2_with (first
          | ((with_reducible refine at_load rtR b2 (rcC s) ?_ ?_ (.tmp 9) ?_ ?_ ?_ ?_); exact K5.out.bx 1 _ _ _ rfl; rfl; kernel_rfl; rfl; rfl)
          | (go_at_call 69; refine hM.mono ?_; rintro e y6 ⟨rfl, h6⟩; have K6 : Hid (Fm w [(w.heap.size, rcC zR, 45), (b2, rcC s, 45)] y6) := K5.out.below h6; clear h6))
        refine wp_region_held_drew (S := Rx w b2 s) (by kernel_rfl) (Rx.of (K6.out.below (below_drew (Below.refl _ _)))) (fun hH => ?_)
        have K50 : Fm w [(w.heap.size, rcC zR, 45), (b2, rcC s, 45)] y6.drew := K6.out.below (below_drew (Below.refl _ _))
        generalize y6.drew = z0 at hH K50 ⊢
        refine wpAnyH_take (i := 0) (v := .agg (rcC s)) rfl (by kernel_rfl) (by kernel_rfl) (by kernel_rfl) (fun _ _ _ h => h) (y_load rtR b2 (rcC s) (fun _ h => Rx.b h) rfl (.tmp 9) (by kernel_rfl) rfl rfl) hH ?_
        try simp only [Act.put, List.setIfInBounds_toArray]
        refine wpAnyH_take (i := 1) (v := .bool false) rfl (by kernel_rfl) (by kernel_rfl) (by kernel_rfl) (fun _ _ _ h => h) (.inl ⟨by kernel_rfl, fun u hu => by go_simp⟩) hH ?_
        try simp only [Act.put]
        refine wpAnyH_take (i := 2) (v := .bool false) rfl (by kernel_rfl) (by kernel_rfl) (by kernel_rfl) (fun _ _ _ h => h) (.inl ⟨by kernel_rfl, fun u hu => by go_simp⟩) hH ?_
        try simp only [Act.put]
        refine wpAnyH_take (i := 3) (v := undef) rfl (by kernel_rfl) (by kernel_rfl) (by kernel_rfl) (fun _ _ _ h => h) (.inr ⟨by kernel_rfl, rfl⟩) hH ?_
        try simp only [Act.put]
        refine wpAnyH_take (i := 4) (v := undef) rfl (by kernel_rfl) (by kernel_rfl) (by kernel_rfl) (fun _ _ _ h => h) (.inr ⟨by kernel_rfl, rfl⟩) hH ?_
        try simp only [Act.put]
        refine wpAnyH_take (i := 5) (v := undef) rfl (by kernel_rfl) (by kernel_rfl) (by kernel_rfl) (fun _ _ _ h => h) (.inr ⟨by kernel_rfl, rfl⟩) hH ?_
        try simp only [Act.put]
        refine wpAnyH_take (i := 6) (v := undef) rfl (by kernel_rfl) (by kernel_rfl) (by kernel_rfl) (fun _ _ _ h => h) (.inr ⟨by kernel_rfl, rfl⟩) hH ?_
        try simp only [Act.put]
        refine wpAnyH_take (i := 7) (v := .bool false) rfl (by kernel_rfl) (by kernel_rfl) (by kernel_rfl) (fun _ _ _ h => h) (.inl ⟨by kernel_rfl, fun u hu => by go_simp⟩) hH ?_
        try simp only [Act.put]
        refine wpAnyH_ready (rs := [8]) (by kernel_rfl) (by simp) (AllReadyH.cons rfl (fun K hK => ?_) AllReadyH.nil)
        rw [if_pos (by rfl)]
        with_reducible refine wp_st rtR w.heap.size (rcC zR) (rcC s) (K50.bx 0 _ _ _ rfl) rfl rfl (rcC_one _) (.tmp 2) (.tmp 133) ?_ ?_ ?_ ?_
        · rfl
        · go_simp
        · go_simp
        intro y7 hw7
        have K7 : Fm w [(w.heap.size, rcC s, 45), (b2, rcC s, 45)] y7 := K50.put 0 _ _ _ _ rfl hw7.out
        refine hK.out _ _ ⟨_, K7, rfl⟩ (fun hH => ?_)
        clear hK K
        try simp only [Act.put]
        refine wpAnyH_ready (rs := [9]) (by kernel_rfl) (by simp) (AllReadyH.cons rfl (fun K hK => ?_) AllReadyH.nil)
        rw [if_pos (by rfl)]
        go_wp2
        refine hK.out _ _ hH (fun _ => ?_)
        clear hK K
        try simp only [Act.put, List.setIfInBounds_toArray, List.set_cons_zero, List.set_cons_succ]
        refine wpAnyH_done (by kernel_rfl) ?_ _
        go_wp2
        exact ret_row2 rtR rfl rfl rfl (K7.bx 0 _ _ _ rfl) rfl rfl ⟨_, by rw [fin.out]; rfl, (fun t h => by rw [fin.out] at h; cases h), K7.low⟩
      · have hL := fun v => rline_val v s hFr.out hmb'.out
        obtain ⟨ST, hST⟩ : ∃ x, lineB s = x := ⟨_, rfl⟩
        rw [hST] at hL
        obtain ⟨b, hb⟩ : ∃ b, (ST.toList == line.toList) = b := ⟨_, rfl⟩
        have fin : Hid ((recOf (strL line)).isSome = b ∧ ∀ t, recOf (strL line) = some t → s = t) := by
          have h1 := hrec5.out
          have h2 : recB s (strL line) = b := by
            unfold recB
            rw [← hb, toL, toL, ← hST, hmb'.out]
            have h3 : strL (lineB s) = lineR s := by simp [strL, lineB]
            rw [h3, Bool.true_and, Bool.eq_iff_iff]
            simp
          rw [h2] at h1
          refine ⟨?_, fun t ht => ?_⟩
          · rw [h1]; cases b <;> rfl
          · rw [h1] at ht
            cases b
            · cases ht
            · exact Option.some.inj ht
        clear hST
        go_wp2_with (first
          | ((with_reducible refine at_load rtR b2 (rcC s) ?_ ?_ (.tmp 9) ?_ ?_ ?_ ?_); exact K5.out.bx 1 _ _ _ rfl; rfl; kernel_rfl; rfl; rfl)
          | (go_at_call 69; refine hM.mono ?_; rintro e y6 ⟨rfl, h6⟩; have K6 : Hid (Fm w [(w.heap.size, rcC zR, 45), (b2, rcC s, 45)] y6) := K5.out.below h6; clear h6))
        refine wp_region_held_drew (S := Rx w b2 s) (by kernel_rfl) (Rx.of (K6.out.below (below_drew (Below.refl _ _)))) (fun hH => ?_)
        have K50 : Fm w [(w.heap.size, rcC zR, 45), (b2, rcC s, 45)] y6.drew := K6.out.below (below_drew (Below.refl _ _))
        generalize y6.drew = z0 at hH K50 ⊢
        refine wpAnyH_take (i := 0) (v := .agg (rcC s)) rfl (by kernel_rfl) (by kernel_rfl) (by kernel_rfl) (fun _ _ _ h => h) (y_load rtR b2 (rcC s) (fun _ h => Rx.b h) rfl (.tmp 9) (by kernel_rfl) rfl rfl) hH ?_
        try simp only [Act.put, List.setIfInBounds_toArray]
        refine wpAnyH_take (i := 1) (v := .bool true) rfl (by kernel_rfl) (by kernel_rfl) (by kernel_rfl) (fun _ _ _ h => h) (.inl ⟨by kernel_rfl, fun u hu => by go_simp⟩) hH ?_
        try simp only [Act.put]
        refine wpAnyH_take (i := 2) (v := .bool true) rfl (by kernel_rfl) (by kernel_rfl) (by kernel_rfl) (fun _ _ _ h => h) (.inl ⟨by kernel_rfl, fun u hu => by go_simp⟩) hH ?_
        try simp only [Act.put]
        refine wpAnyH_take (i := 3) (v := .agg (rcC s)) rfl (by kernel_rfl) (by kernel_rfl) (by kernel_rfl) (fun _ _ _ h => h) (y_load rtR b2 (rcC s) (fun _ h => Rx.b h) rfl (.tmp 9) (by kernel_rfl) rfl rfl) hH ?_
        try simp only [Act.put]
        refine wpAnyH_take (i := 5) (v := .string line) rfl (by kernel_rfl) (by kernel_rfl) (by kernel_rfl) (fun _ _ _ h => h) (.inl ⟨by kernel_rfl, fun u hu => by go_simp⟩) hH ?_
        try simp only [Act.put]
        refine wpAnyH_ready (rs := [4]) (by kernel_rfl) (by simp) (AllReadyH.cons rfl (fun K hK => ?_) AllReadyH.nil)
        rw [if_pos (by rfl)]
        go_wp2_with (go_at_call 33; refine (hL z0).mono ?_; rintro e v5 ⟨rfl, hb5⟩)
        have K51 := K50.below hb5
        refine hK.out _ _ ⟨_, K51, rfl⟩ (fun hH => ?_)
        clear hK K
        try simp only [Act.put, List.setIfInBounds_toArray, List.set_cons_zero, List.set_cons_succ]
        refine wpAnyH_take (i := 6) (v := .bool b) rfl (by kernel_rfl) (by kernel_rfl) (by kernel_rfl) (fun _ _ _ h => h) (.inl ⟨by kernel_rfl, fun u hu => by go_simp⟩) hH ?_
        try simp only [Act.put, List.setIfInBounds_toArray]
        refine wpAnyH_take (i := 7) (v := .bool b) rfl (by kernel_rfl) (by kernel_rfl) (by kernel_rfl) (fun _ _ _ h => h) (.inl ⟨by kernel_rfl, fun u hu => by go_simp⟩) hH ?_
        try simp only [Act.put]
        refine wpAnyH_ready (rs := [8]) (by kernel_rfl) (by simp) (AllReadyH.cons rfl (fun K hK => ?_) AllReadyH.nil)
        rw [if_pos (by rfl)]
        with_reducible refine wp_st rtR w.heap.size (rcC zR) (rcC s) (K51.bx 0 _ _ _ rfl) rfl rfl (rcC_one _) (.tmp 2) (.tmp 133) ?_ ?_ ?_ ?_
        · rfl
        · go_simp
        · go_simp
        intro y7 hw7
        have K7 : Fm w [(w.heap.size, rcC s, 45), (b2, rcC s, 45)] y7 := K51.put 0 _ _ _ _ rfl hw7.out
        refine hK.out _ _ ⟨_, K7, rfl⟩ (fun hH => ?_)
        clear hK K
        try simp only [Act.put]
        refine wpAnyH_ready (rs := [9]) (by kernel_rfl) (by simp) (AllReadyH.cons rfl (fun K hK => ?_) AllReadyH.nil)
        rw [if_pos (by rfl)]
        go_wp2
        refine hK.out _ _ hH (fun _ => ?_)
        clear hK K
        try simp only [Act.put, List.setIfInBounds_toArray, List.set_cons_zero, List.set_cons_succ]
        refine wpAnyH_done (by kernel_rfl) ?_ _
        go_wp2
        exact ret_row2 rtR rfl rfl rfl (K7.bx 0 _ _ _ rfl) rfl rfl ⟨_, by rw [fin.out.1]; rfl, fin.out.2, K7.low⟩
end Go.Proofs.YtoajmicdphffnaaDoor
