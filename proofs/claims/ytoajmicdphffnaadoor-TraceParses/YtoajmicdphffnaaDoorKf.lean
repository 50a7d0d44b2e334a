/- A record's line, by the document. -/
import Derived.Test.YtoajmicdphffnaaDoorKr
import Derived.Test.YtoajmicdphffnaaDoorXp
import Derived.Deep.DeepCutAuto
namespace Go.Proofs.YtoajmicdphffnaaDoor
open Go Go.RowKit
set_option linter.unusedVariables false
set_option maxHeartbeats 3000000
set_option maxRecDepth 20000

theorem conv_any (x : Int) (h0 : 0 ≤ x) (h1 : x ≤ 207) (z : World) (g : Nat) (hc : z.cell? ⟨g, 0, none⟩ = some (.int .u8 (48 + x))) : (convert 34 9 (.slice (some ⟨g, 0, none⟩) 1 1)).run Tryd.prog z = .ok (.string ⟨#[dig x]⟩) z := by
  have h := run_convert_bytes_back (P := Tryd.prog) z 34 9 5 ⟨g, 0, none⟩ 1 [dig x] Tryd.underlying34 Tryd.underlying5 Tryd.underlying9 (fun j hj => by
    have e : j = 0 := by simpa using hj
    subst e
    have e2 := dig_nat x h0 h1
    rw [Addr.add_lit]
    simp only [List.getElem_cons_zero, e2]
    exact hc)
  exact h
theorem line_one {X Y : List UInt8} {st : ByteArray} {m n : Nat} {w : List UInt8} (h : st.size ≤ m ∧ strL st = X) (b : ByteArray) (hb : strL b = 32 :: w ∧ m + b.size ≤ n) (e : Y = X ++ joinT [w]) : (st ++ b).size ≤ n ∧ strL (st ++ b) = Y := by
  have h2 : strL (st ++ b) = Y := by rw [strL_app, h.2, hb.1, e]; simp [joinT]
  refine ⟨?_, h2⟩
  have h3 := strL_len (st ++ b)
  rw [strL_app, List.length_append, strL_len, strL_len] at h3
  omega
theorem line_port {X Y : List UInt8} {st D : ByteArray} {d : UInt8} (h : st.size ≤ 14 ∧ strL st = X) (hD : strL D = [d]) (e : Y = X ++ joinT [[110, d]]) : (st ++ ⟨#[32, 110]⟩ ++ D).size ≤ 17 ∧ strL (st ++ ⟨#[32, 110]⟩ ++ D) = Y := by
  have h2 : strL (st ++ ⟨#[32, 110]⟩ ++ D) = Y := by rw [strL_app, strL_app, h.2, hD, e]; simp [joinT, strL]
  refine ⟨?_, h2⟩
  have h3 := strL_len (st ++ ⟨#[32, 110]⟩ ++ D)
  have h4 := strL_len D
  rw [strL_app, strL_app, List.length_append, List.length_append, strL_len, strL_len, strL_len] at h3
  rw [hD] at h4
  have h5 : (ByteArray.mk #[32, 110]).size = 2 := rfl
  simp at h4
  omega
theorem line_first {DC HA HD : ByteArray} {c : UInt8} {a d : List UInt8} (hc : strL DC = [c]) (ha : strL HA = a) (hd : strL HD = d) (la : HA.size = 4) (ld : HD.size = 2) : (ByteArray.mk #[115] ++ DC ++ ByteArray.mk #[32] ++ HA ++ ByteArray.mk #[32] ++ HD).size ≤ 10 ∧ strL (ByteArray.mk #[115] ++ DC ++ ByteArray.mk #[32] ++ HA ++ ByteArray.mk #[32] ++ HD) = [115, c] ++ joinT [a, d] := by
  have h2 : strL (ByteArray.mk #[115] ++ DC ++ ByteArray.mk #[32] ++ HA ++ ByteArray.mk #[32] ++ HD) = [115, c] ++ joinT [a, d] := by
    rw [strL_app, strL_app, strL_app, strL_app, strL_app, hc, ha, hd]
    simp [joinT, strL]
  refine ⟨?_, h2⟩
  rw [← strL_len, h2]
  have l1 := strL_len HA
  have l2 := strL_len HD
  rw [ha] at l1
  rw [hd] at l2
  simp [joinT]
  omega
def lineB (r : Rc) : ByteArray := ⟨(lineR r).toArray⟩
theorem rline_any (w : World) (r : Rc) (g : Rr r) (hm : mayR r = true) : Calls Tryd.prog 33 #[.agg (rcC r)] w fun e w' => ∃ st, e = .returned (.string st) ∧ Hid (strL st = lineR r ∧ Below w.heap.size w w') := by
  have hF : Hid (Fm w [(w.heap.size, rcC r, 45)] (w.alloc (.cells (rcC r) 45))) := Fm.one w _ _
  obtain ⟨m1, m2, m3, m4⟩ := (may_iff r).1 hm
  have hH4 := fun v => rhex_any r.ad 4 v (by have := g.a1; omega)
  have hH2 := fun v => rhex_any r.da 2 v (by have := g.d1; omega)
  obtain ⟨k1, k2⟩ := hexOf_small r.ad 4 g.a0 (by have := g.a1; show r.ad < 65536; omega) (by decide)
  obtain ⟨b1, b2⟩ := hexOf_small r.da 2 g.d0 (by have := g.d1; show r.da < 256; omega) (by decide)
  have k1' : strL (hexOf r.ad 4) = hexL 4 r.ad.toNat := k1
  have b1' : strL (hexOf r.da 2) = hexL 2 r.da.toNat := b1
  have k2' : (hexOf r.ad 4).size = 4 := k2
  have b2' : (hexOf r.da 2).size = 2 := b2
  have hcv := conv_any r.co g.c0 (by omega)
  have hcp := conv_any r.po g.p0 (by omega)
  obtain ⟨HA, hHA⟩ : ∃ x, hexOf r.ad 4 = x := ⟨_, rfl⟩
  obtain ⟨HD, hHD⟩ : ∃ x, hexOf r.da 2 = x := ⟨_, rfl⟩
  obtain ⟨DC, hDC⟩ : ∃ x : ByteArray, (⟨#[dig r.co]⟩ : ByteArray) = x := ⟨_, rfl⟩
  obtain ⟨DP, hDP⟩ : ∃ x : ByteArray, (⟨#[dig r.po]⟩ : ByteArray) = x := ⟨_, rfl⟩
  have eDC : Hid (strL DC = [dig r.co]) := by show _ = _; rw [← hDC]; rfl
  have eDP : Hid (strL DP = [dig r.po]) := by show _ = _; rw [← hDP]; rfl
  have sDC : DC.size = 1 := by rw [← hDC]; rfl
  have sDP : DP.size = 1 := by rw [← hDP]; rfl
  rw [hHA] at hH4 k1' k2'
  rw [hHD] at hH2 b1' b2'
  rw [hDC] at hcv
  rw [hDP] at hcp
  obtain ⟨X1, e1⟩ : ∃ X, [115, dig r.co] ++ joinT [hexL 4 r.ad.toNat, hexL 2 r.da.toNat] = X := ⟨_, rfl⟩
  obtain ⟨X2, e2⟩ : ∃ X, X1 ++ joinT (if r.re then [wR] else []) = X := ⟨_, rfl⟩
  obtain ⟨X3, e3⟩ : ∃ X, X2 ++ joinT (if r.wr then [wW] else []) = X := ⟨_, rfl⟩
  obtain ⟨X4, e4⟩ : ∃ X, X3 ++ joinT (if r.po ≠ 0 then [[110, dig r.po]] else []) = X := ⟨_, rfl⟩
  obtain ⟨X5, e5⟩ : ∃ X, X4 ++ joinT (if r.q then [wQ] else []) = X := ⟨_, rfl⟩
  obtain ⟨X6, e6⟩ : ∃ X, X5 ++ joinT (moW r.mo) = X := ⟨_, rfl⟩
  have eX : Hid (X6 = lineR r) := by
    show X6 = lineR r
    unfold lineR restR endR
    rw [← e6, ← e5, ← e4, ← e3, ← e2, ← e1]
    simp only [joinT, joinT_app, List.append_assoc, List.cons_append, List.append_nil, List.nil_append]
  have fin : Hid ((((((ByteArray.mk #[115] ++ DC) ++ ByteArray.mk #[32]) ++ HA) ++ ByteArray.mk #[32]) ++ HD).size ≤ 10 ∧ strL (((((ByteArray.mk #[115] ++ DC) ++ ByteArray.mk #[32]) ++ HA) ++ ByteArray.mk #[32]) ++ HD) = X1) := by
    rw [← e1]
    exact line_first eDC.out k1' b1' k2' b2'
  have c0 := g.c0
  have a0 := g.a0
  have a1 := g.a1
  have d0 := g.d0
  have d1 := g.d1
  have p0 := g.p0
  have mo0 := g.m0
  obtain ⟨co, hco⟩ : ∃ x, r.co = x := ⟨_, rfl⟩
  obtain ⟨ad, had⟩ : ∃ x, r.ad = x := ⟨_, rfl⟩
  obtain ⟨da, hda⟩ : ∃ x, r.da = x := ⟨_, rfl⟩
  obtain ⟨po, hpo⟩ : ∃ x, r.po = x := ⟨_, rfl⟩
  obtain ⟨mo, hmo⟩ : ∃ x, r.mo = x := ⟨_, rfl⟩
  obtain ⟨re, hre⟩ : ∃ x, r.re = x := ⟨_, rfl⟩
  obtain ⟨wr, hwr⟩ : ∃ x, r.wr = x := ⟨_, rfl⟩
  obtain ⟨q, hq⟩ : ∃ x, r.q = x := ⟨_, rfl⟩
  rw [hco] at hcv c0 m1
  rw [had] at hH4 a0 a1
  rw [hda] at hH2 d0 d1
  rw [hpo] at hcp p0 m2 e4 eDP
  rw [hmo] at mo0 m3 e6
  rw [hre] at e2
  rw [hwr] at e3
  rw [hq] at e5
  replace hco : Hid _ := hco
  replace had : Hid _ := had
  replace hda : Hid _ := hda
  replace hpo : Hid _ := hpo
  replace hmo : Hid _ := hmo
  replace hre : Hid _ := hre
  replace hwr : Hid _ := hwr
  replace hq : Hid _ := hq
  replace e2 : Hid _ := e2
  replace e3 : Hid _ := e3
  replace e4 : Hid _ := e4
  replace e5 : Hid _ := e5
  replace e6 : Hid _ := e6
  replace hcv : Hid _ := hcv
  replace hcp : Hid _ := hcp
  clear k1 k2 b1 b2 k1' b1' hHA hHD hDC hDP e1 m4 g hm
  go_enter Tryd.func33, Tryd.ntmps33
  go_upto_region 1 with ((with_reducible refine gen_world (w.alloc (.cells (rcC r) 45)) (Fm w [(w.heap.size, rcC r, 45)]) hF.out ?_); intro y0 K0)
  go_cut [3] (fun t wz => ∃ (st : ByteArray) (y : World), y = wz ∧ t = .string st ∧ Hid (st.size ≤ 10 ∧ strL st = X1) ∧ Hid (Fm w [(w.heap.size, rcC r, 45)] y))
  case first =>
    refine wp_region_held_drew (S := Fm w [(w.heap.size, rcC r, 45)]) (by kernel_rfl) (K0.out.below (below_drew (Below.refl _ _))) (fun hH => ?_)
    have Kz0 : Fm w [(w.heap.size, rcC r, 45)] y0.drew := K0.out.below (below_drew (Below.refl _ _))
    generalize y0.drew = z0 at hH Kz0 ⊢
    refine wpAnyH_take (i := 0) (v := .pointer (some ⟨w.heap.size, 0, none⟩)) rfl (by kernel_rfl) (by kernel_rfl) (by kernel_rfl) (fun _ _ _ h => h) (.inl ⟨by kernel_rfl, fun u hu => by go_simp⟩) hH ?_
    try simp only [Act.put, List.setIfInBounds_toArray]
    refine wpAnyH_take (i := 1) (v := .int .u8 co) rfl (by kernel_rfl) (by kernel_rfl) (by kernel_rfl) (fun _ _ _ h => h) (.inl ⟨by kernel_rfl, fun u hu => by have d := (hu.bx 0 _ _ _ rfl).c 0 _ (rcC_co r); rw [hco.out] at d; go_simp⟩) hH ?_
    try simp only [Act.put]
    refine wpAnyH_take (i := 2) (v := .int .u8 (48 + co)) rfl (by kernel_rfl) (by kernel_rfl) (by kernel_rfl) (fun _ _ _ h => h) (.inl ⟨by kernel_rfl, fun u hu => by go_simp; rw [IntKind.wrap_u8]; omega⟩) hH ?_
    try simp only [Act.put]
    refine wpAnyH_take (i := 7) (v := .pointer (some ⟨w.heap.size, 1, none⟩)) rfl (by kernel_rfl) (by kernel_rfl) (by kernel_rfl) (fun _ _ _ h => h) (.inl ⟨by kernel_rfl, fun u hu => by go_simp⟩) hH ?_
    try simp only [Act.put]
    refine wpAnyH_take (i := 8) (v := .int .u16 ad) rfl (by kernel_rfl) (by kernel_rfl) (by kernel_rfl) (fun _ _ _ h => h) (.inl ⟨by kernel_rfl, fun u hu => by have d := (hu.bx 0 _ _ _ rfl).c 1 _ (rcC_ad r); rw [had.out] at d; go_simp⟩) hH ?_
    try simp only [Act.put]
    refine wpAnyH_take (i := 9) (v := .int .i64 ad) rfl (by kernel_rfl) (by kernel_rfl) (by kernel_rfl) (fun _ _ _ h => h) (.inl ⟨by kernel_rfl, fun u hu => by go_simp; rw [IntKind.wrap_i64]; omega⟩) hH ?_
    try simp only [Act.put]
    refine wpAnyH_take (i := 13) (v := .pointer (some ⟨w.heap.size, 2, none⟩)) rfl (by kernel_rfl) (by kernel_rfl) (by kernel_rfl) (fun _ _ _ h => h) (.inl ⟨by kernel_rfl, fun u hu => by go_simp⟩) hH ?_
    try simp only [Act.put]
    refine wpAnyH_take (i := 14) (v := .int .u8 da) rfl (by kernel_rfl) (by kernel_rfl) (by kernel_rfl) (fun _ _ _ h => h) (.inl ⟨by kernel_rfl, fun u hu => by have d := (hu.bx 0 _ _ _ rfl).c 2 _ (rcC_da r); rw [hda.out] at d; go_simp⟩) hH ?_
    try simp only [Act.put]
    refine wpAnyH_take (i := 15) (v := .int .i64 da) rfl (by kernel_rfl) (by kernel_rfl) (by kernel_rfl) (fun _ _ _ h => h) (.inl ⟨by kernel_rfl, fun u hu => by go_simp; rw [IntKind.wrap_i64]; omega⟩) hH ?_
    try simp only [Act.put]
    refine wpAnyH_ready (rs := [3, 10]) (by kernel_rfl) (by simp) (AllReadyH.cons rfl (fun K hK => ?_) (AllReadyH.cons rfl (fun K hK => ?_) AllReadyH.nil))
    · rw [if_pos (by rfl)]
      go_wp2
      have Kz1 : Fm w [(w.heap.size, rcC r, 45)] (z0.alloc (.cells #[.int .u8 (48 + co)] 5)) := Kz0.below (below1 _ _)
      have Gz1 : (z0.alloc (.cells #[.int .u8 (48 + co)] 5)).cell? ⟨z0.heap.size, 0, none⟩ = some (.int .u8 (48 + co)) := by unfold World.cell? World.alloc; simp
      refine hK.out _ _ Kz1 (fun hH => ?_)
      clear hK K
      generalize z0.alloc (.cells #[.int .u8 (48 + co)] 5) = z1 at Kz1 Gz1 hH ⊢
      generalize z0.heap.size = g1 at Gz1 ⊢
      replace Gz1 : Hid _ := Gz1
      try simp only [Act.put, List.setIfInBounds_toArray, List.set_cons_zero, List.set_cons_succ]
      refine wpAnyH_ready (rs := [4, 10]) (by kernel_rfl) (by simp) (AllReadyH.cons rfl (fun K hK => ?_) (AllReadyH.cons rfl (fun K hK => ?_) AllReadyH.nil))
      · rw [if_pos (by rfl)]
        have cv2 := hcv.out z1 g1 Gz1.out
        go_wp2
        refine hK.out _ _ hH (fun hH => ?_)
        clear hK K
        clear cv2
        try simp only [Act.put, List.setIfInBounds_toArray, List.set_cons_zero, List.set_cons_succ]
        refine wpAnyH_take (i := 5) (v := .string (ByteArray.mk #[115] ++ DC)) rfl (by kernel_rfl) (by kernel_rfl) (by kernel_rfl) (fun _ _ _ h => h) (.inl ⟨by kernel_rfl, fun u hu => by go_simp⟩) hH ?_
        try simp only [Act.put, List.setIfInBounds_toArray]
        refine wpAnyH_take (i := 6) (v := .string ((ByteArray.mk #[115] ++ DC) ++ ByteArray.mk #[32])) rfl (by kernel_rfl) (by kernel_rfl) (by kernel_rfl) (fun _ _ _ h => h) (.inl ⟨by kernel_rfl, fun u hu => by go_simp⟩) hH ?_
        try simp only [Act.put]
        refine wpAnyH_ready (rs := [10]) (by kernel_rfl) (by simp) (AllReadyH.cons rfl (fun K hK => ?_) AllReadyH.nil)
        · rw [if_pos (by rfl)]
          go_wp2_with (go_at_call 70; refine (hH4 z1).mono ?_; rintro e z3 ⟨rfl, hb3⟩)
          have Kz3 : Fm w [(w.heap.size, rcC r, 45)] z3 := Kz1.below hb3
          have Gz3 : Hid (z3.cell? ⟨g1, 0, none⟩ = some (.int .u8 (48 + co))) := (World.cell?_of_block (w := z1) (a := ⟨g1, 0, none⟩) (hb3.block g1 (World.block_lt_of_cell? z1 _ Gz1.out))).trans Gz1.out
          replace hb3 : Hid _ := hb3
          refine hK.out _ _ Kz3 (fun hH => ?_)
          clear hK K
          try simp only [Act.put, List.setIfInBounds_toArray, List.set_cons_zero, List.set_cons_succ]
          refine wpAnyH_take (i := 11) (v := .string (((ByteArray.mk #[115] ++ DC) ++ ByteArray.mk #[32]) ++ HA)) rfl (by kernel_rfl) (by kernel_rfl) (by kernel_rfl) (fun _ _ _ h => h) (.inl ⟨by kernel_rfl, fun u hu => by go_simp⟩) hH ?_
          try simp only [Act.put, List.setIfInBounds_toArray]
          refine wpAnyH_take (i := 12) (v := .string ((((ByteArray.mk #[115] ++ DC) ++ ByteArray.mk #[32]) ++ HA) ++ ByteArray.mk #[32])) rfl (by kernel_rfl) (by kernel_rfl) (by kernel_rfl) (fun _ _ _ h => h) (.inl ⟨by kernel_rfl, fun u hu => by go_simp⟩) hH ?_
          try simp only [Act.put]
          refine wpAnyH_ready (rs := [16]) (by kernel_rfl) (by simp) (AllReadyH.cons rfl (fun K hK => ?_) AllReadyH.nil)
          · rw [if_pos (by rfl)]
            go_wp2_with (go_at_call 70; refine (hH2 z3).mono ?_; rintro e z4 ⟨rfl, hb4⟩)
            have Kz4 : Fm w [(w.heap.size, rcC r, 45)] z4 := Kz3.below hb4
            have Gz4 : Hid (z4.cell? ⟨g1, 0, none⟩ = some (.int .u8 (48 + co))) := (World.cell?_of_block (w := z3) (a := ⟨g1, 0, none⟩) (hb4.block g1 (World.block_lt_of_cell? z3 _ Gz3.out))).trans Gz3.out
            replace hb4 : Hid _ := hb4
            refine hK.out _ _ Kz4 (fun hH => ?_)
            clear hK K
            try simp only [Act.put, List.setIfInBounds_toArray, List.set_cons_zero, List.set_cons_succ]
            refine wpAnyH_take (i := 17) (v := .string (((((ByteArray.mk #[115] ++ DC) ++ ByteArray.mk #[32]) ++ HA) ++ ByteArray.mk #[32]) ++ HD)) rfl (by kernel_rfl) (by kernel_rfl) (by kernel_rfl) (fun _ _ _ h => h) (.inl ⟨by kernel_rfl, fun u hu => by go_simp⟩) hH ?_
            try simp only [Act.put, List.setIfInBounds_toArray]
            refine wpAnyH_ready (rs := [18]) (by kernel_rfl) (by simp) (AllReadyH.cons rfl (fun K hK => ?_) AllReadyH.nil)
            rw [if_pos (by rfl)]
            go_wp2
            refine hK.out _ _ hH (fun _ => ?_)
            clear hK K
            try simp only [Act.put, List.setIfInBounds_toArray, List.set_cons_zero, List.set_cons_succ]
            refine wpAnyH_done (by kernel_rfl) ?_ _
            try go_wp2
            go_meet
            exact ⟨_, _, rfl, rfl, fin.out, Kz4⟩
      · rw [if_pos (by rfl)]
        go_wp2_with (go_at_call 70; refine (hH4 z1).mono ?_; rintro e z5 ⟨rfl, hb5⟩)
        have Kz5 : Fm w [(w.heap.size, rcC r, 45)] z5 := Kz1.below hb5
        have Gz5 : Hid (z5.cell? ⟨g1, 0, none⟩ = some (.int .u8 (48 + co))) := (World.cell?_of_block (w := z1) (a := ⟨g1, 0, none⟩) (hb5.block g1 (World.block_lt_of_cell? z1 _ Gz1.out))).trans Gz1.out
        replace hb5 : Hid _ := hb5
        refine hK.out _ _ Kz5 (fun hH => ?_)
        clear hK K
        try simp only [Act.put, List.setIfInBounds_toArray, List.set_cons_zero, List.set_cons_succ]
        refine wpAnyH_ready (rs := [4, 16]) (by kernel_rfl) (by simp) (AllReadyH.cons rfl (fun K hK => ?_) (AllReadyH.cons rfl (fun K hK => ?_) AllReadyH.nil))
        · rw [if_pos (by rfl)]
          have cv6 := hcv.out z5 g1 Gz5.out
          go_wp2
          refine hK.out _ _ hH (fun hH => ?_)
          clear hK K
          clear cv6
          try simp only [Act.put, List.setIfInBounds_toArray, List.set_cons_zero, List.set_cons_succ]
          refine wpAnyH_take (i := 5) (v := .string (ByteArray.mk #[115] ++ DC)) rfl (by kernel_rfl) (by kernel_rfl) (by kernel_rfl) (fun _ _ _ h => h) (.inl ⟨by kernel_rfl, fun u hu => by go_simp⟩) hH ?_
          try simp only [Act.put, List.setIfInBounds_toArray]
          refine wpAnyH_take (i := 6) (v := .string ((ByteArray.mk #[115] ++ DC) ++ ByteArray.mk #[32])) rfl (by kernel_rfl) (by kernel_rfl) (by kernel_rfl) (fun _ _ _ h => h) (.inl ⟨by kernel_rfl, fun u hu => by go_simp⟩) hH ?_
          try simp only [Act.put]
          refine wpAnyH_take (i := 11) (v := .string (((ByteArray.mk #[115] ++ DC) ++ ByteArray.mk #[32]) ++ HA)) rfl (by kernel_rfl) (by kernel_rfl) (by kernel_rfl) (fun _ _ _ h => h) (.inl ⟨by kernel_rfl, fun u hu => by go_simp⟩) hH ?_
          try simp only [Act.put]
          refine wpAnyH_take (i := 12) (v := .string ((((ByteArray.mk #[115] ++ DC) ++ ByteArray.mk #[32]) ++ HA) ++ ByteArray.mk #[32])) rfl (by kernel_rfl) (by kernel_rfl) (by kernel_rfl) (fun _ _ _ h => h) (.inl ⟨by kernel_rfl, fun u hu => by go_simp⟩) hH ?_
          try simp only [Act.put]
          refine wpAnyH_ready (rs := [16]) (by kernel_rfl) (by simp) (AllReadyH.cons rfl (fun K hK => ?_) AllReadyH.nil)
          · rw [if_pos (by rfl)]
            go_wp2_with (go_at_call 70; refine (hH2 z5).mono ?_; rintro e z7 ⟨rfl, hb7⟩)
            have Kz7 : Fm w [(w.heap.size, rcC r, 45)] z7 := Kz5.below hb7
            have Gz7 : Hid (z7.cell? ⟨g1, 0, none⟩ = some (.int .u8 (48 + co))) := (World.cell?_of_block (w := z5) (a := ⟨g1, 0, none⟩) (hb7.block g1 (World.block_lt_of_cell? z5 _ Gz5.out))).trans Gz5.out
            replace hb7 : Hid _ := hb7
            refine hK.out _ _ Kz7 (fun hH => ?_)
            clear hK K
            try simp only [Act.put, List.setIfInBounds_toArray, List.set_cons_zero, List.set_cons_succ]
            refine wpAnyH_take (i := 17) (v := .string (((((ByteArray.mk #[115] ++ DC) ++ ByteArray.mk #[32]) ++ HA) ++ ByteArray.mk #[32]) ++ HD)) rfl (by kernel_rfl) (by kernel_rfl) (by kernel_rfl) (fun _ _ _ h => h) (.inl ⟨by kernel_rfl, fun u hu => by go_simp⟩) hH ?_
            try simp only [Act.put, List.setIfInBounds_toArray]
            refine wpAnyH_ready (rs := [18]) (by kernel_rfl) (by simp) (AllReadyH.cons rfl (fun K hK => ?_) AllReadyH.nil)
            rw [if_pos (by rfl)]
            go_wp2
            refine hK.out _ _ hH (fun _ => ?_)
            clear hK K
            try simp only [Act.put, List.setIfInBounds_toArray, List.set_cons_zero, List.set_cons_succ]
            refine wpAnyH_done (by kernel_rfl) ?_ _
            try go_wp2
            go_meet
            exact ⟨_, _, rfl, rfl, fin.out, Kz7⟩
        · rw [if_pos (by rfl)]
          go_wp2_with (go_at_call 70; refine (hH2 z5).mono ?_; rintro e z8 ⟨rfl, hb8⟩)
          have Kz8 : Fm w [(w.heap.size, rcC r, 45)] z8 := Kz5.below hb8
          have Gz8 : Hid (z8.cell? ⟨g1, 0, none⟩ = some (.int .u8 (48 + co))) := (World.cell?_of_block (w := z5) (a := ⟨g1, 0, none⟩) (hb8.block g1 (World.block_lt_of_cell? z5 _ Gz5.out))).trans Gz5.out
          replace hb8 : Hid _ := hb8
          refine hK.out _ _ Kz8 (fun hH => ?_)
          clear hK K
          try simp only [Act.put, List.setIfInBounds_toArray, List.set_cons_zero, List.set_cons_succ]
          refine wpAnyH_ready (rs := [4]) (by kernel_rfl) (by simp) (AllReadyH.cons rfl (fun K hK => ?_) AllReadyH.nil)
          · rw [if_pos (by rfl)]
            have cv9 := hcv.out z8 g1 Gz8.out
            go_wp2
            refine hK.out _ _ hH (fun hH => ?_)
            clear hK K
            clear cv9
            try simp only [Act.put, List.setIfInBounds_toArray, List.set_cons_zero, List.set_cons_succ]
            refine wpAnyH_take (i := 5) (v := .string (ByteArray.mk #[115] ++ DC)) rfl (by kernel_rfl) (by kernel_rfl) (by kernel_rfl) (fun _ _ _ h => h) (.inl ⟨by kernel_rfl, fun u hu => by go_simp⟩) hH ?_
            try simp only [Act.put, List.setIfInBounds_toArray]
            refine wpAnyH_take (i := 6) (v := .string ((ByteArray.mk #[115] ++ DC) ++ ByteArray.mk #[32])) rfl (by kernel_rfl) (by kernel_rfl) (by kernel_rfl) (fun _ _ _ h => h) (.inl ⟨by kernel_rfl, fun u hu => by go_simp⟩) hH ?_
            try simp only [Act.put]
            refine wpAnyH_take (i := 11) (v := .string (((ByteArray.mk #[115] ++ DC) ++ ByteArray.mk #[32]) ++ HA)) rfl (by kernel_rfl) (by kernel_rfl) (by kernel_rfl) (fun _ _ _ h => h) (.inl ⟨by kernel_rfl, fun u hu => by go_simp⟩) hH ?_
            try simp only [Act.put]
            refine wpAnyH_take (i := 12) (v := .string ((((ByteArray.mk #[115] ++ DC) ++ ByteArray.mk #[32]) ++ HA) ++ ByteArray.mk #[32])) rfl (by kernel_rfl) (by kernel_rfl) (by kernel_rfl) (fun _ _ _ h => h) (.inl ⟨by kernel_rfl, fun u hu => by go_simp⟩) hH ?_
            try simp only [Act.put]
            refine wpAnyH_take (i := 17) (v := .string (((((ByteArray.mk #[115] ++ DC) ++ ByteArray.mk #[32]) ++ HA) ++ ByteArray.mk #[32]) ++ HD)) rfl (by kernel_rfl) (by kernel_rfl) (by kernel_rfl) (fun _ _ _ h => h) (.inl ⟨by kernel_rfl, fun u hu => by go_simp⟩) hH ?_
            try simp only [Act.put]
            refine wpAnyH_ready (rs := [18]) (by kernel_rfl) (by simp) (AllReadyH.cons rfl (fun K hK => ?_) AllReadyH.nil)
            rw [if_pos (by rfl)]
            go_wp2
            refine hK.out _ _ hH (fun _ => ?_)
            clear hK K
            try simp only [Act.put, List.setIfInBounds_toArray, List.set_cons_zero, List.set_cons_succ]
            refine wpAnyH_done (by kernel_rfl) ?_ _
            try go_wp2
            go_meet
            exact ⟨_, _, rfl, rfl, fin.out, Kz8⟩
    · rw [if_pos (by rfl)]
      go_wp2_with (go_at_call 70; refine (hH4 z0).mono ?_; rintro e z10 ⟨rfl, hb10⟩)
      have Kz10 : Fm w [(w.heap.size, rcC r, 45)] z10 := Kz0.below hb10
      replace hb10 : Hid _ := hb10
      refine hK.out _ _ Kz10 (fun hH => ?_)
      clear hK K
      try simp only [Act.put, List.setIfInBounds_toArray, List.set_cons_zero, List.set_cons_succ]
      refine wpAnyH_ready (rs := [3, 16]) (by kernel_rfl) (by simp) (AllReadyH.cons rfl (fun K hK => ?_) (AllReadyH.cons rfl (fun K hK => ?_) AllReadyH.nil))
      · rw [if_pos (by rfl)]
        go_wp2
        have Kz11 : Fm w [(w.heap.size, rcC r, 45)] (z10.alloc (.cells #[.int .u8 (48 + co)] 5)) := Kz10.below (below1 _ _)
        have Gz11 : (z10.alloc (.cells #[.int .u8 (48 + co)] 5)).cell? ⟨z10.heap.size, 0, none⟩ = some (.int .u8 (48 + co)) := by unfold World.cell? World.alloc; simp
        refine hK.out _ _ Kz11 (fun hH => ?_)
        clear hK K
        generalize z10.alloc (.cells #[.int .u8 (48 + co)] 5) = z11 at Kz11 Gz11 hH ⊢
        generalize z10.heap.size = g11 at Gz11 ⊢
        replace Gz11 : Hid _ := Gz11
        try simp only [Act.put, List.setIfInBounds_toArray, List.set_cons_zero, List.set_cons_succ]
        refine wpAnyH_ready (rs := [4, 16]) (by kernel_rfl) (by simp) (AllReadyH.cons rfl (fun K hK => ?_) (AllReadyH.cons rfl (fun K hK => ?_) AllReadyH.nil))
        · rw [if_pos (by rfl)]
          have cv12 := hcv.out z11 g11 Gz11.out
          go_wp2
          refine hK.out _ _ hH (fun hH => ?_)
          clear hK K
          clear cv12
          try simp only [Act.put, List.setIfInBounds_toArray, List.set_cons_zero, List.set_cons_succ]
          refine wpAnyH_take (i := 5) (v := .string (ByteArray.mk #[115] ++ DC)) rfl (by kernel_rfl) (by kernel_rfl) (by kernel_rfl) (fun _ _ _ h => h) (.inl ⟨by kernel_rfl, fun u hu => by go_simp⟩) hH ?_
          try simp only [Act.put, List.setIfInBounds_toArray]
          refine wpAnyH_take (i := 6) (v := .string ((ByteArray.mk #[115] ++ DC) ++ ByteArray.mk #[32])) rfl (by kernel_rfl) (by kernel_rfl) (by kernel_rfl) (fun _ _ _ h => h) (.inl ⟨by kernel_rfl, fun u hu => by go_simp⟩) hH ?_
          try simp only [Act.put]
          refine wpAnyH_take (i := 11) (v := .string (((ByteArray.mk #[115] ++ DC) ++ ByteArray.mk #[32]) ++ HA)) rfl (by kernel_rfl) (by kernel_rfl) (by kernel_rfl) (fun _ _ _ h => h) (.inl ⟨by kernel_rfl, fun u hu => by go_simp⟩) hH ?_
          try simp only [Act.put]
          refine wpAnyH_take (i := 12) (v := .string ((((ByteArray.mk #[115] ++ DC) ++ ByteArray.mk #[32]) ++ HA) ++ ByteArray.mk #[32])) rfl (by kernel_rfl) (by kernel_rfl) (by kernel_rfl) (fun _ _ _ h => h) (.inl ⟨by kernel_rfl, fun u hu => by go_simp⟩) hH ?_
          try simp only [Act.put]
          refine wpAnyH_ready (rs := [16]) (by kernel_rfl) (by simp) (AllReadyH.cons rfl (fun K hK => ?_) AllReadyH.nil)
          · rw [if_pos (by rfl)]
            go_wp2_with (go_at_call 70; refine (hH2 z11).mono ?_; rintro e z13 ⟨rfl, hb13⟩)
            have Kz13 : Fm w [(w.heap.size, rcC r, 45)] z13 := Kz11.below hb13
            have Gz13 : Hid (z13.cell? ⟨g11, 0, none⟩ = some (.int .u8 (48 + co))) := (World.cell?_of_block (w := z11) (a := ⟨g11, 0, none⟩) (hb13.block g11 (World.block_lt_of_cell? z11 _ Gz11.out))).trans Gz11.out
            replace hb13 : Hid _ := hb13
            refine hK.out _ _ Kz13 (fun hH => ?_)
            clear hK K
            try simp only [Act.put, List.setIfInBounds_toArray, List.set_cons_zero, List.set_cons_succ]
            refine wpAnyH_take (i := 17) (v := .string (((((ByteArray.mk #[115] ++ DC) ++ ByteArray.mk #[32]) ++ HA) ++ ByteArray.mk #[32]) ++ HD)) rfl (by kernel_rfl) (by kernel_rfl) (by kernel_rfl) (fun _ _ _ h => h) (.inl ⟨by kernel_rfl, fun u hu => by go_simp⟩) hH ?_
            try simp only [Act.put, List.setIfInBounds_toArray]
            refine wpAnyH_ready (rs := [18]) (by kernel_rfl) (by simp) (AllReadyH.cons rfl (fun K hK => ?_) AllReadyH.nil)
            rw [if_pos (by rfl)]
            go_wp2
            refine hK.out _ _ hH (fun _ => ?_)
            clear hK K
            try simp only [Act.put, List.setIfInBounds_toArray, List.set_cons_zero, List.set_cons_succ]
            refine wpAnyH_done (by kernel_rfl) ?_ _
            try go_wp2
            go_meet
            exact ⟨_, _, rfl, rfl, fin.out, Kz13⟩
        · rw [if_pos (by rfl)]
          go_wp2_with (go_at_call 70; refine (hH2 z11).mono ?_; rintro e z14 ⟨rfl, hb14⟩)
          have Kz14 : Fm w [(w.heap.size, rcC r, 45)] z14 := Kz11.below hb14
          have Gz14 : Hid (z14.cell? ⟨g11, 0, none⟩ = some (.int .u8 (48 + co))) := (World.cell?_of_block (w := z11) (a := ⟨g11, 0, none⟩) (hb14.block g11 (World.block_lt_of_cell? z11 _ Gz11.out))).trans Gz11.out
          replace hb14 : Hid _ := hb14
          refine hK.out _ _ Kz14 (fun hH => ?_)
          clear hK K
          try simp only [Act.put, List.setIfInBounds_toArray, List.set_cons_zero, List.set_cons_succ]
          refine wpAnyH_ready (rs := [4]) (by kernel_rfl) (by simp) (AllReadyH.cons rfl (fun K hK => ?_) AllReadyH.nil)
          · rw [if_pos (by rfl)]
            have cv15 := hcv.out z14 g11 Gz14.out
            go_wp2
            refine hK.out _ _ hH (fun hH => ?_)
            clear hK K
            clear cv15
            try simp only [Act.put, List.setIfInBounds_toArray, List.set_cons_zero, List.set_cons_succ]
            refine wpAnyH_take (i := 5) (v := .string (ByteArray.mk #[115] ++ DC)) rfl (by kernel_rfl) (by kernel_rfl) (by kernel_rfl) (fun _ _ _ h => h) (.inl ⟨by kernel_rfl, fun u hu => by go_simp⟩) hH ?_
            try simp only [Act.put, List.setIfInBounds_toArray]
            refine wpAnyH_take (i := 6) (v := .string ((ByteArray.mk #[115] ++ DC) ++ ByteArray.mk #[32])) rfl (by kernel_rfl) (by kernel_rfl) (by kernel_rfl) (fun _ _ _ h => h) (.inl ⟨by kernel_rfl, fun u hu => by go_simp⟩) hH ?_
            try simp only [Act.put]
            refine wpAnyH_take (i := 11) (v := .string (((ByteArray.mk #[115] ++ DC) ++ ByteArray.mk #[32]) ++ HA)) rfl (by kernel_rfl) (by kernel_rfl) (by kernel_rfl) (fun _ _ _ h => h) (.inl ⟨by kernel_rfl, fun u hu => by go_simp⟩) hH ?_
            try simp only [Act.put]
            refine wpAnyH_take (i := 12) (v := .string ((((ByteArray.mk #[115] ++ DC) ++ ByteArray.mk #[32]) ++ HA) ++ ByteArray.mk #[32])) rfl (by kernel_rfl) (by kernel_rfl) (by kernel_rfl) (fun _ _ _ h => h) (.inl ⟨by kernel_rfl, fun u hu => by go_simp⟩) hH ?_
            try simp only [Act.put]
            refine wpAnyH_take (i := 17) (v := .string (((((ByteArray.mk #[115] ++ DC) ++ ByteArray.mk #[32]) ++ HA) ++ ByteArray.mk #[32]) ++ HD)) rfl (by kernel_rfl) (by kernel_rfl) (by kernel_rfl) (fun _ _ _ h => h) (.inl ⟨by kernel_rfl, fun u hu => by go_simp⟩) hH ?_
            try simp only [Act.put]
            refine wpAnyH_ready (rs := [18]) (by kernel_rfl) (by simp) (AllReadyH.cons rfl (fun K hK => ?_) AllReadyH.nil)
            rw [if_pos (by rfl)]
            go_wp2
            refine hK.out _ _ hH (fun _ => ?_)
            clear hK K
            try simp only [Act.put, List.setIfInBounds_toArray, List.set_cons_zero, List.set_cons_succ]
            refine wpAnyH_done (by kernel_rfl) ?_ _
            try go_wp2
            go_meet
            exact ⟨_, _, rfl, rfl, fin.out, Kz14⟩
      · rw [if_pos (by rfl)]
        go_wp2_with (go_at_call 70; refine (hH2 z10).mono ?_; rintro e z16 ⟨rfl, hb16⟩)
        have Kz16 : Fm w [(w.heap.size, rcC r, 45)] z16 := Kz10.below hb16
        replace hb16 : Hid _ := hb16
        refine hK.out _ _ Kz16 (fun hH => ?_)
        clear hK K
        try simp only [Act.put, List.setIfInBounds_toArray, List.set_cons_zero, List.set_cons_succ]
        refine wpAnyH_ready (rs := [3]) (by kernel_rfl) (by simp) (AllReadyH.cons rfl (fun K hK => ?_) AllReadyH.nil)
        · rw [if_pos (by rfl)]
          go_wp2
          have Kz17 : Fm w [(w.heap.size, rcC r, 45)] (z16.alloc (.cells #[.int .u8 (48 + co)] 5)) := Kz16.below (below1 _ _)
          have Gz17 : (z16.alloc (.cells #[.int .u8 (48 + co)] 5)).cell? ⟨z16.heap.size, 0, none⟩ = some (.int .u8 (48 + co)) := by unfold World.cell? World.alloc; simp
          refine hK.out _ _ Kz17 (fun hH => ?_)
          clear hK K
          generalize z16.alloc (.cells #[.int .u8 (48 + co)] 5) = z17 at Kz17 Gz17 hH ⊢
          generalize z16.heap.size = g17 at Gz17 ⊢
          replace Gz17 : Hid _ := Gz17
          try simp only [Act.put, List.setIfInBounds_toArray, List.set_cons_zero, List.set_cons_succ]
          refine wpAnyH_ready (rs := [4]) (by kernel_rfl) (by simp) (AllReadyH.cons rfl (fun K hK => ?_) AllReadyH.nil)
          · rw [if_pos (by rfl)]
            have cv18 := hcv.out z17 g17 Gz17.out
            go_wp2
            refine hK.out _ _ hH (fun hH => ?_)
            clear hK K
            clear cv18
            try simp only [Act.put, List.setIfInBounds_toArray, List.set_cons_zero, List.set_cons_succ]
            refine wpAnyH_take (i := 5) (v := .string (ByteArray.mk #[115] ++ DC)) rfl (by kernel_rfl) (by kernel_rfl) (by kernel_rfl) (fun _ _ _ h => h) (.inl ⟨by kernel_rfl, fun u hu => by go_simp⟩) hH ?_
            try simp only [Act.put, List.setIfInBounds_toArray]
            refine wpAnyH_take (i := 6) (v := .string ((ByteArray.mk #[115] ++ DC) ++ ByteArray.mk #[32])) rfl (by kernel_rfl) (by kernel_rfl) (by kernel_rfl) (fun _ _ _ h => h) (.inl ⟨by kernel_rfl, fun u hu => by go_simp⟩) hH ?_
            try simp only [Act.put]
            refine wpAnyH_take (i := 11) (v := .string (((ByteArray.mk #[115] ++ DC) ++ ByteArray.mk #[32]) ++ HA)) rfl (by kernel_rfl) (by kernel_rfl) (by kernel_rfl) (fun _ _ _ h => h) (.inl ⟨by kernel_rfl, fun u hu => by go_simp⟩) hH ?_
            try simp only [Act.put]
            refine wpAnyH_take (i := 12) (v := .string ((((ByteArray.mk #[115] ++ DC) ++ ByteArray.mk #[32]) ++ HA) ++ ByteArray.mk #[32])) rfl (by kernel_rfl) (by kernel_rfl) (by kernel_rfl) (fun _ _ _ h => h) (.inl ⟨by kernel_rfl, fun u hu => by go_simp⟩) hH ?_
            try simp only [Act.put]
            refine wpAnyH_take (i := 17) (v := .string (((((ByteArray.mk #[115] ++ DC) ++ ByteArray.mk #[32]) ++ HA) ++ ByteArray.mk #[32]) ++ HD)) rfl (by kernel_rfl) (by kernel_rfl) (by kernel_rfl) (fun _ _ _ h => h) (.inl ⟨by kernel_rfl, fun u hu => by go_simp⟩) hH ?_
            try simp only [Act.put]
            refine wpAnyH_ready (rs := [18]) (by kernel_rfl) (by simp) (AllReadyH.cons rfl (fun K hK => ?_) AllReadyH.nil)
            rw [if_pos (by rfl)]
            go_wp2
            refine hK.out _ _ hH (fun _ => ?_)
            clear hK K
            try simp only [Act.put, List.setIfInBounds_toArray, List.set_cons_zero, List.set_cons_succ]
            refine wpAnyH_done (by kernel_rfl) ?_ _
            try go_wp2
            go_meet
            exact ⟨_, _, rfl, rfl, fin.out, Kz17⟩
  case rest =>
    obtain ⟨st1, z1, rfl, rfl, T1, Z1⟩ := hcut
    have q1 := (Z1.out.bx 0 _ _ _ rfl).c 3 _ (rcC_re r)
    rw [hre.out] at q1
    go_upto_if 23 with (fail)
    go_cut [3] (fun t wz => ∃ (st : ByteArray) (y : World), y = wz ∧ t = .string st ∧ Hid (st.size ≤ 12 ∧ strL st = X2) ∧ Hid (Fm w [(w.heap.size, rcC r, 45)] y))
    case first =>
      have szz := T1.out.1
      cases re
      · have ee : Hid (X2 = X1) := by show _ = _; have := e2.out; simpa [joinT] using this.symm
        go_wp2
        go_meet
        exact ⟨_, _, rfl, rfl, ⟨by have := T1.out.1; omega, by rw [ee.out]; exact T1.out.2⟩, Z1⟩
      · have ee : Hid (X2 = X1 ++ joinT [wR]) := by show _ = _; have := e2.out; simpa using this.symm
        go_wp2
        go_meet
        exact ⟨_, _, rfl, rfl, line_one T1.out ⟨#[32, 114]⟩ (by decide) ee.out, Z1⟩
    case rest =>
      obtain ⟨st2, z2, rfl, rfl, T2, Z2⟩ := hcut
      have q2 := (Z2.out.bx 0 _ _ _ rfl).c 4 _ (rcC_wr r)
      rw [hwr.out] at q2
      go_upto_if 27 with (fail)
      go_cut [3] (fun t wz => ∃ (st : ByteArray) (y : World), y = wz ∧ t = .string st ∧ Hid (st.size ≤ 14 ∧ strL st = X3) ∧ Hid (Fm w [(w.heap.size, rcC r, 45)] y))
      case first =>
        have szz := T2.out.1
        cases wr
        · have ee : Hid (X3 = X2) := by show _ = _; have := e3.out; simpa [joinT] using this.symm
          go_wp2
          go_meet
          exact ⟨_, _, rfl, rfl, ⟨by have := T2.out.1; omega, by rw [ee.out]; exact T2.out.2⟩, Z2⟩
        · have ee : Hid (X3 = X2 ++ joinT [wW]) := by show _ = _; have := e3.out; simpa using this.symm
          go_wp2
          go_meet
          exact ⟨_, _, rfl, rfl, line_one T2.out ⟨#[32, 119]⟩ (by decide) ee.out, Z2⟩
      case rest =>
        obtain ⟨st3, z3, rfl, rfl, T3, Z3⟩ := hcut
        have q3 := (Z3.out.bx 0 _ _ _ rfl).c 5 _ (rcC_po r)
        rw [hpo.out] at q3
        go_upto_if 32 with (fail)
        go_cut [3] (fun t wz => ∃ (st : ByteArray) (y : World), y = wz ∧ t = .string st ∧ Hid (st.size ≤ 17 ∧ strL st = X4) ∧ Hid (Fm w [(w.heap.size, rcC r, 45)] y))
        case first =>
          have szz := T3.out.1
          by_cases hz : po = 0
          · have qz : (po != 0) = false := by simpa using hz
            have ee : Hid (X4 = X3) := by show _ = _; have := e4.out; rw [if_neg (by simpa using hz)] at this; simpa [joinT] using this.symm
            clear hz
            go_wp2
            go_meet
            exact ⟨_, _, rfl, rfl, ⟨by have := T3.out.1; omega, by rw [ee.out]; exact T3.out.2⟩, Z3⟩
          · have qz : (po != 0) = true := by simpa using hz
            have ee : Hid (X4 = X3 ++ joinT [[110, dig po]]) := by show _ = _; have := e4.out; rw [if_pos hz] at this; exact this.symm
            clear hz
            have cvp := hcp.out (z3.alloc (.cells #[.int .u8 (48 + po)] 5)) z3.heap.size (by unfold World.cell? World.alloc; simp)
            go_wp2
            go_meet
            exact ⟨_, _, rfl, rfl, line_port T3.out eDP.out ee.out, Z3.out.below (below1 _ _)⟩
        case rest =>
          obtain ⟨st4, z4, rfl, rfl, T4, Z4⟩ := hcut
          have q4 := (Z4.out.bx 0 _ _ _ rfl).c 6 _ (rcC_q r)
          rw [hq.out] at q4
          go_upto_if 42 with (fail)
          go_cut [3] (fun t wz => ∃ (st : ByteArray) (y : World), y = wz ∧ t = .string st ∧ Hid (st.size ≤ 19 ∧ strL st = X5) ∧ Hid (Fm w [(w.heap.size, rcC r, 45)] y))
          case first =>
            have szz := T4.out.1
            cases q
            · have ee : Hid (X5 = X4) := by show _ = _; have := e5.out; simpa [joinT] using this.symm
              go_wp2
              go_meet
              exact ⟨_, _, rfl, rfl, ⟨by have := T4.out.1; omega, by rw [ee.out]; exact T4.out.2⟩, Z4⟩
            · have ee : Hid (X5 = X4 ++ joinT [wQ]) := by show _ = _; have := e5.out; simpa using this.symm
              go_wp2
              go_meet
              exact ⟨_, _, rfl, rfl, line_one T4.out ⟨#[32, 113]⟩ (by decide) ee.out, Z4⟩
          case rest =>
            obtain ⟨st5, z5, rfl, rfl, T5, Z5⟩ := hcut
            have q5 := (Z5.out.bx 0 _ _ _ rfl).c 7 _ (rcC_mo r)
            rw [hmo.out] at q5
            have szz := T5.out.1
            rcases (show mo = 0 ∨ mo = 1 ∨ mo = 2 ∨ mo = 3 by omega) with hz | hz | hz | hz <;> subst hz
            · have ee : Hid (X6 = X5) := by show _ = _; have := e6.out; simpa [joinT, moW] using this.symm
              go_wp2
              go_ret
              exact ⟨_, rfl, by rw [← eX.out, ee.out]; exact T5.out.2, Z5.out.low⟩
            · have ee : Hid (X6 = X5 ++ joinT [wPause]) := by show _ = _; have := e6.out; simpa [moW] using this.symm
              go_wp2
              go_ret
              exact ⟨_, rfl, by rw [← eX.out]; exact (line_one (n := 99) T5.out ⟨#[32, 112, 97, 117, 115, 101]⟩ (by decide) ee.out).2, Z5.out.low⟩
            · have ee : Hid (X6 = X5 ++ joinT [wReset]) := by show _ = _; have := e6.out; simpa [moW] using this.symm
              go_wp2
              go_ret
              exact ⟨_, rfl, by rw [← eX.out]; exact (line_one (n := 99) T5.out ⟨#[32, 114, 101, 115, 101, 116]⟩ (by decide) ee.out).2, Z5.out.low⟩
            · have ee : Hid (X6 = X5 ++ joinT [wLoad]) := by show _ = _; have := e6.out; simpa [moW] using this.symm
              go_wp2
              go_ret
              exact ⟨_, rfl, by rw [← eX.out]; exact (line_one (n := 99) T5.out ⟨#[32, 108, 111, 97, 100]⟩ (by decide) ee.out).2, Z5.out.low⟩
theorem rline_val (w : World) (r : Rc) (g : Rr r) (hm : mayR r = true) : Calls Tryd.prog 33 #[.agg (rcC r)] w fun e w' => e = .returned (.string (lineB r)) ∧ Below w.heap.size w w' := by
  refine (rline_any w r g hm).mono ?_
  rintro e w' ⟨st, rfl, h⟩
  refine ⟨?_, h.out.2⟩
  rw [lineB, ← h.out.1, strL_mk]
end Go.Proofs.YtoajmicdphffnaaDoor
