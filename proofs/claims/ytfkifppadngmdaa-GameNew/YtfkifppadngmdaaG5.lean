/- The document's own: whether two machines are the same. -/
import Derived.Test.YtfkifppadngmdaaG4
namespace Go.Proofs.Ytfkifppadngmdaa
open Go Go.RowKit Go.Shelf
set_option linter.unusedVariables false
set_option maxHeartbeats 1000000
set_option maxRecDepth 20000

/-- A machine that lies in memory. -/
structure GL (w : World) (C : Array Value) (g : Gm) : Prop where
  c : ∃ (sS sP sM : Option Addr) (cS cP cM : Nat), C = gCs g.v g.i g.pc (.slice sS g.st.length cS) g.de g.so (.slice sP g.pg.length cP) (.slice sM g.me.length cM) ∧ LW w sS g.st ∧ LB w sP g.pg ∧ LB w sM g.me
  ok : g.Ok
theorem GL.below {w y : World} {C : Array Value} {g : Gm} (h : GL w C g) (hb : Below w.heap.size w y) : GL y C g := by
  obtain ⟨⟨sS, sP, sM, cS, cP, cM, e, h1, h2, h3⟩, ok⟩ := h
  exact ⟨⟨sS, sP, sM, cS, cP, cM, e, h1.below hb, h2.below hb, h3.below hb⟩, ok⟩
theorem rtV : Rt Try.prog 25 16 := ⟨⟨_, Try.underlying25, rfl⟩, by kernel_rfl⟩
theorem v_ext {v u : List UInt8} (h1 : v.length = 16) (h2 : u.length = 16) (h : vB v u (List.range 16) = true) : v = u := by
  refine List.ext_getElem (h1.trans h2.symm) fun k a b => ?_
  have := (vB_iff v u _).1 h k (by simp; omega)
  simpa [List.getD, a, b] using this
theorem rsame_any (w : World) (Ca Cb : Array Value) (a b : Gm) (ha : GL w Ca a) (hb : GL w Cb b) (hn : a.st.length ≤ 4000000000) (hn2 : b.st.length ≤ 4000000000) :
    Calls Try.prog 9 #[.agg Ca, .agg Cb] w fun e w' => e = .returned (.bool (decide (a = b))) ∧ Below w.heap.size w w' := by
  obtain ⟨⟨sS, sP, sM, cS, cP, cM, rfl, h1, h2, h3⟩, ok⟩ := ha
  obtain ⟨⟨sS', sP', sM', cS', cP', cM', rfl, k1, k2, k3⟩, ok'⟩ := hb
  replace h1 : Hid (LW w sS a.st) := h1
  replace k1 : Hid (LW w sS' b.st) := k1
  obtain ⟨n, hn'⟩ : ∃ n, a.st.length = n := ⟨_, rfl⟩
  obtain ⟨m, hm'⟩ : ∃ n, b.st.length = n := ⟨_, rfl⟩
  have cv1 : Hid (∀ y, Below w.heap.size w y → (convert 22 9 (.slice sP a.pg.length cP)).run Try.prog y = .ok (.string (sB a.pg)) y) := fun y hy => lb_conv (h2.below hy) cP
  have cv2 : Hid (∀ y, Below w.heap.size w y → (convert 22 9 (.slice sP' b.pg.length cP')).run Try.prog y = .ok (.string (sB b.pg)) y) := fun y hy => lb_conv (k2.below hy) cP'
  have cv3 : Hid (∀ y, Below w.heap.size w y → (convert 22 9 (.slice sM a.me.length cM)).run Try.prog y = .ok (.string (sB a.me)) y) := fun y hy => lb_conv (h3.below hy) cM
  have cv4 : Hid (∀ y, Below w.heap.size w y → (convert 22 9 (.slice sM' b.me.length cM')).run Try.prog y = .ok (.string (sB b.me)) y) := fun y hy => lb_conv (k3.below hy) cM'
  clear h2 h3 k2 k3
  have r1 : Hid (a = b ↔ (a.st = b.st ∧ vB a.v b.v (List.range 16) = true ∧ a.i = b.i ∧ a.pc = b.pc ∧ a.de.toNat = b.de.toNat ∧ a.so.toNat = b.so.toNat ∧ (sB a.pg).toList = (sB b.pg).toList ∧ (sB a.me).toList = (sB b.me).toList)) := by
    refine ⟨fun e => ?_, fun ⟨e1, e2, e3, e4, e5, e6, e7, e8⟩ => ?_⟩
    · subst e
      exact ⟨rfl, (vB_iff _ _ _).2 fun _ _ => rfl, rfl, rfl, rfl, rfl, rfl, rfl⟩
    · have e2 := v_ext ok.v ok'.v e2
      have e5 := UInt8.toNat_inj.1 e5
      have e6 := UInt8.toNat_inj.1 e6
      rw [sB_list, sB_list] at e7 e8
      cases a
      cases b
      simp_all
  obtain ⟨R, hR⟩ : ∃ R, decide (a = b) = R := ⟨_, rfl⟩
  rw [hR]
  replace hR : Hid (decide (a = b) = R) := hR
  obtain ⟨i1, L1⟩ : ∃ x, Hid (a.i = x) := ⟨_, (rfl : a.i = a.i)⟩
  obtain ⟨i2, L2⟩ : ∃ x, Hid (b.i = x) := ⟨_, (rfl : b.i = b.i)⟩
  obtain ⟨p1, L3⟩ : ∃ x, Hid (a.pc = x) := ⟨_, (rfl : a.pc = a.pc)⟩
  obtain ⟨p2, L4⟩ : ∃ x, Hid (b.pc = x) := ⟨_, (rfl : b.pc = b.pc)⟩
  obtain ⟨d1, L5⟩ : ∃ x, Hid (a.de.toNat = x) := ⟨_, (rfl : a.de.toNat = a.de.toNat)⟩
  obtain ⟨d2, L6⟩ : ∃ x, Hid (b.de.toNat = x) := ⟨_, (rfl : b.de.toNat = b.de.toNat)⟩
  obtain ⟨s1, L7⟩ : ∃ x, Hid (a.so.toNat = x) := ⟨_, (rfl : a.so.toNat = a.so.toNat)⟩
  obtain ⟨s2, L8⟩ : ∃ x, Hid (b.so.toNat = x) := ⟨_, (rfl : b.so.toNat = b.so.toNat)⟩
  obtain ⟨X1, L9⟩ : ∃ x, Hid (sB a.pg = x) := ⟨_, (rfl : sB a.pg = sB a.pg)⟩
  obtain ⟨X2, La1⟩ : ∃ x, Hid (sB b.pg = x) := ⟨_, (rfl : sB b.pg = sB b.pg)⟩
  obtain ⟨Y1, La2⟩ : ∃ x, Hid (sB a.me = x) := ⟨_, (rfl : sB a.me = sB a.me)⟩
  obtain ⟨Y2, La3⟩ : ∃ x, Hid (sB b.me = x) := ⟨_, (rfl : sB b.me = sB b.me)⟩
  rw [L9.out] at cv1
  rw [La1.out] at cv2
  rw [La2.out] at cv3
  rw [La3.out] at cv4
  rw [hn', hm']
  have nn : Hid (a.st.length = n ∧ b.st.length = m) := ⟨hn', hm'⟩
  have ni : (n : Int) ≤ 4000000000 := by omega
  have mi : (m : Int) ≤ 4000000000 := by omega
  clear ok ok'
  unfold gCs byV
  rw [L1.out, L2.out, L3.out, L4.out, L5.out, L6.out, L7.out, L8.out]
  obtain ⟨l1, hl1⟩ : ∃ x, a.pg.length = x := ⟨_, rfl⟩
  obtain ⟨l2, hl2⟩ : ∃ x, b.pg.length = x := ⟨_, rfl⟩
  obtain ⟨l3, hl3⟩ : ∃ x, a.me.length = x := ⟨_, rfl⟩
  obtain ⟨l4, hl4⟩ : ∃ x, b.me.length = x := ⟨_, rfl⟩
  rw [hl1] at cv1
  rw [hl2] at cv2
  rw [hl3] at cv3
  rw [hl4] at cv4
  rw [hl1, hl2, hl3, hl4]
  clear hl1 hl2 hl3 hl4
  by_cases h : n = m
  · subst h
    have q1 : ((n : Int) != (n : Int)) = false := by simp
    clear hn' hm' hn hn2 mi
    have K0 : Hid (Fm w [(w.heap.size, #[gV a.v 0, gV a.v 1, gV a.v 2, gV a.v 3, gV a.v 4, gV a.v 5, gV a.v 6, gV a.v 7, gV a.v 8, gV a.v 9, gV a.v 10, gV a.v 11, gV a.v 12, gV a.v 13, gV a.v 14, gV a.v 15, .int .u16 (i1 : Int), .int .u16 (p1 : Int), .slice sS n cS, .int .u8 (d1 : Int), .int .u8 (s1 : Int), .slice sP l1 cP, .slice sM l3 cM], 29), (w.heap.size + 1, #[gV b.v 0, gV b.v 1, gV b.v 2, gV b.v 3, gV b.v 4, gV b.v 5, gV b.v 6, gV b.v 7, gV b.v 8, gV b.v 9, gV b.v 10, gV b.v 11, gV b.v 12, gV b.v 13, gV b.v 14, gV b.v 15, .int .u16 (i2 : Int), .int .u16 (p2 : Int), .slice sS' n cS', .int .u8 (d2 : Int), .int .u8 (s2 : Int), .slice sP' l2 cP', .slice sM' l4 cM'], 29)] ((w.alloc (.cells #[gV a.v 0, gV a.v 1, gV a.v 2, gV a.v 3, gV a.v 4, gV a.v 5, gV a.v 6, gV a.v 7, gV a.v 8, gV a.v 9, gV a.v 10, gV a.v 11, gV a.v 12, gV a.v 13, gV a.v 14, gV a.v 15, .int .u16 (i1 : Int), .int .u16 (p1 : Int), .slice sS n cS, .int .u8 (d1 : Int), .int .u8 (s1 : Int), .slice sP l1 cP, .slice sM l3 cM] 29)).alloc (.cells #[gV b.v 0, gV b.v 1, gV b.v 2, gV b.v 3, gV b.v 4, gV b.v 5, gV b.v 6, gV b.v 7, gV b.v 8, gV b.v 9, gV b.v 10, gV b.v 11, gV b.v 12, gV b.v 13, gV b.v 14, gV b.v 15, .int .u16 (i2 : Int), .int .u16 (p2 : Int), .slice sS' n cS', .int .u8 (d2 : Int), .int .u8 (s2 : Int), .slice sP' l2 cP', .slice sM' l4 cM'] 29))) := Fm.two w _ _ _ _
    obtain ⟨CA, hCA⟩ : ∃ x, x = (#[gV a.v 0, gV a.v 1, gV a.v 2, gV a.v 3, gV a.v 4, gV a.v 5, gV a.v 6, gV a.v 7, gV a.v 8, gV a.v 9, gV a.v 10, gV a.v 11, gV a.v 12, gV a.v 13, gV a.v 14, gV a.v 15, .int .u16 (i1 : Int), .int .u16 (p1 : Int), .slice sS n cS, .int .u8 (d1 : Int), .int .u8 (s1 : Int), .slice sP l1 cP, .slice sM l3 cM] : Array Value) := ⟨_, rfl⟩
    obtain ⟨CB, hCB⟩ : ∃ x, x = (#[gV b.v 0, gV b.v 1, gV b.v 2, gV b.v 3, gV b.v 4, gV b.v 5, gV b.v 6, gV b.v 7, gV b.v 8, gV b.v 9, gV b.v 10, gV b.v 11, gV b.v 12, gV b.v 13, gV b.v 14, gV b.v 15, .int .u16 (i2 : Int), .int .u16 (p2 : Int), .slice sS' n cS', .int .u8 (d2 : Int), .int .u8 (s2 : Int), .slice sP' l2 cP', .slice sM' l4 cM'] : Array Value) := ⟨_, rfl⟩
    have fa : Hid (CA[18]? = some (.slice sS n cS) ∧ CA[16]? = some (.int .u16 (i1 : Int)) ∧ CA[17]? = some (.int .u16 (p1 : Int)) ∧ CA[19]? = some (.int .u8 (d1 : Int)) ∧ CA[20]? = some (.int .u8 (s1 : Int)) ∧ CA[21]? = some (.slice sP l1 cP) ∧ CA[22]? = some (.slice sM l3 cM) ∧ ∀ (k : Nat) (x : Value), (gVs a.v)[k]? = some x → CA[k]? = some x) := by
      rw [hCA]
      refine ⟨rfl, rfl, rfl, rfl, rfl, rfl, rfl, fun k x hx => ?_⟩
      have h16 : k < 16 := (Array.getElem?_eq_some_iff.1 hx).1
      rw [← hx]
      unfold gVs
      rcases (show k = 0 ∨ k = 1 ∨ k = 2 ∨ k = 3 ∨ k = 4 ∨ k = 5 ∨ k = 6 ∨ k = 7 ∨ k = 8 ∨ k = 9 ∨ k = 10 ∨ k = 11 ∨ k = 12 ∨ k = 13 ∨ k = 14 ∨ k = 15 by omega) with rfl | rfl | rfl | rfl | rfl | rfl | rfl | rfl | rfl | rfl | rfl | rfl | rfl | rfl | rfl | rfl <;> rfl
    have fb : Hid (CB[18]? = some (.slice sS' n cS') ∧ CB[16]? = some (.int .u16 (i2 : Int)) ∧ CB[17]? = some (.int .u16 (p2 : Int)) ∧ CB[19]? = some (.int .u8 (d2 : Int)) ∧ CB[20]? = some (.int .u8 (s2 : Int)) ∧ CB[21]? = some (.slice sP' l2 cP') ∧ CB[22]? = some (.slice sM' l4 cM') ∧ ∀ (k : Nat) (x : Value), (gVs b.v)[k]? = some x → CB[k]? = some x) := by
      rw [hCB]
      refine ⟨rfl, rfl, rfl, rfl, rfl, rfl, rfl, fun k x hx => ?_⟩
      have h16 : k < 16 := (Array.getElem?_eq_some_iff.1 hx).1
      rw [← hx]
      unfold gVs
      rcases (show k = 0 ∨ k = 1 ∨ k = 2 ∨ k = 3 ∨ k = 4 ∨ k = 5 ∨ k = 6 ∨ k = 7 ∨ k = 8 ∨ k = 9 ∨ k = 10 ∨ k = 11 ∨ k = 12 ∨ k = 13 ∨ k = 14 ∨ k = 15 by omega) with rfl | rfl | rfl | rfl | rfl | rfl | rfl | rfl | rfl | rfl | rfl | rfl | rfl | rfl | rfl | rfl <;> rfl
    go_enter Try.func9, Try.ntmps9
    go_wp2
    rw [← hCA, ← hCB] at K0
    go_loopw [5] (fun i wz => ∃ (k : Nat) (y : World), y = wz ∧ k ≤ n ∧ i = .int .i64 (k : Int) ∧ Hid (Fm w [(w.heap.size, CA, 29), (w.heap.size + 1, CB, 29)] y ∧ ∀ j, j < k → a.st.getD j 0 = b.st.getD j 0)) (fun i _ => (n - intOf i).toNat)
    case atStart => exact ⟨0, _, rfl, Nat.zero_le _, rfl, ⟨by rw [hCA, hCB] at K0; rw [hCA, hCB]; exact K0.out, fun j hj => by omega⟩⟩
    case round =>
      obtain ⟨k, y, rfl, hk, rfl, K⟩ := hrel
      clear K0 hCA hCB
      have c18 := (K.out.1.bx 0 _ _ _ rfl).c 18 _ fa.out.1
      have c18' := (K.out.1.bx 1 _ _ _ rfl).c 18 _ fb.out.1
      by_cases hlt : k < n
      · have hki : (k : Int) < n := by omega
        obtain ⟨ga, oa, rfl⟩ := lw_some h1.out (by have := nn.out.1; omega)
        obtain ⟨gb, ob, rfl⟩ := lw_some k1.out (by have := nn.out.2; omega)
        have ca := lw_at (h1.out.below K.out.1.low) k (by have := nn.out.1; omega)
        have cb := lw_at (k1.out.below K.out.1.low) k (by have := nn.out.2; omega)
        have ia := fun v => idxW .i64 ga oa n cS k v hlt
        have ib := fun v => idxW .i64 gb ob n cS' k v hlt
        by_cases he : a.st.getD k 0 = b.st.getD k 0
        · have K2 : Hid (Fm w [(w.heap.size, CA, 29), (w.heap.size + 1, CB, 29)] y ∧ ∀ j, j < k + 1 → a.st.getD j 0 = b.st.getD j 0) := ⟨K.out.1, fun j hj => by
            rcases Nat.lt_or_ge j k with h1 | h1
            · exact K.out.2 j h1
            · rw [show j = k by omega]; exact he⟩
          rw [← he] at cb
          obtain ⟨x, hx⟩ : ∃ x, a.st.getD k 0 = x := ⟨_, rfl⟩
          rw [hx] at ca cb
          have q2 : ((x : Int) != (x : Int)) = false := by simp
          have hlt' : Hid (k < n) := hlt
          clear he hx K hk hlt
          go_wp2
          go_quiet (fail)
          go_wp2
          go_roundw
          case rel => exact ⟨k + 1, _, rfl, hlt'.out, by simp, ⟨by first | exact K2.out.1.below (below_drewN (Below.refl _ _)) | exact K2.out.1, K2.out.2⟩⟩
          case measure => have := hlt'.out; simp [intOf]; omega
        · have e0 : Hid (R = false) := by
            show R = false
            rw [← hR.out]
            exact decide_eq_false fun e => he (by rw [e])
          obtain ⟨x, hx⟩ : ∃ x, a.st.getD k 0 = x := ⟨_, rfl⟩
          obtain ⟨z, hz⟩ : ∃ x, b.st.getD k 0 = x := ⟨_, rfl⟩
          have q2 : ((x : Int) != (z : Int)) = true := by
            have : x ≠ z := fun e => he (by rw [hx, hz, e])
            simp; omega
          rw [hx] at ca
          rw [hz] at cb
          clear he hx hz hk hlt
          go_wp2
          go_quiet (fail)
          go_wp2
          go_ret
          exact ⟨by rw [e0.out]; rfl, by first | exact below_drewN K.out.1.low | exact K.out.1.low⟩
      · have hke : k = n := by omega
        subst hke
        have hst : a.st = b.st := by
          refine List.ext_getElem (nn.out.1.trans nn.out.2.symm) fun j h1 h2 => ?_
          have := K.out.2 j (by have := nn.out.1; omega)
          simpa [List.getD, h1, h2] using this
        have La : Hid (y.rangeAt w.heap.size 0 (gVs a.v).toList) := fun j v hv => (K.out.1.bx 0 _ _ _ rfl).c _ v (by rw [Nat.zero_add]; exact fa.out.2.2.2.2.2.2.2 j v (by simpa using hv))
        have Lb : Hid (y.rangeAt (w.heap.size + 1) 0 (gVs b.v).toList) := fun j v hv => (K.out.1.bx 1 _ _ _ rfl).c _ v (by rw [Nat.zero_add]; exact fb.out.2.2.2.2.2.2.2 j v (by simpa using hv))
        have c16 := (K.out.1.bx 0 _ _ _ rfl).c 16 _ fa.out.2.1
        have c16' := (K.out.1.bx 1 _ _ _ rfl).c 16 _ fb.out.2.1
        have c17 := (K.out.1.bx 0 _ _ _ rfl).c 17 _ fa.out.2.2.1
        have c17' := (K.out.1.bx 1 _ _ _ rfl).c 17 _ fb.out.2.2.1
        have c19 := (K.out.1.bx 0 _ _ _ rfl).c 19 _ fa.out.2.2.2.1
        have c19' := (K.out.1.bx 1 _ _ _ rfl).c 19 _ fb.out.2.2.2.1
        have c20 := (K.out.1.bx 0 _ _ _ rfl).c 20 _ fa.out.2.2.2.2.1
        have c20' := (K.out.1.bx 1 _ _ _ rfl).c 20 _ fb.out.2.2.2.2.1
        have c21 := (K.out.1.bx 0 _ _ _ rfl).c 21 _ fa.out.2.2.2.2.2.1
        have c21' := (K.out.1.bx 1 _ _ _ rfl).c 21 _ fb.out.2.2.2.2.2.1
        have c22 := (K.out.1.bx 0 _ _ _ rfl).c 22 _ fa.out.2.2.2.2.2.2.1
        have c22' := (K.out.1.bx 1 _ _ _ rfl).c 22 _ fb.out.2.2.2.2.2.2.1
        have v1 := cv1.out y K.out.1.low
        have v2 := cv2.out y K.out.1.low
        have v3 := cv3.out y K.out.1.low
        have v4 := cv4.out y K.out.1.low
        clear hk hlt
    -- LOOP
        by_cases E1 : vB a.v b.v (List.range 16) = true
        · by_cases E2 : i1 = i2
          · by_cases E3 : p1 = p2
            · by_cases E4 : d1 = d2
              · by_cases E5 : s1 = s2
                · by_cases E6 : X1.toList = X2.toList
                  · by_cases E7 : Y1.toList = Y2.toList
                    · have q2 : Hid (Eqs Try.prog 25 (gVs a.v) (gVs b.v) true) := by show Eqs _ _ _ _ _; rw [← show vB a.v b.v (List.range 16) = true from E1]; exact eqV _ _
                      have q3 : ((i1 : Int) == (i2 : Int)) = true := by simp; omega
                      have q4 : ((p1 : Int) == (p2 : Int)) = true := by simp; omega
                      have q5 : ((d1 : Int) == (d2 : Int)) = true := by simp; omega
                      have q6 : ((s1 : Int) == (s2 : Int)) = true := by simp; omega
                      have q7 : (X1.toList == X2.toList) = true := by simpa using E6
                      have q8 : (Y1.toList == Y2.toList) = true := by simpa using E7
                      have e0 : Hid (R = true) := by
                        show R = true
                        rw [← hR.out]
                        exact decide_eq_true (r1.out.2 ⟨hst, E1, by rw [L1.out, L2.out]; exact E2, by rw [L3.out, L4.out]; exact E3, by rw [L5.out, L6.out]; exact E4, by rw [L7.out, L8.out]; exact E5, by rw [L9.out, La1.out]; exact E6, by rw [La2.out, La3.out]; exact E7⟩)
                      clear E1 E2 E3 E4 E5 E6 E7
                      go_wp2_with (first
                        | ((with_reducible refine at_loadm rtV w.heap.size 0 (gVs a.v) ?_ ?_ (.tmp 31) ?_ ?_ ?_ ?_); exact La.out; rfl; kernel_rfl; rfl; rfl)
                        | ((with_reducible refine at_loadm rtV (w.heap.size + 1) 0 (gVs b.v) ?_ ?_ (.tmp 33) ?_ ?_ ?_ ?_); exact Lb.out; rfl; kernel_rfl; rfl; rfl)
                        | ((with_reducible refine at_eq q2.out (.tmp 32) (.tmp 34) 25 ?_ ?_ ?_ ?_ ?_); kernel_rfl; rfl; rfl; rfl))
                      go_ret
                      exact ⟨by rw [e0.out]; rfl, K.out.1.low⟩
                    · have q2 : Hid (Eqs Try.prog 25 (gVs a.v) (gVs b.v) true) := by show Eqs _ _ _ _ _; rw [← show vB a.v b.v (List.range 16) = true from E1]; exact eqV _ _
                      have q3 : ((i1 : Int) == (i2 : Int)) = true := by simp; omega
                      have q4 : ((p1 : Int) == (p2 : Int)) = true := by simp; omega
                      have q5 : ((d1 : Int) == (d2 : Int)) = true := by simp; omega
                      have q6 : ((s1 : Int) == (s2 : Int)) = true := by simp; omega
                      have q7 : (X1.toList == X2.toList) = true := by simpa using E6
                      have q8 : (Y1.toList == Y2.toList) = false := by simpa using E7
                      have e0 : Hid (R = false) := by
                        show R = false
                        rw [← hR.out]
                        exact decide_eq_false fun e => E7 (by have := (r1.out.1 e).2.2.2.2.2.2.2; rw [La2.out, La3.out] at this; exact this)
                      clear E1 E2 E3 E4 E5 E6 E7
                      go_wp2_with (first
                        | ((with_reducible refine at_loadm rtV w.heap.size 0 (gVs a.v) ?_ ?_ (.tmp 31) ?_ ?_ ?_ ?_); exact La.out; rfl; kernel_rfl; rfl; rfl)
                        | ((with_reducible refine at_loadm rtV (w.heap.size + 1) 0 (gVs b.v) ?_ ?_ (.tmp 33) ?_ ?_ ?_ ?_); exact Lb.out; rfl; kernel_rfl; rfl; rfl)
                        | ((with_reducible refine at_eq q2.out (.tmp 32) (.tmp 34) 25 ?_ ?_ ?_ ?_ ?_); kernel_rfl; rfl; rfl; rfl))
                      go_ret
                      exact ⟨by rw [e0.out]; rfl, K.out.1.low⟩
                  · have q2 : Hid (Eqs Try.prog 25 (gVs a.v) (gVs b.v) true) := by show Eqs _ _ _ _ _; rw [← show vB a.v b.v (List.range 16) = true from E1]; exact eqV _ _
                    have q3 : ((i1 : Int) == (i2 : Int)) = true := by simp; omega
                    have q4 : ((p1 : Int) == (p2 : Int)) = true := by simp; omega
                    have q5 : ((d1 : Int) == (d2 : Int)) = true := by simp; omega
                    have q6 : ((s1 : Int) == (s2 : Int)) = true := by simp; omega
                    have q7 : (X1.toList == X2.toList) = false := by simpa using E6
                    have e0 : Hid (R = false) := by
                      show R = false
                      rw [← hR.out]
                      exact decide_eq_false fun e => E6 (by have := (r1.out.1 e).2.2.2.2.2.2.1; rw [L9.out, La1.out] at this; exact this)
                    clear E1 E2 E3 E4 E5 E6
                    go_wp2_with (first
                      | ((with_reducible refine at_loadm rtV w.heap.size 0 (gVs a.v) ?_ ?_ (.tmp 31) ?_ ?_ ?_ ?_); exact La.out; rfl; kernel_rfl; rfl; rfl)
                      | ((with_reducible refine at_loadm rtV (w.heap.size + 1) 0 (gVs b.v) ?_ ?_ (.tmp 33) ?_ ?_ ?_ ?_); exact Lb.out; rfl; kernel_rfl; rfl; rfl)
                      | ((with_reducible refine at_eq q2.out (.tmp 32) (.tmp 34) 25 ?_ ?_ ?_ ?_ ?_); kernel_rfl; rfl; rfl; rfl))
                    go_ret
                    exact ⟨by rw [e0.out]; rfl, K.out.1.low⟩
                · have q2 : Hid (Eqs Try.prog 25 (gVs a.v) (gVs b.v) true) := by show Eqs _ _ _ _ _; rw [← show vB a.v b.v (List.range 16) = true from E1]; exact eqV _ _
                  have q3 : ((i1 : Int) == (i2 : Int)) = true := by simp; omega
                  have q4 : ((p1 : Int) == (p2 : Int)) = true := by simp; omega
                  have q5 : ((d1 : Int) == (d2 : Int)) = true := by simp; omega
                  have q6 : ((s1 : Int) == (s2 : Int)) = false := by simp; omega
                  have e0 : Hid (R = false) := by
                    show R = false
                    rw [← hR.out]
                    exact decide_eq_false fun e => E5 (by have := (r1.out.1 e).2.2.2.2.2.1; rw [L7.out, L8.out] at this; exact this)
                  clear E1 E2 E3 E4 E5
                  go_wp2_with (first
                    | ((with_reducible refine at_loadm rtV w.heap.size 0 (gVs a.v) ?_ ?_ (.tmp 31) ?_ ?_ ?_ ?_); exact La.out; rfl; kernel_rfl; rfl; rfl)
                    | ((with_reducible refine at_loadm rtV (w.heap.size + 1) 0 (gVs b.v) ?_ ?_ (.tmp 33) ?_ ?_ ?_ ?_); exact Lb.out; rfl; kernel_rfl; rfl; rfl)
                    | ((with_reducible refine at_eq q2.out (.tmp 32) (.tmp 34) 25 ?_ ?_ ?_ ?_ ?_); kernel_rfl; rfl; rfl; rfl))
                  go_ret
                  exact ⟨by rw [e0.out]; rfl, K.out.1.low⟩
              · have q2 : Hid (Eqs Try.prog 25 (gVs a.v) (gVs b.v) true) := by show Eqs _ _ _ _ _; rw [← show vB a.v b.v (List.range 16) = true from E1]; exact eqV _ _
                have q3 : ((i1 : Int) == (i2 : Int)) = true := by simp; omega
                have q4 : ((p1 : Int) == (p2 : Int)) = true := by simp; omega
                have q5 : ((d1 : Int) == (d2 : Int)) = false := by simp; omega
                have e0 : Hid (R = false) := by
                  show R = false
                  rw [← hR.out]
                  exact decide_eq_false fun e => E4 (by have := (r1.out.1 e).2.2.2.2.1; rw [L5.out, L6.out] at this; exact this)
                clear E1 E2 E3 E4
                go_wp2_with (first
                  | ((with_reducible refine at_loadm rtV w.heap.size 0 (gVs a.v) ?_ ?_ (.tmp 31) ?_ ?_ ?_ ?_); exact La.out; rfl; kernel_rfl; rfl; rfl)
                  | ((with_reducible refine at_loadm rtV (w.heap.size + 1) 0 (gVs b.v) ?_ ?_ (.tmp 33) ?_ ?_ ?_ ?_); exact Lb.out; rfl; kernel_rfl; rfl; rfl)
                  | ((with_reducible refine at_eq q2.out (.tmp 32) (.tmp 34) 25 ?_ ?_ ?_ ?_ ?_); kernel_rfl; rfl; rfl; rfl))
                go_ret
                exact ⟨by rw [e0.out]; rfl, K.out.1.low⟩
            · have q2 : Hid (Eqs Try.prog 25 (gVs a.v) (gVs b.v) true) := by show Eqs _ _ _ _ _; rw [← show vB a.v b.v (List.range 16) = true from E1]; exact eqV _ _
              have q3 : ((i1 : Int) == (i2 : Int)) = true := by simp; omega
              have q4 : ((p1 : Int) == (p2 : Int)) = false := by simp; omega
              have e0 : Hid (R = false) := by
                show R = false
                rw [← hR.out]
                exact decide_eq_false fun e => E3 (by have := (r1.out.1 e).2.2.2.1; rw [L3.out, L4.out] at this; exact this)
              clear E1 E2 E3
              go_wp2_with (first
                | ((with_reducible refine at_loadm rtV w.heap.size 0 (gVs a.v) ?_ ?_ (.tmp 31) ?_ ?_ ?_ ?_); exact La.out; rfl; kernel_rfl; rfl; rfl)
                | ((with_reducible refine at_loadm rtV (w.heap.size + 1) 0 (gVs b.v) ?_ ?_ (.tmp 33) ?_ ?_ ?_ ?_); exact Lb.out; rfl; kernel_rfl; rfl; rfl)
                | ((with_reducible refine at_eq q2.out (.tmp 32) (.tmp 34) 25 ?_ ?_ ?_ ?_ ?_); kernel_rfl; rfl; rfl; rfl))
              go_ret
              exact ⟨by rw [e0.out]; rfl, K.out.1.low⟩
          · have q2 : Hid (Eqs Try.prog 25 (gVs a.v) (gVs b.v) true) := by show Eqs _ _ _ _ _; rw [← show vB a.v b.v (List.range 16) = true from E1]; exact eqV _ _
            have q3 : ((i1 : Int) == (i2 : Int)) = false := by simp; omega
            have e0 : Hid (R = false) := by
              show R = false
              rw [← hR.out]
              exact decide_eq_false fun e => E2 (by have := (r1.out.1 e).2.2.1; rw [L1.out, L2.out] at this; exact this)
            clear E1 E2
            go_wp2_with (first
              | ((with_reducible refine at_loadm rtV w.heap.size 0 (gVs a.v) ?_ ?_ (.tmp 31) ?_ ?_ ?_ ?_); exact La.out; rfl; kernel_rfl; rfl; rfl)
              | ((with_reducible refine at_loadm rtV (w.heap.size + 1) 0 (gVs b.v) ?_ ?_ (.tmp 33) ?_ ?_ ?_ ?_); exact Lb.out; rfl; kernel_rfl; rfl; rfl)
              | ((with_reducible refine at_eq q2.out (.tmp 32) (.tmp 34) 25 ?_ ?_ ?_ ?_ ?_); kernel_rfl; rfl; rfl; rfl))
            go_ret
            exact ⟨by rw [e0.out]; rfl, K.out.1.low⟩
        · have q2 : Hid (Eqs Try.prog 25 (gVs a.v) (gVs b.v) false) := by show Eqs _ _ _ _ _; rw [← show vB a.v b.v (List.range 16) = false from by simpa using E1]; exact eqV _ _
          have e0 : Hid (R = false) := by
            show R = false
            rw [← hR.out]
            exact decide_eq_false fun e => E1 (r1.out.1 e).2.1
          clear E1
          go_wp2_with (first
            | ((with_reducible refine at_loadm rtV w.heap.size 0 (gVs a.v) ?_ ?_ (.tmp 31) ?_ ?_ ?_ ?_); exact La.out; rfl; kernel_rfl; rfl; rfl)
            | ((with_reducible refine at_loadm rtV (w.heap.size + 1) 0 (gVs b.v) ?_ ?_ (.tmp 33) ?_ ?_ ?_ ?_); exact Lb.out; rfl; kernel_rfl; rfl; rfl)
            | ((with_reducible refine at_eq q2.out (.tmp 32) (.tmp 34) 25 ?_ ?_ ?_ ?_ ?_); kernel_rfl; rfl; rfl; rfl))
          go_ret
          exact ⟨by rw [e0.out]; rfl, K.out.1.low⟩
    -- END
  · have q1 : ((n : Int) != (m : Int)) = true := by simp; omega
    have e0 : Hid (R = false) := by
      show R = false
      rw [← hR.out]
      exact decide_eq_false fun e => h (by rw [← nn.out.1, ← nn.out.2, e])
    clear hn' hm' hn hn2 h
    go_enter Try.func9, Try.ntmps9
    go_wp2
    go_ret
    exact ⟨by rw [e0.out]; rfl, below_two _ _ _⟩
end Go.Proofs.Ytfkifppadngmdaa
