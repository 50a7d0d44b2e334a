/- The statements' own: a machine lent, and whether it came back. -/
import Derived.Test.YteipjkjpeookaaaGreatJ28
import Derived.Test.YteipjkjpeookaaaGreatJ46
namespace Go.Proofs.YteipjkjpeookaaaGreat
open Go Go.RowKit Go.Shelf
set_option linter.unusedVariables false
set_option maxHeartbeats 1000000
set_option maxRecDepth 20000

/-- A machine that was lent. -/
structure LG (B : Nat) (w : World) (C : Array Value) (g : Gm) (b1 b2 b3 : Nat) : Prop where
  c : C = gCs g.v g.i g.pc (.slice (some ⟨b1, 0, none⟩) g.st.length (g.st.length + 2)) g.de g.so (.slice (some ⟨b2, 0, none⟩) g.pg.length (g.pg.length + 3)) (.slice (some ⟨b3, 0, none⟩) g.me.length (g.me.length + 3))
  s : Bx w b1 (rowW (mk2 g.st)) 23
  p : Bx w b2 (rowB (mk3 g.pg)) 5
  m : Bx w b3 (rowB (mk3 g.me)) 5
  ge : B ≤ b1 ∧ B ≤ b2 ∧ B ≤ b3
  ne : b2 ≠ b3
  ok : g.Ok
theorem LG.below {B : Nat} {w y : World} {C : Array Value} {g : Gm} {b1 b2 b3 : Nat} (h : LG B w C g b1 b2 b3) (hb : Below w.heap.size w y) : LG B y C g b1 b2 b3 :=
  ⟨h.c, (hb.block _ (heap_lt h.s)).trans h.s, (hb.block _ (heap_lt h.p)).trans h.p, (hb.block _ (heap_lt h.m)).trans h.m, h.ge, h.ne, h.ok⟩
theorem LG.offT {B : Nat} {w y : World} {C cs : Array Value} {g : Gm} {b1 b2 b3 b : Nat} {t : TypeId} (h : LG B w C g b1 b2 b3) (hx : Bx w b cs t) (h8 : 5 ≠ t) (h16 : 23 ≠ t) (hk : ∀ q, q ≠ b → y.heap[q]? = w.heap[q]?) : LG B y C g b1 b2 b3 :=
  ⟨h.c, (hk _ (Bx.unlike h.s hx h16)).trans h.s, (hk _ (Bx.unlike h.p hx h8)).trans h.p, (hk _ (Bx.unlike h.m hx h8)).trans h.m, h.ge, h.ne, h.ok⟩
theorem lies_rowB {w : World} {g : Nat} {l : List UInt8} (h : Bx w g (rowB (mk3 l)) 5) : LB w (some ⟨g, 0, none⟩) l := fun j a hj => by
  have hjl := (List.getElem?_eq_some_iff.1 hj).1
  refine ⟨g, 0, rfl, fun i v hv => ?_⟩
  have hi : i < 1 := (List.getElem?_eq_some_iff.1 hv).1
  obtain rfl : i = 0 := by omega
  refine h.c (0 + j * 1 + 0) v ?_
  rw [show 0 + j * 1 + 0 = j by omega, rowB_get (mk3 l) j (by rw [mk3_len]; omega), mk3_lo l j hjl]
  have e : l.getD j 0 = a := by rw [List.getD_eq_getElem?_getD, hj]; rfl
  rw [e, ← hv]
  rfl
theorem lies_rowW {w : World} {g : Nat} {l : List Nat} (h : Bx w g (rowW (mk2 l)) 23) : LW w (some ⟨g, 0, none⟩) l := fun j a hj => by
  have hjl := (List.getElem?_eq_some_iff.1 hj).1
  refine ⟨g, 0, rfl, fun i v hv => ?_⟩
  have hi : i < 1 := (List.getElem?_eq_some_iff.1 hv).1
  obtain rfl : i = 0 := by omega
  refine h.c (0 + j * 1 + 0) v ?_
  rw [show 0 + j * 1 + 0 = j by omega, rowW_get (mk2 l) j (by rw [mk2_len]; omega), mk2_lo l j hjl]
  have e : l.getD j 0 = a := by rw [List.getD_eq_getElem?_getD, hj]; rfl
  rw [e, ← hv]
  rfl
theorem LG.lies {B : Nat} {w : World} {C : Array Value} {g : Gm} {b1 b2 b3 : Nat} (h : LG B w C g b1 b2 b3) : GL w C g := ⟨⟨_, _, _, _, _, _, h.c, lies_rowW h.s, lies_rowB h.p, lies_rowB h.m⟩, h.ok⟩
theorem LG.size {B : Nat} {w : World} {C : Array Value} {g : Gm} {b1 b2 b3 : Nat} (h : LG B w C g b1 b2 b3) : C.size = 23 := h.lies.size.1
theorem lentG_any (w : World) (C : Array Value) (g : Gm) (h : GL w C g) (n1 : g.st.length ≤ 2147483647) (n2 : g.pg.length ≤ 2147483647) (n3 : g.me.length ≤ 2147483647) :
    Calls Tryz.prog 8 #[.agg C] w fun e w' => ∃ C' b1 b2 b3, e = .returned (.agg C') ∧ Hid (LG w.heap.size w' C' g b1 b2 b3 ∧ Below w.heap.size w w') := by
  obtain ⟨⟨sS, sP, sM, cS, cP, cM, rfl, h1, h2, h3⟩, ok⟩ := h
  replace h1 : Hid (LW w sS g.st) := h1
  replace h2 : Hid (LB w sP g.pg) := h2
  replace h3 : Hid (LB w sM g.me) := h3
  obtain ⟨n, hn⟩ : ∃ x, g.st.length = x := ⟨_, rfl⟩
  obtain ⟨l1, hl1⟩ : ∃ x, g.pg.length = x := ⟨_, rfl⟩
  obtain ⟨l3, hl3⟩ : ∃ x, g.me.length = x := ⟨_, rfl⟩
  have nn : Hid (g.st.length = n ∧ g.pg.length = l1 ∧ g.me.length = l3) := ⟨hn, hl1, hl3⟩
  have bS := fun z (hz : Below w.heap.size w z) => lentW_any z sS cS g.st (h1.out.below hz) n1
  have bP := fun z (hz : Below w.heap.size w z) => lent18_any z sP cP g.pg (h2.out.below hz) n2
  have bM := fun z (hz : Below w.heap.size w z) => lent18_any z sM cM g.me (h3.out.below hz) n3
  rw [hn] at bS
  rw [hl1] at bP
  rw [hl3] at bM
  have ok' : Hid g.Ok := ok
  obtain ⟨CA, hCA⟩ : ∃ x, x = gCs g.v g.i g.pc (.slice sS g.st.length cS) g.de g.so (.slice sP g.pg.length cP) (.slice sM g.me.length cM) := ⟨_, rfl⟩
  have fa : Hid (CA[18]? = some (.slice sS n cS) ∧ CA[21]? = some (.slice sP l1 cP) ∧ CA[22]? = some (.slice sM l3 cM) ∧ CA.size = 23 ∧ (∀ s1 c1 s2 c2 s3 c3, (((CA.setIfInBounds 18 (.slice s1 n c1)).setIfInBounds 21 (.slice s2 l1 c2)).setIfInBounds 22 (.slice s3 l3 c3)).all (·.oneCell') = true) ∧ ∀ a b c, ((CA.setIfInBounds 18 a).setIfInBounds 21 b).setIfInBounds 22 c = gCs g.v g.i g.pc a g.de g.so b c) := by
    rw [hCA, hn, hl1, hl3]
    refine ⟨rfl, rfl, rfl, rfl, fun s1 c1 s2 c2 s3 c3 => ?_, fun _ _ _ => rfl⟩
    show (gCs g.v g.i g.pc (.slice s1 n c1) g.de g.so (.slice s2 l1 c2) (.slice s3 l3 c3)).all (·.oneCell') = true
    unfold gCs gV byV
    simp [Value.oneCell']
  obtain ⟨CZ, hCZ⟩ : ∃ x : Array Value, Hid (x = gZ) := ⟨_, (rfl : gZ = gZ)⟩
  have hCZ' : Hid (CZ.size = 23) := by show _ = _; rw [hCZ.out]; rfl
  obtain ⟨RS, hRS⟩ : ∃ x, Hid (x = rowW (mk2 g.st)) := ⟨_, (rfl : rowW (mk2 g.st) = rowW (mk2 g.st))⟩
  obtain ⟨RP, hRP⟩ : ∃ x, Hid (x = rowB (mk3 g.pg)) := ⟨_, (rfl : rowB (mk3 g.pg) = rowB (mk3 g.pg))⟩
  obtain ⟨RM, hRM⟩ : ∃ x, Hid (x = rowB (mk3 g.me)) := ⟨_, (rfl : rowB (mk3 g.me) = rowB (mk3 g.me))⟩
  rw [← hRS.out] at bS
  rw [← hRP.out] at bP
  rw [← hRM.out] at bM
  rw [← hCA]
  clear hn hl1 hl3 n1 n2 n3 ok hCA
  go_enter Tryz.func8, Tryz.ntmps8
  go_wp2_with (first
    | ((with_reducible refine gen_world ((w.alloc (.cells CA 27)).alloc (.cells #[.int .u8 0, .int .u8 0, .int .u8 0, .int .u8 0, .int .u8 0, .int .u8 0, .int .u8 0, .int .u8 0, .int .u8 0, .int .u8 0, .int .u8 0, .int .u8 0, .int .u8 0, .int .u8 0, .int .u8 0, .int .u8 0, .int .u16 0, .int .u16 0, .slice none 0 0, .int .u8 0, .int .u8 0, .slice none 0 0, .slice none 0 0] 27)) (Fm w [(w.heap.size, CA, 27), (w.heap.size + 1, CZ, 27)]) ?_ ?_); (rw [hCZ.out]; unfold gZ; exact Fm.two w _ _ _ _); intro y0 K0; have c18 := (K0.out.bx 0 _ _ _ rfl).c 18 _ fa.out.1)
    | (go_at_call 20; refine (bS y0 K0.out.low).mono ?_; rintro e y2 ⟨rfl, H2⟩; have K2 : Hid (Fm w [(w.heap.size, CA, 27), (w.heap.size + 1, CZ, 27), (y0.heap.size, RS, 23)] y2) := K0.out.add H2.out.2 (Nat.le_refl _) H2.out.1; have e18 := (K2.out.bx 0 _ _ _ rfl).c 18 _ fa.out.1; have g18 := (K2.out.bx 0 _ _ _ rfl).fz 18; obtain ⟨A1, hA1⟩ : ∃ x, Hid (x = CA.setIfInBounds 18 (.slice (some ⟨y0.heap.size, 0, none⟩) n (n + 2))) := ⟨_, (rfl : CA.setIfInBounds 18 (.slice (some ⟨y0.heap.size, 0, none⟩) n (n + 2)) = _)⟩)
    | ((with_reducible refine gen_world (y2.setCell ⟨w.heap.size, 18, none⟩ (.slice (some ⟨y0.heap.size, 0, none⟩) n (n + 2))) (Fm w [(w.heap.size, A1, 27), (w.heap.size + 1, CZ, 27), (y0.heap.size, RS, 23)]) ?_ ?_); exact K2.out.setCell 0 _ _ _ _ rfl 18 _ hA1.out.symm; intro y3 K3; have e21 := (K3.out.bx 0 _ _ _ rfl).c 21 _ (show A1[21]? = some (.slice sP l1 cP) by rw [hA1.out, Array.getElem?_setIfInBounds_ne (by decide)]; exact fa.out.2.1))
    | (go_at_call 17; refine (bM y5 K5.out.low).mono ?_; rintro e y6 ⟨rfl, H6⟩; have K6 : Hid (Fm w [(w.heap.size, A2, 27), (w.heap.size + 1, CZ, 27), (y0.heap.size, RS, 23), (y3.heap.size, RP, 5), (y5.heap.size, RM, 5)] y6) := K5.out.add H6.out.2 (Nat.le_refl _) H6.out.1; have f22 := (K6.out.bx 0 _ _ _ rfl).c 22 _ (show A2[22]? = some (.slice sM l3 cM) by rw [hA2.out, Array.getElem?_setIfInBounds_ne (by decide), hA1.out, Array.getElem?_setIfInBounds_ne (by decide)]; exact fa.out.2.2.1); have g22 := (K6.out.bx 0 _ _ _ rfl).fz 22; obtain ⟨A3, hA3⟩ : ∃ x, Hid (x = A2.setIfInBounds 22 (.slice (some ⟨y5.heap.size, 0, none⟩) l3 (l3 + 3))) := ⟨_, (rfl : A2.setIfInBounds 22 (.slice (some ⟨y5.heap.size, 0, none⟩) l3 (l3 + 3)) = _)⟩; have z3 : Hid (A3.size = 23 ∧ A3.all (·.oneCell') = true) := ⟨by rw [hA3.out, hA2.out, hA1.out]; simp [fa.out.2.2.2.1], by rw [hA3.out, hA2.out, hA1.out]; exact fa.out.2.2.2.2.1 _ _ _ _ _ _⟩)
    | (go_at_call 17; refine (bP y3 K3.out.low).mono ?_; rintro e y4 ⟨rfl, H4⟩; have K4 : Hid (Fm w [(w.heap.size, A1, 27), (w.heap.size + 1, CZ, 27), (y0.heap.size, RS, 23), (y3.heap.size, RP, 5)] y4) := K3.out.add H4.out.2 (Nat.le_refl _) H4.out.1; have f21 := (K4.out.bx 0 _ _ _ rfl).c 21 _ (show A1[21]? = some (.slice sP l1 cP) by rw [hA1.out, Array.getElem?_setIfInBounds_ne (by decide)]; exact fa.out.2.1); have g21 := (K4.out.bx 0 _ _ _ rfl).fz 21; obtain ⟨A2, hA2⟩ : ∃ x, Hid (x = A1.setIfInBounds 21 (.slice (some ⟨y3.heap.size, 0, none⟩) l1 (l1 + 3))) := ⟨_, (rfl : A1.setIfInBounds 21 (.slice (some ⟨y3.heap.size, 0, none⟩) l1 (l1 + 3)) = _)⟩)
    | ((with_reducible refine gen_world (y4.setCell ⟨w.heap.size, 21, none⟩ (.slice (some ⟨y3.heap.size, 0, none⟩) l1 (l1 + 3))) (Fm w [(w.heap.size, A2, 27), (w.heap.size + 1, CZ, 27), (y0.heap.size, RS, 23), (y3.heap.size, RP, 5)]) ?_ ?_); exact K4.out.setCell 0 _ _ _ _ rfl 21 _ hA2.out.symm; intro y5 K5; have e22 := (K5.out.bx 0 _ _ _ rfl).c 22 _ (show A2[22]? = some (.slice sM l3 cM) by rw [hA2.out, Array.getElem?_setIfInBounds_ne (by decide), hA1.out, Array.getElem?_setIfInBounds_ne (by decide)]; exact fa.out.2.2.1))
    | ((with_reducible refine gen_world (y6.setCell ⟨w.heap.size, 22, none⟩ (.slice (some ⟨y5.heap.size, 0, none⟩) l3 (l3 + 3))) (Fm w [(w.heap.size, A3, 27), (w.heap.size + 1, CZ, 27), (y0.heap.size, RS, 23), (y3.heap.size, RP, 5), (y5.heap.size, RM, 5)]) ?_ ?_); exact K6.out.setCell 0 _ _ _ _ rfl 22 _ hA3.out.symm; intro y7 K7)
    | ((with_reducible refine at_load rtG w.heap.size A3 ?_ ?_ (.tmp 1) ?_ ?_ ?_ ?_); exact K7.out.bx 0 _ _ _ rfl; exact z3.out.1; kernel_rfl; rfl; rfl)
    | ((with_reducible refine at_st rtG (w.heap.size + 1) CZ A3 ?_ ?_ ?_ ?_ (.tmp 2) (.tmp 15) ?_ ?_ ?_ ?_ ?_); exact K7.out.bx 1 _ _ _ rfl; exact hCZ'.out; exact z3.out.1; exact z3.out.2; rfl; rfl; rfl; rfl; intro y8 H8; have K8 : Hid (Fm w [(w.heap.size, A3, 27), (w.heap.size + 1, A3, 27), (y0.heap.size, RS, 23), (y3.heap.size, RP, 5), (y5.heap.size, RM, 5)] y8) := K7.out.put 1 _ _ _ _ rfl H8.out))
  refine ret_row rtG rfl rfl (K8.out.bx 1 _ _ _ rfl) z3.out.1 rfl ⟨A3, y0.heap.size, y3.heap.size, y5.heap.size, rfl, ⟨⟨?_, ?_, ?_, ?_, ⟨K8.out.ge 2 _ _ _ rfl, K8.out.ge 3 _ _ _ rfl, K8.out.ge 4 _ _ _ rfl⟩, ?_, ok'.out⟩, K8.out.low⟩⟩
  · rw [hA3.out, hA2.out, hA1.out, nn.out.1, nn.out.2.1, nn.out.2.2]
    exact fa.out.2.2.2.2.2 _ _ _
  · rw [← hRS.out]; exact K8.out.bx 2 _ _ _ rfl
  · rw [← hRP.out]; exact K8.out.bx 3 _ _ _ rfl
  · rw [← hRM.out]; exact K8.out.bx 4 _ _ _ rfl
  · intro e
    have := K8.out.ne 3 4 y3.heap.size RP RM _ _ rfl (by rw [e]; rfl)
    exact absurd this (by decide)
theorem keptG_any (y : World) (B : Nat) (C C' : Array Value) (g : Gm) (b1 b2 b3 : Nat) (hL : Hid (LG B y C' g b1 b2 b3)) (hg : Hid (∀ u, CuL B (fun q _ => q = b1 ∨ q = b2 ∨ q = b3) y u → GL u C g)) (hB : Hid (B ≤ y.heap.size)) (n1 : g.st.length ≤ 2147483647) (n2 : g.pg.length ≤ 2147483647) (n3 : g.me.length ≤ 2147483647) :
    Calls Tryz.prog 10 #[.agg C', .agg C] y fun e w' => e = .returned (.bool true) ∧ Hid (CuL B (fun q _ => q = b1 ∨ q = b2 ∨ q = b3) y w') := by
  obtain ⟨⟨sS, sP, sM, cS, cP, cM, eC, _⟩, ok⟩ := hg.out y (CuL.refl _ _ _)
  have gu : Hid (∀ u, CuL B (fun q _ => q = b1 ∨ q = b2 ∨ q = b3) y u → LW u sS g.st ∧ LB u sP g.pg ∧ LB u sM g.me) := fun u hu => by
    obtain ⟨⟨sS', sP', sM', cS', cP', cM', e', k1, k2, k3⟩, _⟩ := hg.out u hu
    have a1 : (gCs g.v g.i g.pc (.slice sS g.st.length cS) g.de g.so (.slice sP g.pg.length cP) (.slice sM g.me.length cM))[18]? = (gCs g.v g.i g.pc (.slice sS' g.st.length cS') g.de g.so (.slice sP' g.pg.length cP') (.slice sM' g.me.length cM'))[18]? := by rw [← eC, e']
    have a2 : (gCs g.v g.i g.pc (.slice sS g.st.length cS) g.de g.so (.slice sP g.pg.length cP) (.slice sM g.me.length cM))[21]? = (gCs g.v g.i g.pc (.slice sS' g.st.length cS') g.de g.so (.slice sP' g.pg.length cP') (.slice sM' g.me.length cM'))[21]? := by rw [← eC, e']
    have a3 : (gCs g.v g.i g.pc (.slice sS g.st.length cS) g.de g.so (.slice sP g.pg.length cP) (.slice sM g.me.length cM))[22]? = (gCs g.v g.i g.pc (.slice sS' g.st.length cS') g.de g.so (.slice sP' g.pg.length cP') (.slice sM' g.me.length cM'))[22]? := by rw [← eC, e']
    have i1 := Option.some.inj a1
    have i2 := Option.some.inj a2
    have i3 := Option.some.inj a3
    injection i1 with i1 _ _
    injection i2 with i2 _ _
    injection i3 with i3 _ _
    subst i1
    subst i2
    subst i3
    exact ⟨k1, k2, k3⟩
  have bS := fun z (hz : CuL B (fun q _ => q = b1 ∨ q = b2 ∨ q = b3) y z) (hb : Bx z b1 (rowW (mk2 g.st)) 23) => keptW_any z B b1 cS sS g.st hL.out.ge.1 hb (fun u hu => (gu.out u (hz.trans (hu.mono fun q _ _ e => .inl e))).1) n1
  have bP := fun z (hz : CuL B (fun q _ => q = b1 ∨ q = b2 ∨ q = b3) y z) (hb : Bx z b2 (rowB (mk3 g.pg)) 5) => kept18_any z B b2 cP sP g.pg hL.out.ge.2.1 hb (fun u hu => (gu.out u (hz.trans (hu.mono fun q _ _ e => .inr (.inl e)))).2.1) n2
  have bM := fun z (hz : CuL B (fun q _ => q = b1 ∨ q = b2 ∨ q = b3) y z) (hb : Bx z b3 (rowB (mk3 g.me)) 5) => kept18_any z B b3 cM sM g.me hL.out.ge.2.2 hb (fun u hu => (gu.out u (hz.trans (hu.mono fun q _ _ e => .inr (.inr e)))).2.2) n3
  obtain ⟨n, hn⟩ : ∃ x, g.st.length = x := ⟨_, rfl⟩
  obtain ⟨l1, hl1⟩ : ∃ x, g.pg.length = x := ⟨_, rfl⟩
  obtain ⟨l3, hl3⟩ : ∃ x, g.me.length = x := ⟨_, rfl⟩
  rw [hn] at bS
  rw [hl1] at bP
  rw [hl3] at bM
  have fa : Hid (C[18]? = some (.slice sS n cS) ∧ C[21]? = some (.slice sP l1 cP) ∧ C[22]? = some (.slice sM l3 cM)) := by
    rw [eC, hn, hl1, hl3]
    exact ⟨rfl, rfl, rfl⟩
  have fb : Hid (C'[18]? = some (.slice (some ⟨b1, 0, none⟩) n (n + 2)) ∧ C'[21]? = some (.slice (some ⟨b2, 0, none⟩) l1 (l1 + 3)) ∧ C'[22]? = some (.slice (some ⟨b3, 0, none⟩) l3 (l3 + 3))) := by
    rw [hL.out.c, hn, hl1, hl3]
    exact ⟨rfl, rfl, rfl⟩
  have K0 : Hid (CuL B (fun q _ => q = b1 ∨ q = b2 ∨ q = b3) y ((y.alloc (.cells C' 27)).alloc (.cells C 27)) ∧ Fm y [(y.heap.size, C', 27), (y.heap.size + 1, C, 27)] ((y.alloc (.cells C' 27)).alloc (.cells C 27)) ∧ Bx ((y.alloc (.cells C' 27)).alloc (.cells C 27)) b1 (rowW (mk2 g.st)) 23 ∧ Bx ((y.alloc (.cells C' 27)).alloc (.cells C 27)) b2 (rowB (mk3 g.pg)) 5 ∧ Bx ((y.alloc (.cells C' 27)).alloc (.cells C 27)) b3 (rowB (mk3 g.me)) 5) := by
    have F := Fm.two y C' C 27 27
    exact ⟨CuL.of_below F.low hB.out, F, (F.low.block _ (heap_lt hL.out.s)).trans hL.out.s, (F.low.block _ (heap_lt hL.out.p)).trans hL.out.p, (F.low.block _ (heap_lt hL.out.m)).trans hL.out.m⟩
  have stay : Hid (∀ (z z' : World) (b : Nat) (cs : Array Value) (t : TypeId), CuL B (fun q _ => q = b) z z' → Bx z b cs t → (t = 5 ∨ t = 23) → ∀ q c, Bx z q c 27 → Bx z' q c 27) := fun z z' b cs t hu hb ht q c hq =>
    (hu.blk q (heap_lt hq) fun j e => Bx.unlike hq hb (by rcases ht with rfl | rfl <;> decide) e).trans hq
  have ne3 : Hid (b2 ≠ b3) := hL.out.ne
  obtain ⟨RS, hRS⟩ : ∃ x, rowW (mk2 g.st) = x := ⟨_, rfl⟩
  obtain ⟨RP, hRP⟩ : ∃ x, rowB (mk3 g.pg) = x := ⟨_, rfl⟩
  obtain ⟨RM, hRM⟩ : ∃ x, rowB (mk3 g.me) = x := ⟨_, rfl⟩
  rw [hRS, hRP, hRM] at K0
  rw [hRS] at bS
  rw [hRP] at bP
  rw [hRM] at bM
  clear hn hl1 hl3 n1 n2 n3 ok eC hRS hRP hRM gu hg hL
  go_enter Tryz.func10, Tryz.ntmps10
  go_wp2_with (first
    | (go_at_call 18; (with_reducible refine (bM y2 K2.out.1 K2.out.2.2.2.2).mono ?_); rintro e y3 ⟨rfl, H3⟩; have K3 : Hid (CuL B (fun q _ => q = b1 ∨ q = b2 ∨ q = b3) y y3) := K2.out.1.trans (H3.out.mono fun q _ _ e => .inr (.inr e)); clear H3)
    | (go_at_call 18; (with_reducible refine (bP y1 K1.out.1 K1.out.2.2.2.1).mono ?_); rintro e y2 ⟨rfl, H2⟩; have K2 : Hid (CuL B (fun q _ => q = b1 ∨ q = b2 ∨ q = b3) y y2 ∧ Bx y2 y.heap.size C' 27 ∧ Bx y2 (y.heap.size + 1) C 27 ∧ True ∧ Bx y2 b3 RM 5) := ⟨K1.out.1.trans (H2.out.mono fun q _ _ e => .inr (.inl e)), stay.out _ _ _ _ _ H2.out K1.out.2.2.2.1 (.inl rfl) _ _ K1.out.2.1, stay.out _ _ _ _ _ H2.out K1.out.2.2.2.1 (.inl rfl) _ _ K1.out.2.2.1, trivial, (H2.out.blk b3 (heap_lt K1.out.2.2.2.2) fun j e => ne3.out e.symm).trans K1.out.2.2.2.2⟩; have m22 := K2.out.2.1.c 22 _ fb.out.2.2; have k22 := K2.out.2.2.1.c 22 _ fa.out.2.2; clear H2)
    | (go_at_call 24; (with_reducible refine (bS y0 K00.out.1 K00.out.2.2.1).mono ?_); rintro e y1 ⟨rfl, H1⟩; have K1 : Hid (CuL B (fun q _ => q = b1 ∨ q = b2 ∨ q = b3) y y1 ∧ Bx y1 y.heap.size C' 27 ∧ Bx y1 (y.heap.size + 1) C 27 ∧ Bx y1 b2 RP 5 ∧ Bx y1 b3 RM 5) := ⟨K00.out.1.trans (H1.out.mono fun q _ _ e => .inl e), stay.out _ _ _ _ _ H1.out K00.out.2.2.1 (.inr rfl) _ _ (K00.out.2.1.bx 0 _ _ _ rfl), stay.out _ _ _ _ _ H1.out K00.out.2.2.1 (.inr rfl) _ _ (K00.out.2.1.bx 1 _ _ _ rfl), (H1.out.blk b2 (heap_lt K00.out.2.2.2.1) fun j e => Bx.unlike K00.out.2.2.2.1 K00.out.2.2.1 (by decide) e).trans K00.out.2.2.2.1, (H1.out.blk b3 (heap_lt K00.out.2.2.2.2) fun j e => Bx.unlike K00.out.2.2.2.2 K00.out.2.2.1 (by decide) e).trans K00.out.2.2.2.2⟩; have m21 := K1.out.2.1.c 21 _ fb.out.2.1; have k21 := K1.out.2.2.1.c 21 _ fa.out.2.1; clear H1)
    | ((with_reducible refine gen_world ((y.alloc (.cells C' 27)).alloc (.cells C 27)) (fun u => CuL B (fun q _ => q = b1 ∨ q = b2 ∨ q = b3) y u ∧ Fm y [(y.heap.size, C', 27), (y.heap.size + 1, C, 27)] u ∧ Bx u b1 RS 23 ∧ Bx u b2 RP 5 ∧ Bx u b3 RM 5) ?_ ?_); exact K0.out; intro y0 K00; have m18 := (K00.out.2.1.bx 0 _ _ _ rfl).c 18 _ fb.out.1; have k18 := (K00.out.2.1.bx 1 _ _ _ rfl).c 18 _ fa.out.1))
  go_ret
  exact ⟨rfl, K3⟩
end Go.Proofs.YteipjkjpeookaaaGreat
