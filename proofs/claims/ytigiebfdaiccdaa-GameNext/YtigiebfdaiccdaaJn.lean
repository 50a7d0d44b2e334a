/- The statements' own: a machine lent, and whether it came back. The document's own: Next. GameNext: whether a machine may be, and the order at PC. -/
import Derived.Test.YtigiebfdaiccdaaH0
import Derived.Test.YtigiebfdaiccdaaJg
import Derived.Test.YtigiebfdaiccdaaJd
namespace Go.Proofs.Ytigiebfdaiccdaa
open Go Go.RowKit Go.Shelf
set_option linter.unusedVariables false
set_option maxHeartbeats 1000000
set_option maxRecDepth 20000

/-- A machine that was lent. -/
structure LG (B : Nat) (w : World) (C : Array Value) (g : Gm) (b1 b2 b3 : Nat) : Prop where
  c : C = gCs g.v g.i g.pc (.slice (some ⟨b1, 0, none⟩) g.st.length (g.st.length + 2)) g.de g.so (.slice (some ⟨b2, 0, none⟩) g.pg.length (g.pg.length + 3)) (.slice (some ⟨b3, 0, none⟩) g.me.length (g.me.length + 3))
  s : Bx w b1 (rowW (mk2 g.st)) 26
  p : Bx w b2 (rowB (mk3 g.pg)) 5
  m : Bx w b3 (rowB (mk3 g.me)) 5
  ge : B ≤ b1 ∧ B ≤ b2 ∧ B ≤ b3
  ne : b2 ≠ b3
  ok : g.Ok
theorem LG.below {B : Nat} {w y : World} {C : Array Value} {g : Gm} {b1 b2 b3 : Nat} (h : LG B w C g b1 b2 b3) (hb : Below w.heap.size w y) : LG B y C g b1 b2 b3 :=
  ⟨h.c, (hb.block _ (heap_lt h.s)).trans h.s, (hb.block _ (heap_lt h.p)).trans h.p, (hb.block _ (heap_lt h.m)).trans h.m, h.ge, h.ne, h.ok⟩
theorem LG.offT {B : Nat} {w y : World} {C cs : Array Value} {g : Gm} {b1 b2 b3 b : Nat} {t : TypeId} (h : LG B w C g b1 b2 b3) (hx : Bx w b cs t) (h8 : 5 ≠ t) (h16 : 26 ≠ t) (hk : ∀ q, q ≠ b → y.heap[q]? = w.heap[q]?) : LG B y C g b1 b2 b3 :=
  ⟨h.c, (hk _ (Bx.unlike h.s hx h16)).trans h.s, (hk _ (Bx.unlike h.p hx h8)).trans h.p, (hk _ (Bx.unlike h.m hx h8)).trans h.m, h.ge, h.ne, h.ok⟩
theorem lies_rowB {w : World} {g : Nat} {l : List UInt8} (h : Bx w g (rowB (mk3 l)) 5) : LB w (some ⟨g, 0, none⟩) l := fun j a hj => by
  have hjl := (List.getElem?_eq_some_iff.1 hj).1
  refine ⟨g, 0, rfl, fun i v hv => ?_⟩
  have hi : i < 1 := (List.getElem?_eq_some_iff.1 hv).1
  obtain rfl : i = 0 := by omega
  refine h.c (0 + j * 1 + 0) v ?_
  rw [show 0 + j * 1 + 0 = j by omega, rowB_get (mk3 l) j (by rw [mk3_len]; omega), mk3_lo l j hjl]
  have e : l.getD j 0 = a := by rw [List.getD_eq_getElem?_getD, hj]; rfl
  rw [e, ← hv]
  rfl
theorem lies_rowW {w : World} {g : Nat} {l : List Nat} (h : Bx w g (rowW (mk2 l)) 26) : LW w (some ⟨g, 0, none⟩) l := fun j a hj => by
  have hjl := (List.getElem?_eq_some_iff.1 hj).1
  refine ⟨g, 0, rfl, fun i v hv => ?_⟩
  have hi : i < 1 := (List.getElem?_eq_some_iff.1 hv).1
  obtain rfl : i = 0 := by omega
  refine h.c (0 + j * 1 + 0) v ?_
  rw [show 0 + j * 1 + 0 = j by omega, rowW_get (mk2 l) j (by rw [mk2_len]; omega), mk2_lo l j hjl]
  have e : l.getD j 0 = a := by rw [List.getD_eq_getElem?_getD, hj]; rfl
  rw [e, ← hv]
  rfl
theorem LG.lies {B : Nat} {w : World} {C : Array Value} {g : Gm} {b1 b2 b3 : Nat} (h : LG B w C g b1 b2 b3) : GL w C g := ⟨⟨_, _, _, _, _, _, h.c, lies_rowW h.s, lies_rowB h.p, lies_rowB h.m⟩, h.ok⟩
theorem LG.size {B : Nat} {w : World} {C : Array Value} {g : Gm} {b1 b2 b3 : Nat} (h : LG B w C g b1 b2 b3) : C.size = 23 := h.lies.size.1
theorem lentG_any (w : World) (C : Array Value) (g : Gm) (h : GL w C g) (n1 : g.st.length ≤ 2147483647) (n2 : g.pg.length ≤ 2147483647) (n3 : g.me.length ≤ 2147483647) :
    Calls Try.prog 14 #[.agg C] w fun e w' => ∃ C' b1 b2 b3, e = .returned (.agg C') ∧ Hid (LG w.heap.size w' C' g b1 b2 b3 ∧ Below w.heap.size w w') := by
  obtain ⟨⟨sS, sP, sM, cS, cP, cM, rfl, h1, h2, h3⟩, ok⟩ := h
  replace h1 : Hid (LW w sS g.st) := h1
  replace h2 : Hid (LB w sP g.pg) := h2
  replace h3 : Hid (LB w sM g.me) := h3
  obtain ⟨n, hn⟩ : ∃ x, g.st.length = x := ⟨_, rfl⟩
  obtain ⟨l1, hl1⟩ : ∃ x, g.pg.length = x := ⟨_, rfl⟩
  obtain ⟨l3, hl3⟩ : ∃ x, g.me.length = x := ⟨_, rfl⟩
  have nn : Hid (g.st.length = n ∧ g.pg.length = l1 ∧ g.me.length = l3) := ⟨hn, hl1, hl3⟩
  have bS := fun z (hz : Below w.heap.size w z) => lentW_any z sS cS g.st (h1.out.below hz) n1
  have bP := fun z (hz : Below w.heap.size w z) => lent18_any z sP cP g.pg (h2.out.below hz) n2
  have bM := fun z (hz : Below w.heap.size w z) => lent18_any z sM cM g.me (h3.out.below hz) n3
  rw [hn] at bS
  rw [hl1] at bP
  rw [hl3] at bM
  have ok' : Hid g.Ok := ok
  obtain ⟨CA, hCA⟩ : ∃ x, x = gCs g.v g.i g.pc (.slice sS g.st.length cS) g.de g.so (.slice sP g.pg.length cP) (.slice sM g.me.length cM) := ⟨_, rfl⟩
  have fa : Hid (CA[18]? = some (.slice sS n cS) ∧ CA[21]? = some (.slice sP l1 cP) ∧ CA[22]? = some (.slice sM l3 cM) ∧ CA.size = 23 ∧ (∀ s1 c1 s2 c2 s3 c3, (((CA.setIfInBounds 18 (.slice s1 n c1)).setIfInBounds 21 (.slice s2 l1 c2)).setIfInBounds 22 (.slice s3 l3 c3)).all (·.oneCell') = true) ∧ ∀ a b c, ((CA.setIfInBounds 18 a).setIfInBounds 21 b).setIfInBounds 22 c = gCs g.v g.i g.pc a g.de g.so b c) := by
    rw [hCA, hn, hl1, hl3]
    refine ⟨rfl, rfl, rfl, rfl, fun s1 c1 s2 c2 s3 c3 => ?_, fun _ _ _ => rfl⟩
    show (gCs g.v g.i g.pc (.slice s1 n c1) g.de g.so (.slice s2 l1 c2) (.slice s3 l3 c3)).all (·.oneCell') = true
    unfold gCs gV byV
    simp [Value.oneCell']
  obtain ⟨CZ, hCZ⟩ : ∃ x : Array Value, Hid (x = gZ) := ⟨_, (rfl : gZ = gZ)⟩
  have hCZ' : Hid (CZ.size = 23) := by show _ = _; rw [hCZ.out]; rfl
  obtain ⟨RS, hRS⟩ : ∃ x, Hid (x = rowW (mk2 g.st)) := ⟨_, (rfl : rowW (mk2 g.st) = rowW (mk2 g.st))⟩
  obtain ⟨RP, hRP⟩ : ∃ x, Hid (x = rowB (mk3 g.pg)) := ⟨_, (rfl : rowB (mk3 g.pg) = rowB (mk3 g.pg))⟩
  obtain ⟨RM, hRM⟩ : ∃ x, Hid (x = rowB (mk3 g.me)) := ⟨_, (rfl : rowB (mk3 g.me) = rowB (mk3 g.me))⟩
  rw [← hRS.out] at bS
  rw [← hRP.out] at bP
  rw [← hRM.out] at bM
  rw [← hCA]
  clear hn hl1 hl3 n1 n2 n3 ok hCA
  go_enter Try.func14, Try.ntmps14
  go_wp2_with (first
    | ((with_reducible refine gen_world ((w.alloc (.cells CA 29)).alloc (.cells #[.int .u8 0, .int .u8 0, .int .u8 0, .int .u8 0, .int .u8 0, .int .u8 0, .int .u8 0, .int .u8 0, .int .u8 0, .int .u8 0, .int .u8 0, .int .u8 0, .int .u8 0, .int .u8 0, .int .u8 0, .int .u8 0, .int .u16 0, .int .u16 0, .slice none 0 0, .int .u8 0, .int .u8 0, .slice none 0 0, .slice none 0 0] 29)) (Fm w [(w.heap.size, CA, 29), (w.heap.size + 1, CZ, 29)]) ?_ ?_); (rw [hCZ.out]; unfold gZ; exact Fm.two w _ _ _ _); intro y0 K0; have c18 := (K0.out.bx 0 _ _ _ rfl).c 18 _ fa.out.1)
    | (go_at_call 24; refine (bS y0 K0.out.low).mono ?_; rintro e y2 ⟨rfl, H2⟩; have K2 : Hid (Fm w [(w.heap.size, CA, 29), (w.heap.size + 1, CZ, 29), (y0.heap.size, RS, 26)] y2) := K0.out.add H2.out.2 (Nat.le_refl _) H2.out.1; have e18 := (K2.out.bx 0 _ _ _ rfl).c 18 _ fa.out.1; have g18 := (K2.out.bx 0 _ _ _ rfl).fz 18; obtain ⟨A1, hA1⟩ : ∃ x, Hid (x = CA.setIfInBounds 18 (.slice (some ⟨y0.heap.size, 0, none⟩) n (n + 2))) := ⟨_, (rfl : CA.setIfInBounds 18 (.slice (some ⟨y0.heap.size, 0, none⟩) n (n + 2)) = _)⟩)
    | ((with_reducible refine gen_world (y2.setCell ⟨w.heap.size, 18, none⟩ (.slice (some ⟨y0.heap.size, 0, none⟩) n (n + 2))) (Fm w [(w.heap.size, A1, 29), (w.heap.size + 1, CZ, 29), (y0.heap.size, RS, 26)]) ?_ ?_); exact K2.out.setCell 0 _ _ _ _ rfl 18 _ hA1.out.symm; intro y3 K3; have e21 := (K3.out.bx 0 _ _ _ rfl).c 21 _ (show A1[21]? = some (.slice sP l1 cP) by rw [hA1.out, Array.getElem?_setIfInBounds_ne (by decide)]; exact fa.out.2.1))
    | (go_at_call 7; refine (bM y5 K5.out.low).mono ?_; rintro e y6 ⟨rfl, H6⟩; have K6 : Hid (Fm w [(w.heap.size, A2, 29), (w.heap.size + 1, CZ, 29), (y0.heap.size, RS, 26), (y3.heap.size, RP, 5), (y5.heap.size, RM, 5)] y6) := K5.out.add H6.out.2 (Nat.le_refl _) H6.out.1; have f22 := (K6.out.bx 0 _ _ _ rfl).c 22 _ (show A2[22]? = some (.slice sM l3 cM) by rw [hA2.out, Array.getElem?_setIfInBounds_ne (by decide), hA1.out, Array.getElem?_setIfInBounds_ne (by decide)]; exact fa.out.2.2.1); have g22 := (K6.out.bx 0 _ _ _ rfl).fz 22; obtain ⟨A3, hA3⟩ : ∃ x, Hid (x = A2.setIfInBounds 22 (.slice (some ⟨y5.heap.size, 0, none⟩) l3 (l3 + 3))) := ⟨_, (rfl : A2.setIfInBounds 22 (.slice (some ⟨y5.heap.size, 0, none⟩) l3 (l3 + 3)) = _)⟩; have z3 : Hid (A3.size = 23 ∧ A3.all (·.oneCell') = true) := ⟨by rw [hA3.out, hA2.out, hA1.out]; simp [fa.out.2.2.2.1], by rw [hA3.out, hA2.out, hA1.out]; exact fa.out.2.2.2.2.1 _ _ _ _ _ _⟩)
    | (go_at_call 7; refine (bP y3 K3.out.low).mono ?_; rintro e y4 ⟨rfl, H4⟩; have K4 : Hid (Fm w [(w.heap.size, A1, 29), (w.heap.size + 1, CZ, 29), (y0.heap.size, RS, 26), (y3.heap.size, RP, 5)] y4) := K3.out.add H4.out.2 (Nat.le_refl _) H4.out.1; have f21 := (K4.out.bx 0 _ _ _ rfl).c 21 _ (show A1[21]? = some (.slice sP l1 cP) by rw [hA1.out, Array.getElem?_setIfInBounds_ne (by decide)]; exact fa.out.2.1); have g21 := (K4.out.bx 0 _ _ _ rfl).fz 21; obtain ⟨A2, hA2⟩ : ∃ x, Hid (x = A1.setIfInBounds 21 (.slice (some ⟨y3.heap.size, 0, none⟩) l1 (l1 + 3))) := ⟨_, (rfl : A1.setIfInBounds 21 (.slice (some ⟨y3.heap.size, 0, none⟩) l1 (l1 + 3)) = _)⟩)
    | ((with_reducible refine gen_world (y4.setCell ⟨w.heap.size, 21, none⟩ (.slice (some ⟨y3.heap.size, 0, none⟩) l1 (l1 + 3))) (Fm w [(w.heap.size, A2, 29), (w.heap.size + 1, CZ, 29), (y0.heap.size, RS, 26), (y3.heap.size, RP, 5)]) ?_ ?_); exact K4.out.setCell 0 _ _ _ _ rfl 21 _ hA2.out.symm; intro y5 K5; have e22 := (K5.out.bx 0 _ _ _ rfl).c 22 _ (show A2[22]? = some (.slice sM l3 cM) by rw [hA2.out, Array.getElem?_setIfInBounds_ne (by decide), hA1.out, Array.getElem?_setIfInBounds_ne (by decide)]; exact fa.out.2.2.1))
    | ((with_reducible refine gen_world (y6.setCell ⟨w.heap.size, 22, none⟩ (.slice (some ⟨y5.heap.size, 0, none⟩) l3 (l3 + 3))) (Fm w [(w.heap.size, A3, 29), (w.heap.size + 1, CZ, 29), (y0.heap.size, RS, 26), (y3.heap.size, RP, 5), (y5.heap.size, RM, 5)]) ?_ ?_); exact K6.out.setCell 0 _ _ _ _ rfl 22 _ hA3.out.symm; intro y7 K7)
    | ((with_reducible refine at_load rtG w.heap.size A3 ?_ ?_ (.tmp 1) ?_ ?_ ?_ ?_); exact K7.out.bx 0 _ _ _ rfl; exact z3.out.1; kernel_rfl; rfl; rfl)
    | ((with_reducible refine at_st rtG (w.heap.size + 1) CZ A3 ?_ ?_ ?_ ?_ (.tmp 2) (.tmp 15) ?_ ?_ ?_ ?_ ?_); exact K7.out.bx 1 _ _ _ rfl; exact hCZ'.out; exact z3.out.1; exact z3.out.2; rfl; rfl; rfl; rfl; intro y8 H8; have K8 : Hid (Fm w [(w.heap.size, A3, 29), (w.heap.size + 1, A3, 29), (y0.heap.size, RS, 26), (y3.heap.size, RP, 5), (y5.heap.size, RM, 5)] y8) := K7.out.put 1 _ _ _ _ rfl H8.out))
  refine ret_row rtG rfl rfl (K8.out.bx 1 _ _ _ rfl) z3.out.1 rfl ⟨A3, y0.heap.size, y3.heap.size, y5.heap.size, rfl, ⟨⟨?_, ?_, ?_, ?_, ⟨K8.out.ge 2 _ _ _ rfl, K8.out.ge 3 _ _ _ rfl, K8.out.ge 4 _ _ _ rfl⟩, ?_, ok'.out⟩, K8.out.low⟩⟩
  · rw [hA3.out, hA2.out, hA1.out, nn.out.1, nn.out.2.1, nn.out.2.2]
    exact fa.out.2.2.2.2.2 _ _ _
  · rw [← hRS.out]; exact K8.out.bx 2 _ _ _ rfl
  · rw [← hRP.out]; exact K8.out.bx 3 _ _ _ rfl
  · rw [← hRM.out]; exact K8.out.bx 4 _ _ _ rfl
  · intro e
    have := K8.out.ne 3 4 y3.heap.size RP RM _ _ rfl (by rw [e]; rfl)
    exact absurd this (by decide)
theorem keptG_any (y : World) (B : Nat) (C C' : Array Value) (g : Gm) (b1 b2 b3 : Nat) (hL : Hid (LG B y C' g b1 b2 b3)) (hg : Hid (∀ u, CuL B (fun q _ => q = b1 ∨ q = b2 ∨ q = b3) y u → GL u C g)) (hB : Hid (B ≤ y.heap.size)) (n1 : g.st.length ≤ 2147483647) (n2 : g.pg.length ≤ 2147483647) (n3 : g.me.length ≤ 2147483647) :
    Calls Try.prog 17 #[.agg C', .agg C] y fun e w' => e = .returned (.bool true) ∧ Hid (CuL B (fun q _ => q = b1 ∨ q = b2 ∨ q = b3) y w') := by
  obtain ⟨⟨sS, sP, sM, cS, cP, cM, eC, _⟩, ok⟩ := hg.out y (CuL.refl _ _ _)
  have gu : Hid (∀ u, CuL B (fun q _ => q = b1 ∨ q = b2 ∨ q = b3) y u → LW u sS g.st ∧ LB u sP g.pg ∧ LB u sM g.me) := fun u hu => by
    obtain ⟨⟨sS', sP', sM', cS', cP', cM', e', k1, k2, k3⟩, _⟩ := hg.out u hu
    have a1 : (gCs g.v g.i g.pc (.slice sS g.st.length cS) g.de g.so (.slice sP g.pg.length cP) (.slice sM g.me.length cM))[18]? = (gCs g.v g.i g.pc (.slice sS' g.st.length cS') g.de g.so (.slice sP' g.pg.length cP') (.slice sM' g.me.length cM'))[18]? := by rw [← eC, e']
    have a2 : (gCs g.v g.i g.pc (.slice sS g.st.length cS) g.de g.so (.slice sP g.pg.length cP) (.slice sM g.me.length cM))[21]? = (gCs g.v g.i g.pc (.slice sS' g.st.length cS') g.de g.so (.slice sP' g.pg.length cP') (.slice sM' g.me.length cM'))[21]? := by rw [← eC, e']
    have a3 : (gCs g.v g.i g.pc (.slice sS g.st.length cS) g.de g.so (.slice sP g.pg.length cP) (.slice sM g.me.length cM))[22]? = (gCs g.v g.i g.pc (.slice sS' g.st.length cS') g.de g.so (.slice sP' g.pg.length cP') (.slice sM' g.me.length cM'))[22]? := by rw [← eC, e']
    have i1 := Option.some.inj a1
    have i2 := Option.some.inj a2
    have i3 := Option.some.inj a3
    injection i1 with i1 _ _
    injection i2 with i2 _ _
    injection i3 with i3 _ _
    subst i1
    subst i2
    subst i3
    exact ⟨k1, k2, k3⟩
  have bS := fun z (hz : CuL B (fun q _ => q = b1 ∨ q = b2 ∨ q = b3) y z) (hb : Bx z b1 (rowW (mk2 g.st)) 26) => keptW_any z B b1 cS sS g.st hL.out.ge.1 hb (fun u hu => (gu.out u (hz.trans (hu.mono fun q _ _ e => .inl e))).1) n1
  have bP := fun z (hz : CuL B (fun q _ => q = b1 ∨ q = b2 ∨ q = b3) y z) (hb : Bx z b2 (rowB (mk3 g.pg)) 5) => kept18_any z B b2 cP sP g.pg hL.out.ge.2.1 hb (fun u hu => (gu.out u (hz.trans (hu.mono fun q _ _ e => .inr (.inl e)))).2.1) n2
  have bM := fun z (hz : CuL B (fun q _ => q = b1 ∨ q = b2 ∨ q = b3) y z) (hb : Bx z b3 (rowB (mk3 g.me)) 5) => kept18_any z B b3 cM sM g.me hL.out.ge.2.2 hb (fun u hu => (gu.out u (hz.trans (hu.mono fun q _ _ e => .inr (.inr e)))).2.2) n3
  obtain ⟨n, hn⟩ : ∃ x, g.st.length = x := ⟨_, rfl⟩
  obtain ⟨l1, hl1⟩ : ∃ x, g.pg.length = x := ⟨_, rfl⟩
  obtain ⟨l3, hl3⟩ : ∃ x, g.me.length = x := ⟨_, rfl⟩
  rw [hn] at bS
  rw [hl1] at bP
  rw [hl3] at bM
  have fa : Hid (C[18]? = some (.slice sS n cS) ∧ C[21]? = some (.slice sP l1 cP) ∧ C[22]? = some (.slice sM l3 cM)) := by
    rw [eC, hn, hl1, hl3]
    exact ⟨rfl, rfl, rfl⟩
  have fb : Hid (C'[18]? = some (.slice (some ⟨b1, 0, none⟩) n (n + 2)) ∧ C'[21]? = some (.slice (some ⟨b2, 0, none⟩) l1 (l1 + 3)) ∧ C'[22]? = some (.slice (some ⟨b3, 0, none⟩) l3 (l3 + 3))) := by
    rw [hL.out.c, hn, hl1, hl3]
    exact ⟨rfl, rfl, rfl⟩
  have K0 : Hid (CuL B (fun q _ => q = b1 ∨ q = b2 ∨ q = b3) y ((y.alloc (.cells C' 29)).alloc (.cells C 29)) ∧ Fm y [(y.heap.size, C', 29), (y.heap.size + 1, C, 29)] ((y.alloc (.cells C' 29)).alloc (.cells C 29)) ∧ Bx ((y.alloc (.cells C' 29)).alloc (.cells C 29)) b1 (rowW (mk2 g.st)) 26 ∧ Bx ((y.alloc (.cells C' 29)).alloc (.cells C 29)) b2 (rowB (mk3 g.pg)) 5 ∧ Bx ((y.alloc (.cells C' 29)).alloc (.cells C 29)) b3 (rowB (mk3 g.me)) 5) := by
    have F := Fm.two y C' C 29 29
    exact ⟨CuL.of_below F.low hB.out, F, (F.low.block _ (heap_lt hL.out.s)).trans hL.out.s, (F.low.block _ (heap_lt hL.out.p)).trans hL.out.p, (F.low.block _ (heap_lt hL.out.m)).trans hL.out.m⟩
  have stay : Hid (∀ (z z' : World) (b : Nat) (cs : Array Value) (t : TypeId), CuL B (fun q _ => q = b) z z' → Bx z b cs t → (t = 5 ∨ t = 26) → ∀ q c, Bx z q c 29 → Bx z' q c 29) := fun z z' b cs t hu hb ht q c hq =>
    (hu.blk q (heap_lt hq) fun j e => Bx.unlike hq hb (by rcases ht with rfl | rfl <;> decide) e).trans hq
  have ne3 : Hid (b2 ≠ b3) := hL.out.ne
  obtain ⟨RS, hRS⟩ : ∃ x, rowW (mk2 g.st) = x := ⟨_, rfl⟩
  obtain ⟨RP, hRP⟩ : ∃ x, rowB (mk3 g.pg) = x := ⟨_, rfl⟩
  obtain ⟨RM, hRM⟩ : ∃ x, rowB (mk3 g.me) = x := ⟨_, rfl⟩
  rw [hRS, hRP, hRM] at K0
  rw [hRS] at bS
  rw [hRP] at bP
  rw [hRM] at bM
  clear hn hl1 hl3 n1 n2 n3 ok eC hRS hRP hRM gu hg hL
  go_enter Try.func17, Try.ntmps17
  go_wp2_with (first
    | (go_at_call 9; (with_reducible refine (bM y2 K2.out.1 K2.out.2.2.2.2).mono ?_); rintro e y3 ⟨rfl, H3⟩; have K3 : Hid (CuL B (fun q _ => q = b1 ∨ q = b2 ∨ q = b3) y y3) := K2.out.1.trans (H3.out.mono fun q _ _ e => .inr (.inr e)); clear H3)
    | (go_at_call 9; (with_reducible refine (bP y1 K1.out.1 K1.out.2.2.2.1).mono ?_); rintro e y2 ⟨rfl, H2⟩; have K2 : Hid (CuL B (fun q _ => q = b1 ∨ q = b2 ∨ q = b3) y y2 ∧ Bx y2 y.heap.size C' 29 ∧ Bx y2 (y.heap.size + 1) C 29 ∧ True ∧ Bx y2 b3 RM 5) := ⟨K1.out.1.trans (H2.out.mono fun q _ _ e => .inr (.inl e)), stay.out _ _ _ _ _ H2.out K1.out.2.2.2.1 (.inl rfl) _ _ K1.out.2.1, stay.out _ _ _ _ _ H2.out K1.out.2.2.2.1 (.inl rfl) _ _ K1.out.2.2.1, trivial, (H2.out.blk b3 (heap_lt K1.out.2.2.2.2) fun j e => ne3.out e.symm).trans K1.out.2.2.2.2⟩; have m22 := K2.out.2.1.c 22 _ fb.out.2.2; have k22 := K2.out.2.2.1.c 22 _ fa.out.2.2; clear H2)
    | (go_at_call 27; (with_reducible refine (bS y0 K00.out.1 K00.out.2.2.1).mono ?_); rintro e y1 ⟨rfl, H1⟩; have K1 : Hid (CuL B (fun q _ => q = b1 ∨ q = b2 ∨ q = b3) y y1 ∧ Bx y1 y.heap.size C' 29 ∧ Bx y1 (y.heap.size + 1) C 29 ∧ Bx y1 b2 RP 5 ∧ Bx y1 b3 RM 5) := ⟨K00.out.1.trans (H1.out.mono fun q _ _ e => .inl e), stay.out _ _ _ _ _ H1.out K00.out.2.2.1 (.inr rfl) _ _ (K00.out.2.1.bx 0 _ _ _ rfl), stay.out _ _ _ _ _ H1.out K00.out.2.2.1 (.inr rfl) _ _ (K00.out.2.1.bx 1 _ _ _ rfl), (H1.out.blk b2 (heap_lt K00.out.2.2.2.1) fun j e => Bx.unlike K00.out.2.2.2.1 K00.out.2.2.1 (by decide) e).trans K00.out.2.2.2.1, (H1.out.blk b3 (heap_lt K00.out.2.2.2.2) fun j e => Bx.unlike K00.out.2.2.2.2 K00.out.2.2.1 (by decide) e).trans K00.out.2.2.2.2⟩; have m21 := K1.out.2.1.c 21 _ fb.out.2.1; have k21 := K1.out.2.2.1.c 21 _ fa.out.2.1; clear H1)
    | ((with_reducible refine gen_world ((y.alloc (.cells C' 29)).alloc (.cells C 29)) (fun u => CuL B (fun q _ => q = b1 ∨ q = b2 ∨ q = b3) y u ∧ Fm y [(y.heap.size, C', 29), (y.heap.size + 1, C, 29)] u ∧ Bx u b1 RS 26 ∧ Bx u b2 RP 5 ∧ Bx u b3 RM 5) ?_ ?_); exact K0.out; intro y0 K00; have m18 := (K00.out.2.1.bx 0 _ _ _ rfl).c 18 _ fb.out.1; have k18 := (K00.out.2.1.bx 1 _ _ _ rfl).c 18 _ fa.out.1))
  go_ret
  exact ⟨rfl, K3⟩
end Go.Proofs.Ytigiebfdaiccdaa

namespace Go.Proofs.Ytigiebfdaiccdaa
open Go Go.RowKit Go.Shelf
set_option linter.unusedVariables false
set_option maxHeartbeats 1000000
set_option maxRecDepth 20000

theorem oz_one : (#[.int .u8 0, .int .u8 0, .int .u8 0, .int .u8 0, .int .u8 0, .int .u16 0] : Array Value).all (·.oneCell') = true := by simp [Value.oneCell']
theorem rnext_bad (w : World) (C : Array Value) (g : Gm) (hg : Hid (GL w C g)) (hm : Hid (g.may = false)) :
    Calls Try.prog 19 #[.agg C] w fun e w' => e = .returned (.tuple #[.agg (o6 od0), .int .u8 0]) ∧ Below w.heap.size w w' := by
  have gC : Hid (C.size = 23) := hg.out.size.1
  obtain ⟨OZ, hOZ⟩ : ∃ x : Array Value, Hid (x = #[.int .u8 0, .int .u8 0, .int .u8 0, .int .u8 0, .int .u8 0, .int .u16 0]) := ⟨(#[.int .u8 0, .int .u8 0, .int .u8 0, .int .u8 0, .int .u8 0, .int .u16 0] : Array Value), (rfl : (#[.int .u8 0, .int .u8 0, .int .u8 0, .int .u8 0, .int .u8 0, .int .u16 0] : Array Value) = #[.int .u8 0, .int .u8 0, .int .u8 0, .int .u8 0, .int .u8 0, .int .u16 0])⟩
  have hOZ' : Hid (OZ.size = 6) := by show _ = _; rw [hOZ.out]; rfl
  go_enter Try.func19, Try.ntmps19
  go_wp2_with (first
    | (go_at_call 18; refine (rcheck_gl y0 C g (hg.out.below K0.out.low)).mono ?_; rintro e y1 ⟨rfl, H⟩; have K1 : Hid (Fm w [(w.heap.size, C, 29), (w.heap.size + 1, OZ, 45)] y1) := K0.out.below H; rw [hm.out]; clear H)
    | ((with_reducible refine at_st rtO (w.heap.size + 1) OZ #[.int .u8 0, .int .u8 0, .int .u8 0, .int .u8 0, .int .u8 0, .int .u16 0] ?_ ?_ ?_ ?_ (.tmp 2) (.tmp 11) ?_ ?_ ?_ ?_ ?_); exact K1.out.bx 1 _ _ _ rfl; exact hOZ'.out; rfl; exact oz_one; rfl; rfl; rfl; rfl; intro yE HE; have KE : Hid (Fm w [(w.heap.size, C, 29), (w.heap.size + 1, #[.int .u8 0, .int .u8 0, .int .u8 0, .int .u8 0, .int .u8 0, .int .u16 0], 45)] yE) := K1.out.put 1 _ _ _ _ rfl HE.out)
    | ((with_reducible refine at_bu #[] [] #[.int .u8 0, .int .u8 0, .int .u8 0, .int .u8 0, .int .u8 0, .int .u16 0] ?_ ?_ ?_ builtO0 ?_); kernel_rfl; rfl; rfl)
    | ((with_reducible refine gen_world ((w.alloc (.cells C 29)).alloc (.cells #[.int .u8 0, .int .u8 0, .int .u8 0, .int .u8 0, .int .u8 0, .int .u16 0] 45)) (Fm w [(w.heap.size, C, 29), (w.heap.size + 1, OZ, 45)]) ?_ ?_); (rw [hOZ.out]; exact Fm.two w _ _ _ _); intro y0 K0)
    | ((with_reducible refine at_load rtG w.heap.size C ?_ ?_ (.tmp 1) ?_ ?_ ?_ ?_); exact K0.out.bx 0 _ _ _ rfl; exact gC.out; kernel_rfl; rfl; rfl))
  exact ret_two rtO rfl rfl rfl (KE.out.bx 1 _ _ _ rfl) rfl rfl ⟨rfl, KE.out.low⟩
theorem rnext_outa (w : World) (C : Array Value) (g : Gm) (hg : Hid (GL w C g)) (hm : Hid (g.may = true)) (h1 : inM g.pc = false) :
    Calls Try.prog 19 #[.agg C] w fun e w' => e = .returned (.tuple #[.agg (o6 od0), .int .u8 7]) ∧ Below w.heap.size w w' := by
  have gC : Hid (C.size = 23) := hg.out.size.1
  obtain ⟨OZ, hOZ⟩ : ∃ x : Array Value, Hid (x = #[.int .u8 0, .int .u8 0, .int .u8 0, .int .u8 0, .int .u8 0, .int .u16 0]) := ⟨(#[.int .u8 0, .int .u8 0, .int .u8 0, .int .u8 0, .int .u8 0, .int .u16 0] : Array Value), (rfl : (#[.int .u8 0, .int .u8 0, .int .u8 0, .int .u8 0, .int .u8 0, .int .u16 0] : Array Value) = #[.int .u8 0, .int .u8 0, .int .u8 0, .int .u8 0, .int .u8 0, .int .u16 0])⟩
  have hOZ' : Hid (OZ.size = 6) := by show _ = _; rw [hOZ.out]; rfl
  have hpc := hg.out.ok.pc
  have fC : Hid (C[17]? = some (.int .u16 (g.pc : Int)) ∧ True) := ⟨by obtain ⟨⟨sS, sP, sM, cS, cP, cM, e, _⟩, _⟩ := hg.out; rw [e]; rfl, trivial⟩
  obtain ⟨p, hp⟩ : ∃ x, g.pc = x := ⟨_, rfl⟩
  rw [hp] at hpc fC h1
  have i0 : (p : Int) < 65536 := by omega
  have im1 := fun y => inmem_any y p (by omega)
  rw [h1] at im1
  replace im1 : Hid (∀ y, Calls Try.prog 28 #[.int .i64 (p : Int)] y fun e w' => e = .returned (.bool false) ∧ w' = y) := im1
  clear hpc h1 hp
  go_enter Try.func19, Try.ntmps19
  go_wp2_with (first
    | (go_at_call 28; (with_reducible refine (im1.out y1).mono ?_); rintro e yp ⟨rfl, ep⟩; replace ep := ep.symm; subst ep)
    | (go_at_call 18; refine (rcheck_gl y0 C g (hg.out.below K0.out.low)).mono ?_; rintro e y1 ⟨rfl, H⟩; have K1 : Hid (Fm w [(w.heap.size, C, 29), (w.heap.size + 1, OZ, 45)] y1) := K0.out.below H; rw [hm.out]; clear H; have c17 := (K1.out.bx 0 _ _ _ rfl).c 17 _ fC.out.1)
    | ((with_reducible refine at_st rtO (w.heap.size + 1) OZ #[.int .u8 0, .int .u8 0, .int .u8 0, .int .u8 0, .int .u8 0, .int .u16 0] ?_ ?_ ?_ ?_ (.tmp 2) (.tmp 24) ?_ ?_ ?_ ?_ ?_); exact K1.out.bx 1 _ _ _ rfl; exact hOZ'.out; rfl; exact oz_one; rfl; rfl; rfl; rfl; intro yE HE; have KE : Hid (Fm w [(w.heap.size, C, 29), (w.heap.size + 1, #[.int .u8 0, .int .u8 0, .int .u8 0, .int .u8 0, .int .u8 0, .int .u16 0], 45)] yE) := K1.out.put 1 _ _ _ _ rfl HE.out)
    | ((with_reducible refine at_bu #[] [] #[.int .u8 0, .int .u8 0, .int .u8 0, .int .u8 0, .int .u8 0, .int .u16 0] ?_ ?_ ?_ builtO0 ?_); kernel_rfl; rfl; rfl)
    | ((with_reducible refine gen_world ((w.alloc (.cells C 29)).alloc (.cells #[.int .u8 0, .int .u8 0, .int .u8 0, .int .u8 0, .int .u8 0, .int .u16 0] 45)) (Fm w [(w.heap.size, C, 29), (w.heap.size + 1, OZ, 45)]) ?_ ?_); (rw [hOZ.out]; exact Fm.two w _ _ _ _); intro y0 K0)
    | ((with_reducible refine at_load rtG w.heap.size C ?_ ?_ (.tmp 1) ?_ ?_ ?_ ?_); exact K0.out.bx 0 _ _ _ rfl; exact gC.out; kernel_rfl; rfl; rfl))
  exact ret_two rtO rfl rfl rfl (KE.out.bx 1 _ _ _ rfl) rfl rfl ⟨rfl, KE.out.low⟩
theorem rnext_outb (w : World) (C : Array Value) (g : Gm) (hg : Hid (GL w C g)) (hm : Hid (g.may = true)) (h1 : inM g.pc = true) (h2 : inM (g.pc + 1) = false) :
    Calls Try.prog 19 #[.agg C] w fun e w' => e = .returned (.tuple #[.agg (o6 od0), .int .u8 7]) ∧ Below w.heap.size w w' := by
  have gC : Hid (C.size = 23) := hg.out.size.1
  obtain ⟨OZ, hOZ⟩ : ∃ x : Array Value, Hid (x = #[.int .u8 0, .int .u8 0, .int .u8 0, .int .u8 0, .int .u8 0, .int .u16 0]) := ⟨(#[.int .u8 0, .int .u8 0, .int .u8 0, .int .u8 0, .int .u8 0, .int .u16 0] : Array Value), (rfl : (#[.int .u8 0, .int .u8 0, .int .u8 0, .int .u8 0, .int .u8 0, .int .u16 0] : Array Value) = #[.int .u8 0, .int .u8 0, .int .u8 0, .int .u8 0, .int .u8 0, .int .u16 0])⟩
  have hOZ' : Hid (OZ.size = 6) := by show _ = _; rw [hOZ.out]; rfl
  have hpc := hg.out.ok.pc
  have fC : Hid (C[17]? = some (.int .u16 (g.pc : Int)) ∧ True) := ⟨by obtain ⟨⟨sS, sP, sM, cS, cP, cM, e, _⟩, _⟩ := hg.out; rw [e]; rfl, trivial⟩
  obtain ⟨p, hp⟩ : ∃ x, g.pc = x := ⟨_, rfl⟩
  rw [hp] at hpc fC h1 h2
  have i0 : (p : Int) < 65536 := by omega
  have im1 := fun y => inmem_any y p (by omega)
  rw [h1] at im1
  obtain ⟨p1, hp1⟩ : ∃ x, p + 1 = x := ⟨_, rfl⟩
  have e1 : (p : Int) + 1 = (p1 : Int) := by omega
  have im2 := fun y => inmem_any y p1 (by omega)
  rw [← hp1, h2, hp1] at im2
  replace im1 : Hid (∀ y, Calls Try.prog 28 #[.int .i64 (p : Int)] y fun e w' => e = .returned (.bool true) ∧ w' = y) := im1
  replace im2 : Hid (∀ y, Calls Try.prog 28 #[.int .i64 (p1 : Int)] y fun e w' => e = .returned (.bool false) ∧ w' = y) := im2
  clear hp1 h2
  clear hpc h1 hp
  go_enter Try.func19, Try.ntmps19
  go_wp2_with (first
    | (go_at_call 28; (with_reducible refine (im2.out y1).mono ?_); rintro e yp ⟨rfl, ep⟩; replace ep := ep.symm; subst ep)
    | (go_at_call 28; (with_reducible refine (im1.out y1).mono ?_); rintro e yp ⟨rfl, ep⟩; replace ep := ep.symm; subst ep)
    | (go_at_call 18; refine (rcheck_gl y0 C g (hg.out.below K0.out.low)).mono ?_; rintro e y1 ⟨rfl, H⟩; have K1 : Hid (Fm w [(w.heap.size, C, 29), (w.heap.size + 1, OZ, 45)] y1) := K0.out.below H; rw [hm.out]; clear H; have c17 := (K1.out.bx 0 _ _ _ rfl).c 17 _ fC.out.1)
    | ((with_reducible refine at_st rtO (w.heap.size + 1) OZ #[.int .u8 0, .int .u8 0, .int .u8 0, .int .u8 0, .int .u8 0, .int .u16 0] ?_ ?_ ?_ ?_ (.tmp 2) (.tmp 24) ?_ ?_ ?_ ?_ ?_); exact K1.out.bx 1 _ _ _ rfl; exact hOZ'.out; rfl; exact oz_one; rfl; rfl; rfl; rfl; intro yE HE; have KE : Hid (Fm w [(w.heap.size, C, 29), (w.heap.size + 1, #[.int .u8 0, .int .u8 0, .int .u8 0, .int .u8 0, .int .u8 0, .int .u16 0], 45)] yE) := K1.out.put 1 _ _ _ _ rfl HE.out)
    | ((with_reducible refine at_bu #[] [] #[.int .u8 0, .int .u8 0, .int .u8 0, .int .u8 0, .int .u8 0, .int .u16 0] ?_ ?_ ?_ builtO0 ?_); kernel_rfl; rfl; rfl)
    | ((with_reducible refine gen_world ((w.alloc (.cells C 29)).alloc (.cells #[.int .u8 0, .int .u8 0, .int .u8 0, .int .u8 0, .int .u8 0, .int .u16 0] 45)) (Fm w [(w.heap.size, C, 29), (w.heap.size + 1, OZ, 45)]) ?_ ?_); (rw [hOZ.out]; exact Fm.two w _ _ _ _); intro y0 K0)
    | ((with_reducible refine at_load rtG w.heap.size C ?_ ?_ (.tmp 1) ?_ ?_ ?_ ?_); exact K0.out.bx 0 _ _ _ rfl; exact gC.out; kernel_rfl; rfl; rfl))
  exact ret_two rtO rfl rfl rfl (KE.out.bx 1 _ _ _ rfl) rfl rfl ⟨rfl, KE.out.low⟩
theorem rnext_none (w : World) (C : Array Value) (g : Gm) (hg : Hid (GL w C g)) (hm : Hid (g.may = true)) (hf1 : inM g.pc = true) (hf2 : inM (g.pc + 1) = true) (WD : Nat) (OD : Od) (hWD : wordG g = WD) (hOD : decO WD = OD) (hdb : Hid (decB WD = false)) :
    Calls Try.prog 19 #[.agg C] w fun e w' => e = .returned (.tuple #[.agg (o6 od0), .int .u8 4]) ∧ Below w.heap.size w w' := by
  have gC : Hid (C.size = 23) := hg.out.size.1
  obtain ⟨OZ, hOZ⟩ : ∃ x : Array Value, Hid (x = #[.int .u8 0, .int .u8 0, .int .u8 0, .int .u8 0, .int .u8 0, .int .u16 0]) := ⟨(#[.int .u8 0, .int .u8 0, .int .u8 0, .int .u8 0, .int .u8 0, .int .u16 0] : Array Value), (rfl : (#[.int .u8 0, .int .u8 0, .int .u8 0, .int .u8 0, .int .u8 0, .int .u16 0] : Array Value) = #[.int .u8 0, .int .u8 0, .int .u8 0, .int .u8 0, .int .u8 0, .int .u16 0])⟩
  have hOZ' : Hid (OZ.size = 6) := by show _ = _; rw [hOZ.out]; rfl
  have hpc := hg.out.ok.pc
  have hml := (may_iff.1 hm.out).2.1
  have hin : 512 ≤ g.pc ∧ g.pc + 1 < 3744 := by unfold inM at hf1 hf2; simp at hf1 hf2; omega
  obtain ⟨⟨sS, sP, sM, cS, cP, cM, hC, h1, h2, h3⟩, ok⟩ := hg.out
  obtain ⟨gM, oM, rfl⟩ := lb_some h3 (by omega)
  have fC : Hid (C[17]? = some (.int .u16 (g.pc : Int)) ∧ C[22]? = some (.slice (some ⟨gM, oM, none⟩) 3232 cM)) := by rw [hC, hml]; exact ⟨rfl, rfl⟩
  obtain ⟨at_, hat⟩ : ∃ x, g.pc - 512 = x := ⟨_, rfl⟩
  obtain ⟨at1, hat1⟩ : ∃ x, at_ + 1 = x := ⟨_, rfl⟩
  have ca := lb_at h3 at_ (by omega)
  have cb := lb_at h3 at1 (by omega)
  obtain ⟨Hh, hH⟩ : ∃ x, (g.me.getD at_ 0).toNat = x := ⟨_, rfl⟩
  obtain ⟨Ll, hL⟩ : ∃ x, (g.me.getD at1 0).toNat = x := ⟨_, rfl⟩
  have lH := (g.me.getD at_ 0).toNat_lt
  have lL := (g.me.getD at1 0).toNat_lt
  rw [hH] at ca lH
  rw [hL] at cb lL
  have eWD : WD = Hh * 256 + Ll := by rw [← hWD]; unfold wordG; rw [show g.pc + 1 - 512 = at1 by omega, hat, hH, hL]
  have hdec := fun y => rdec_any y WD (by omega)
  rw [hdb.out, hOD] at hdec
  replace hdec : Hid (∀ y, Calls Try.prog 29 #[.int .u16 (WD : Int)] y fun e w' => e = .returned (.tuple #[.agg (o6 OD), .bool false]) ∧ Below y.heap.size y w') := hdec
  obtain ⟨HH, hHH⟩ : ∃ x, Hh * 256 = x := ⟨_, rfl⟩
  obtain ⟨p, hp⟩ : ∃ x, g.pc = x := ⟨_, rfl⟩
  obtain ⟨p1, hp1⟩ : ∃ x, p + 1 = x := ⟨_, rfl⟩
  rw [hp] at fC hf1 hf2
  have im1 := fun y => inmem_any y p (by omega)
  rw [hf1] at im1
  have im2 := fun y => inmem_any y p1 (by omega)
  rw [← hp1, hf2, hp1] at im2
  replace im1 : Hid (∀ y, Calls Try.prog 28 #[.int .i64 (p : Int)] y fun e w' => e = .returned (.bool true) ∧ w' = y) := im1
  replace im2 : Hid (∀ y, Calls Try.prog 28 #[.int .i64 (p1 : Int)] y fun e w' => e = .returned (.bool true) ∧ w' = y) := im2
  have ia1 := fun v => idxB .i64 gM oM 3232 cM at_ v (by omega)
  have ia2 := fun v => idxB .i64 gM oM 3232 cM at1 v (by omega)
  have e1 : (p : Int) + 1 = (p1 : Int) := by omega
  have e2 : (p : Int) - 512 = (at_ : Int) := by omega
  have e3 : (p1 : Int) - 512 = (at1 : Int) := by omega
  have e4 : (Hh : Int) * 256 = (HH : Int) := by omega
  have e5 : (HH : Int) + (Ll : Int) = (WD : Int) := by omega
  have i0 : (p : Int) < 65536 := by omega
  have i00 : (p1 : Int) < 65536 := by omega
  have i1 : (at_ : Int) ≤ 3231 := by omega
  have i2 : (at1 : Int) ≤ 3231 := by omega
  have i4 : (Hh : Int) < 256 := by omega
  have i5 : (Ll : Int) < 256 := by omega
  have i6 : (HH : Int) < 65536 := by omega
  have i7 : (WD : Int) < 65536 := by omega
  have cc0 : Hid (w.cell? ⟨gM, oM + at_, none⟩ = some (.int .u8 (Hh : Int)) ∧ w.cell? ⟨gM, oM + at1, none⟩ = some (.int .u8 (Ll : Int)) ∧ gM < w.heap.size) := ⟨ca, cb, World.block_lt_of_cell? w _ ca⟩
  obtain ⟨OO, hOO⟩ : ∃ x, Hid (x = o6 OD) := ⟨_, (rfl : o6 OD = _)⟩
  rw [← hOO.out] at hdec
  have hOO' : Hid (OO.size = 6 ∧ OO.all (·.oneCell') = true ∧ OO[0]? = some (.int .u8 (OD.op : Int))) := by rw [hOO.out]; exact ⟨rfl, o6_one _, rfl⟩
  clear hf1 hf2 hC h1 h2 h3 ok hml hat hat1 ca cb hH hL lH lL hWD eWD hOD hHH hp hp1 hin hpc
  go_enter Try.func19, Try.ntmps19
  go_upto_region 6 with (first
    | (go_at_call 28; (with_reducible refine (im2.out y1).mono ?_); rintro e yp ⟨rfl, ep⟩; replace ep := ep.symm; subst ep)
    | (go_at_call 28; (with_reducible refine (im1.out y1).mono ?_); rintro e yp ⟨rfl, ep⟩; replace ep := ep.symm; subst ep)
    | (go_at_call 18; refine (rcheck_gl y0 C g (hg.out.below K0.out.low)).mono ?_; rintro e y1 ⟨rfl, H⟩; have K1 : Hid (Fm w [(w.heap.size, C, 29), (w.heap.size + 1, OZ, 45)] y1) := K0.out.below H; rw [hm.out]; clear H; have c17 := (K1.out.bx 0 _ _ _ rfl).c 17 _ fC.out.1)
    | ((with_reducible refine gen_world ((w.alloc (.cells C 29)).alloc (.cells #[.int .u8 0, .int .u8 0, .int .u8 0, .int .u8 0, .int .u8 0, .int .u16 0] 45)) (Fm w [(w.heap.size, C, 29), (w.heap.size + 1, OZ, 45)]) ?_ ?_); (rw [hOZ.out]; exact Fm.two w _ _ _ _); intro y0 K0)
    | ((with_reducible refine at_load rtG w.heap.size C ?_ ?_ (.tmp 1) ?_ ?_ ?_ ?_); exact K0.out.bx 0 _ _ _ rfl; exact gC.out; kernel_rfl; rfl; rfl))
  have d1 := (K1.out.low.cell (p := ⟨gM, oM + at_, none⟩) cc0.out.2.2).trans cc0.out.1
  have d2 := (K1.out.low.cell (p := ⟨gM, oM + at1, none⟩) cc0.out.2.2).trans cc0.out.2.1
  have c22 := (K1.out.bx 0 _ _ _ rfl).c 22 _ fC.out.2
  have K1n : Hid (∀ q, Fm w [(w.heap.size, C, 29), (w.heap.size + 1, OZ, 45)] (y1.drewN q)) := fun q => K1.out.below (below_drewN (Below.refl _ _))
  go_quiet (fail)
  rename_i nq _
  have K2 : Hid (Fm w [(w.heap.size, C, 29), (w.heap.size + 1, OZ, 45)] (y1.drewN nq)) := K1n.out nq
  generalize y1.drewN nq = y2 at K2 ⊢
  clear d1 d2 c22 c17 K1 K1n
  go_wp2_with (first
    | ((with_reducible refine at_st rtO (w.heap.size + 1) OZ #[.int .u8 0, .int .u8 0, .int .u8 0, .int .u8 0, .int .u8 0, .int .u16 0] ?_ ?_ ?_ ?_ (.tmp 2) (.tmp 49) ?_ ?_ ?_ ?_ ?_); exact K5.out.bx 1 _ _ _ rfl; exact hOZ'.out; rfl; exact oz_one; rfl; rfl; rfl; rfl; intro yE HE; have KE : Hid (Fm w [(w.heap.size, C, 29), (w.heap.size + 1, #[.int .u8 0, .int .u8 0, .int .u8 0, .int .u8 0, .int .u8 0, .int .u16 0], 45), (y3.heap.size, OO, 45)] yE) := K5.out.put 1 _ _ _ _ rfl HE.out)
    | ((with_reducible refine at_bu #[] [] #[.int .u8 0, .int .u8 0, .int .u8 0, .int .u8 0, .int .u8 0, .int .u16 0] ?_ ?_ ?_ builtO0 ?_); kernel_rfl; rfl; rfl)
    | ((with_reducible refine at_st rtO y3.heap.size #[.int .u8 0, .int .u8 0, .int .u8 0, .int .u8 0, .int .u8 0, .int .u16 0] OO ?_ ?_ ?_ ?_ (.tmp 6) (.tmp 45) ?_ ?_ ?_ ?_ ?_); exact K4.out.bx 2 _ _ _ rfl; rfl; exact hOO'.out.1; exact hOO'.out.2.1; rfl; rfl; rfl; rfl; intro y5 H5; have K5 : Hid (Fm w [(w.heap.size, C, 29), (w.heap.size + 1, OZ, 45), (y3.heap.size, OO, 45)] y5) := K4.out.put 2 _ _ _ _ rfl H5.out; have cop := (K5.out.bx 2 _ _ _ rfl).c 0 _ hOO'.out.2.2; clear H5)
    | ((with_reducible refine gen_world (y3.alloc (.cells #[.int .u8 0, .int .u8 0, .int .u8 0, .int .u8 0, .int .u8 0, .int .u16 0] 45)) (Fm w [(w.heap.size, C, 29), (w.heap.size + 1, OZ, 45), (y3.heap.size, #[.int .u8 0, .int .u8 0, .int .u8 0, .int .u8 0, .int .u8 0, .int .u16 0], 45)]) ?_ ?_); exact K3.out.new _ _; intro y4 K4)
    | (go_at_call 29; refine (hdec.out y2).mono ?_; rintro e y3 ⟨rfl, H⟩; have K3 : Hid (Fm w [(w.heap.size, C, 29), (w.heap.size + 1, OZ, 45)] y3) := K2.out.below H; clear H))
  exact ret_two rtO rfl rfl rfl (KE.out.bx 1 _ _ _ rfl) rfl rfl ⟨rfl, KE.out.low⟩
theorem rnext_machine (w : World) (C : Array Value) (g : Gm) (hg : Hid (GL w C g)) (hm : Hid (g.may = true)) (hf1 : inM g.pc = true) (hf2 : inM (g.pc + 1) = true) (WD : Nat) (OD : Od) (hWD : wordG g = WD) (hOD : decO WD = OD) (hdb : Hid (decB WD = true)) (hop : Hid (OD.op = 1)) :
    Calls Try.prog 19 #[.agg C] w fun e w' => e = .returned (.tuple #[.agg (o6 OD), .int .u8 3]) ∧ Below w.heap.size w w' := by
  have gC : Hid (C.size = 23) := hg.out.size.1
  obtain ⟨OZ, hOZ⟩ : ∃ x : Array Value, Hid (x = #[.int .u8 0, .int .u8 0, .int .u8 0, .int .u8 0, .int .u8 0, .int .u16 0]) := ⟨(#[.int .u8 0, .int .u8 0, .int .u8 0, .int .u8 0, .int .u8 0, .int .u16 0] : Array Value), (rfl : (#[.int .u8 0, .int .u8 0, .int .u8 0, .int .u8 0, .int .u8 0, .int .u16 0] : Array Value) = #[.int .u8 0, .int .u8 0, .int .u8 0, .int .u8 0, .int .u8 0, .int .u16 0])⟩
  have hOZ' : Hid (OZ.size = 6) := by show _ = _; rw [hOZ.out]; rfl
  have hpc := hg.out.ok.pc
  have hml := (may_iff.1 hm.out).2.1
  have hin : 512 ≤ g.pc ∧ g.pc + 1 < 3744 := by unfold inM at hf1 hf2; simp at hf1 hf2; omega
  obtain ⟨⟨sS, sP, sM, cS, cP, cM, hC, h1, h2, h3⟩, ok⟩ := hg.out
  obtain ⟨gM, oM, rfl⟩ := lb_some h3 (by omega)
  have fC : Hid (C[17]? = some (.int .u16 (g.pc : Int)) ∧ C[22]? = some (.slice (some ⟨gM, oM, none⟩) 3232 cM)) := by rw [hC, hml]; exact ⟨rfl, rfl⟩
  obtain ⟨at_, hat⟩ : ∃ x, g.pc - 512 = x := ⟨_, rfl⟩
  obtain ⟨at1, hat1⟩ : ∃ x, at_ + 1 = x := ⟨_, rfl⟩
  have ca := lb_at h3 at_ (by omega)
  have cb := lb_at h3 at1 (by omega)
  obtain ⟨Hh, hH⟩ : ∃ x, (g.me.getD at_ 0).toNat = x := ⟨_, rfl⟩
  obtain ⟨Ll, hL⟩ : ∃ x, (g.me.getD at1 0).toNat = x := ⟨_, rfl⟩
  have lH := (g.me.getD at_ 0).toNat_lt
  have lL := (g.me.getD at1 0).toNat_lt
  rw [hH] at ca lH
  rw [hL] at cb lL
  have eWD : WD = Hh * 256 + Ll := by rw [← hWD]; unfold wordG; rw [show g.pc + 1 - 512 = at1 by omega, hat, hH, hL]
  have hdec := fun y => rdec_any y WD (by omega)
  rw [hdb.out, hOD] at hdec
  replace hdec : Hid (∀ y, Calls Try.prog 29 #[.int .u16 (WD : Int)] y fun e w' => e = .returned (.tuple #[.agg (o6 OD), .bool true]) ∧ Below y.heap.size y w') := hdec
  obtain ⟨HH, hHH⟩ : ∃ x, Hh * 256 = x := ⟨_, rfl⟩
  obtain ⟨p, hp⟩ : ∃ x, g.pc = x := ⟨_, rfl⟩
  obtain ⟨p1, hp1⟩ : ∃ x, p + 1 = x := ⟨_, rfl⟩
  rw [hp] at fC hf1 hf2
  have im1 := fun y => inmem_any y p (by omega)
  rw [hf1] at im1
  have im2 := fun y => inmem_any y p1 (by omega)
  rw [← hp1, hf2, hp1] at im2
  replace im1 : Hid (∀ y, Calls Try.prog 28 #[.int .i64 (p : Int)] y fun e w' => e = .returned (.bool true) ∧ w' = y) := im1
  replace im2 : Hid (∀ y, Calls Try.prog 28 #[.int .i64 (p1 : Int)] y fun e w' => e = .returned (.bool true) ∧ w' = y) := im2
  have ia1 := fun v => idxB .i64 gM oM 3232 cM at_ v (by omega)
  have ia2 := fun v => idxB .i64 gM oM 3232 cM at1 v (by omega)
  have e1 : (p : Int) + 1 = (p1 : Int) := by omega
  have e2 : (p : Int) - 512 = (at_ : Int) := by omega
  have e3 : (p1 : Int) - 512 = (at1 : Int) := by omega
  have e4 : (Hh : Int) * 256 = (HH : Int) := by omega
  have e5 : (HH : Int) + (Ll : Int) = (WD : Int) := by omega
  have i0 : (p : Int) < 65536 := by omega
  have i00 : (p1 : Int) < 65536 := by omega
  have i1 : (at_ : Int) ≤ 3231 := by omega
  have i2 : (at1 : Int) ≤ 3231 := by omega
  have i4 : (Hh : Int) < 256 := by omega
  have i5 : (Ll : Int) < 256 := by omega
  have i6 : (HH : Int) < 65536 := by omega
  have i7 : (WD : Int) < 65536 := by omega
  have cc0 : Hid (w.cell? ⟨gM, oM + at_, none⟩ = some (.int .u8 (Hh : Int)) ∧ w.cell? ⟨gM, oM + at1, none⟩ = some (.int .u8 (Ll : Int)) ∧ gM < w.heap.size) := ⟨ca, cb, World.block_lt_of_cell? w _ ca⟩
  obtain ⟨OO, hOO⟩ : ∃ x, Hid (x = o6 OD) := ⟨_, (rfl : o6 OD = _)⟩
  rw [← hOO.out] at hdec
  have hOO' : Hid (OO.size = 6 ∧ OO.all (·.oneCell') = true ∧ OO[0]? = some (.int .u8 (OD.op : Int))) := by rw [hOO.out]; exact ⟨rfl, o6_one _, rfl⟩
  clear hf1 hf2 hC h1 h2 h3 ok hml hat hat1 ca cb hH hL lH lL hWD eWD hOD hHH hp hp1 hin hpc
  go_enter Try.func19, Try.ntmps19
  go_upto_region 6 with (first
    | (go_at_call 28; (with_reducible refine (im2.out y1).mono ?_); rintro e yp ⟨rfl, ep⟩; replace ep := ep.symm; subst ep)
    | (go_at_call 28; (with_reducible refine (im1.out y1).mono ?_); rintro e yp ⟨rfl, ep⟩; replace ep := ep.symm; subst ep)
    | (go_at_call 18; refine (rcheck_gl y0 C g (hg.out.below K0.out.low)).mono ?_; rintro e y1 ⟨rfl, H⟩; have K1 : Hid (Fm w [(w.heap.size, C, 29), (w.heap.size + 1, OZ, 45)] y1) := K0.out.below H; rw [hm.out]; clear H; have c17 := (K1.out.bx 0 _ _ _ rfl).c 17 _ fC.out.1)
    | ((with_reducible refine gen_world ((w.alloc (.cells C 29)).alloc (.cells #[.int .u8 0, .int .u8 0, .int .u8 0, .int .u8 0, .int .u8 0, .int .u16 0] 45)) (Fm w [(w.heap.size, C, 29), (w.heap.size + 1, OZ, 45)]) ?_ ?_); (rw [hOZ.out]; exact Fm.two w _ _ _ _); intro y0 K0)
    | ((with_reducible refine at_load rtG w.heap.size C ?_ ?_ (.tmp 1) ?_ ?_ ?_ ?_); exact K0.out.bx 0 _ _ _ rfl; exact gC.out; kernel_rfl; rfl; rfl))
  have d1 := (K1.out.low.cell (p := ⟨gM, oM + at_, none⟩) cc0.out.2.2).trans cc0.out.1
  have d2 := (K1.out.low.cell (p := ⟨gM, oM + at1, none⟩) cc0.out.2.2).trans cc0.out.2.1
  have c22 := (K1.out.bx 0 _ _ _ rfl).c 22 _ fC.out.2
  have K1n : Hid (∀ q, Fm w [(w.heap.size, C, 29), (w.heap.size + 1, OZ, 45)] (y1.drewN q)) := fun q => K1.out.below (below_drewN (Below.refl _ _))
  go_quiet (fail)
  rename_i nq _
  have K2 : Hid (Fm w [(w.heap.size, C, 29), (w.heap.size + 1, OZ, 45)] (y1.drewN nq)) := K1n.out nq
  generalize y1.drewN nq = y2 at K2 ⊢
  clear d1 d2 c22 c17 K1 K1n
  go_wp2_with (first
    | ((with_reducible refine at_st rtO (w.heap.size + 1) OZ OO ?_ ?_ ?_ ?_ (.tmp 2) (.tmp 53) ?_ ?_ ?_ ?_ ?_); exact K5.out.bx 1 _ _ _ rfl; exact hOZ'.out; exact hOO'.out.1; exact hOO'.out.2.1; rfl; rfl; rfl; rfl; intro yE HE; have KE : Hid (Fm w [(w.heap.size, C, 29), (w.heap.size + 1, OO, 45), (y3.heap.size, OO, 45)] yE) := K5.out.put 1 _ _ _ _ rfl HE.out)
    | ((with_reducible refine at_st rtO y3.heap.size #[.int .u8 0, .int .u8 0, .int .u8 0, .int .u8 0, .int .u8 0, .int .u16 0] OO ?_ ?_ ?_ ?_ (.tmp 6) (.tmp 45) ?_ ?_ ?_ ?_ ?_); exact K4.out.bx 2 _ _ _ rfl; rfl; exact hOO'.out.1; exact hOO'.out.2.1; rfl; rfl; rfl; rfl; intro y5 H5; have K5 : Hid (Fm w [(w.heap.size, C, 29), (w.heap.size + 1, OZ, 45), (y3.heap.size, OO, 45)] y5) := K4.out.put 2 _ _ _ _ rfl H5.out; have cop := (K5.out.bx 2 _ _ _ rfl).c 0 _ hOO'.out.2.2; (try rw [hop.out] at cop); clear H5)
    | ((with_reducible refine gen_world (y3.alloc (.cells #[.int .u8 0, .int .u8 0, .int .u8 0, .int .u8 0, .int .u8 0, .int .u16 0] 45)) (Fm w [(w.heap.size, C, 29), (w.heap.size + 1, OZ, 45), (y3.heap.size, #[.int .u8 0, .int .u8 0, .int .u8 0, .int .u8 0, .int .u8 0, .int .u16 0], 45)]) ?_ ?_); exact K3.out.new _ _; intro y4 K4)
    | (go_at_call 29; refine (hdec.out y2).mono ?_; rintro e y3 ⟨rfl, H⟩; have K3 : Hid (Fm w [(w.heap.size, C, 29), (w.heap.size + 1, OZ, 45)] y3) := K2.out.below H; clear H)
    | ((with_reducible refine at_load rtO y3.heap.size OO ?_ ?_ (.tmp 6) ?_ ?_ ?_ ?_); exact K5.out.bx 2 _ _ _ rfl; exact hOO'.out.1; kernel_rfl; rfl; rfl))
  exact ret_two rtO rfl rfl rfl (KE.out.bx 1 _ _ _ rfl) hOO'.out.1 rfl ⟨by rw [hOO.out]; rfl, KE.out.low⟩
theorem rnext_order (w : World) (C : Array Value) (g : Gm) (hg : Hid (GL w C g)) (hm : Hid (g.may = true)) (hf1 : inM g.pc = true) (hf2 : inM (g.pc + 1) = true) (WD : Nat) (OD : Od) (hWD : wordG g = WD) (hOD : decO WD = OD) (hdb : Hid (decB WD = true)) (op : Nat) (hop : Hid (OD.op = op)) (hne : op ≠ 1) :
    Calls Try.prog 19 #[.agg C] w fun e w' => e = .returned (.tuple #[.agg (o6 OD), .int .u8 1]) ∧ Below w.heap.size w w' := by
  have gC : Hid (C.size = 23) := hg.out.size.1
  obtain ⟨OZ, hOZ⟩ : ∃ x : Array Value, Hid (x = #[.int .u8 0, .int .u8 0, .int .u8 0, .int .u8 0, .int .u8 0, .int .u16 0]) := ⟨(#[.int .u8 0, .int .u8 0, .int .u8 0, .int .u8 0, .int .u8 0, .int .u16 0] : Array Value), (rfl : (#[.int .u8 0, .int .u8 0, .int .u8 0, .int .u8 0, .int .u8 0, .int .u16 0] : Array Value) = #[.int .u8 0, .int .u8 0, .int .u8 0, .int .u8 0, .int .u8 0, .int .u16 0])⟩
  have hOZ' : Hid (OZ.size = 6) := by show _ = _; rw [hOZ.out]; rfl
  have hpc := hg.out.ok.pc
  have hml := (may_iff.1 hm.out).2.1
  have hin : 512 ≤ g.pc ∧ g.pc + 1 < 3744 := by unfold inM at hf1 hf2; simp at hf1 hf2; omega
  obtain ⟨⟨sS, sP, sM, cS, cP, cM, hC, h1, h2, h3⟩, ok⟩ := hg.out
  obtain ⟨gM, oM, rfl⟩ := lb_some h3 (by omega)
  have fC : Hid (C[17]? = some (.int .u16 (g.pc : Int)) ∧ C[22]? = some (.slice (some ⟨gM, oM, none⟩) 3232 cM)) := by rw [hC, hml]; exact ⟨rfl, rfl⟩
  obtain ⟨at_, hat⟩ : ∃ x, g.pc - 512 = x := ⟨_, rfl⟩
  obtain ⟨at1, hat1⟩ : ∃ x, at_ + 1 = x := ⟨_, rfl⟩
  have ca := lb_at h3 at_ (by omega)
  have cb := lb_at h3 at1 (by omega)
  obtain ⟨Hh, hH⟩ : ∃ x, (g.me.getD at_ 0).toNat = x := ⟨_, rfl⟩
  obtain ⟨Ll, hL⟩ : ∃ x, (g.me.getD at1 0).toNat = x := ⟨_, rfl⟩
  have lH := (g.me.getD at_ 0).toNat_lt
  have lL := (g.me.getD at1 0).toNat_lt
  rw [hH] at ca lH
  rw [hL] at cb lL
  have eWD : WD = Hh * 256 + Ll := by rw [← hWD]; unfold wordG; rw [show g.pc + 1 - 512 = at1 by omega, hat, hH, hL]
  have hdec := fun y => rdec_any y WD (by omega)
  rw [hdb.out, hOD] at hdec
  replace hdec : Hid (∀ y, Calls Try.prog 29 #[.int .u16 (WD : Int)] y fun e w' => e = .returned (.tuple #[.agg (o6 OD), .bool true]) ∧ Below y.heap.size y w') := hdec
  obtain ⟨HH, hHH⟩ : ∃ x, Hh * 256 = x := ⟨_, rfl⟩
  obtain ⟨p, hp⟩ : ∃ x, g.pc = x := ⟨_, rfl⟩
  obtain ⟨p1, hp1⟩ : ∃ x, p + 1 = x := ⟨_, rfl⟩
  rw [hp] at fC hf1 hf2
  have im1 := fun y => inmem_any y p (by omega)
  rw [hf1] at im1
  have im2 := fun y => inmem_any y p1 (by omega)
  rw [← hp1, hf2, hp1] at im2
  replace im1 : Hid (∀ y, Calls Try.prog 28 #[.int .i64 (p : Int)] y fun e w' => e = .returned (.bool true) ∧ w' = y) := im1
  replace im2 : Hid (∀ y, Calls Try.prog 28 #[.int .i64 (p1 : Int)] y fun e w' => e = .returned (.bool true) ∧ w' = y) := im2
  have ia1 := fun v => idxB .i64 gM oM 3232 cM at_ v (by omega)
  have ia2 := fun v => idxB .i64 gM oM 3232 cM at1 v (by omega)
  have e1 : (p : Int) + 1 = (p1 : Int) := by omega
  have e2 : (p : Int) - 512 = (at_ : Int) := by omega
  have e3 : (p1 : Int) - 512 = (at1 : Int) := by omega
  have e4 : (Hh : Int) * 256 = (HH : Int) := by omega
  have e5 : (HH : Int) + (Ll : Int) = (WD : Int) := by omega
  have i0 : (p : Int) < 65536 := by omega
  have i00 : (p1 : Int) < 65536 := by omega
  have i1 : (at_ : Int) ≤ 3231 := by omega
  have i2 : (at1 : Int) ≤ 3231 := by omega
  have i4 : (Hh : Int) < 256 := by omega
  have i5 : (Ll : Int) < 256 := by omega
  have i6 : (HH : Int) < 65536 := by omega
  have i7 : (WD : Int) < 65536 := by omega
  have cc0 : Hid (w.cell? ⟨gM, oM + at_, none⟩ = some (.int .u8 (Hh : Int)) ∧ w.cell? ⟨gM, oM + at1, none⟩ = some (.int .u8 (Ll : Int)) ∧ gM < w.heap.size) := ⟨ca, cb, World.block_lt_of_cell? w _ ca⟩
  obtain ⟨OO, hOO⟩ : ∃ x, Hid (x = o6 OD) := ⟨_, (rfl : o6 OD = _)⟩
  rw [← hOO.out] at hdec
  have hOO' : Hid (OO.size = 6 ∧ OO.all (·.oneCell') = true ∧ OO[0]? = some (.int .u8 (OD.op : Int))) := by rw [hOO.out]; exact ⟨rfl, o6_one _, rfl⟩
  have q9 : ((op : Int) == 1) = false := by simp; omega
  clear hne
  clear hf1 hf2 hC h1 h2 h3 ok hml hat hat1 ca cb hH hL lH lL hWD eWD hOD hHH hp hp1 hin hpc
  go_enter Try.func19, Try.ntmps19
  go_upto_region 6 with (first
    | (go_at_call 28; (with_reducible refine (im2.out y1).mono ?_); rintro e yp ⟨rfl, ep⟩; replace ep := ep.symm; subst ep)
    | (go_at_call 28; (with_reducible refine (im1.out y1).mono ?_); rintro e yp ⟨rfl, ep⟩; replace ep := ep.symm; subst ep)
    | (go_at_call 18; refine (rcheck_gl y0 C g (hg.out.below K0.out.low)).mono ?_; rintro e y1 ⟨rfl, H⟩; have K1 : Hid (Fm w [(w.heap.size, C, 29), (w.heap.size + 1, OZ, 45)] y1) := K0.out.below H; rw [hm.out]; clear H; have c17 := (K1.out.bx 0 _ _ _ rfl).c 17 _ fC.out.1)
    | ((with_reducible refine gen_world ((w.alloc (.cells C 29)).alloc (.cells #[.int .u8 0, .int .u8 0, .int .u8 0, .int .u8 0, .int .u8 0, .int .u16 0] 45)) (Fm w [(w.heap.size, C, 29), (w.heap.size + 1, OZ, 45)]) ?_ ?_); (rw [hOZ.out]; exact Fm.two w _ _ _ _); intro y0 K0)
    | ((with_reducible refine at_load rtG w.heap.size C ?_ ?_ (.tmp 1) ?_ ?_ ?_ ?_); exact K0.out.bx 0 _ _ _ rfl; exact gC.out; kernel_rfl; rfl; rfl))
  have d1 := (K1.out.low.cell (p := ⟨gM, oM + at_, none⟩) cc0.out.2.2).trans cc0.out.1
  have d2 := (K1.out.low.cell (p := ⟨gM, oM + at1, none⟩) cc0.out.2.2).trans cc0.out.2.1
  have c22 := (K1.out.bx 0 _ _ _ rfl).c 22 _ fC.out.2
  have K1n : Hid (∀ q, Fm w [(w.heap.size, C, 29), (w.heap.size + 1, OZ, 45)] (y1.drewN q)) := fun q => K1.out.below (below_drewN (Below.refl _ _))
  go_quiet (fail)
  rename_i nq _
  have K2 : Hid (Fm w [(w.heap.size, C, 29), (w.heap.size + 1, OZ, 45)] (y1.drewN nq)) := K1n.out nq
  generalize y1.drewN nq = y2 at K2 ⊢
  clear d1 d2 c22 c17 K1 K1n
  go_wp2_with (first
    | ((with_reducible refine at_st rtO (w.heap.size + 1) OZ OO ?_ ?_ ?_ ?_ (.tmp 2) (.tmp 54) ?_ ?_ ?_ ?_ ?_); exact K5.out.bx 1 _ _ _ rfl; exact hOZ'.out; exact hOO'.out.1; exact hOO'.out.2.1; rfl; rfl; rfl; rfl; intro yE HE; have KE : Hid (Fm w [(w.heap.size, C, 29), (w.heap.size + 1, OO, 45), (y3.heap.size, OO, 45)] yE) := K5.out.put 1 _ _ _ _ rfl HE.out)
    | ((with_reducible refine at_st rtO y3.heap.size #[.int .u8 0, .int .u8 0, .int .u8 0, .int .u8 0, .int .u8 0, .int .u16 0] OO ?_ ?_ ?_ ?_ (.tmp 6) (.tmp 45) ?_ ?_ ?_ ?_ ?_); exact K4.out.bx 2 _ _ _ rfl; rfl; exact hOO'.out.1; exact hOO'.out.2.1; rfl; rfl; rfl; rfl; intro y5 H5; have K5 : Hid (Fm w [(w.heap.size, C, 29), (w.heap.size + 1, OZ, 45), (y3.heap.size, OO, 45)] y5) := K4.out.put 2 _ _ _ _ rfl H5.out; have cop := (K5.out.bx 2 _ _ _ rfl).c 0 _ hOO'.out.2.2; (try rw [hop.out] at cop); clear H5)
    | ((with_reducible refine gen_world (y3.alloc (.cells #[.int .u8 0, .int .u8 0, .int .u8 0, .int .u8 0, .int .u8 0, .int .u16 0] 45)) (Fm w [(w.heap.size, C, 29), (w.heap.size + 1, OZ, 45), (y3.heap.size, #[.int .u8 0, .int .u8 0, .int .u8 0, .int .u8 0, .int .u8 0, .int .u16 0], 45)]) ?_ ?_); exact K3.out.new _ _; intro y4 K4)
    | (go_at_call 29; refine (hdec.out y2).mono ?_; rintro e y3 ⟨rfl, H⟩; have K3 : Hid (Fm w [(w.heap.size, C, 29), (w.heap.size + 1, OZ, 45)] y3) := K2.out.below H; clear H)
    | ((with_reducible refine at_load rtO y3.heap.size OO ?_ ?_ (.tmp 6) ?_ ?_ ?_ ?_); exact K5.out.bx 2 _ _ _ rfl; exact hOO'.out.1; kernel_rfl; rfl; rfl))
  exact ret_two rtO rfl rfl rfl (KE.out.bx 1 _ _ _ rfl) hOO'.out.1 rfl ⟨by rw [hOO.out]; rfl, KE.out.low⟩
theorem rnext_any (w : World) (C : Array Value) (g : Gm) (hg : GL w C g) : Calls Try.prog 19 #[.agg C] w fun e w' => e = .returned (.tuple #[.agg (o6 (nextG g).1), .int .u8 ((nextG g).2 : Int)]) ∧ Below w.heap.size w w' := by
  rcases hm : g.may with _ | _
  · have e : nextG g = (od0, 0) := by unfold nextG; rw [hm]; rfl
    rw [e]
    exact rnext_bad w C g hg hm
  · rcases h1 : inM g.pc with _ | _
    · have e : nextG g = (od0, 7) := by simp [nextG, hm, h1]
      rw [e]
      exact rnext_outa w C g hg hm h1
    · rcases h2 : inM (g.pc + 1) with _ | _
      · have e : nextG g = (od0, 7) := by simp [nextG, hm, h1, h2]
        rw [e]
        exact rnext_outb w C g hg hm h1 h2
      · rcases hd : decB (wordG g) with _ | _
        · have e : nextG g = (od0, 4) := by simp [nextG, hm, h1, h2, hd]
          rw [e]
          exact rnext_none w C g hg hm h1 h2 _ _ rfl rfl hd
        · by_cases ho : (decO (wordG g)).op = 1
          · have e : nextG g = (decO (wordG g), 3) := by simp [nextG, hm, h1, h2, hd, ho]
            rw [e]
            exact rnext_machine w C g hg hm h1 h2 _ _ rfl rfl hd ho
          · have e : nextG g = (decO (wordG g), 1) := by simp [nextG, hm, h1, h2, hd, ho]
            rw [e]
            exact rnext_order w C g hg hm h1 h2 _ _ rfl rfl hd _ rfl ho
end Go.Proofs.Ytigiebfdaiccdaa

namespace Go.Proofs.Ytigiebfdaiccdaa
open Go Go.RowKit Go.Shelf
set_option linter.unusedVariables false
set_option maxHeartbeats 1000000
set_option maxRecDepth 20000

theorem eqOx (a b : Od) : Eqs Try.prog 45 (o6 a) (o6 b) (a.same b) := ⟨by kernel_rfl, fun w => by
  unfold o6
  go_simp
  unfold Od.same
  (repeat' split) <;> simp_all <;> omega⟩
theorem LG.weak {B B' : Nat} {w : World} {C : Array Value} {g : Gm} {b1 b2 b3 : Nat} (h : LG B w C g b1 b2 b3) (hB : B' ≤ B) : LG B' w C g b1 b2 b3 :=
  ⟨h.c, h.s, h.p, h.m, ⟨Nat.le_trans hB h.ge.1, Nat.le_trans hB h.ge.2.1, Nat.le_trans hB h.ge.2.2⟩, h.ne, h.ok⟩
/-- Boxes stay where a machine that was lent is written over. -/
theorem Fm.lg {w y z : World} {l : List (Nat × Array Value × TypeId)} {B : Nat} {C : Array Value} {g : Gm} {b1 b2 b3 : Nat} (h : Fm w l y) (hL : LG B y C g b1 b2 b3) (u : CuL w.heap.size (fun q _ => q = b1 ∨ q = b2 ∨ q = b3) y z) (hl : ∀ (i b : Nat) (c : Array Value) (t : TypeId), l[i]? = some (b, c, t) → t ≠ 5 ∧ t ≠ 26) : Fm w l z := by
  refine ⟨fun i b c t e => ?_, h.ge, h.ne, h.low.trans u.low⟩
  have h0 := h.get i b c t e
  have ht := hl i b c t e
  refine (u.blk b (heap_lt h0) fun j e2 => ?_).trans h0
  rcases e2 with e2 | e2 | e2
  · exact Bx.unlike (show Bx y b c t from h0) hL.s ht.2 e2
  · exact Bx.unlike (show Bx y b c t from h0) hL.p ht.1 e2
  · exact Bx.unlike (show Bx y b c t from h0) hL.m ht.1 e2
theorem l3_ok {w1 w2 w3 : Nat} {c1 c2 c3 : Array Value} : ∀ (i b : Nat) (c : Array Value) (t : TypeId), [(w1, c1, 29), (w2, c2, 29), (w3, c3, 45)][i]? = some (b, c, t) → t ≠ 5 ∧ t ≠ 26 := by
  intro i b c t h
  match i with
  | 0 => simp at h; rw [← h.2.2]; decide
  | 1 => simp at h; rw [← h.2.2]; decide
  | 2 => simp at h; rw [← h.2.2]; decide
  | i + 3 => simp at h
theorem next_vast (w : World) (C : Array Value) (g : Gm) (hg : Hid (GL w C g)) (hv : Hid (vasG g.st.length g.pg.length g.me.length 0 = true)) :
    Calls Try.prog 4 #[.agg C] w fun e w' => e = .returned (.bool true) ∧ Below w.heap.size w w' := by
  have gC : Hid (C.size = 23) := hg.out.size.1
  go_enter Try.func4, Try.ntmps4
  go_wp2_with (first
    | (go_at_call 13; refine (vast_gl y1 C #[.int .u16 0, .int .u16 0, .int .u16 0, .int .u16 0, .int .u16 0, .int .u16 0, .int .u16 0, .int .u16 0, .int .u16 0, .int .u16 0, .int .u16 0, .int .u16 0, .int .u16 0, .int .u16 0, .int .u16 0, .int .u16 0, .int .u16 0, .slice none 0 0] g fo0 (hg.out.below K1.out.low) (fo0_fl y1)).mono ?_; rintro e y2 ⟨rfl, H⟩; have K2 : Hid (Fm w [(w.heap.size, C, 29)] y2) := K1.out.below H; rw [show vasG g.st.length g.pg.length g.me.length fo0.by_.length = true from hv.out]; clear H)
    | (go_at_call 6; refine (awake_any y0).mono ?_; rintro e y1 ⟨rfl, H⟩; have K1 : Hid (Fm w [(w.heap.size, C, 29)] y1) := K0.out.below H; clear H)
    | ((with_reducible refine at_bu #[] [] #[.int .u16 0, .int .u16 0, .int .u16 0, .int .u16 0, .int .u16 0, .int .u16 0, .int .u16 0, .int .u16 0, .int .u16 0, .int .u16 0, .int .u16 0, .int .u16 0, .int .u16 0, .int .u16 0, .int .u16 0, .int .u16 0, .int .u16 0, .slice none 0 0] ?_ ?_ ?_ builtF0 ?_); kernel_rfl; rfl; rfl)
    | ((with_reducible refine gen_world (w.alloc (.cells C 29)) (Fm w [(w.heap.size, C, 29)]) ?_ ?_); exact Fm.one w _ _; intro y0 K0)
    | ((with_reducible refine at_load rtG w.heap.size C ?_ ?_ (.tmp 1) ?_ ?_ ?_ ?_); exact K1.out.bx 0 _ _ _ rfl; exact gC.out; kernel_rfl; rfl; rfl))
  go_ret
  exact ⟨rfl, K2.out.low⟩
theorem next_fit (w : World) (C : Array Value) (g : Gm) (hg : Hid (GL w C g)) (hv : Hid (vasG g.st.length g.pg.length g.me.length 0 = false)) (hn : Hid (g.st.length ≤ 2147483647 ∧ g.pg.length ≤ 2147483647 ∧ g.me.length ≤ 2147483647)) (OD : Od) (nx : Nat) (hnx : Hid (nextG g = (OD, nx))) :
    Calls Try.prog 4 #[.agg C] w fun e w' => e = .returned (.bool true) ∧ Below w.heap.size w w' := by
  have gC : Hid (C.size = 23) := hg.out.size.1
  obtain ⟨E, hE⟩ : ∃ x : Int, Hid ((if g.may = true then (0 : Int) else 180) = x) := ⟨_, (rfl : (if g.may = true then (0 : Int) else 180) = _)⟩
  have qE : (E == E) = true := by simp
  have qN : ((nx : Int) == (nx : Int)) = true := by simp
  have eO : Hid (Eqs Try.prog 45 (o6 OD) (o6 OD) true) := by
    have := eqOx OD OD
    rw [show OD.same OD = true from Od.same_iff.2 rfl] at this
    exact this
  have hgu : Hid (∀ (y u : World) (b1 b2 b3 : Nat), Below w.heap.size w y → CuL w.heap.size (fun q _ => q = b1 ∨ q = b2 ∨ q = b3) y u → GL u C g) := fun y u b1 b2 b3 hb hu => hg.out.below (hb.trans hu.low)
  go_enter Try.func4, Try.ntmps4
  go_wp2_with (first
    | ((with_reducible refine at_eq eO.out (.tmp 45) (.tmp 46) 45 ?_ ?_ ?_ ?_ ?_); kernel_rfl; rfl; rfl; rfl)
    | ((with_reducible refine at_st rtO y12.heap.size #[.int .u8 0, .int .u8 0, .int .u8 0, .int .u8 0, .int .u8 0, .int .u16 0] (o6 OD) ?_ ?_ ?_ ?_ (.tmp 10) (.tmp 33) ?_ ?_ ?_ ?_ ?_); exact K13.out.bx 3 _ _ _ rfl; rfl; rfl; exact o6_one OD; rfl; rfl; rfl; rfl; intro y14 H14; have K14 : Hid (Fm w [(w.heap.size, C, 29), (y3.heap.size, C2, 29), (y7.heap.size, (o6 OD), 45), (y12.heap.size, (o6 OD), 45)] y14) := K13.out.put 3 _ _ _ _ rfl H14.out; clear H14)
    | ((with_reducible refine gen_world (y12.alloc (.cells #[.int .u8 0, .int .u8 0, .int .u8 0, .int .u8 0, .int .u8 0, .int .u16 0] 45)) (Fm w [(w.heap.size, C, 29), (y3.heap.size, C2, 29), (y7.heap.size, (o6 OD), 45), (y12.heap.size, #[.int .u8 0, .int .u8 0, .int .u8 0, .int .u8 0, .int .u8 0, .int .u16 0], 45)]) ?_ ?_); exact K12.out.new _ _; intro y13 K13)
    | (go_at_call 19; refine (rnext_any y11 C g (hg.out.below K11.out.low)).mono ?_; rintro e y12 ⟨rfl, H⟩; have K12 : Hid (Fm w [(w.heap.size, C, 29), (y3.heap.size, C2, 29), (y7.heap.size, (o6 OD), 45)] y12) := K11.out.below H; (simp only [hnx.out]); clear H)
    | (go_at_call 18; refine (rcheck_gl y10 C g (hg.out.below K10.out.low)).mono ?_; rintro e y11 ⟨rfl, H⟩; have K11 : Hid (Fm w [(w.heap.size, C, 29), (y3.heap.size, C2, 29), (y7.heap.size, (o6 OD), 45)] y11) := K10.out.below H; rw [hE.out]; clear H)
    | (go_at_call 17; refine (keptG_any y9 w.heap.size C C2 g b1 b2 b3 K9.out.2 (fun u hu => hgu.out y9 u b1 b2 b3 K9.out.1.low hu) (K9.out.1.low.size : w.heap.size ≤ y9.heap.size) hn.out.1 hn.out.2.1 hn.out.2.2).mono ?_; rintro e y10 ⟨rfl, H⟩; have K10 : Hid (Fm w [(w.heap.size, C, 29), (y3.heap.size, C2, 29), (y7.heap.size, (o6 OD), 45)] y10) := K9.out.1.lg K9.out.2 H.out l3_ok; clear H)
    | ((with_reducible refine at_st rtO y7.heap.size #[.int .u8 0, .int .u8 0, .int .u8 0, .int .u8 0, .int .u8 0, .int .u16 0] (o6 OD) ?_ ?_ ?_ ?_ (.tmp 6) (.tmp 23) ?_ ?_ ?_ ?_ ?_); exact K8.out.1.bx 2 _ _ _ rfl; rfl; rfl; exact o6_one OD; rfl; rfl; rfl; rfl; intro y9 H9; have K9 : Hid (Fm w [(w.heap.size, C, 29), (y3.heap.size, C2, 29), (y7.heap.size, (o6 OD), 45)] y9 ∧ LG w.heap.size y9 C2 g b1 b2 b3) := ⟨K8.out.1.put 2 _ _ _ _ rfl H9.out, K8.out.2.offT (K8.out.1.bx 2 _ _ _ rfl) (by decide) (by decide) H9.out.2.2⟩; clear H9)
    | ((with_reducible refine gen_world (y7.alloc (.cells #[.int .u8 0, .int .u8 0, .int .u8 0, .int .u8 0, .int .u8 0, .int .u16 0] 45)) (fun y => Fm w [(w.heap.size, C, 29), (y3.heap.size, C2, 29), (y7.heap.size, #[.int .u8 0, .int .u8 0, .int .u8 0, .int .u8 0, .int .u8 0, .int .u16 0], 45)] y ∧ LG w.heap.size y C2 g b1 b2 b3) ?_ ?_); exact ⟨K7.out.1.new _ _, K7.out.2.below (below1 y7 _)⟩; intro y8 K8)
    | (go_at_call 16; refine (next_any y6 C2 g K6.out.2.lies).mono ?_; rintro e y7 ⟨rfl, H⟩; have K7 : Hid (Fm w [(w.heap.size, C, 29), (y3.heap.size, C2, 29)] y7 ∧ LG w.heap.size y7 C2 g b1 b2 b3) := ⟨K6.out.1.below H, K6.out.2.below H⟩; (simp only [hnx.out]); clear H)
    | (go_at_call 15; refine (check_gl y5 C2 g K5.out.2.lies).mono ?_; rintro e y6 ⟨rfl, H⟩; have K6 : Hid (Fm w [(w.heap.size, C, 29), (y3.heap.size, C2, 29)] y6 ∧ LG w.heap.size y6 C2 g b1 b2 b3) := ⟨K5.out.1.below H, K5.out.2.below H⟩; rw [hE.out]; clear H)
    | ((with_reducible refine at_st rtG y3.heap.size #[.int .u8 0, .int .u8 0, .int .u8 0, .int .u8 0, .int .u8 0, .int .u8 0, .int .u8 0, .int .u8 0, .int .u8 0, .int .u8 0, .int .u8 0, .int .u8 0, .int .u8 0, .int .u8 0, .int .u8 0, .int .u8 0, .int .u16 0, .int .u16 0, .slice none 0 0, .int .u8 0, .int .u8 0, .slice none 0 0, .slice none 0 0] C2 ?_ ?_ ?_ ?_ (.tmp 4) (.tmp 17) ?_ ?_ ?_ ?_ ?_); exact K4.out.1.bx 1 _ _ _ rfl; rfl; exact K4.out.2.lies.size.1; exact K4.out.2.lies.size.2.1; rfl; rfl; rfl; rfl; intro y5 H5; have K5 : Hid (Fm w [(w.heap.size, C, 29), (y3.heap.size, C2, 29)] y5 ∧ LG w.heap.size y5 C2 g b1 b2 b3) := ⟨K4.out.1.put 1 _ _ _ _ rfl H5.out, K4.out.2.offT (K4.out.1.bx 1 _ _ _ rfl) (by decide) (by decide) H5.out.2.2⟩; clear H5)
    | ((with_reducible refine gen_world (y3.alloc (.cells #[.int .u8 0, .int .u8 0, .int .u8 0, .int .u8 0, .int .u8 0, .int .u8 0, .int .u8 0, .int .u8 0, .int .u8 0, .int .u8 0, .int .u8 0, .int .u8 0, .int .u8 0, .int .u8 0, .int .u8 0, .int .u8 0, .int .u16 0, .int .u16 0, .slice none 0 0, .int .u8 0, .int .u8 0, .slice none 0 0, .slice none 0 0] 29)) (fun y => Fm w [(w.heap.size, C, 29), (y3.heap.size, #[.int .u8 0, .int .u8 0, .int .u8 0, .int .u8 0, .int .u8 0, .int .u8 0, .int .u8 0, .int .u8 0, .int .u8 0, .int .u8 0, .int .u8 0, .int .u8 0, .int .u8 0, .int .u8 0, .int .u8 0, .int .u8 0, .int .u16 0, .int .u16 0, .slice none 0 0, .int .u8 0, .int .u8 0, .slice none 0 0, .slice none 0 0], 29)] y ∧ LG w.heap.size y C2 g b1 b2 b3) ?_ ?_); exact ⟨K3.out.1.new _ _, K3.out.2.below (below1 y3 _)⟩; intro y4 K4)
    | (go_at_call 14; refine (lentG_any y2 C g (hg.out.below K2.out.low) hn.out.1 hn.out.2.1 hn.out.2.2).mono ?_; rintro e y3 ⟨C2, b1, b2, b3, rfl, H⟩; have K3 : Hid (Fm w [(w.heap.size, C, 29)] y3 ∧ LG w.heap.size y3 C2 g b1 b2 b3) := ⟨K2.out.below H.out.2, H.out.1.weak K2.out.low.size⟩; clear H)
    | (go_at_call 13; refine (vast_gl y1 C #[.int .u16 0, .int .u16 0, .int .u16 0, .int .u16 0, .int .u16 0, .int .u16 0, .int .u16 0, .int .u16 0, .int .u16 0, .int .u16 0, .int .u16 0, .int .u16 0, .int .u16 0, .int .u16 0, .int .u16 0, .int .u16 0, .int .u16 0, .slice none 0 0] g fo0 (hg.out.below K1.out.low) (fo0_fl y1)).mono ?_; rintro e y2 ⟨rfl, H⟩; have K2 : Hid (Fm w [(w.heap.size, C, 29)] y2) := K1.out.below H; rw [show vasG g.st.length g.pg.length g.me.length fo0.by_.length = false from hv.out]; clear H)
    | (go_at_call 6; refine (awake_any y0).mono ?_; rintro e y1 ⟨rfl, H⟩; have K1 : Hid (Fm w [(w.heap.size, C, 29)] y1) := K0.out.below H; clear H)
    | ((with_reducible refine at_bu #[] [] #[.int .u16 0, .int .u16 0, .int .u16 0, .int .u16 0, .int .u16 0, .int .u16 0, .int .u16 0, .int .u16 0, .int .u16 0, .int .u16 0, .int .u16 0, .int .u16 0, .int .u16 0, .int .u16 0, .int .u16 0, .int .u16 0, .int .u16 0, .slice none 0 0] ?_ ?_ ?_ builtF0 ?_); kernel_rfl; rfl; rfl)
    | ((with_reducible refine gen_world (w.alloc (.cells C 29)) (Fm w [(w.heap.size, C, 29)]) ?_ ?_); exact Fm.one w _ _; intro y0 K0)
    | ((with_reducible refine at_load rtG w.heap.size C ?_ ?_ (.tmp 1) ?_ ?_ ?_ ?_); (first | exact K11.out.bx 0 _ _ _ rfl | exact K10.out.bx 0 _ _ _ rfl | exact K9.out.1.bx 0 _ _ _ rfl | exact K2.out.bx 0 _ _ _ rfl | exact K1.out.bx 0 _ _ _ rfl); exact gC.out; kernel_rfl; rfl; rfl)
    | ((with_reducible refine at_load rtG y3.heap.size C2 ?_ ?_ (.tmp 4) ?_ ?_ ?_ ?_); (first | exact K9.out.1.bx 1 _ _ _ rfl | exact K6.out.1.bx 1 _ _ _ rfl | exact K5.out.1.bx 1 _ _ _ rfl); exact K5.out.2.size; kernel_rfl; rfl; rfl)
    | ((with_reducible refine at_load rtO y7.heap.size (o6 OD) ?_ ?_ (.tmp 6) ?_ ?_ ?_ ?_); exact K14.out.bx 2 _ _ _ rfl; rfl; kernel_rfl; rfl; rfl)
    | ((with_reducible refine at_load rtO y12.heap.size (o6 OD) ?_ ?_ (.tmp 10) ?_ ?_ ?_ ?_); exact K14.out.bx 3 _ _ _ rfl; rfl; kernel_rfl; rfl; rfl))
  go_ret
  exact ⟨rfl, K14.out.low⟩
theorem next_walk (w : World) (C : Array Value) (g : Gm) (hg : GL w C g) :
    Calls Try.prog 4 #[.agg C] w fun e w' => e = .returned (.bool true) ∧ Below w.heap.size w w' := by
  rcases hv : vasG g.st.length g.pg.length g.me.length 0 with _ | _
  · obtain ⟨⟨OD, nx⟩, hnx⟩ : ∃ x, nextG g = x := ⟨_, rfl⟩
    refine next_fit w C g hg hv ?_ OD nx hnx
    unfold vasG at hv
    simp at hv
    exact ⟨by omega, by omega, by omega⟩
  · exact next_vast w C g hg hv
end Go.Proofs.Ytigiebfdaiccdaa
