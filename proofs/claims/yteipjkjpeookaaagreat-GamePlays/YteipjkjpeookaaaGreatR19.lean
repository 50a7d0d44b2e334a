/- The statement's own step: what the program answers is held against the document. -/
import Derived.Test.YteipjkjpeookaaaGreatR18
import Derived.Test.YteipjkjpeookaaaGreatJ50
import Derived.Test.YteipjkjpeookaaaGreatH6c
namespace Go.Proofs.YteipjkjpeookaaaGreat
open Go Go.RowKit Go.Shelf
set_option linter.unusedVariables false
set_option maxHeartbeats 1000000
set_option maxRecDepth 100000

theorem LG.weak {B B' : Nat} {w : World} {C : Array Value} {g : Gm} {b1 b2 b3 : Nat} (h : LG B w C g b1 b2 b3) (hB : B' ≤ B) : LG B' w C g b1 b2 b3 :=
  ⟨h.c, h.s, h.p, h.m, ⟨Nat.le_trans hB h.ge.1, Nat.le_trans hB h.ge.2.1, Nat.le_trans hB h.ge.2.2⟩, h.ne, h.ok⟩
theorem LG.ty {B : Nat} {w : World} {C : Array Value} {g : Gm} {b1 b2 b3 q : Nat} (h : LG B w C g b1 b2 b3) (hq : q = b1 ∨ q = b2 ∨ q = b3) : ∃ cs t, Bx w q cs t ∧ (t = 5 ∨ t = 23) := by
  rcases hq with rfl | rfl | rfl
  · exact ⟨_, _, h.s, .inr rfl⟩
  · exact ⟨_, _, h.p, .inl rfl⟩
  · exact ⟨_, _, h.m, .inl rfl⟩
theorem GO.ownTy {B : Nat} {w : World} {C : Array Value} {g : Gm} (h : GO B w C g) {q : Nat} (hq : ownG C q) : ∃ cs t, Bx w q cs t ∧ (t = 5 ∨ t = 23) := by
  obtain ⟨⟨vS, vP, vM, e, h1, h2, h3, h4⟩, ok⟩ := h
  obtain ⟨i, v, hi, hv, ho⟩ := hq
  rw [e] at hv
  rcases hi with rfl | rfl | rfl
  · obtain rfl : vS = v := Option.some.inj hv
    obtain ⟨c, k⟩ := h1.ty q ho
    exact ⟨c, _, k, .inr rfl⟩
  · obtain rfl : vP = v := Option.some.inj hv
    obtain ⟨c, k⟩ := h2.ty q ho
    exact ⟨c, _, k, .inl rfl⟩
  · obtain rfl : vM = v := Option.some.inj hv
    obtain ⟨c, k⟩ := h3.ty q ho
    exact ⟨c, _, k, .inl rfl⟩
/-- Boxes stay where rows of bytes and words are written over. -/
theorem Fm.cuT {w y z : World} {l : List (Nat × Array Value × TypeId)} {B : Nat} {F : Nat → Nat → Prop} (h : Fm w l y) (k : CuL B F y z) (hB : w.heap.size ≤ B) (ht : ∀ q j, F q j → ∃ cs t, Bx y q cs t ∧ (t = 5 ∨ t = 23)) (hl : (l.all fun p => !(Nat.beq p.2.2 5 || Nat.beq p.2.2 23)) = true) : Fm w l z :=
  h.bk (BK.cu ⟨Below.refl B y, fun b cs t hx _ _ => hx⟩ k ht) hB hl
theorem FL.set17 {w y : World} {D : Array Value} {f : Fo} {q n : Nat} (h : FL w D f) (hn : f.by_.length = n) (hb : Bx y q (rowB (mk3 f.by_)) 5) : FL y (D.setIfInBounds 17 (.slice (some ⟨q, 0, none⟩) n (n + 3))) f := by
  obtain ⟨⟨sB, cB', rfl, h1⟩, h2, h3, h4⟩ := h
  refine ⟨⟨some ⟨q, 0, none⟩, n + 3, ?_, lies_rowB hb⟩, h2, h3, h4⟩
  rw [hn]
  rfl
theorem font_set {w y6 : World} {l : List (Nat × Array Value × TypeId)} {D D2 C2 : Array Value} {g : Gm} {f : Fo} {q n b a1 a2 a3 : Nat} {l' : List (Nat × Array Value × TypeId)} (hD2 : D2 = D.setIfInBounds 17 (.slice (some ⟨q, 0, none⟩) n (n + 3))) (hf : FL w D f) (hn : f.by_.length = n) (hF : Fm w l y6) (hL : LG w.heap.size y6 C2 g a1 a2 a3) (hq : Bx y6 q (rowB (mk3 f.by_)) 5) (hl : l[5]? = some (b, D, 30) := by rfl) (hl' : l.set 5 (b, D2, 30) = l' := by rfl) :
    Fm w l' (y6.setCell ⟨b, 17, none⟩ (.slice (some ⟨q, 0, none⟩) n (n + 3))) ∧ LG w.heap.size (y6.setCell ⟨b, 17, none⟩ (.slice (some ⟨q, 0, none⟩) n (n + 3))) C2 g a1 a2 a3 ∧ Bx (y6.setCell ⟨b, 17, none⟩ (.slice (some ⟨q, 0, none⟩) n (n + 3))) q (rowB (mk3 f.by_)) 5 ∧ FL (y6.setCell ⟨b, 17, none⟩ (.slice (some ⟨q, 0, none⟩) n (n + 3))) D2 f ∧ D2[17]? = some (.slice (some ⟨q, 0, none⟩) n (n + 3)) ∧ D2.size = 18 := by
  have hb : Bx y6 b D 30 := hF.get 5 b D _ hl
  have hs := hf.size
  have hq2 : Bx (y6.setCell ⟨b, 17, none⟩ (.slice (some ⟨q, 0, none⟩) n (n + 3))) q (rowB (mk3 f.by_)) 5 := (heap_setCell_other y6 ⟨b, 17, none⟩ q _ (Bx.unlike hq hb (by decide))).trans hq
  refine ⟨?_, hL.offT hb (by decide) (by decide) (fun q' hq' => heap_setCell_other y6 ⟨b, 17, none⟩ q' _ hq'), hq2, ?_, ?_, ?_⟩
  · rw [← hl']
    exact hF.setCell 5 b D D2 _ hl 17 _ hD2.symm
  · rw [hD2]
    exact hf.set17 hn hq2
  · rw [hD2, Array.getElem?_setIfInBounds, if_pos rfl, if_pos (by rw [hs]; decide)]
  · rw [hD2, Array.size_setIfInBounds]
    exact hs
theorem step_len' (g : Gm) (f : Fo) (d : Fd) (hs : smaG g f) : (stepG g f d).1.st.length ≤ 4000000000 := by
  unfold smaG at hs
  unfold stepG
  split
  · rename_i hm
    split
    · split
      · split
        · have h1 : g.on.may = true := hm
          have := (may_iff.1 (do_may g.on (nextG g).1 f d h1)).2.2
          dsimp only
          omega
        · dsimp only
          omega
      · dsimp only
        omega
    · show 0 ≤ _
      omega
  · show 0 ≤ _
    omega
theorem step_sma (g : Gm) (f : Fo) (d : Fd) (h : (stepG g f d).2.1 = 1) : smaG (stepG g f d).1 f := by
  revert h
  unfold stepG
  split
  · rename_i hm
    split
    · rename_i hf
      split
      · split
        · intro _
          have h1 : g.on.may = true := hm
          have h2 := may_iff.1 (do_may g.on (nextG g).1 f d h1)
          have h3 : f.fr + f.by_.length ≤ 65536 := by
            have := (Bool.and_eq_true _ _ ▸ hf).1
            unfold fontG at this
            simpa using this
          unfold smaG
          dsimp only
          omega
        · rename_i hne
          intro h
          exact absurd h hne
      · rename_i hne
        intro h
        exact absurd h hne
    · intro h
      cases h
  · intro h
    cases h
theorem lstep_any (w : World) (C D : Array Value) (g : Gm) (f : Fo) (d : Fd) (hg : Hid (GL w C g)) (hf : Hid (FL w D f)) (hd : Hid d.Ok) (hs : Hid (smaG g f)) (S : Gm) (o e : Nat) (hS : Hid (stepG g f d = (S, o, e))) :
    Calls Tryz.prog 6 #[.agg C, .agg D, .agg (dCs d)] w fun x w' => ∃ C', x = .returned (.tuple #[.agg C', .int .u8 (o : Int), .bool true]) ∧ Hid (GO w.heap.size w' C' S ∧ Below w.heap.size w w') := by
  have gC : Hid (C.size = 23) := hg.out.size.1
  have gD : Hid (D.size = 18) := hf.out.size
  obtain ⟨Z, hZ⟩ : ∃ x : Array Value, Hid (x = gZ) := ⟨_, (rfl : gZ = gZ)⟩
  have hZ' : Hid (Z.size = 23) := by show _ = _; rw [hZ.out]; rfl
  obtain ⟨sB, cB', hD, hl0⟩ := hf.out.c
  obtain ⟨n, hn0⟩ : ∃ z, f.by_.length = z := ⟨_, rfl⟩
  have hby : Hid (f.by_.length = n) := hn0
  have hlb : Hid (LB w sB f.by_) := hl0
  have hD17 : Hid (D[17]? = some (.slice sB n cB')) := by
    show _ = _
    rw [hD, hn0]
    rfl
  have gD1 : Hid (D.all (·.oneCell') = true) := by
    show _ = _
    rw [hD]
    kernel_rfl
  have hnn : Hid (n ≤ 2147483647) := by have := hs.out; unfold smaG at this; show _ ≤ _; omega
  have hn : Hid (g.st.length ≤ 2147483647 ∧ g.pg.length ≤ 2147483647 ∧ g.me.length ≤ 2147483647) := by have := hs.out; unfold smaG at this; exact ⟨by omega, by omega, by omega⟩
  have hSl : Hid (S.st.length ≤ 4000000000) := by have := step_len' g f d hs.out; rw [hS.out] at this; exact this
  have hsm : Hid (decide (S = S) = true) := decide_eq_true rfl
  have qO : ((o : Int) == (o : Int)) = true := by simp
  have qE : ((e : Int) == (e : Int)) = true := by simp
  clear hD hl0 hn0
  go_enter Tryz.func6, Tryz.ntmps6
  go_wp2_with (first
    | ((with_reducible refine at_st rtG (w.heap.size + 3) Z C4 ?_ ?_ ?_ ?_ (.tmp 6) (.tmp 67) ?_ ?_ ?_ ?_ ?_); exact K17.out.1.bx 3 _ _ _ rfl; exact hZ'.out; exact K17.out.2.lies.size.1; exact K17.out.2.lies.size.2.1; rfl; rfl; rfl; rfl; intro yE HE; have KE : Hid (Bx yE (w.heap.size + 3) C4 27 ∧ GO B12 yE C4 S ∧ Below w.heap.size w yE) := ⟨HE.out.1, K17.out.2.offT (K17.out.1.bx 3 _ _ _ rfl) (by decide) (by decide) HE.out.2.2, K17.out.1.low.trans (HE.out.2.1 _ (Nat.le_add_right _ _))⟩; clear HE)
    | (go_at_call 13; refine (spread_any y16 B7 C3 S K16.out.2.1 (Nat.le_trans hB7l.out (Nat.le_of_lt (heap_lt (K16.out.1.bx 6 _ _ _ rfl))))).mono ?_; rintro e y17 ⟨rfl, H⟩; have K17 : Hid (Fm w [(w.heap.size, C, 27), (w.heap.size + 1, D, 30), (w.heap.size + 2, (dCs d), 38), (w.heap.size + 3, Z, 27), (y1.heap.size, C2, 27), (y3.heap.size, D2, 30), (y8.heap.size, C3, 27), (y13.heap.size, C4, 27)] y17 ∧ GO B12 y17 C4 S) := ⟨K16.out.1.cuT H.out hQ7.out.2.2.2.2 (fun x j e => K16.out.2.1.ownTy e) rfl, K16.out.2.2.cu H.out (fun x hx j e => by have h1 := (K16.out.2.2.own hx).1; have h2 := hO.out.1 x e; omega)⟩; clear H)
    | (go_at_call 12; refine (rsame_any y15 C3 C4 S S K15.out.2.1.lies K15.out.2.2.lies hSl.out hSl.out).mono ?_; rintro e y16 ⟨rfl, H⟩; have K16 : Hid (Fm w [(w.heap.size, C, 27), (w.heap.size + 1, D, 30), (w.heap.size + 2, (dCs d), 38), (w.heap.size + 3, Z, 27), (y1.heap.size, C2, 27), (y3.heap.size, D2, 30), (y8.heap.size, C3, 27), (y13.heap.size, C4, 27)] y16 ∧ GO B7 y16 C3 S ∧ GO B12 y16 C4 S) := ⟨K15.out.1.below H, K15.out.2.1.below H, K15.out.2.2.below H⟩; (try rw [hsm.out]); clear H)
    | ((with_reducible refine at_st rtG (y13.heap.size) z23A C4 ?_ ?_ ?_ ?_ (.tmp 16) (.tmp 49) ?_ ?_ ?_ ?_ ?_); exact K14.out.1.bx 7 _ _ _ rfl; exact rfl; exact K14.out.2.2.lies.size.1; exact K14.out.2.2.lies.size.2.1; rfl; rfl; rfl; rfl; intro y15 H; have K15 : Hid (Fm w [(w.heap.size, C, 27), (w.heap.size + 1, D, 30), (w.heap.size + 2, (dCs d), 38), (w.heap.size + 3, Z, 27), (y1.heap.size, C2, 27), (y3.heap.size, D2, 30), (y8.heap.size, C3, 27), (y13.heap.size, C4, 27)] y15 ∧ GO B7 y15 C3 S ∧ GO B12 y15 C4 S) := ⟨K14.out.1.put 7 _ _ _ _ rfl H.out, K14.out.2.1.offT (K14.out.1.bx 7 _ _ _ rfl) (by decide) (by decide) H.out.2.2, K14.out.2.2.offT (K14.out.1.bx 7 _ _ _ rfl) (by decide) (by decide) H.out.2.2⟩; clear H)
    | ((with_reducible refine gen_world (y13.alloc (.cells z23A 27)) (fun y => Fm w [(w.heap.size, C, 27), (w.heap.size + 1, D, 30), (w.heap.size + 2, (dCs d), 38), (w.heap.size + 3, Z, 27), (y1.heap.size, C2, 27), (y3.heap.size, D2, 30), (y8.heap.size, C3, 27), (y13.heap.size, z23A, 27)] y ∧ GO B7 y C3 S ∧ GO B12 y C4 S) ?_ ?_); (exact ⟨K13.out.1.new _ _, K13.out.2.1.below (below1 y13 _), K13.out.2.2.below (below1 y13 _)⟩); intro y14 K14)
    | (go_at_call 19; refine (rstep_any y12 C D g f d (hg.out.below K12.out.1.low) (hf.out.below K12.out.1.low) hd.out hs.out).mono ?_; rw [hS.out]; rintro e y13 ⟨C4, rfl, H1, H2⟩; obtain ⟨B12, hB12⟩ : ∃ z, y12.heap.size = z := ⟨_, rfl⟩; have hO : Hid ((∀ x, ownG C3 x → x < B12) ∧ w.heap.size ≤ B12) := (by rw [← hB12]; exact ⟨fun x hx => (K12.out.2.own hx).2, K12.out.1.low.size⟩); have K13 : Hid (Fm w [(w.heap.size, C, 27), (w.heap.size + 1, D, 30), (w.heap.size + 2, (dCs d), 38), (w.heap.size + 3, Z, 27), (y1.heap.size, C2, 27), (y3.heap.size, D2, 30), (y8.heap.size, C3, 27)] y13 ∧ GO B7 y13 C3 S ∧ GO B12 y13 C4 S) := ⟨K12.out.1.below H2, K12.out.2.below H2, (by rw [← hB12]; exact H1)⟩; clear H1 H2 hB12)
    | (go_at_call 18; refine (keptN y11 w.heap.size q cB' sB f.by_ n hby.out hQ.out.2.2.2 K11.out.2.1 (fun u hu => lb_keepN hlb.out K11.out.1.low hu hQ.out.2.2.2) hnn.out).mono ?_; rintro e y12 ⟨rfl, H⟩; have K12 : Hid (Fm w [(w.heap.size, C, 27), (w.heap.size + 1, D, 30), (w.heap.size + 2, (dCs d), 38), (w.heap.size + 3, Z, 27), (y1.heap.size, C2, 27), (y3.heap.size, D2, 30), (y8.heap.size, C3, 27)] y12 ∧ GO B7 y12 C3 S) := ⟨K11.out.1.cuT H.out (Nat.le_refl _) (fun x j e => ⟨rowB (mk3 f.by_), 5, e ▸ K11.out.2.1, .inl rfl⟩) rfl, K11.out.2.2.cu H.out (fun x hx j e => by have h1 := (K11.out.2.2.own hx).1; have h2 := hQ7.out; omega)⟩; clear H)
    | (go_at_call 10; refine (keptG_any y10 w.heap.size C C2 g a1 a2 a3 K10.out.2.1 (fun u hu => hg.out.below (K10.out.1.low.trans hu.low)) (K10.out.1.low.size : w.heap.size ≤ y10.heap.size) hn.out.1 hn.out.2.1 hn.out.2.2).mono ?_; rintro e y11 ⟨rfl, H⟩; have K11 : Hid (Fm w [(w.heap.size, C, 27), (w.heap.size + 1, D, 30), (w.heap.size + 2, (dCs d), 38), (w.heap.size + 3, Z, 27), (y1.heap.size, C2, 27), (y3.heap.size, D2, 30), (y8.heap.size, C3, 27)] y11 ∧ Bx y11 q (rowB (mk3 f.by_)) 5 ∧ GO B7 y11 C3 S) := ⟨K10.out.1.cuT H.out (Nat.le_refl _) (fun x j e => K10.out.2.1.ty e) rfl, (H.out.blk _ (heap_lt K10.out.2.2.1) (fun j e => by have := hQ.out; omega)).trans K10.out.2.2.1, K10.out.2.2.2.cu H.out (fun x hx j e => by have h1 := (K10.out.2.2.2.own hx).1; have h2 := hQ7.out; omega)⟩; clear H; have e17b := (K11.out.1.bx 5 _ _ _ rfl).c 17 _ K7.out.2.2.2.2.1; have e17c := (K11.out.1.bx 1 _ _ _ rfl).c 17 _ hD17.out)
    | ((with_reducible refine at_st rtG (y8.heap.size) z23A C3 ?_ ?_ ?_ ?_ (.tmp 11) (.tmp 33) ?_ ?_ ?_ ?_ ?_); exact K9.out.1.bx 6 _ _ _ rfl; exact rfl; exact K9.out.2.2.2.lies.size.1; exact K9.out.2.2.2.lies.size.2.1; rfl; rfl; rfl; rfl; intro y10 H; have K10 : Hid (Fm w [(w.heap.size, C, 27), (w.heap.size + 1, D, 30), (w.heap.size + 2, (dCs d), 38), (w.heap.size + 3, Z, 27), (y1.heap.size, C2, 27), (y3.heap.size, D2, 30), (y8.heap.size, C3, 27)] y10 ∧ LG w.heap.size y10 C2 g a1 a2 a3 ∧ Bx y10 q (rowB (mk3 f.by_)) 5 ∧ GO B7 y10 C3 S) := ⟨K9.out.1.put 6 _ _ _ _ rfl H.out, K9.out.2.1.offT (K9.out.1.bx 6 _ _ _ rfl) (by decide) (by decide) H.out.2.2, (H.out.2.2 q (Bx.unlike K9.out.2.2.1 (K9.out.1.bx 6 _ _ _ rfl) (by decide))).trans K9.out.2.2.1, K9.out.2.2.2.offT (K9.out.1.bx 6 _ _ _ rfl) (by decide) (by decide) H.out.2.2⟩; clear H)
    | ((with_reducible refine gen_world (y8.alloc (.cells z23A 27)) (fun y => Fm w [(w.heap.size, C, 27), (w.heap.size + 1, D, 30), (w.heap.size + 2, (dCs d), 38), (w.heap.size + 3, Z, 27), (y1.heap.size, C2, 27), (y3.heap.size, D2, 30), (y8.heap.size, z23A, 27)] y ∧ LG w.heap.size y C2 g a1 a2 a3 ∧ Bx y q (rowB (mk3 f.by_)) 5 ∧ GO B7 y C3 S) ?_ ?_); (exact ⟨K8.out.1.new _ _, K8.out.2.1.below (below1 y8 _), ((below1 y8 _).block _ (heap_lt K8.out.2.2.1)).trans K8.out.2.2.1, K8.out.2.2.2.below (below1 y8 _)⟩); intro y9 K9)
    | (go_at_call 16; refine (step_any y7 C2 D2 g f d K7.out.2.1.lies K7.out.2.2.2.1 hd.out hs.out).mono ?_; rw [hS.out]; rintro e y8 ⟨C3, rfl, H1, H2⟩; obtain ⟨B7, hB7⟩ : ∃ z, y7.heap.size = z := ⟨_, rfl⟩; have hQ7 : Hid (a1 < B7 ∧ a2 < B7 ∧ a3 < B7 ∧ q < B7 ∧ w.heap.size ≤ B7) := (by have h1 := hQ.out; have h2 := heap_lt K7.out.2.2.1; rw [← hB7]; show _ ∧ _; omega); have hB7l : Hid (B7 ≤ y8.heap.size) := (by rw [← hB7]; exact H2.size); have K8 : Hid (Fm w [(w.heap.size, C, 27), (w.heap.size + 1, D, 30), (w.heap.size + 2, (dCs d), 38), (w.heap.size + 3, Z, 27), (y1.heap.size, C2, 27), (y3.heap.size, D2, 30)] y8 ∧ LG w.heap.size y8 C2 g a1 a2 a3 ∧ Bx y8 q (rowB (mk3 f.by_)) 5 ∧ GO B7 y8 C3 S) := ⟨K7.out.1.below H2, K7.out.2.1.below H2, (H2.block _ (heap_lt K7.out.2.2.1)).trans K7.out.2.2.1, (by rw [← hB7]; exact H1)⟩; clear H1 H2 hB7)
    | ((with_reducible refine gen_world (y6.setCell ⟨y3.heap.size, 17, none⟩ (.slice (some ⟨q, 0, none⟩) n (n + 3))) (fun y => Fm w [(w.heap.size, C, 27), (w.heap.size + 1, D, 30), (w.heap.size + 2, (dCs d), 38), (w.heap.size + 3, Z, 27), (y1.heap.size, C2, 27), (y3.heap.size, D2, 30)] y ∧ LG w.heap.size y C2 g a1 a2 a3 ∧ Bx y q (rowB (mk3 f.by_)) 5 ∧ FL y D2 f ∧ D2[17]? = some (.slice (some ⟨q, 0, none⟩) n (n + 3)) ∧ D2.size = 18) ?_ ?_); (exact font_set hD2.out hf.out hby.out K6.out.1 K6.out.2.1 K6.out.2.2); intro y7 K7; clear z17)
    | (go_at_call 17; refine (lentN y5 sB cB' f.by_ n hby.out (hlb.out.below K5.out.1.low) hnn.out).mono ?_; rintro e y6 ⟨rfl, H⟩; obtain ⟨q, hq⟩ : ∃ z, y5.heap.size = z := ⟨_, rfl⟩; have hQ : Hid (a1 < q ∧ a2 < q ∧ a3 < q ∧ w.heap.size ≤ q) := (by have h1 := hA.out; have h2 := heap_lt (K5.out.1.bx 4 _ _ _ rfl); have h3 := K5.out.1.low.size; show _ ∧ _; omega); have K6 : Hid (Fm w [(w.heap.size, C, 27), (w.heap.size + 1, D, 30), (w.heap.size + 2, (dCs d), 38), (w.heap.size + 3, Z, 27), (y1.heap.size, C2, 27), (y3.heap.size, D, 30)] y6 ∧ LG w.heap.size y6 C2 g a1 a2 a3 ∧ Bx y6 q (rowB (mk3 f.by_)) 5) := ⟨K5.out.1.below H.out.2, K5.out.2.below H.out.2, (by rw [← hq]; exact H.out.1)⟩; rw [hq]; clear H hq; have s17 := (K6.out.1.bx 5 _ _ _ rfl).c 17 _ hD17.out; have z17 := (K6.out.1.bx 5 _ _ _ rfl).fz 17; obtain ⟨D2, hD2⟩ : ∃ z, Hid (z = D.setIfInBounds 17 (.slice (some ⟨q, 0, none⟩) n (n + 3))) := ⟨_, (rfl : D.setIfInBounds 17 (.slice (some ⟨q, 0, none⟩) n (n + 3)) = _)⟩)
    | ((with_reducible refine at_st rtFn (y3.heap.size) #[.int .u16 0, .int .u16 0, .int .u16 0, .int .u16 0, .int .u16 0, .int .u16 0, .int .u16 0, .int .u16 0, .int .u16 0, .int .u16 0, .int .u16 0, .int .u16 0, .int .u16 0, .int .u16 0, .int .u16 0, .int .u16 0, .int .u16 0, .slice none 0 0] D ?_ ?_ ?_ ?_ (.tmp 10) (.tmp 23) ?_ ?_ ?_ ?_ ?_); exact K4.out.1.bx 5 _ _ _ rfl; exact rfl; exact gD.out; exact gD1.out; rfl; rfl; rfl; rfl; intro y5 H; have K5 : Hid (Fm w [(w.heap.size, C, 27), (w.heap.size + 1, D, 30), (w.heap.size + 2, (dCs d), 38), (w.heap.size + 3, Z, 27), (y1.heap.size, C2, 27), (y3.heap.size, D, 30)] y5 ∧ LG w.heap.size y5 C2 g a1 a2 a3) := ⟨K4.out.1.put 5 _ _ _ _ rfl H.out, K4.out.2.offT (K4.out.1.bx 5 _ _ _ rfl) (by decide) (by decide) H.out.2.2⟩; clear H; have e17 := (K5.out.1.bx 1 _ _ _ rfl).c 17 _ hD17.out)
    | ((with_reducible refine gen_world (y3.alloc (.cells #[.int .u16 0, .int .u16 0, .int .u16 0, .int .u16 0, .int .u16 0, .int .u16 0, .int .u16 0, .int .u16 0, .int .u16 0, .int .u16 0, .int .u16 0, .int .u16 0, .int .u16 0, .int .u16 0, .int .u16 0, .int .u16 0, .int .u16 0, .slice none 0 0] 30)) (fun y => Fm w [(w.heap.size, C, 27), (w.heap.size + 1, D, 30), (w.heap.size + 2, (dCs d), 38), (w.heap.size + 3, Z, 27), (y1.heap.size, C2, 27), (y3.heap.size, #[.int .u16 0, .int .u16 0, .int .u16 0, .int .u16 0, .int .u16 0, .int .u16 0, .int .u16 0, .int .u16 0, .int .u16 0, .int .u16 0, .int .u16 0, .int .u16 0, .int .u16 0, .int .u16 0, .int .u16 0, .int .u16 0, .int .u16 0, .slice none 0 0], 30)] y ∧ LG w.heap.size y C2 g a1 a2 a3) ?_ ?_); (exact ⟨K3.out.1.new _ _, K3.out.2.below (below1 y3 _)⟩); intro y4 K4)
    | ((with_reducible refine at_st rtG (y1.heap.size) z23A C2 ?_ ?_ ?_ ?_ (.tmp 9) (.tmp 22) ?_ ?_ ?_ ?_ ?_); exact K2.out.1.bx 4 _ _ _ rfl; exact rfl; exact K2.out.2.size; exact K2.out.2.lies.size.2.1; rfl; rfl; rfl; rfl; intro y3 H; have K3 : Hid (Fm w [(w.heap.size, C, 27), (w.heap.size + 1, D, 30), (w.heap.size + 2, (dCs d), 38), (w.heap.size + 3, Z, 27), (y1.heap.size, C2, 27)] y3 ∧ LG w.heap.size y3 C2 g a1 a2 a3) := ⟨K2.out.1.put 4 _ _ _ _ rfl H.out, K2.out.2.offT (K2.out.1.bx 4 _ _ _ rfl) (by decide) (by decide) H.out.2.2⟩; clear H)
    | ((with_reducible refine gen_world (y1.alloc (.cells z23A 27)) (fun y => Fm w [(w.heap.size, C, 27), (w.heap.size + 1, D, 30), (w.heap.size + 2, (dCs d), 38), (w.heap.size + 3, Z, 27), (y1.heap.size, z23A, 27)] y ∧ LG w.heap.size y C2 g a1 a2 a3) ?_ ?_); (exact ⟨K1.out.1.new _ _, K1.out.2.below (below1 y1 _)⟩); intro y2 K2)
    | (go_at_call 8; refine (lentG_any y0 C g (hg.out.below K0.out.low) hn.out.1 hn.out.2.1 hn.out.2.2).mono ?_; rintro e y1 ⟨C2, a1, a2, a3, rfl, H⟩; have K1 : Hid (Fm w [(w.heap.size, C, 27), (w.heap.size + 1, D, 30), (w.heap.size + 2, (dCs d), 38), (w.heap.size + 3, Z, 27)] y1 ∧ LG w.heap.size y1 C2 g a1 a2 a3) := ⟨K0.out.below H.out.2, H.out.1.weak K0.out.low.size⟩; have hA : Hid (a1 < y1.heap.size ∧ a2 < y1.heap.size ∧ a3 < y1.heap.size) := ⟨heap_lt H.out.1.s, heap_lt H.out.1.p, heap_lt H.out.1.m⟩; clear H)
    | ((with_reducible refine gen_world ((((w.alloc (.cells C 27)).alloc (.cells D 30)).alloc (.cells (dCs d) 38)).alloc (.cells z23A 27)) (fun y => Fm w [(w.heap.size, C, 27), (w.heap.size + 1, D, 30), (w.heap.size + 2, (dCs d), 38), (w.heap.size + 3, Z, 27)] y) ?_ ?_); (rw [hZ.out]; unfold gZ; exact Fm.four w _ _ _ _ _ _ _ _); intro y0 K0)
    | ((with_reducible refine at_load rtG (w.heap.size) C ?_ ?_ (.tmp 3) ?_ ?_ ?_ ?_); (first | exact K12.out.1.bx 0 _ _ _ rfl | exact K10.out.1.bx 0 _ _ _ rfl | exact K0.out.bx 0 _ _ _ rfl); exact gC.out; kernel_rfl; rfl; rfl)
    | ((with_reducible refine at_load rtFn (w.heap.size + 1) D ?_ ?_ (.tmp 4) ?_ ?_ ?_ ?_); (first | exact K12.out.1.bx 1 _ _ _ rfl | exact K3.out.1.bx 1 _ _ _ rfl); exact gD.out; kernel_rfl; rfl; rfl)
    | ((with_reducible refine at_load rtFd (w.heap.size + 2) (dCs d) ?_ ?_ (.tmp 5) ?_ ?_ ?_ ?_); (first | exact K12.out.1.bx 2 _ _ _ rfl | exact K7.out.1.bx 2 _ _ _ rfl); exact rfl; kernel_rfl; rfl; rfl)
    | ((with_reducible refine at_load rtG (y1.heap.size) C2 ?_ ?_ (.tmp 9) ?_ ?_ ?_ ?_); (first | exact K10.out.1.bx 4 _ _ _ rfl | exact K7.out.1.bx 4 _ _ _ rfl); exact K3.out.2.size; kernel_rfl; rfl; rfl)
    | ((with_reducible refine at_load rtFn (y3.heap.size) D2 ?_ ?_ (.tmp 10) ?_ ?_ ?_ ?_); (first | exact K7.out.1.bx 5 _ _ _ rfl); exact K7.out.2.2.2.2.2; kernel_rfl; rfl; rfl)
    | ((with_reducible refine at_load rtG (y8.heap.size) C3 ?_ ?_ (.tmp 11) ?_ ?_ ?_ ?_); (first | exact K16.out.1.bx 6 _ _ _ rfl | exact K15.out.1.bx 6 _ _ _ rfl); exact K10.out.2.2.2.lies.size.1; kernel_rfl; rfl; rfl)
    | ((with_reducible refine at_load rtG (y13.heap.size) C4 ?_ ?_ (.tmp 16) ?_ ?_ ?_ ?_); (first | exact K17.out.1.bx 7 _ _ _ rfl | exact K15.out.1.bx 7 _ _ _ rfl); exact K15.out.2.2.lies.size.1; kernel_rfl; rfl; rfl))
  exact ret_three rtG rfl rfl rfl rfl KE.out.1 KE.out.2.1.lies.size.1 rfl ⟨C4, rfl, ⟨KE.out.2.1.weak hO.out.2, KE.out.2.2⟩⟩
end Go.Proofs.YteipjkjpeookaaaGreat
