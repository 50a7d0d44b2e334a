/- The document's own: others: registers filled. -/
import Derived.Test.YteipjkjpeookaaaGreatJ28
import Derived.BigRegion
namespace Go.Proofs.YteipjkjpeookaaaGreat
open Go Go.RowKit Go.Shelf
set_option linter.unusedVariables false
set_option maxHeartbeats 1000000
set_option maxRecDepth 100000

theorem own_lb {B : Nat} {z : World} {sp : Option Addr} {n cap : Nat} {l : List UInt8} (h : OwnL 5 1 cB B z (.slice sp n cap) l) : LB z sp l ∧ n = l.length := by
  obtain ⟨sp', cap', e, hl, _⟩ := h.open kByte.len
  injection e with e1 e2 e3
  subst e1
  exact ⟨hl, e2⟩
theorem wr0 (v l : List UInt8) (k : Nat) (hk : k < 16) (g : Gm) (hg : g.v = wr v 0 l k) : setG g k (l.getD k 0) = { g with v := wr v 0 l (k + 1) } := by
  unfold setG
  rw [hg]
  show _ = { g with v := (wr v 0 l k).set (0 + k) (l.getD k 0) }
  rw [Nat.zero_add]
theorem rothers_fill (w : World) (B : Nat) (C D : Array Value) (g : Gm) (f : Fo) (d : Fd) (hG : Hid (GO B w C g)) (hB : Hid (B ≤ w.heap.size)) (hf : Hid (FL w D f)) (hd : Hid d.Ok) (x y n b a : Nat) (hx : x < 16) (hy : y < 16) (hb : b < 256) (ha : a < 65536) (hm3 : g.me.length = 3232) (hfb : f.by_.length ≤ 4000000000) (l : List UInt8) (hrd : readG g f g.i (x + 1) = some l) :
    Calls Tryz.prog 70 #[.agg C, .agg #[.int .u8 31, .int .u8 (x : Int), .int .u8 (y : Int), .int .u8 (n : Int), .int .u8 (b : Int), .int .u16 (a : Int)], .agg D, .agg (dCs d)] w (RdE B w (doG g ⟨31, x, y, n, b, a⟩ f d)) := by
  obtain ⟨ZC, p, q, gC, gD, hZ, hZ', hp, hq, lp, lq, fV, ixx, ixy, ixi, iyi, ibi, iai, ipi, iqi⟩ := pre_do w B C D g f x y b a hG hf hx hy hb ha
  obtain ⟨OC, hOC⟩ := hid_ex #[.int .u8 31, .int .u8 (x : Int), .int .u8 (y : Int), .int .u8 (n : Int), .int .u8 (b : Int), .int .u16 (a : Int)]
  rw [← hOC.out]
  have fI : Hid (C[16]? = some (.int .u16 (g.i : Int))) := hG.out.rest.1
  have iI : (g.i : Int) < 65536 := by have := hG.out.ok.i; omega
  obtain ⟨m, hmx⟩ : ∃ z, x + 1 = z := ⟨_, rfl⟩
  have wm : (x : Int) + 1 = (m : Int) := by omega
  have mi : (m : Int) ≤ 16 := by omega
  have hmm : Hid (0 < m ∧ m ≤ 16) := ⟨by omega, by omega⟩
  have hip : Hid (g.i < 65536) := hG.out.ok.i
  have hm' : Hid (g.me.length = 3232) := hm3
  obtain ⟨A, hA⟩ : ∃ z, (g.i + m) % 65536 = z := ⟨_, rfl⟩
  have hA' : Hid (A < 65536) := by show A < 65536; omega
  have wA : IntKind.u16.wrap ((g.i : Int) + (m : Int)) = (A : Int) := by rw [IntKind.wrap_u16]; omega
  have wA' : ((g.i : Int) + (m : Int)) % 65536 = (A : Int) := by omega
  rw [hmx] at hrd
  have hrd' : Hid (readG g f g.i m = some l) := hrd
  have hfb' : Hid (f.by_.length ≤ 4000000000) := hfb
  have hll : Hid (l.length = m) := read_length hrd
  have eR : Hid (doG g ⟨31, x, y, n, b, a⟩ f d = ({ g with v := wr g.v 0 l m, i := A }, 1)) := by
    show (match readG g f g.i (x + 1) with | none => (g, 7) | some l => (({ g with v := wr g.v 0 l (x + 1), i := (g.i + (x + 1)) % 65536 } : Gm), 1)) = _
    rw [hmx, hrd'.out, hA]
  rw [eR.out]
  clear hx hy hb ha hp hq lp lq hm3 hrd hmx hA hfb
  go_enter Tryz.func70, Tryz.ntmps70
  go_wp2_with (first
    | (go_at_call 94; refine (rread_any y0 C D g f g.i m K0.out.2.lies (hf.out.below K0.out.1.low) hm' hfb' hip.out (Nat.le_trans hmm.out.2 (by decide))).mono ?_; rw [hrd'.out]; rintro e y1 ⟨vR, rfl, H⟩; obtain ⟨spR, capR, hvR, _⟩ := H.own.open kByte.len; subst hvR; rw [hll.out] at H ⊢; have K1 : Hid (Fm w [(w.heap.size, C, 27), (w.heap.size + 1, OC, 60), (w.heap.size + 2, D, 30), (w.heap.size + 3, (dCs d), 38), (w.heap.size + 4, ZC, 27)] y1 ∧ GO B y1 C g ∧ OwnL 5 1 cB y0.heap.size y1 (.slice spR m capR) l ∧ w.heap.size + 5 ≤ y0.heap.size) := ⟨K0.out.1.below H.low, K0.out.2.below H.low, H.own, Nat.succ_le_of_lt (heap_lt (K0.out.1.bx 4 _ _ _ rfl))⟩; clear H)
    | ((with_reducible refine gen_world (((((w.alloc (.cells C 27)).alloc (.cells OC 60)).alloc (.cells D 30)).alloc (.cells (dCs d) 38)).alloc (.cells z23A 27)) (fun y => Fm w [(w.heap.size, C, 27), (w.heap.size + 1, OC, 60), (w.heap.size + 2, D, 30), (w.heap.size + 3, (dCs d), 38), (w.heap.size + 4, ZC, 27)] y ∧ GO B y C g) ?_ ?_); (rw [hZ.out]; unfold gZ; exact ⟨Fm.five w _ _ _ _ _ _ _ _ _ _, hG.out.below (Fm.five w _ _ _ _ _ _ _ _ _ _).low⟩); intro y0 K0; obtain ⟨v1, v2, e0, e1, e2, e4, e5⟩ := five_cells (K := 31) K0.out.1 fV.out hOC.out; have e16 := (K0.out.1.bx 0 _ _ _ rfl).c 16 _ fI.out)
    | ((with_reducible refine at_load rtG w.heap.size C ?_ ?_ (.tmp 4) ?_ ?_ ?_ ?_); exact K0.out.1.bx 0 _ _ _ rfl; exact gC.out; kernel_rfl; rfl; rfl)
    | ((with_reducible refine at_load rtFn (w.heap.size + 2) D ?_ ?_ (.tmp 6) ?_ ?_ ?_ ?_); exact K0.out.1.bx 2 _ _ _ rfl; exact gD.out; kernel_rfl; rfl; rfl))
  generalize y0.heap.size = q0 at K1
  go_loopw [19] (fun kv wz => ∃ (k : Nat) (Ck : Array Value) (z : World), z = wz ∧ k ≤ m ∧ kv = .int .i64 (k : Int) ∧ Hid (Fm w [(w.heap.size, Ck, 27), (w.heap.size + 1, OC, 60), (w.heap.size + 2, D, 30), (w.heap.size + 3, (dCs d), 38), (w.heap.size + 4, ZC, 27)] z ∧ GO B z Ck { g with v := wr g.v 0 l k } ∧ OwnL 5 1 cB q0 z (.slice spR m capR) l ∧ w.heap.size + 5 ≤ q0)) (fun kv _ => (m - intOf kv).toNat)
  case atStart => exact ⟨0, C, _, rfl, Nat.zero_le _, rfl, K1⟩
  case round =>
    obtain ⟨k, Ck, z, rfl, hk, rfl, Kz⟩ := hrel
    clear K0 K1
    by_cases hlt : k < m
    · have hki : (k : Int) < (m : Int) := by omega
      have hk16 : k < 16 := by have := hmm.out.2; omega
      have hlt' : Hid (k < m ∧ k < 16) := ⟨hlt, hk16⟩
      have hL := (own_lb Kz.out.2.2.1).1
      obtain ⟨gb, ob, rfl⟩ := lb_some hL (by rw [hll.out]; omega)
      have ixs := fun v => idxB .i64 gb ob m capR k v hlt
      have cs := lb_at hL k (by rw [hll.out]; exact hlt)
      obtain ⟨bv, hbv⟩ : ∃ t, (l.getD k 0).toNat = t := ⟨_, rfl⟩
      rw [hbv] at cs
      have ixk := fun v => idxV w.heap.size .i64 k v hk16
      have sk := (Kz.out.1.bx 0 _ _ _ rfl).c k _ (Kz.out.2.1.vR k hk16)
      have zk := (Kz.out.1.bx 0 _ _ _ rfl).fz k
      obtain ⟨Cn, hCn⟩ : ∃ t, Hid (t = Ck.setIfInBounds k (.int .u8 (bv : Int))) := ⟨_, (rfl : Ck.setIfInBounds k (.int .u8 (bv : Int)) = _)⟩
      have Kn : Hid (Fm w [(w.heap.size, Cn, 27), (w.heap.size + 1, OC, 60), (w.heap.size + 2, D, 30), (w.heap.size + 3, (dCs d), 38), (w.heap.size + 4, ZC, 27)] (z.setCell ⟨w.heap.size, k, none⟩ (.int .u8 (bv : Int))) ∧ GO B (z.setCell ⟨w.heap.size, k, none⟩ (.int .u8 (bv : Int))) Cn { g with v := wr g.v 0 l (k + 1) } ∧ OwnL 5 1 cB q0 (z.setCell ⟨w.heap.size, k, none⟩ (.int .u8 (bv : Int))) (.slice (some ⟨gb, ob, none⟩) m capR) l ∧ w.heap.size + 5 ≤ q0) := by
        refine ⟨Kz.out.1.setCell 0 _ _ _ _ rfl k _ hCn.out.symm, ?_, ?_, Kz.out.2.2.2⟩
        · have h := (Kz.out.2.1).offT (Kz.out.1.bx 0 _ _ _ rfl) (by decide) (by decide) (fun q' hq' => heap_setCell_other z ⟨w.heap.size, k, none⟩ q' (.int .u8 (bv : Int)) hq')
          have h' := h.rv k hlt'.out.2 (l.getD k 0)
          rw [hbv, wr0 g.v l k hlt'.out.2 _ rfl] at h'
          rw [hCn.out]
          exact h'
        · refine Kz.out.2.2.1.keepB fun gq e => heap_setCell_other z ⟨w.heap.size, k, none⟩ gq _ ?_
          have h1 := (Kz.out.2.2.1.lt gq e).1
          have h2 := Kz.out.2.2.2
          show gq ≠ w.heap.size
          omega
      clear hk hlt hL hbv hk16
      go_wp2
      go_roundw
      case rel => exact ⟨k + 1, Cn, _, rfl, hlt'.out.1, by simp, Kn⟩
      case measure => have := hlt'.out.1; simp [intOf]; omega
    · obtain rfl : k = m := by omega
      clear hk hlt
      obtain ⟨C1, hC1⟩ : ∃ t, Hid (t = Ck.setIfInBounds 16 (.int .u16 (A : Int))) := ⟨_, (rfl : Ck.setIfInBounds 16 (.int .u16 (A : Int)) = _)⟩
      have hS1 : Hid (C1.size = 23) := by show _ = _; rw [hC1.out, Array.size_setIfInBounds]; exact Kz.out.2.1.lies.size.1
      have s16 := (Kz.out.1.bx 0 _ _ _ rfl).c 16 _ (Kz.out.2.1.rest.1)
      have z16 := (Kz.out.1.bx 0 _ _ _ rfl).fz 16
      go_wp2_with (first
        | ((with_reducible refine at_st rtG (w.heap.size + 4) ZC C1 ?_ ?_ ?_ ?_ (.tmp 8) (.tmp 151) ?_ ?_ ?_ ?_ ?_); exact K2.out.1.bx 4 _ _ _ rfl; exact hZ'.out; exact hS1.out; exact K2.out.2.lies.size.2.1; rfl; rfl; rfl; rfl; intro yE HE; have KE : Hid (Fm w [(w.heap.size, C1, 27), (w.heap.size + 1, OC, 60), (w.heap.size + 2, D, 30), (w.heap.size + 3, (dCs d), 38), (w.heap.size + 4, C1, 27)] yE ∧ GO B yE C1 { g with v := wr g.v 0 l k, i := A }) := ⟨K2.out.1.put 4 _ _ _ _ rfl HE.out, (K2.out.2).offT (K2.out.1.bx 4 _ _ _ rfl) (by decide) (by decide) HE.out.2.2⟩; clear HE)
        | ((with_reducible refine gen_world (z.setCell ⟨w.heap.size, 16, none⟩ (.int .u16 (A : Int))) (fun yy => Fm w [(w.heap.size, C1, 27), (w.heap.size + 1, OC, 60), (w.heap.size + 2, D, 30), (w.heap.size + 3, (dCs d), 38), (w.heap.size + 4, ZC, 27)] yy ∧ GO B yy C1 { g with v := wr g.v 0 l k, i := A }) ?_ ?_); (exact ⟨Kz.out.1.setCell 0 _ _ _ _ rfl 16 _ hC1.out.symm, (by have h := (Kz.out.2.1).offT (Kz.out.1.bx 0 _ _ _ rfl) (by decide) (by decide) (fun q' hq' => heap_setCell_other z ⟨w.heap.size, 16, none⟩ q' (.int .u16 (A : Int)) hq'); have h' := h.ri A hA'.out; rw [hC1.out]; exact h')⟩); intro y2 K2; clear z16)
        | ((with_reducible refine at_load rtG w.heap.size C1 ?_ ?_ (.tmp 4) ?_ ?_ ?_ ?_); exact K2.out.1.bx 0 _ _ _ rfl; exact hS1.out; kernel_rfl; rfl; rfl))
      exact ret_two rtG rfl rfl rfl (KE.out.1.bx 4 _ _ _ rfl) hS1.out rfl ⟨C1, rfl, ⟨KE.out.2, BK.ofLow KE.out.1.low hB.out⟩⟩
theorem rothers_fillno (w : World) (B : Nat) (C D : Array Value) (g : Gm) (f : Fo) (d : Fd) (hG : Hid (GO B w C g)) (hB : Hid (B ≤ w.heap.size)) (hf : Hid (FL w D f)) (hd : Hid d.Ok) (x y n b a : Nat) (hx : x < 16) (hy : y < 16) (hb : b < 256) (ha : a < 65536) (hm3 : g.me.length = 3232) (hfb : f.by_.length ≤ 4000000000) (hrd : readG g f g.i (x + 1) = none) :
    Calls Tryz.prog 70 #[.agg C, .agg #[.int .u8 31, .int .u8 (x : Int), .int .u8 (y : Int), .int .u8 (n : Int), .int .u8 (b : Int), .int .u16 (a : Int)], .agg D, .agg (dCs d)] w (RdE B w (doG g ⟨31, x, y, n, b, a⟩ f d)) := by
  obtain ⟨ZC, p, q, gC, gD, hZ, hZ', hp, hq, lp, lq, fV, ixx, ixy, ixi, iyi, ibi, iai, ipi, iqi⟩ := pre_do w B C D g f x y b a hG hf hx hy hb ha
  obtain ⟨OC, hOC⟩ := hid_ex #[.int .u8 31, .int .u8 (x : Int), .int .u8 (y : Int), .int .u8 (n : Int), .int .u8 (b : Int), .int .u16 (a : Int)]
  rw [← hOC.out]
  have fI : Hid (C[16]? = some (.int .u16 (g.i : Int))) := hG.out.rest.1
  have iI : (g.i : Int) < 65536 := by have := hG.out.ok.i; omega
  obtain ⟨m, hmx⟩ : ∃ z, x + 1 = z := ⟨_, rfl⟩
  have wm : (x : Int) + 1 = (m : Int) := by omega
  have mi : (m : Int) ≤ 16 := by omega
  have hmm : Hid (0 < m ∧ m ≤ 16) := ⟨by omega, by omega⟩
  have hip : Hid (g.i < 65536) := hG.out.ok.i
  have hm' : Hid (g.me.length = 3232) := hm3
  obtain ⟨A, hA⟩ : ∃ z, (g.i + m) % 65536 = z := ⟨_, rfl⟩
  have hA' : Hid (A < 65536) := by show A < 65536; omega
  have wA : IntKind.u16.wrap ((g.i : Int) + (m : Int)) = (A : Int) := by rw [IntKind.wrap_u16]; omega
  have wA' : ((g.i : Int) + (m : Int)) % 65536 = (A : Int) := by omega
  rw [hmx] at hrd
  have hrd' : Hid (readG g f g.i m = none) := hrd
  have hfb' : Hid (f.by_.length ≤ 4000000000) := hfb
  have eR : Hid (doG g ⟨31, x, y, n, b, a⟩ f d = (g, 7)) := by
    show (match readG g f g.i (x + 1) with | none => (g, 7) | some l => (({ g with v := wr g.v 0 l (x + 1), i := (g.i + (x + 1)) % 65536 } : Gm), 1)) = _
    rw [hmx, hrd'.out]
  rw [eR.out]
  clear hx hy hb ha hp hq lp lq hm3 hrd hmx hA hfb
  go_enter Tryz.func70, Tryz.ntmps70
  go_wp2_with (first
    | ((with_reducible refine at_st rtG (w.heap.size + 4) ZC C ?_ ?_ ?_ ?_ (.tmp 8) (.tmp 132) ?_ ?_ ?_ ?_ ?_); exact K1.out.1.bx 4 _ _ _ rfl; exact hZ'.out; exact gC.out; exact K1.out.2.lies.size.2.1; rfl; rfl; rfl; rfl; intro yE HE; have KE : Hid (Fm w [(w.heap.size, C, 27), (w.heap.size + 1, OC, 60), (w.heap.size + 2, D, 30), (w.heap.size + 3, (dCs d), 38), (w.heap.size + 4, C, 27)] yE ∧ GO B yE C g) := ⟨K1.out.1.put 4 _ _ _ _ rfl HE.out, (K1.out.2).offT (K1.out.1.bx 4 _ _ _ rfl) (by decide) (by decide) HE.out.2.2⟩; clear HE)
    | (go_at_call 94; refine (rread_any y0 C D g f g.i m K0.out.2.lies (hf.out.below K0.out.1.low) hm' hfb' hip.out (Nat.le_trans hmm.out.2 (by decide))).mono ?_; rw [hrd'.out]; rintro e y1 ⟨rfl, H⟩; have K1 : Hid (Fm w [(w.heap.size, C, 27), (w.heap.size + 1, OC, 60), (w.heap.size + 2, D, 30), (w.heap.size + 3, (dCs d), 38), (w.heap.size + 4, ZC, 27)] y1 ∧ GO B y1 C g) := ⟨K0.out.1.below H, K0.out.2.below H⟩; clear H)
    | ((with_reducible refine gen_world (((((w.alloc (.cells C 27)).alloc (.cells OC 60)).alloc (.cells D 30)).alloc (.cells (dCs d) 38)).alloc (.cells z23A 27)) (fun y => Fm w [(w.heap.size, C, 27), (w.heap.size + 1, OC, 60), (w.heap.size + 2, D, 30), (w.heap.size + 3, (dCs d), 38), (w.heap.size + 4, ZC, 27)] y ∧ GO B y C g) ?_ ?_); (rw [hZ.out]; unfold gZ; exact ⟨Fm.five w _ _ _ _ _ _ _ _ _ _, hG.out.below (Fm.five w _ _ _ _ _ _ _ _ _ _).low⟩); intro y0 K0; obtain ⟨v1, v2, e0, e1, e2, e4, e5⟩ := five_cells (K := 31) K0.out.1 fV.out hOC.out; have e16 := (K0.out.1.bx 0 _ _ _ rfl).c 16 _ fI.out)
    | ((with_reducible refine at_load rtG w.heap.size C ?_ ?_ (.tmp 4) ?_ ?_ ?_ ?_); (first | exact K1.out.1.bx 0 _ _ _ rfl | exact K0.out.1.bx 0 _ _ _ rfl); exact gC.out; kernel_rfl; rfl; rfl)
    | ((with_reducible refine at_load rtFn (w.heap.size + 2) D ?_ ?_ (.tmp 6) ?_ ?_ ?_ ?_); exact K0.out.1.bx 2 _ _ _ rfl; exact gD.out; kernel_rfl; rfl; rfl))
  exact ret_two rtG rfl rfl rfl (KE.out.1.bx 4 _ _ _ rfl) gC.out rfl ⟨C, rfl, ⟨KE.out.2, BK.ofLow KE.out.1.low hB.out⟩⟩
end Go.Proofs.YteipjkjpeookaaaGreat
