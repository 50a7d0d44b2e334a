/- A machine in memory of its own, its memory written; its PC. The document's own: bytes written into a machine's memory. -/
import Derived.Test.YteipjkjpeookaaaGreatJ28
import Derived.BigRegion
namespace Go.Proofs.YteipjkjpeookaaaGreat
open Go Go.RowKit Go.Shelf
set_option linter.unusedVariables false
set_option maxHeartbeats 1000000
set_option maxRecDepth 20000

theorem GO.memC {B : Nat} {w : World} {C : Array Value} {g : Gm} (h : GO B w C g) (h0 : 0 < g.me.length) : ∃ gM cM, C[22]? = some (.slice (some ⟨gM, 0, none⟩) g.me.length cM) := by
  obtain ⟨⟨vS, vP, vM, e, h1, h2, h3, h4⟩, ok⟩ := h
  obtain ⟨sp, cM, ev, hl, k0, _⟩ := OwnL.open kByte.len h3
  obtain ⟨gb, ob, rfl⟩ := lb_some hl h0
  obtain rfl : ob = 0 := (k0 _ rfl).1
  exact ⟨gb, cM, by rw [e, ev]; rfl⟩
theorem GO.setMe {B : Nat} {w : World} {C : Array Value} {g : Gm} (h : GO B w C g) {gM n cM : Nat} (hC : C[22]? = some (.slice (some ⟨gM, 0, none⟩) n cM)) (k : Nat) (hk : k < g.me.length) :
    B ≤ gM ∧ (∃ cs, Bx w gM cs 5) ∧ (∃ v : Nat, w.cell? ⟨gM, k, none⟩ = some (.int .u8 (v : Int))) ∧ w.frozen? ⟨gM, k, none⟩ = false ∧ ∀ b : UInt8, GO B (w.setCell ⟨gM, k, none⟩ (.int .u8 (b.toNat : Int))) C { g with me := g.me.set k b } := by
  obtain ⟨⟨vS, vP, vM, e, h1, h2, h3, h4⟩, ok⟩ := h
  have eM : vM = .slice (some ⟨gM, 0, none⟩) n cM := by
    rw [e] at hC
    exact Option.some.inj hC
  subst eM
  have hbx := h3.ty gM rfl
  obtain ⟨cs, hb⟩ := hbx
  obtain ⟨sp, cap, ev, hl, k0, _⟩ := OwnL.open kByte.len h3
  injection ev with ev1 ev2 ev3
  subst ev1
  have hc := lb_at hl k hk
  rw [Nat.zero_add] at hc
  refine ⟨(h3.lt gM rfl).1, ⟨cs, hb⟩, ⟨_, hc⟩, hb.fz k, fun b => ?_⟩
  have hs := OwnL.set kByte.len h3 k hk b
  have es : w.setCells gM (k * 1) (cB b) = w.setCell ⟨gM, k, none⟩ (.int .u8 (b.toNat : Int)) := by
    rw [Nat.mul_one]
    rfl
  rw [es] at hs
  have ho : ∀ q, q ≠ gM → (w.setCell ⟨gM, k, none⟩ (.int .u8 (b.toNat : Int))).heap[q]? = w.heap[q]? := fun q hq => heap_setCell_other w ⟨gM, k, none⟩ q _ hq
  refine ⟨⟨vS, vP, _, e, h1.keepB fun q hq => ho q (by obtain ⟨cs', k1⟩ := h1.ty q hq; exact Bx.unlike k1 hb (by decide)), h2.keepB fun q hq => ho q (fun eq => h4 q hq (by rw [eq]; rfl)), ?_, h4⟩, ⟨ok.v, ok.i, ok.pc, ok.st⟩⟩
  exact hs.1
/-- The statements' own pick, as a number. -/
theorem pick_nat (a : Int) (n : Nat) (hn : 0 < n) : ∃ p : Nat, p < n ∧ (if a < 0 then -(a + 1) else a) % (n : Int) = (p : Int) := by
  have h0 := Int.emod_nonneg (if a < 0 then -(a + 1) else a) (show (n : Int) ≠ 0 by omega)
  have h1 := Int.emod_lt_of_pos (if a < 0 then -(a + 1) else a) (show (0 : Int) < n by omega)
  exact ⟨((if a < 0 then -(a + 1) else a) % (n : Int)).toNat, by omega, by omega⟩
end Go.Proofs.YteipjkjpeookaaaGreat

namespace Go.Proofs.YteipjkjpeookaaaGreat
open Go Go.RowKit Go.Shelf
set_option linter.unusedVariables false
set_option maxHeartbeats 1000000
set_option maxRecDepth 20000

theorem CuL.one {B g : Nat} {y u : World} (h : CuL B (fun q _ => q = g) y u) (hB : B ≤ g) (k : Nat) (v : Value) : CuL B (fun q _ => q = g) y (u.setCell ⟨g, k, none⟩ v) :=
  h.trans ⟨(Below.refl B u).setCell (p := ⟨g, k, none⟩) hB v, fun q j _ hq => World.cell?_of_block (w := u) (a := ⟨q, j, none⟩) (heap_setCell_other u ⟨g, k, none⟩ q v hq), fun q _ hq => heap_setCell_other u ⟨g, k, none⟩ q v (hq 0)⟩
/-- What write answers. -/
def WrE (B : Nat) (w : World) (C : Array Value) (g : Gm) (a n : Nat) (l : List UInt8) (gM : Nat) (r : Bool) (e : Ending) (w' : World) : Prop := e = .returned (.tuple #[.agg C, .bool r]) ∧ Hid (GO B w' C (if r then { g with me := wr g.me (a - 512) l n } else g) ∧ CuL B (fun q _ => q = gM) w w')
theorem cu_box {w y z : World} {B g : Nat} {cs : Array Value} (hu : CuL B (fun q _ => q = g) w y) (h : Bx z (w.heap.size + 1) cs 27 ∧ (∀ B', B' ≤ w.heap.size + 1 → Below B' y z) ∧ ∀ q, q ≠ w.heap.size + 1 → z.heap[q]? = y.heap[q]?) (hB : B ≤ w.heap.size) : CuL B (fun q _ => q = g) w z := by
  refine ⟨hu.low.trans (h.2.1 B (by omega)), fun q j hq hF => ?_, fun q hq hF => ?_⟩
  · exact (World.cell?_of_block (w := y) (a := ⟨q, j, none⟩) (h.2.2 q (by omega))).trans (hu.cell q j hq hF)
  · exact (h.2.2 q (by omega)).trans (hu.blk q hq hF)
theorem rwrite_any (w : World) (B : Nat) (C : Array Value) (g : Gm) (a n : Nat) (l : List UInt8) (spB : Option Addr) (capB gM cM : Nat) (hG : Hid (GO B w C g)) (hB : Hid (B ≤ w.heap.size)) (hm : Hid (g.me.length = 3232)) (hM : Hid (C[22]? = some (.slice (some ⟨gM, 0, none⟩) 3232 cM))) (hl : l.length = n) (hn : 0 < n) (hn16 : n ≤ 16) (ha : a < 65536) (hsrc : Hid (∀ u, CuL B (fun q _ => q = gM) w u → LB u spB l)) :
    Calls Tryz.prog 96 #[.agg C, .int .i64 (a : Int), .slice spB n capB] w (WrE B w C g a n l gM (fitG a n)) := by
  have gC : Hid (C.size = 23) := hG.out.lies.size.1
  have hll : Hid (l.length = n) := hl
  obtain ⟨ZC, hZ⟩ : ∃ x : Array Value, Hid (x = gZ) := ⟨_, (rfl : gZ = gZ)⟩
  have hZ' : Hid (ZC.size = 23) := by show _ = _; rw [hZ.out]; rfl
  have hgM : Hid (B ≤ gM ∧ gM < w.heap.size) := by
    obtain ⟨h1, ⟨cs, h2⟩, _⟩ := hG.out.setMe hM.out 0 (by rw [hm.out]; decide)
    exact ⟨h1, heap_lt h2⟩
  have ni : (n : Int) ≤ 16 := by omega
  have ai : (a : Int) < 65536 := by omega
  have hna : Hid (0 < n ∧ n ≤ 16 ∧ a < 65536) := ⟨hn, hn16, ha⟩
  obtain ⟨R, hR⟩ : ∃ r, Hid (fitG a n = r) := ⟨_, (rfl : fitG a n = _)⟩
  rw [hR.out]
  clear hl hn hn16 ha
  have K0 : Hid ((Bx ((w.alloc (.cells C 27)).alloc (.cells z23A 27)) w.heap.size C 27 ∧ Bx ((w.alloc (.cells C 27)).alloc (.cells z23A 27)) (w.heap.size + 1) ZC 27) ∧ GO B ((w.alloc (.cells C 27)).alloc (.cells z23A 27)) C g ∧ CuL B (fun q _ => q = gM) w ((w.alloc (.cells C 27)).alloc (.cells z23A 27))) := by
    have F := Fm.two w C (z23A : Array Value) 27 27
    exact ⟨⟨F.bx 0 _ _ _ rfl, by rw [hZ.out]; unfold gZ; exact F.bx 1 _ _ _ rfl⟩, hG.out.below F.low, CuL.of_below F.low hB.out⟩
  go_enter Tryz.func96, Tryz.ntmps96
  go_wp2
  generalize ((w.alloc (.cells C 27)).alloc (.cells z23A 27)) = y0 at K0 ⊢
  go_loopw [8] (fun kv wz => ∃ (k : Nat) (u : World), u = wz ∧ k ≤ n ∧ kv = .int .i64 (k : Int) ∧ u = y0 ∧ Hid (∀ j, j < k → inM (a + j) = true)) (fun kv _ => (n - intOf kv).toNat)
  case atStart => exact ⟨0, _, rfl, Nat.zero_le _, rfl, rfl, fun j hj => by omega⟩
  case round =>
    obtain ⟨k, u, rfl, hk, rfl, rfl, Kj⟩ := hrel
    by_cases hlt : k < n
    · have hki : (k : Int) < (n : Int) := by omega
      have hlt' : Hid (k < n) := hlt
      obtain ⟨ak, hak⟩ : ∃ z, a + k = z := ⟨_, rfl⟩
      have wk : (a : Int) + (k : Int) = (ak : Int) := by omega
      have aki : (ak : Int) < 65552 := by omega
      have hakl : Hid (a + k = ak ∧ ak ≤ 4000000000) := ⟨hak, by have := hna.out; omega⟩
      have ki16 : (k : Int) ≤ 16 := by omega
      rcases hi : inM ak with _ | _
      · have hfin : Hid (R = false) := by
          show R = false
          rw [← hR.out]
          unfold fitG
          unfold inM at hi
          simp at hi ⊢
          have := hna.out
          omega
        have him : Hid (inM ak = false) := hi
        clear hk hlt hak hi
        go_wp2_with (first
          | (go_at_call 65; refine (inmem_any u ak hakl.out.2).mono ?_; rintro e yp ⟨rfl, ep⟩; replace ep := ep.symm; subst ep; rw [him.out])
          | ((with_reducible refine at_load rtG w.heap.size C ?_ ?_ (.tmp 3) ?_ ?_ ?_ ?_); exact K0.out.1.1; exact gC.out; kernel_rfl; rfl; rfl)
          | ((with_reducible refine at_st rtG (w.heap.size + 1) ZC C ?_ ?_ ?_ ?_ (.tmp 6) (.tmp 21) ?_ ?_ ?_ ?_ ?_); exact K0.out.1.2; exact hZ'.out; exact gC.out; exact K0.out.2.1.lies.size.2.1; rfl; rfl; rfl; rfl; intro yE HE; have KE : Hid ((Bx yE w.heap.size C 27 ∧ Bx yE (w.heap.size + 1) C 27) ∧ GO B yE C g ∧ CuL B (fun q _ => q = gM) w yE) := ⟨⟨(HE.out.2.2 w.heap.size (Nat.ne_of_lt (Nat.lt_succ_self _))).trans K0.out.1.1, HE.out.1⟩, (K0.out.2.1).offT (K0.out.1.2) (by decide) (by decide) HE.out.2.2, cu_box K0.out.2.2 HE.out hB.out⟩; clear HE))
        exact ret_two rtG rfl rfl rfl (KE.out.1.2) gC.out rfl ⟨by rw [hfin.out]; rfl, by rw [hfin.out]; exact KE.out.2⟩
      · have him : Hid (inM ak = true) := hi
        have Kj2 : Hid (∀ j, j < k + 1 → inM (a + j) = true) := fun j hj => by
          rcases Nat.lt_or_ge j k with c | c
          · exact Kj.out j c
          · rw [show j = k by omega, hakl.out.1]; exact him.out
        clear hk hlt hak hi
        go_wp2_with (go_at_call 65; refine (inmem_any u ak hakl.out.2).mono ?_; rintro e yp ⟨rfl, ep⟩; replace ep := ep.symm; subst ep; rw [him.out])
        go_roundw
        case rel => exact ⟨k + 1, _, rfl, hlt'.out, by simp, rfl, Kj2⟩
        case measure => have := hlt'.out; simp [intOf]; omega
    · obtain rfl : k = n := by omega
      have hrange : Hid (512 ≤ a ∧ a + k ≤ 3744) := by
        have h0 := Kj.out 0 hna.out.1
        have h1 := Kj.out (k - 1) (by have := hna.out.1; omega)
        unfold inM at h0 h1
        simp at h0 h1
        have := hna.out.1
        exact ⟨by omega, by omega⟩
      have hfin : Hid (R = true) := by
        show R = true
        rw [← hR.out]
        unfold fitG
        have := hrange.out
        simp
        omega
      clear hk hlt
      go_wp2
      go_loopw [9] (fun kv wz => ∃ (j : Nat) (z : World), z = wz ∧ j ≤ k ∧ kv = .int .i64 (j : Int) ∧ Hid ((Bx z w.heap.size C 27 ∧ Bx z (w.heap.size + 1) ZC 27) ∧ GO B z C { g with me := wr g.me (a - 512) l j } ∧ CuL B (fun q _ => q = gM) w z)) (fun kv _ => (k - intOf kv).toNat)
      case atStart => exact ⟨0, _, rfl, Nat.zero_le _, rfl, K0⟩
      case round =>
        obtain ⟨j, z, rfl, hj, rfl, Kz⟩ := hrel
        have c22 := (Kz.out.1.1).c 22 _ hM.out
        by_cases hlt : j < k
        · have hji : (j : Int) < (k : Int) := by omega
          have hlt' : Hid (j < k) := hlt
          have ji16 : (j : Int) ≤ 16 := by have := hna.out; omega
          obtain ⟨aj, haj⟩ : ∃ t, a + j = t := ⟨_, rfl⟩
          obtain ⟨mj, hmj⟩ : ∃ t, aj - 512 = t := ⟨_, rfl⟩
          have hr := hrange.out
          have w1 : (a : Int) + (j : Int) = (aj : Int) := by omega
          have w2 : (aj : Int) - 512 = (mj : Int) := by omega
          have i1 : (aj : Int) < 65552 := by omega
          have i2 : (mj : Int) < 3232 := by omega
          have i3 : mj < 3232 := by omega
          have ixm := fun v => idxB .i64 gM 0 3232 cM mj v i3
          simp only [Nat.zero_add] at ixm
          have hL := hsrc.out z Kz.out.2.2
          obtain ⟨gb, ob, rfl⟩ := lb_some hL (by rw [hll.out]; omega)
          have ixs := fun v => idxB .i64 gb ob k capB j v hlt
          have cs := lb_at hL j (by rw [hll.out]; exact hlt)
          obtain ⟨bv, hbv⟩ : ∃ t, (l.getD j 0).toNat = t := ⟨_, rfl⟩
          rw [hbv] at cs
          obtain ⟨hBg, ⟨csM, hbM⟩, ⟨ov, cm⟩, fm, hset⟩ := (Kz.out.2.1).setMe hM.out mj (by show mj < (wr g.me (a - 512) l j).length; rw [wr_len, hm.out]; exact i3)
          have hset' := hset (l.getD j 0)
          rw [hbv] at hset'
          have eG : { g with me := (wr g.me (a - 512) l j).set mj (l.getD j 0) } = { g with me := wr g.me (a - 512) l (j + 1) } := by
            show _ = { g with me := (wr g.me (a - 512) l j).set (a - 512 + j) (l.getD j 0) }
            rw [show a - 512 + j = mj by omega]
          have Kn : Hid (∀ nq, (Bx ((z.drewN nq).setCell ⟨gM, mj, none⟩ (.int .u8 (bv : Int))) w.heap.size C 27 ∧ Bx ((z.drewN nq).setCell ⟨gM, mj, none⟩ (.int .u8 (bv : Int))) (w.heap.size + 1) ZC 27) ∧ GO B ((z.drewN nq).setCell ⟨gM, mj, none⟩ (.int .u8 (bv : Int))) C { g with me := wr g.me (a - 512) l (j + 1) } ∧ CuL B (fun q _ => q = gM) w ((z.drewN nq).setCell ⟨gM, mj, none⟩ (.int .u8 (bv : Int)))) := fun nq => by
            have hdr : Below z.heap.size z (z.drewN nq) := below_drewN (Below.refl _ _)
            have hs2 := ((Kz.out.2.1).below hdr).setMe hM.out mj (by show mj < (wr g.me (a - 512) l j).length; rw [wr_len, hm.out]; exact i3)
            have h5 := hs2.2.2.2.2 (l.getD j 0)
            rw [hbv, eG] at h5
            refine ⟨⟨(heap_setCell_other (z.drewN nq) ⟨gM, mj, none⟩ w.heap.size _ (by have := hgM.out.2; show w.heap.size ≠ gM; omega)).trans Kz.out.1.1, (heap_setCell_other (z.drewN nq) ⟨gM, mj, none⟩ (w.heap.size + 1) _ (by have := hgM.out.2; show w.heap.size + 1 ≠ gM; omega)).trans Kz.out.1.2⟩, h5, ?_⟩
            exact ((Kz.out.2.2).trans (CuL.of_below hdr (Nat.le_trans hB.out (Kz.out.2.2.low.size)))).one hBg mj _
          clear hj hlt haj hmj hr i3 hL hset hset' eG hbv hbM
          go_wp2
          go_region
          go_wp2
          go_roundw
          case rel => exact ⟨j + 1, _, rfl, hlt'.out, by simp, Kn.out _⟩
          case measure => have := hlt'.out; simp [intOf]; omega
        · obtain rfl : j = k := by omega
          clear hj hlt
          go_wp2_with (first
            | ((with_reducible refine at_load rtG w.heap.size C ?_ ?_ (.tmp 3) ?_ ?_ ?_ ?_); exact Kz.out.1.1; exact gC.out; kernel_rfl; rfl; rfl)
            | ((with_reducible refine at_st rtG (w.heap.size + 1) ZC C ?_ ?_ ?_ ?_ (.tmp 6) (.tmp 39) ?_ ?_ ?_ ?_ ?_); exact Kz.out.1.2; exact hZ'.out; exact gC.out; exact Kz.out.2.1.lies.size.2.1; rfl; rfl; rfl; rfl; intro yE HE; have KE : Hid ((Bx yE w.heap.size C 27 ∧ Bx yE (w.heap.size + 1) C 27) ∧ GO B yE C { g with me := wr g.me (a - 512) l j } ∧ CuL B (fun q _ => q = gM) w yE) := ⟨⟨(HE.out.2.2 w.heap.size (Nat.ne_of_lt (Nat.lt_succ_self _))).trans Kz.out.1.1, HE.out.1⟩, (Kz.out.2.1).offT (Kz.out.1.2) (by decide) (by decide) HE.out.2.2, cu_box Kz.out.2.2 HE.out hB.out⟩; clear HE))
          exact ret_two rtG rfl rfl rfl (KE.out.1.2) gC.out rfl ⟨by rw [hfin.out]; rfl, by rw [hfin.out, if_pos rfl]; exact KE.out.2⟩
end Go.Proofs.YteipjkjpeookaaaGreat
