/- A game that is worked on: registers filled; rows drawn. -/
import Derived.Test.YtfkifppadngmdaaG22
namespace Go.Proofs.Ytfkifppadngmdaa
open Go Go.RowKit Go.Shelf
set_option linter.unusedVariables false
set_option maxHeartbeats 1000000
set_option maxRecDepth 20000

def pT (i pc : Nat) (sS : Value) (de so : UInt8) (sP sM : Value) (o : Od) (d : Fd) (pl : List Nat) (fr : Nat) (sB : Value) : List Value :=
  [.int .u16 (i : Int), .int .u16 (pc : Int), sS, byV de, byV so, sP, sM, .int .u8 (o.op : Int), .int .u8 (o.x : Int), .int .u8 (o.y : Int), .int .u8 (o.n : Int), .int .u8 (o.b : Int), .int .u16 (o.a : Int),
    byV d.rn, .int .u16 (d.ks : Int), .int .i64 d.ky, wV pl 0, wV pl 1, wV pl 2, wV pl 3, wV pl 4, wV pl 5, wV pl 6, wV pl 7, wV pl 8, wV pl 9, wV pl 10, wV pl 11, wV pl 12, wV pl 13, wV pl 14, wV pl 15, .int .u16 (fr : Int), sB]
theorem pCs_list (v : List UInt8) (i pc : Nat) (sS : Value) (de so : UInt8) (sP sM : Value) (o : Od) (d : Fd) (pl : List Nat) (fr : Nat) (sB : Value) (hv : v.length = 16) : pCs v i pc sS de so sP sM o d pl fr sB = (v.map byV ++ pT i pc sS de so sP sM o d pl fr sB).toArray := by
  match v, hv with
  | [a0, a1, a2, a3, a4, a5, a6, a7, a8, a9, a10, a11, a12, a13, a14, a15], _ => rfl
theorem PB.fillV {B : Nat} {w : World} {b : Nat} {g : Gm} {o : Od} {f : Fo} {d : Fd} (h : PB B w b g o f d) (l : List UInt8) (hl : l.length ≤ 16) : ∃ C, Bx w b C 54 ∧ C.size = 50 ∧ ∀ y, (Bx y b (splice C.toList 0 (l.map byV)).toArray 54 ∧ (∀ B, B ≤ b → Below B w y) ∧ ∀ q, q ≠ b → y.heap[q]? = w.heap[q]?) → PB B y b { g with v := wr g.v 0 l l.length } o f d ∧ Below B w y := by
  obtain ⟨⟨C, vS, vP, vM, sB, cap, hx, e, h1, h2, h3, h4, h5, h6⟩, h7, h8, h9, h10, h11, h12⟩ := h
  refine ⟨C, hx, by rw [e]; rfl, fun y hy => ?_⟩
  have hlw := hy.2.1 B h7
  have hv : (wr g.v 0 l l.length).length = 16 := by rw [wr_len]; exact h8.v
  have ew := wr_all g.v 0 l l.length (Nat.le_refl _) (by rw [h8.v]; omega)
  refine ⟨⟨⟨_, vS, vP, vM, sB, cap, hy.1, ?_, ?_, ?_, ?_, h4, lb_low h5 h6 hlw, h6⟩, h7, ⟨hv, h8.i, h8.pc, h8.st⟩, h9, h10, h11, h12⟩, hlw⟩
  · rw [pCs_list _ _ _ _ _ _ _ _ _ _ _ _ _ hv, e, pCs_list _ _ _ _ _ _ _ _ _ _ _ _ _ h8.v, ew]
    congr 1
    show splice (List.map byV g.v ++ _) 0 (List.map byV l) = _
    unfold splice
    rw [List.length_map, List.take_zero, List.nil_append, List.take_zero, List.nil_append, Nat.zero_add, List.take_length, List.drop_append_of_le_length (by rw [List.length_map, h8.v]; exact hl), List.map_append, List.map_drop, List.append_assoc]
  · exact h1.keepB fun q hq => hy.2.2 q (by obtain ⟨cs, k1⟩ := h1.ty q hq; exact Bx.unlike k1 hx (by decide))
  · exact h2.keepB fun q hq => hy.2.2 q (by obtain ⟨cs, k1⟩ := h2.ty q hq; exact Bx.unlike k1 hx (by decide))
  · exact h3.keepB fun q hq => hy.2.2 q (by obtain ⟨cs, k1⟩ := h3.ty q hq; exact Bx.unlike k1 hx (by decide))
theorem lb_cells {y : World} {q : Nat} {l : List UInt8} (h : LB y (some ⟨q, 0, none⟩) l) : ∀ j v, (l.map byV)[j]? = some v → y.cell? ((⟨q, 0, none⟩ : Addr).add j) = some v := fun j v hv => by
  have hj : j < l.length := by have := (List.getElem?_eq_some_iff.1 hv).1; rw [List.length_map] at this; exact this
  have := lb_at h j hj
  rw [Addr.add_lit, this]
  rw [List.getElem?_map, List.getElem?_eq_getElem hj] at hv
  injection hv with hv
  rw [← hv, List.getD_eq_getElem?_getD, List.getElem?_eq_getElem hj]
  rfl
theorem own_some {B : Nat} {w : World} {v : Value} {l : List UInt8} (h : OwnL 5 1 cB B w v l) (h0 : 0 < l.length) : ∃ q c, v = .slice (some ⟨q, 0, none⟩) l.length c ∧ LB w (some ⟨q, 0, none⟩) l := by
  obtain ⟨sp, cap, ev, hl, k0, _⟩ := OwnL.open kByte.len h
  obtain ⟨gb, ob, rfl⟩ := lb_some hl h0
  obtain rfl : ob = 0 := (k0 _ rfl).1
  exact ⟨gb, cap, ev, hl⟩
theorem do_fill (g : Gm) (o : Od) (f : Fo) (d : Fd) (h : o.op = 31) : doG g o f d = match readG g f g.i (o.x + 1) with
    | none => (g, 7)
    | some l => ({ g with v := wr g.v 0 l (o.x + 1), i := (g.i + (o.x + 1)) % 65536 }, 1) := by unfold doG; rw [h]; rfl
theorem m_fill_any {B : Nat} (w : World) (b : Nat) (g : Gm) (o : Od) (f : Fo) (d : Fd) (h : Hid (PB B w b g o f d)) (ho : o.op = 31) : Calls Try.prog 48 #[.pointer (some ⟨b, 0, none⟩)] w (MdE B w b o f d (doG g o f d)) := by
  rw [do_fill g o f d ho]
  have hx := h.out.oo.x
  have ii := h.out.ok.i
  have hcnt := count_any w b g o f d h.out
  have hrd := fun n => read_any (w.drewN n) b g o f d (h.out.drew n) (o.x + 1) (by omega)
  have hB : Hid (B ≤ w.heap.size) := Nat.le_trans h.out.hb (Nat.le_of_lt h.out.lt)
  rcases hr : readG g f g.i (o.x + 1) with _ | l
  · rw [hr] at hrd
    obtain ⟨N, hN⟩ : ∃ N, o.x + 1 = N := ⟨_, rfl⟩
    simp only [hN] at hrd hcnt
    clear h ho hx ii hr hN
    go_enter Try.func48, Try.ntmps48
    go_wp2_with (first
      | (go_at_call 61; refine (hrd _).mono ?_; rintro e y1 ⟨rfl, H1⟩; have K1 : Hid (Below B w y1) := (below_drewN (Below.refl _ _)).trans (H1.mono hB.out))
      | (go_at_call 67; refine hcnt.mono ?_; rintro e y0 ⟨rfl, m, rfl⟩))
    go_ret
    exact ⟨rfl, K1.out, fun e => by cases e⟩
  · rw [hr] at hrd
    have hll := read_length hr
    obtain ⟨T, hT⟩ : ∃ T, (g.i + (o.x + 1)) % 65536 = T := ⟨_, rfl⟩
    obtain ⟨R, hR⟩ : ∃ R, { g with v := wr g.v 0 l (o.x + 1), i := T } = R := ⟨_, rfl⟩
    show Calls _ _ _ _ (MdE B w b o f d ({ g with v := wr g.v 0 l (o.x + 1), i := (g.i + (o.x + 1)) % 65536 }, 1))
    rw [hT, hR]
    obtain ⟨R1, hR1⟩ : ∃ R1, { g with v := wr g.v 0 l (o.x + 1) } = R1 := ⟨_, rfl⟩
    have eR1 : { R1 with i := T } = R := by rw [← hR, ← hR1]
    have hpt : Hid (∀ y, PB B y b R1 o f d → (y.cell? ⟨b, 16, none⟩ = some (.int .u16 (g.i : Int)) ∧ (∀ n, Calls Try.prog 67 #[.pointer (some ⟨b, 0, none⟩)] (y.drewN n) fun e w' => e = .returned (.int .i64 ((o.x + 1 : Nat) : Int)) ∧ ∃ m, w' = (y.drewN n).drewN m) ∧ ∀ n, Calls Try.prog 60 #[.pointer (some ⟨b, 0, none⟩), .int .u16 (T : Int)] (y.drewN n) fun e w' => e = .returned (.int .u8 1) ∧ Below B (y.drewN n) w' ∧ PB B w' b R o f d)) := fun y hy => ⟨by have := hy.ci; rw [← hR1] at this; exact this, fun n => count_any (y.drewN n) b _ o f d (hy.drew n), fun n => by rw [← eR1]; exact pointTo_any (y.drewN n) b _ o f d (hy.drew n) T (by omega)⟩
    obtain ⟨I, hI⟩ : ∃ I, g.i = I := ⟨_, rfl⟩
    have hfl : Hid (∀ y, Below w.heap.size w y → ∃ C, Bx y b C 54 ∧ C.size = 50 ∧ ∀ z, (Bx z b (splice C.toList 0 (l.map byV)).toArray 54 ∧ (∀ B, B ≤ b → Below B y z) ∧ ∀ q, q ≠ b → z.heap[q]? = y.heap[q]?) → PB B z b R1 o f d ∧ Below B y z) := fun y hy => by
      have := (h.out.below hy).fillV l (by omega)
      rw [hll, hR1] at this
      exact this
    obtain ⟨N, hN⟩ : ∃ N, o.x + 1 = N := ⟨_, rfl⟩
    simp only [hN] at hrd hcnt hpt
    rw [hI] at hpt
    rw [hI, hN] at hT
    rw [hN] at hll
    have hsl := slAll b
    have hlN : Hid (l.length = N ∧ 0 < N ∧ N ≤ 16) := ⟨hll, by omega, by omega⟩
    have i1 : (N : Int) ≤ 16 := by omega
    have i2 : (I : Int) < 65536 := by omega
    have q1 : ((I : Int) + (N : Int)) % 65536 = (T : Int) := by omega
    have q2 : IntKind.u16.wrap ((I : Int) + (N : Int)) = (T : Int) := by rw [IntKind.wrap_u16]; exact q1
    clear h ho hx ii hr hN hI hT hR hll eR1 hR1
    go_enter Try.func48, Try.ntmps48
    go_wp2_with (first
      | (refine at_copyO rfl (.tmp 18) (.tmp 19) rfl b 0 16 16 ⟨q, 0, none⟩ N c rfl rfl C 54 K2.out.1 l hlN.out.1 hlN.out.2.2 (lb_cells K1.out.2) (by have := K2.out.2.1; have := hlN.out.2.2; omega) ?_; intro y2 H2; have K3 := K2.out.2.2 y2 H2.out; have K4 : Hid (Below B w y2) := (K1.out.1.mono hB.out).trans K3.2; obtain ⟨d1, d2, d3⟩ := hpt.out y2 K3.1; clear K3 K2 K1 hpt hfl hrd hcnt H2)
      | (go_at_call 61; refine (hrd _).mono ?_; rintro e y1 ⟨v, rfl, H1⟩; obtain ⟨q, c, rfl, hq⟩ := own_some H1.own (by rw [hlN.out.1]; exact hlN.out.2.1); rw [hlN.out.1]; have K1 : Hid (Below w.heap.size w y1 ∧ LB y1 (some ⟨q, 0, none⟩) l) := ⟨(below_drewN (Below.refl _ _)).trans H1.low, hq⟩; obtain ⟨C, K2⟩ := hfl.out y1 K1.out.1; replace K2 : Hid (Bx y1 b C 54 ∧ C.size = 50 ∧ ∀ z, (Bx z b (splice C.toList 0 (l.map byV)).toArray 54 ∧ (∀ B, B ≤ b → Below B y1 z) ∧ ∀ q, q ≠ b → z.heap[q]? = y1.heap[q]?) → PB B z b R1 o f d ∧ Below B y1 z) := K2; clear hq H1)
      | (go_at_call 67; refine hcnt.mono ?_; rintro e y0 ⟨rfl, m, rfl⟩))
    simp only [Act.put, List.setIfInBounds_toArray, List.set_cons_zero, List.set_cons_succ]
    refine region_class_tail 10 (fun y => ∃ n, y = y2.drewN n) (by kernel_rfl) (by kernel_rfl) ⟨1, rfl⟩ ?_
    dsimp only [List.take, List.drop]
    repeat (go_big_quiet_step ((go_at_call 67; exact Calls.quiet_of (d2 _))))
    refine wpQuiet_nil ?_
    rintro _ ⟨nq2, rfl⟩
    go_wp2_with (go_at_call 60; refine (d3 _).mono ?_; rintro e y3 ⟨rfl, H3⟩; have K : Hid (Below B w y3 ∧ PB B y3 b R o f d) := ⟨K4.out.trans ((below_drewN (Below.refl _ _)).trans H3.1), H3.2⟩)
    go_ret
    exact ⟨rfl, K.out.1, fun _ => K.out.2⟩
theorem draw_mod (x y : Nat) (rows p : List UInt8) : ∀ k, drawS (x % 64) (y % 32) rows p k = drawS x y rows p k
  | 0 => rfl
  | k + 1 => by
    show stepD _ _ rows (drawS _ _ rows p k) k = stepD x y rows (drawS x y rows p k) k
    rw [draw_mod x y rows p k]
    unfold stepD plc
    rw [Nat.mod_mod, Nat.mod_mod]
/-- Another page. -/
theorem PB.newPg {B : Nat} {w : World} {b : Nat} {g : Gm} {o : Od} {f : Fo} {d : Fd} (h : PB B w b g o f d) (v : Value) (p : List UInt8) (hp : p.length = 256) (hO : OwnL 5 1 cB B w v p) (hq : ∀ q gM cM, v.ownBlock = some q → w.cell? ⟨b, 22, none⟩ = some (.slice (some ⟨gM, 0, none⟩) 3232 cM) → q ≠ gM) :
    PB B (w.setCell ⟨b, 21, none⟩ v) b { g with pg := p } o f d ∧ Below B w (w.setCell ⟨b, 21, none⟩ v) := by
  have hm := may_iff.1 h.may
  obtain ⟨gM0, cM0, c22, _⟩ := h.cM
  obtain ⟨⟨C, vS, vP, vM, sB, cap, hx, e, h1, h2, h3, h4, h5, h6⟩, h7, h8, h9, h10, h11, h12⟩ := h
  have eM : vM = .slice (some ⟨gM0, 0, none⟩) 3232 cM0 := by
    have := hx.c 22 vM (by rw [e]; rfl)
    rw [c22] at this
    exact (Option.some.inj this).symm
  have hl : Below B w (w.setCell ⟨b, 21, none⟩ v) := (Below.refl B w).setCell (p := ⟨b, 21, none⟩) h7 v
  have ho : ∀ q, q ≠ b → (w.setCell ⟨b, 21, none⟩ v).heap[q]? = w.heap[q]? := fun q hq => heap_setCell_other w ⟨b, 21, none⟩ q v hq
  refine ⟨⟨⟨C.setIfInBounds 21 v, vS, v, vM, sB, cap, heap_setCell_same w b 21 C _ v hx, by rw [e]; rfl, ?_, ?_, ?_, ?_, lb_low h5 h6 hl, h6⟩, h7, ⟨h8.v, h8.i, h8.pc, h8.st⟩, ?_, h10, h11, h12⟩, hl⟩
  · exact h1.keepB fun q hq => ho q (by obtain ⟨cs, k1⟩ := h1.ty q hq; exact Bx.unlike k1 hx (by decide))
  · exact hO.keepB fun q hq => ho q (by obtain ⟨cs, k1⟩ := hO.ty q hq; exact Bx.unlike k1 hx (by decide))
  · exact h3.keepB fun q hq => ho q (by obtain ⟨cs, k1⟩ := h3.ty q hq; exact Bx.unlike k1 hx (by decide))
  · intro q k1 k2
    rw [eM] at k2
    have : gM0 = q := by simpa [Value.ownBlock] using k2
    exact hq q gM0 cM0 k1 c22 this.symm
  · exact may_iff.2 ⟨hp, hm.2⟩
theorem m_draw_any {B : Nat} (w : World) (b : Nat) (g : Gm) (o : Od) (f : Fo) (d : Fd) (h : Hid (PB B w b g o f d)) (ho : o.op = 20) : Calls Try.prog 37 #[.pointer (some ⟨b, 0, none⟩)] w (MdE B w b o f d (doG g o f d)) := by
  rw [do_draw g o f d ho]
  have hn := h.out.oo.n
  have cn := h.out.cn
  have hB : Hid (B ≤ w.heap.size) := Nat.le_trans h.out.hb (Nat.le_of_lt h.out.lt)
  have hrd := read_any w b g o f d h o.n (by omega)
  have hm := may_iff.1 h.out.may
  rcases hr : readG g f g.i o.n with _ | l
  · rw [hr] at hrd
    obtain ⟨N, hN⟩ : ∃ N, o.n = N := ⟨_, rfl⟩
    rw [hN] at hrd cn hn
    have i1 : (N : Int) < 16 := by omega
    clear h ho hr hN hm
    go_enter Try.func37, Try.ntmps37
    go_wp2_with (go_at_call 61; refine hrd.mono ?_; rintro e y1 ⟨rfl, H1⟩; have K1 : Hid (Below B w y1) := H1.mono hB.out)
    go_ret
    exact ⟨rfl, K1.out, fun e => by cases e⟩
  · rw [hr] at hrd
    have hll := read_length hr
    have ed := draw_mod (g.v.getD o.x 0).toNat (g.v.getD o.y 0).toNat l g.pg (8 * l.length)
    obtain ⟨⟨DP, DB⟩, hD⟩ : ∃ D, drawS (g.v.getD o.x 0).toNat (g.v.getD o.y 0).toNat l g.pg (8 * l.length) = D := ⟨_, rfl⟩
    rw [hD] at ed
    have hDP : DP.length = 256 := by have := draw_len (g.v.getD o.x 0).toNat (g.v.getD o.y 0).toNat l g.pg (8 * l.length); rw [hD] at this; exact this.trans hm.1
    have eA : drawA g.pg (g.v.getD o.x 0).toNat (g.v.getD o.y 0).toNat l = (DP, DB, 0) := by
      unfold drawA
      rw [if_pos ⟨hm.1, by omega⟩, hD]
    obtain ⟨R, hR⟩ : ∃ R, setG { g with pg := DP } 15 (oneG DB) = R := ⟨_, rfl⟩
    show Calls _ _ _ _ (MdE B w b o f d (setG { g with pg := (drawS ((g.v.getD o.x 0).toNat % 64) ((g.v.getD o.y 0).toNat % 32) l g.pg (8 * l.length)).1 } 15 (oneG (drawS ((g.v.getD o.x 0).toNat % 64) ((g.v.getD o.y 0).toNat % 32) l g.pg (8 * l.length)).2), 1))
    rw [ed, hR]
    obtain ⟨nl, hnl⟩ : ∃ n, l.length = n := ⟨_, rfl⟩
    have hmain : ∀ y1 sv cv, KL 5 1 cB w (.slice sv nl cv) l y1 → Hid (Below w.heap.size w y1 ∧ ∃ gP cP, (∀ z, Below y1.heap.size y1 z → z.cell? ⟨b, 21, none⟩ = some (.slice (some ⟨gP, 0, none⟩) 256 cP)) ∧
        (∀ z, Below y1.heap.size y1 z → Calls Try.prog 56 #[.pointer (some ⟨b, 0, none⟩)] z fun e w' => e = .returned (.int .u8 ((g.v.getD o.x 0).toNat : Int)) ∧ ∃ m, w' = z.drewN m) ∧
        (∀ z, Below y1.heap.size y1 z → Calls Try.prog 57 #[.pointer (some ⟨b, 0, none⟩)] z fun e w' => e = .returned (.int .u8 ((g.v.getD o.y 0).toNat : Int)) ∧ ∃ m, w' = z.drewN m) ∧
        (∀ z, Below y1.heap.size y1 z → Calls Try.prog 62 #[.slice (some ⟨gP, 0, none⟩) 256 cP, .int .u8 ((g.v.getD o.x 0).toNat : Int), .int .u8 ((g.v.getD o.y 0).toNat : Int), .slice sv nl cv] z fun e w' => ∃ s2 c2, e = .returned (.tuple #[.slice s2 256 c2, .bool DB, .int .i64 0]) ∧ Hid (KL 5 1 cB z (.slice s2 256 c2) DP w')) ∧
        (∀ z y5 s2 c2, Below y1.heap.size y1 z → Below y1.heap.size y1 y5 → OwnL 5 1 cB z.heap.size y5 (.slice s2 256 c2) DP → (∃ vv, y5.cell? ⟨b, 21, none⟩ = some vv) ∧ y5.frozen? ⟨b, 21, none⟩ = false ∧ Below B w (y5.setCell ⟨b, 21, none⟩ (.slice s2 256 c2)) ∧ Calls Try.prog 63 #[.pointer (some ⟨b, 0, none⟩), .bool DB] (y5.setCell ⟨b, 21, none⟩ (.slice s2 256 c2)) fun e w' => e = .returned (.int .u8 1) ∧ Below B (y5.setCell ⟨b, 21, none⟩ (.slice s2 256 c2)) w' ∧ PB B w' b R o f d)) := fun y1 sv cv hK => by
      have P1 := h.out.below hK.low
      obtain ⟨sl, cl, el, hlb, _⟩ := OwnL.open kByte.len hK.own
      injection el with el1 el2 el3
      subst el1
      obtain ⟨gP, cP, cur, c21, hX, hcs, hcP, hmx, hBg, htk, hput⟩ := P1.page
      have hLP : ∀ z, Below y1.heap.size y1 z → LB z (some ⟨gP, 0, none⟩) g.pg := fun z hz => by
        have hb := (hz.block gP (heap_lt hX)).trans hX
        intro j a hj
        refine ⟨gP, 0, rfl, fun i v hv => ?_⟩
        have hjl := (List.getElem?_eq_some_iff.1 hj).1
        have e1 : (g.pg.map byV)[j]? = some (byV a) := by rw [List.getElem?_map, hj]; rfl
        rw [← htk, List.getElem?_take] at e1
        split at e1
        · cases i with
          | zero =>
            obtain rfl : byV a = v := by simpa [cB] using hv
            exact Bx.c hb (0 + j * 1 + 0) _ (by rw [Nat.mul_one, Nat.zero_add, Nat.add_zero, ← Array.getElem?_toList]; exact e1)
          | succ i => simp [cB] at hv
        · cases e1
      refine ⟨hK.low, gP, cP, fun z hz => (World.cell?_of_block (w := y1) (a := ⟨b, 21, none⟩) (hz.block b P1.lt)).trans c21, fun z hz => vx_any z b g o f d (P1.below hz), fun z hz => vy_any z b g o f d (P1.below hz), fun z hz => ?_, fun z y5 s2 c2 hz hy hO => ?_⟩
      · have := draw_any z (some ⟨gP, 0, none⟩) sv cP cv g.pg l (g.v.getD o.x 0) (g.v.getD o.y 0) (hLP z hz) (hlb.below hz)
        rw [eA, hm.1, hnl] at this
        refine this.mono fun e w' hw' => ?_
        obtain ⟨v, rfl, hv⟩ := hw'
        obtain ⟨s2, c2, ev, _⟩ := OwnL.open kByte.len hv.out.own
        rw [hDP] at ev
        subst ev
        exact ⟨s2, c2, rfl, hv⟩
      · have P5 := P1.below hy
        have hBz : B ≤ z.heap.size := Nat.le_trans hB.out (Nat.le_trans hK.low.size hz.size)
        obtain ⟨gM0, cM0, c22, hM0⟩ := P1.cM
        have nw := P5.newPg (.slice s2 256 c2) DP hDP (hO.weak hBz) (fun q gM cM k1 k2 => by
          have e1 := (World.cell?_of_block (w := y1) (a := ⟨b, 22, none⟩) (hy.block b P1.lt)).trans c22
          rw [k2] at e1
          have e2 := Option.some.inj e1
          injection e2 with e2 _ _
          injection e2 with e2
          injection e2 with e2 _ _
          have l1 := (hO.lt q k1).1
          have l2 : gM0 < y1.heap.size := World.block_lt_of_cell? y1 _ (lb_at hM0 0 (by rw [hm.2.1]; decide))
          have l3 := hz.size
          omega)
        obtain ⟨C, vS, vP, vM, sB, cap, hx, e, _⟩ := P5.c
        refine ⟨⟨vP, hx.c 21 vP (by rw [e]; rfl)⟩, P5.fz 21, ((hK.low.mono hB.out).trans (hy.mono (Nat.le_trans hB.out hK.low.size))).trans nw.2, ?_⟩
        rw [← hR]
        exact tell_any _ b _ o f d nw.1 DB
    obtain ⟨N, hN⟩ : ∃ N, o.n = N := ⟨_, rfl⟩
    rw [hN] at hrd cn hn
    have i1 : (N : Int) < 16 := by omega
    obtain ⟨V, hV⟩ : ∃ V, (g.v.getD o.x 0).toNat = V := ⟨_, rfl⟩
    obtain ⟨W, hW⟩ : ∃ W, (g.v.getD o.y 0).toNat = W := ⟨_, rfl⟩
    simp only [hV, hW] at hmain
    have hnl' : Hid (l.length = nl) := hnl
    clear h ho hr hN hm hll ed hD hDP eA hR hV hW hnl
    go_enter Try.func37, Try.ntmps37
    go_wp2_with (go_at_call 61; refine hrd.mono ?_; rintro e y1 ⟨v, rfl, H1⟩; obtain ⟨sv, cv, rfl⟩ : ∃ sv cv, v = .slice sv nl cv := (by obtain ⟨sv, cv, ev, _⟩ := OwnL.open kByte.len H1.own; rw [hnl'.out] at ev; exact ⟨sv, cv, ev⟩); have G1 := hmain y1 sv cv H1; clear H1 hmain hrd)
    obtain ⟨hlow, gP, cP, a1, a2, a3, a4, a5⟩ := G1.out
    have c21 : Hid (∀ z, Below y1.heap.size y1 z → z.cell? ⟨b, 21, none⟩ = some (.slice (some ⟨gP, 0, none⟩) 256 cP)) := a1
    have hvx : Hid (∀ z, Below y1.heap.size y1 z → Calls Try.prog 56 #[.pointer (some ⟨b, 0, none⟩)] z fun e w' => e = .returned (.int .u8 (V : Int)) ∧ ∃ m, w' = z.drewN m) := a2
    have hvy : Hid (∀ z, Below y1.heap.size y1 z → Calls Try.prog 57 #[.pointer (some ⟨b, 0, none⟩)] z fun e w' => e = .returned (.int .u8 (W : Int)) ∧ ∃ m, w' = z.drewN m) := a3
    have hdr : Hid (∀ z, Below y1.heap.size y1 z → Calls Try.prog 62 #[.slice (some ⟨gP, 0, none⟩) 256 cP, .int .u8 (V : Int), .int .u8 (W : Int), .slice sv nl cv] z fun e w' => ∃ s2 c2, e = .returned (.tuple #[.slice s2 256 c2, .bool DB, .int .i64 0]) ∧ Hid (KL 5 1 cB z (.slice s2 256 c2) DP w')) := a4
    have fin : Hid (∀ z y5 s2 c2, Below y1.heap.size y1 z → Below y1.heap.size y1 y5 → OwnL 5 1 cB z.heap.size y5 (.slice s2 256 c2) DP → (∃ vv, y5.cell? ⟨b, 21, none⟩ = some vv) ∧ y5.frozen? ⟨b, 21, none⟩ = false ∧ Below B w (y5.setCell ⟨b, 21, none⟩ (.slice s2 256 c2)) ∧ Calls Try.prog 63 #[.pointer (some ⟨b, 0, none⟩), .bool DB] (y5.setCell ⟨b, 21, none⟩ (.slice s2 256 c2)) fun e w' => e = .returned (.int .u8 1) ∧ Below B (y5.setCell ⟨b, 21, none⟩ (.slice s2 256 c2)) w' ∧ PB B w' b R o f d) := a5
    clear a1 a2 a3 a4 a5 G1
    have Ky2 : Hid (Below y1.heap.size y1 y1.drew) := below_drew (Below.refl _ _)
    refine wp_region_held_drew (S := fun y => Below y1.heap.size y1 y) (by kernel_rfl) Ky2.out (fun hH => ?_)
    generalize y1.drew = y2 at hH Ky2 ⊢
    refine wpAnyH_take (i := 0) (oi := ⟨some 22, _, _, _, _, _⟩) (v := .pointer (some ⟨b, 0, none⟩)) rfl (by kernel_rfl) (by kernel_rfl) (by kernel_rfl) (fun _ _ _ h => h) (.inl ⟨by kernel_rfl, fun k hk => by go_simp⟩) hH ?_
    try simp only [Act.put, List.setIfInBounds_toArray, List.set_cons_zero, List.set_cons_succ]
    refine wpAnyH_take (i := 1) (oi := ⟨some 23, _, _, _, _, _⟩) (v := .pointer (some ⟨b, 0, none⟩)) rfl (by kernel_rfl) (by kernel_rfl) (by kernel_rfl) (fun _ _ _ h => h) (.inl ⟨by kernel_rfl, fun k hk => by go_simp⟩) hH ?_
    try simp only [Act.put, List.setIfInBounds_toArray, List.set_cons_zero, List.set_cons_succ]
    refine wpAnyH_take (i := 2) (oi := ⟨some 24, _, _, _, _, _⟩) (v := .pointer (some ⟨b, 0, none⟩)) rfl (by kernel_rfl) (by kernel_rfl) (by kernel_rfl) (fun _ _ _ h => h) (.inl ⟨by kernel_rfl, fun k hk => by go_simp⟩) hH ?_
    try simp only [Act.put, List.setIfInBounds_toArray, List.set_cons_zero, List.set_cons_succ]
    refine wpAnyH_take (i := 3) (oi := ⟨some 25, _, _, _, _, _⟩) (v := .pointer (some ⟨b, 21, none⟩)) rfl (by kernel_rfl) (by kernel_rfl) (by kernel_rfl) (fun _ _ _ h => h) (.inl ⟨by kernel_rfl, fun k hk => by go_simp⟩) hH ?_
    try simp only [Act.put, List.setIfInBounds_toArray, List.set_cons_zero, List.set_cons_succ]
    refine wpAnyH_take (i := 4) (oi := ⟨some 26, _, _, _, _, _⟩) (v := .slice (some ⟨gP, 0, none⟩) 256 cP) rfl (by kernel_rfl) (by kernel_rfl) (by kernel_rfl) (fun _ _ _ h => h) (.inl ⟨by kernel_rfl, fun k hk => by have d := c21.out k hk; go_simp⟩) hH ?_
    try simp only [Act.put, List.setIfInBounds_toArray, List.set_cons_zero, List.set_cons_succ]
    refine wpAnyH_take (i := 5) (oi := ⟨some 27, _, _, _, _, _⟩) (v := .pointer (some ⟨b, 0, none⟩)) rfl (by kernel_rfl) (by kernel_rfl) (by kernel_rfl) (fun _ _ _ h => h) (.inl ⟨by kernel_rfl, fun k hk => by go_simp⟩) hH ?_
    try simp only [Act.put, List.setIfInBounds_toArray, List.set_cons_zero, List.set_cons_succ]
    refine wpAnyH_take (i := 7) (oi := ⟨some 29, _, _, _, _, _⟩) (v := .pointer (some ⟨b, 0, none⟩)) rfl (by kernel_rfl) (by kernel_rfl) (by kernel_rfl) (fun _ _ _ h => h) (.inl ⟨by kernel_rfl, fun k hk => by go_simp⟩) hH ?_
    try simp only [Act.put, List.setIfInBounds_toArray, List.set_cons_zero, List.set_cons_succ]
    refine wpAnyH_take (i := 9) (oi := ⟨some 31, _, _, _, _, _⟩) (v := .slice sv nl cv) rfl (by kernel_rfl) (by kernel_rfl) (by kernel_rfl) (fun _ _ _ h => h) (.inl ⟨by kernel_rfl, fun k hk => by go_simp⟩) hH ?_
    try simp only [Act.put, List.setIfInBounds_toArray, List.set_cons_zero, List.set_cons_succ]
    refine wpAnyH_ready (rs := [6]) (by kernel_rfl) (by simp) (fun i hi => ?_)
    obtain rfl := List.mem_singleton.1 hi
    clear hi
    refine wpOp_list rfl ?_
    go_wp2_with (go_at_call 56; refine (hvx.out y2 Ky2.out).mono ?_; rintro e y3 ⟨rfl, H⟩; have Ky3 : Hid (Below y1.heap.size y1 y3) := (by obtain ⟨m, rfl⟩ := H; exact below_drewN Ky2.out); clear H)
    refine ⟨Ky3.out, ?_⟩
    replace hH := Ky3.out
    try simp only [Act.put, List.setIfInBounds_toArray, List.set_cons_zero, List.set_cons_succ]
    refine wpAnyH_ready (rs := [8]) (by kernel_rfl) (by simp) (fun i hi => ?_)
    obtain rfl := List.mem_singleton.1 hi
    clear hi
    refine wpOp_list rfl ?_
    go_wp2_with (go_at_call 57; refine (hvy.out y3 Ky3.out).mono ?_; rintro e y4 ⟨rfl, H⟩; have Ky4 : Hid (Below y1.heap.size y1 y4) := (by obtain ⟨m, rfl⟩ := H; exact below_drewN Ky3.out); clear H)
    refine ⟨Ky4.out, ?_⟩
    replace hH := Ky4.out
    try simp only [Act.put, List.setIfInBounds_toArray, List.set_cons_zero, List.set_cons_succ]
    refine wpAnyH_ready (rs := [10]) (by kernel_rfl) (by simp) (fun i hi => ?_)
    obtain rfl := List.mem_singleton.1 hi
    clear hi
    refine wpOp_list rfl ?_
    go_wp2_with (go_at_call 62; refine (hdr.out y4 Ky4.out).mono ?_; rintro e y5 ⟨s2, c2, rfl, H⟩; have K5 : Hid (Below y1.heap.size y1 y5 ∧ OwnL 5 1 cB y4.heap.size y5 (.slice s2 256 c2) DP) := ⟨Ky4.out.trans (H.out.low.mono Ky4.out.size), H.out.own⟩; clear H)
    refine ⟨K5.out.1, ?_⟩
    replace hH := K5.out.1
    try simp only [Act.put, List.setIfInBounds_toArray, List.set_cons_zero, List.set_cons_succ]
    refine wpAnyH_take (i := 11) (oi := ⟨some 21, _, _, _, _, _⟩) (v := .tuple #[.slice s2 256 c2, .bool DB, .int .i64 0]) rfl (by kernel_rfl) (by kernel_rfl) (by kernel_rfl) (fun _ _ _ h => h) (.inl ⟨by kernel_rfl, fun k hk => by go_simp⟩) hH ?_
    try simp only [Act.put, List.setIfInBounds_toArray, List.set_cons_zero, List.set_cons_succ]
    refine wpAnyH_take (i := 12) (oi := ⟨some 33, _, _, _, _, _⟩) (v := .slice s2 256 c2) rfl (by kernel_rfl) (by kernel_rfl) (by kernel_rfl) (fun _ _ _ h => h) (.inl ⟨by kernel_rfl, fun k hk => by go_simp⟩) hH ?_
    try simp only [Act.put, List.setIfInBounds_toArray, List.set_cons_zero, List.set_cons_succ]
    refine wpAnyH_take (i := 13) (oi := ⟨some 34, _, _, _, _, _⟩) (v := .bool DB) rfl (by kernel_rfl) (by kernel_rfl) (by kernel_rfl) (fun _ _ _ h => h) (.inl ⟨by kernel_rfl, fun k hk => by go_simp⟩) hH ?_
    try simp only [Act.put, List.setIfInBounds_toArray, List.set_cons_zero, List.set_cons_succ]
    refine wpAnyH_take (i := 14) (oi := ⟨some 35, _, _, _, _, _⟩) (v := .int .i64 0) rfl (by kernel_rfl) (by kernel_rfl) (by kernel_rfl) (fun _ _ _ h => h) (.inl ⟨by kernel_rfl, fun k hk => by go_simp⟩) hH ?_
    try simp only [Act.put, List.setIfInBounds_toArray, List.set_cons_zero, List.set_cons_succ]
    refine wpAnyH_take (i := 15) (oi := ⟨some 5, _, _, _, _, _⟩) (v := .slice s2 256 c2) rfl (by kernel_rfl) (by kernel_rfl) (by kernel_rfl) (fun _ _ _ h => h) (.inl ⟨by kernel_rfl, fun k hk => by go_simp⟩) hH ?_
    try simp only [Act.put, List.setIfInBounds_toArray, List.set_cons_zero, List.set_cons_succ]
    refine wpAnyH_take (i := 16) (oi := ⟨some 6, _, _, _, _, _⟩) (v := .bool DB) rfl (by kernel_rfl) (by kernel_rfl) (by kernel_rfl) (fun _ _ _ h => h) (.inl ⟨by kernel_rfl, fun k hk => by go_simp⟩) hH ?_
    try simp only [Act.put, List.setIfInBounds_toArray, List.set_cons_zero, List.set_cons_succ]
    refine wpAnyH_take (i := 17) (oi := ⟨some 7, _, _, _, _, _⟩) (v := .int .i64 0) rfl (by kernel_rfl) (by kernel_rfl) (by kernel_rfl) (fun _ _ _ h => h) (.inl ⟨by kernel_rfl, fun k hk => by go_simp⟩) hH ?_
    try simp only [Act.put, List.setIfInBounds_toArray, List.set_cons_zero, List.set_cons_succ]
    refine wpAnyH_done (by kernel_rfl) ?_ _
    have fin2 := fin.out y4 y5 s2 c2 Ky4.out K5.out.1 K5.out.2
    obtain ⟨e21, z21, fin3⟩ := fin2
    replace fin3 : Hid (Below B w (y5.setCell ⟨b, 21, none⟩ (.slice s2 256 c2)) ∧ Calls Try.prog 63 #[.pointer (some ⟨b, 0, none⟩), .bool DB] (y5.setCell ⟨b, 21, none⟩ (.slice s2 256 c2)) fun e w' => e = .returned (.int .u8 1) ∧ Below B (y5.setCell ⟨b, 21, none⟩ (.slice s2 256 c2)) w' ∧ PB B w' b R o f d) := fin3
    obtain ⟨vv, e21⟩ := e21
    clear K5
    go_wp2_with (go_at_call 63; refine fin3.out.2.mono ?_; rintro e y6 ⟨rfl, H6⟩; have K6 : Hid (Below B w y6 ∧ PB B y6 b R o f d) := ⟨fin3.out.1.trans H6.1, H6.2⟩)
    go_ret
    exact ⟨rfl, K6.out.1, fun _ => K6.out.2⟩
end Go.Proofs.Ytfkifppadngmdaa
