/- A game that is worked on, in memory. -/
import Derived.Test.YtfkifppadngmdaaG11
namespace Go.Proofs.Ytfkifppadngmdaa
open Go Go.RowKit Go.Shelf
set_option linter.unusedVariables false
set_option maxHeartbeats 1000000
set_option maxRecDepth 20000

/-- The cells of a game that is worked on. -/
def pCs (v : List UInt8) (i pc : Nat) (sS : Value) (de so : UInt8) (sP sM : Value) (o : Od) (d : Fd) (pl : List Nat) (fr : Nat) (sB : Value) : Array Value :=
  #[gV v 0, gV v 1, gV v 2, gV v 3, gV v 4, gV v 5, gV v 6, gV v 7, gV v 8, gV v 9, gV v 10, gV v 11, gV v 12, gV v 13, gV v 14, gV v 15,
    .int .u16 (i : Int), .int .u16 (pc : Int), sS, byV de, byV so, sP, sM, .int .u8 (o.op : Int), .int .u8 (o.x : Int), .int .u8 (o.y : Int), .int .u8 (o.n : Int), .int .u8 (o.b : Int), .int .u16 (o.a : Int),
    byV d.rn, .int .u16 (d.ks : Int), .int .i64 d.ky, wV pl 0, wV pl 1, wV pl 2, wV pl 3, wV pl 4, wV pl 5, wV pl 6, wV pl 7, wV pl 8, wV pl 9, wV pl 10, wV pl 11, wV pl 12, wV pl 13, wV pl 14, wV pl 15, .int .u16 (fr : Int), sB]
structure Od.Ok (o : Od) : Prop where
  x : o.x < 16
  y : o.y < 16
  n : o.n < 16
  b : o.b < 256
  a : o.a < 65536
structure Fo.Ok (f : Fo) : Prop where
  n : f.pl.length = 16
  pl : ∀ s ∈ f.pl, s < 65536
  fr : f.fr < 65536
  by_ : f.by_.length ≤ 65536
/-- A game that is worked on, at b; what it has is its own, from B on; the font's bytes lie below. -/
structure PB (B : Nat) (w : World) (b : Nat) (g : Gm) (o : Od) (f : Fo) (d : Fd) : Prop where
  c : ∃ (C : Array Value) (vS vP vM : Value) (sB : Option Addr) (cap : Nat), Bx w b C 54 ∧ C = pCs g.v g.i g.pc vS g.de g.so vP vM o d f.pl f.fr (.slice sB f.by_.length cap) ∧ OwnL 26 1 cW B w vS g.st ∧ OwnL 5 1 cB B w vP g.pg ∧ OwnL 5 1 cB B w vM g.me ∧ (∀ q, vP.ownBlock = some q → vM.ownBlock ≠ some q) ∧ LB w sB f.by_ ∧ ∀ a, sB = some a → 0 < f.by_.length → a.block < B
  hb : B ≤ b
  ok : g.Ok
  may : g.may = true
  oo : o.Ok
  fo : f.Ok
  dk : d.Ok
theorem lb_low {B : Nat} {w y : World} {sp : Option Addr} {l : List UInt8} (h : LB w sp l) (hl : ∀ a, sp = some a → 0 < l.length → a.block < B) (hb : Below B w y) : LB y sp l := fun j a hj => by
  obtain ⟨gb, ob, e, k⟩ := h j a hj
  have hg := hl _ e (by have := (List.getElem?_eq_some_iff.1 hj).1; omega)
  exact ⟨gb, ob, e, fun i v hv => (World.cell?_of_block (w := w) (a := ⟨gb, ob + j * 1 + i, none⟩) (hb.block gb hg)).trans (k i v hv)⟩
theorem PB.below {B : Nat} {w y : World} {b : Nat} {g : Gm} {o : Od} {f : Fo} {d : Fd} (h : PB B w b g o f d) (hb : Below w.heap.size w y) : PB B y b g o f d := by
  obtain ⟨⟨C, vS, vP, vM, sB, cap, hx, e, h1, h2, h3, h4, h5, h6⟩, h7, h8, h9, h10, h11, h12⟩ := h
  exact ⟨⟨C, vS, vP, vM, sB, cap, (hb.block b (heap_lt hx)).trans hx, e, h1.below hb, h2.below hb, h3.below hb, h4, h5.below hb, h6⟩, h7, h8, h9, h10, h11, h12⟩
theorem PB.drew {B : Nat} {w : World} {b : Nat} {g : Gm} {o : Od} {f : Fo} {d : Fd} (h : PB B w b g o f d) (n : Nat) : PB B (w.drewN n) b g o f d := h.below (below_drewN (Below.refl _ _))
theorem PB.lt {B : Nat} {w : World} {b : Nat} {g : Gm} {o : Od} {f : Fo} {d : Fd} (h : PB B w b g o f d) : b < w.heap.size := by
  obtain ⟨C, vS, vP, vM, sB, cap, hx, _⟩ := h.c
  exact heap_lt hx
theorem PB.fz {B : Nat} {w : World} {b : Nat} {g : Gm} {o : Od} {f : Fo} {d : Fd} (h : PB B w b g o f d) (k : Nat) : w.frozen? ⟨b, k, none⟩ = false := by
  obtain ⟨C, vS, vP, vM, sB, cap, hx, _⟩ := h.c
  exact hx.fz k
theorem PB.ci {B : Nat} {w : World} {b : Nat} {g : Gm} {o : Od} {f : Fo} {d : Fd} (h : PB B w b g o f d) : w.cell? ⟨b, 16, none⟩ = some (.int .u16 (g.i : Int)) := by
  obtain ⟨C, vS, vP, vM, sB, cap, hx, e, _⟩ := h.c
  exact hx.c 16 _ (by rw [e]; rfl)
theorem PB.cpc {B : Nat} {w : World} {b : Nat} {g : Gm} {o : Od} {f : Fo} {d : Fd} (h : PB B w b g o f d) : w.cell? ⟨b, 17, none⟩ = some (.int .u16 (g.pc : Int)) := by
  obtain ⟨C, vS, vP, vM, sB, cap, hx, e, _⟩ := h.c
  exact hx.c 17 _ (by rw [e]; rfl)
theorem PB.cde {B : Nat} {w : World} {b : Nat} {g : Gm} {o : Od} {f : Fo} {d : Fd} (h : PB B w b g o f d) : w.cell? ⟨b, 19, none⟩ = some (.int .u8 (g.de.toNat : Int)) := by
  obtain ⟨C, vS, vP, vM, sB, cap, hx, e, _⟩ := h.c
  exact hx.c 19 _ (by rw [e]; rfl)
theorem PB.cso {B : Nat} {w : World} {b : Nat} {g : Gm} {o : Od} {f : Fo} {d : Fd} (h : PB B w b g o f d) : w.cell? ⟨b, 20, none⟩ = some (.int .u8 (g.so.toNat : Int)) := by
  obtain ⟨C, vS, vP, vM, sB, cap, hx, e, _⟩ := h.c
  exact hx.c 20 _ (by rw [e]; rfl)
theorem PB.cop {B : Nat} {w : World} {b : Nat} {g : Gm} {o : Od} {f : Fo} {d : Fd} (h : PB B w b g o f d) : w.cell? ⟨b, 23, none⟩ = some (.int .u8 (o.op : Int)) := by
  obtain ⟨C, vS, vP, vM, sB, cap, hx, e, _⟩ := h.c
  exact hx.c 23 _ (by rw [e]; rfl)
theorem PB.cx {B : Nat} {w : World} {b : Nat} {g : Gm} {o : Od} {f : Fo} {d : Fd} (h : PB B w b g o f d) : w.cell? ⟨b, 24, none⟩ = some (.int .u8 (o.x : Int)) := by
  obtain ⟨C, vS, vP, vM, sB, cap, hx, e, _⟩ := h.c
  exact hx.c 24 _ (by rw [e]; rfl)
theorem PB.cy {B : Nat} {w : World} {b : Nat} {g : Gm} {o : Od} {f : Fo} {d : Fd} (h : PB B w b g o f d) : w.cell? ⟨b, 25, none⟩ = some (.int .u8 (o.y : Int)) := by
  obtain ⟨C, vS, vP, vM, sB, cap, hx, e, _⟩ := h.c
  exact hx.c 25 _ (by rw [e]; rfl)
theorem PB.cn {B : Nat} {w : World} {b : Nat} {g : Gm} {o : Od} {f : Fo} {d : Fd} (h : PB B w b g o f d) : w.cell? ⟨b, 26, none⟩ = some (.int .u8 (o.n : Int)) := by
  obtain ⟨C, vS, vP, vM, sB, cap, hx, e, _⟩ := h.c
  exact hx.c 26 _ (by rw [e]; rfl)
theorem PB.cb {B : Nat} {w : World} {b : Nat} {g : Gm} {o : Od} {f : Fo} {d : Fd} (h : PB B w b g o f d) : w.cell? ⟨b, 27, none⟩ = some (.int .u8 (o.b : Int)) := by
  obtain ⟨C, vS, vP, vM, sB, cap, hx, e, _⟩ := h.c
  exact hx.c 27 _ (by rw [e]; rfl)
theorem PB.ca {B : Nat} {w : World} {b : Nat} {g : Gm} {o : Od} {f : Fo} {d : Fd} (h : PB B w b g o f d) : w.cell? ⟨b, 28, none⟩ = some (.int .u16 (o.a : Int)) := by
  obtain ⟨C, vS, vP, vM, sB, cap, hx, e, _⟩ := h.c
  exact hx.c 28 _ (by rw [e]; rfl)
theorem PB.crn {B : Nat} {w : World} {b : Nat} {g : Gm} {o : Od} {f : Fo} {d : Fd} (h : PB B w b g o f d) : w.cell? ⟨b, 29, none⟩ = some (.int .u8 (d.rn.toNat : Int)) := by
  obtain ⟨C, vS, vP, vM, sB, cap, hx, e, _⟩ := h.c
  exact hx.c 29 _ (by rw [e]; rfl)
theorem PB.cks {B : Nat} {w : World} {b : Nat} {g : Gm} {o : Od} {f : Fo} {d : Fd} (h : PB B w b g o f d) : w.cell? ⟨b, 30, none⟩ = some (.int .u16 (d.ks : Int)) := by
  obtain ⟨C, vS, vP, vM, sB, cap, hx, e, _⟩ := h.c
  exact hx.c 30 _ (by rw [e]; rfl)
theorem PB.cky {B : Nat} {w : World} {b : Nat} {g : Gm} {o : Od} {f : Fo} {d : Fd} (h : PB B w b g o f d) : w.cell? ⟨b, 31, none⟩ = some (.int .i64 d.ky) := by
  obtain ⟨C, vS, vP, vM, sB, cap, hx, e, _⟩ := h.c
  exact hx.c 31 _ (by rw [e]; rfl)
theorem PB.cfr {B : Nat} {w : World} {b : Nat} {g : Gm} {o : Od} {f : Fo} {d : Fd} (h : PB B w b g o f d) : w.cell? ⟨b, 48, none⟩ = some (.int .u16 (f.fr : Int)) := by
  obtain ⟨C, vS, vP, vM, sB, cap, hx, e, _⟩ := h.c
  exact hx.c 48 _ (by rw [e]; rfl)
theorem PB.cv {B : Nat} {w : World} {b : Nat} {g : Gm} {o : Od} {f : Fo} {d : Fd} (h : PB B w b g o f d) (x : Nat) (hx : x < 16) : w.cell? ⟨b, x, none⟩ = some (.int .u8 ((g.v.getD x 0).toNat : Int)) := by
  obtain ⟨C, vS, vP, vM, sB, cap, hb, e, _⟩ := h.c
  refine hb.c x _ ?_
  rw [e]
  rcases (show x = 0 ∨ x = 1 ∨ x = 2 ∨ x = 3 ∨ x = 4 ∨ x = 5 ∨ x = 6 ∨ x = 7 ∨ x = 8 ∨ x = 9 ∨ x = 10 ∨ x = 11 ∨ x = 12 ∨ x = 13 ∨ x = 14 ∨ x = 15 by omega) with rfl | rfl | rfl | rfl | rfl | rfl | rfl | rfl | rfl | rfl | rfl | rfl | rfl | rfl | rfl | rfl <;> rfl
theorem PB.cpl {B : Nat} {w : World} {b : Nat} {g : Gm} {o : Od} {f : Fo} {d : Fd} (h : PB B w b g o f d) (x : Nat) (hx : x < 16) : w.cell? ⟨b, 32 + x, none⟩ = some (.int .u16 ((f.pl.getD x 0 : Nat) : Int)) := by
  obtain ⟨C, vS, vP, vM, sB, cap, hb, e, _⟩ := h.c
  refine hb.c (32 + x) _ ?_
  rw [e]
  rcases (show x = 0 ∨ x = 1 ∨ x = 2 ∨ x = 3 ∨ x = 4 ∨ x = 5 ∨ x = 6 ∨ x = 7 ∨ x = 8 ∨ x = 9 ∨ x = 10 ∨ x = 11 ∨ x = 12 ∨ x = 13 ∨ x = 14 ∨ x = 15 by omega) with rfl | rfl | rfl | rfl | rfl | rfl | rfl | rfl | rfl | rfl | rfl | rfl | rfl | rfl | rfl | rfl <;> rfl
theorem pCs_v (v : List UInt8) (i pc : Nat) (sS : Value) (de so : UInt8) (sP sM : Value) (o : Od) (d : Fd) (pl : List Nat) (fr : Nat) (sB : Value) (x : Nat) (t : UInt8) (hv : v.length = 16) (hx : x < 16) :
    (pCs v i pc sS de so sP sM o d pl fr sB).setIfInBounds x (.int .u8 (t.toNat : Int)) = pCs (v.set x t) i pc sS de so sP sM o d pl fr sB := by
  match v, hv with
  | [a0, a1, a2, a3, a4, a5, a6, a7, a8, a9, a10, a11, a12, a13, a14, a15], _ => rcases (show x = 0 ∨ x = 1 ∨ x = 2 ∨ x = 3 ∨ x = 4 ∨ x = 5 ∨ x = 6 ∨ x = 7 ∨ x = 8 ∨ x = 9 ∨ x = 10 ∨ x = 11 ∨ x = 12 ∨ x = 13 ∨ x = 14 ∨ x = 15 by omega) with rfl | rfl | rfl | rfl | rfl | rfl | rfl | rfl | rfl | rfl | rfl | rfl | rfl | rfl | rfl | rfl <;> rfl
/-- One of its cells is written. -/
theorem PB.set {B : Nat} {w : World} {b : Nat} {g : Gm} {o : Od} {f : Fo} {d : Fd} (h : PB B w b g o f d) (k : Nat) (u : Value) (g' : Gm) (hC : ∀ vS vP vM vB : Value, (pCs g.v g.i g.pc vS g.de g.so vP vM o d f.pl f.fr vB).setIfInBounds k u = pCs g'.v g'.i g'.pc vS g'.de g'.so vP vM o d f.pl f.fr vB) (hs : g'.st = g.st) (hp : g'.pg = g.pg) (hm : g'.me = g.me) (ok : g'.Ok) :
    PB B (w.setCell ⟨b, k, none⟩ u) b g' o f d ∧ Below B w (w.setCell ⟨b, k, none⟩ u) := by
  obtain ⟨⟨C, vS, vP, vM, sB, cap, hx, e, h1, h2, h3, h4, h5, h6⟩, h7, h8, h9, h10, h11, h12⟩ := h
  have hl : Below B w (w.setCell ⟨b, k, none⟩ u) := (Below.refl B w).setCell (p := ⟨b, k, none⟩) h7 u
  have ho : ∀ q, q ≠ b → (w.setCell ⟨b, k, none⟩ u).heap[q]? = w.heap[q]? := fun q hq => heap_setCell_other w ⟨b, k, none⟩ q u hq
  refine ⟨⟨⟨C.setIfInBounds k u, vS, vP, vM, sB, cap, heap_setCell_same w b k C _ u hx, by rw [e]; exact hC _ _ _ _, ?_, ?_, ?_, h4, lb_low h5 h6 hl, h6⟩, h7, ok, ?_, h10, h11, h12⟩, hl⟩
  · rw [hs]
    exact h1.keepB fun q hq => ho q (by obtain ⟨cs, k1⟩ := h1.ty q hq; exact Bx.unlike k1 hx (by decide))
  · rw [hp]
    exact h2.keepB fun q hq => ho q (by obtain ⟨cs, k1⟩ := h2.ty q hq; exact Bx.unlike k1 hx (by decide))
  · rw [hm]
    exact h3.keepB fun q hq => ho q (by obtain ⟨cs, k1⟩ := h3.ty q hq; exact Bx.unlike k1 hx (by decide))
  · rw [← h9]
    unfold Gm.may
    rw [hs, hp, hm]
theorem PB.setV {B : Nat} {w : World} {b : Nat} {g : Gm} {o : Od} {f : Fo} {d : Fd} (h : PB B w b g o f d) (x : Nat) (hx : x < 16) (t : UInt8) :
    PB B (w.setCell ⟨b, x, none⟩ (.int .u8 (t.toNat : Int))) b (setG g x t) o f d ∧ Below B w (w.setCell ⟨b, x, none⟩ (.int .u8 (t.toNat : Int))) :=
  h.set x _ _ (fun vS vP vM vB => pCs_v _ _ _ _ _ _ _ _ _ _ _ _ _ _ _ h.ok.v hx) rfl rfl rfl ⟨by simp [setG, h.ok.v], h.ok.i, h.ok.pc, h.ok.st⟩
theorem PB.setPC {B : Nat} {w : World} {b : Nat} {g : Gm} {o : Od} {f : Fo} {d : Fd} (h : PB B w b g o f d) (a : Nat) (ha : a < 65536) :
    PB B (w.setCell ⟨b, 17, none⟩ (.int .u16 (a : Int))) b { g with pc := a } o f d ∧ Below B w (w.setCell ⟨b, 17, none⟩ (.int .u16 (a : Int))) :=
  h.set 17 _ { g with pc := a } (fun vS vP vM vB => rfl) rfl rfl rfl ⟨h.ok.v, h.ok.i, ha, h.ok.st⟩
theorem PB.setI {B : Nat} {w : World} {b : Nat} {g : Gm} {o : Od} {f : Fo} {d : Fd} (h : PB B w b g o f d) (a : Nat) (ha : a < 65536) :
    PB B (w.setCell ⟨b, 16, none⟩ (.int .u16 (a : Int))) b { g with i := a } o f d ∧ Below B w (w.setCell ⟨b, 16, none⟩ (.int .u16 (a : Int))) :=
  h.set 16 _ { g with i := a } (fun vS vP vM vB => rfl) rfl rfl rfl ⟨h.ok.v, ha, h.ok.pc, h.ok.st⟩
theorem PB.setDe {B : Nat} {w : World} {b : Nat} {g : Gm} {o : Od} {f : Fo} {d : Fd} (h : PB B w b g o f d) (t : UInt8) :
    PB B (w.setCell ⟨b, 19, none⟩ (.int .u8 (t.toNat : Int))) b { g with de := t } o f d ∧ Below B w (w.setCell ⟨b, 19, none⟩ (.int .u8 (t.toNat : Int))) :=
  h.set 19 _ { g with de := t } (fun vS vP vM vB => rfl) rfl rfl rfl ⟨h.ok.v, h.ok.i, h.ok.pc, h.ok.st⟩
theorem PB.setSo {B : Nat} {w : World} {b : Nat} {g : Gm} {o : Od} {f : Fo} {d : Fd} (h : PB B w b g o f d) (t : UInt8) :
    PB B (w.setCell ⟨b, 20, none⟩ (.int .u8 (t.toNat : Int))) b { g with so := t } o f d ∧ Below B w (w.setCell ⟨b, 20, none⟩ (.int .u8 (t.toNat : Int))) :=
  h.set 20 _ { g with so := t } (fun vS vP vM vB => rfl) rfl rfl rfl ⟨h.ok.v, h.ok.i, h.ok.pc, h.ok.st⟩
theorem idxV (b : Nat) (k : IntKind) (x : Nat) (v : World) (h : x < 16) : (Instr.indexAt 25 (.pointer (some ⟨b, 0, none⟩)) (.int k (x : Int))).run Try.prog v = .ok (.pointer (some ⟨b, x, none⟩)) v := by
  have := idx (g := b) (off := 0) Try.underlying25 (s := 1) (by kernel_rfl) k x v h
  rwa [Nat.mul_one, Nat.zero_add] at this
theorem idxPl (b : Nat) (k : IntKind) (x : Nat) (v : World) (h : x < 16) : (Instr.indexAt 40 (.pointer (some ⟨b, 32, none⟩)) (.int k (x : Int))).run Try.prog v = .ok (.pointer (some ⟨b, 32 + x, none⟩)) v := by
  have := idx (g := b) (off := 32) Try.underlying40 (s := 1) (by kernel_rfl) k x v h
  rwa [Nat.mul_one] at this
end Go.Proofs.Ytfkifppadngmdaa
