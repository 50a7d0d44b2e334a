/- What the statement's round over strokes asks of the calls: in letters. -/
import Derived.Test.YtiplellfpagclaaDoorE5
import Derived.Test.YtiplellfpagclaaDoorE6
import Derived.Test.YtiplellfpagclaaDoorE1
import Derived.Test.YtiplellfpagclaaDoorD7
import Derived.Test.YtiplellfpagclaaDoorDop
namespace Go.Proofs.YtiplellfpagclaaDoor
open Go Go.RowKit Go.Shelf
set_option linter.unusedVariables false
set_option maxHeartbeats 1000000
set_option maxRecDepth 20000

theorem lb_mrk {z : World} {g : Nat} {q : List UInt8} (h : Bx z g (rowB (mrk q)) 5) : LB z (some ⟨g, 0, none⟩) q := fun j a hj => by
  refine ⟨g, 0, rfl, fun i v hv => ?_⟩
  have hi : i = 0 := by have := (List.getElem?_eq_some_iff.1 hv).1; simp [cB] at this; omega
  subst hi
  simp [cB] at hv
  subst hv
  have hjl := (List.getElem?_eq_some_iff.1 hj).1
  have hc := h.c j _ (rowB_get (mrk q) j (by rw [mrk_len]; omega))
  rw [mrk_lo q j hjl] at hc
  have e : q.getD j 0 = a := by simp [List.getD, hj]
  rw [e] at hc
  rw [Nat.zero_add, Nat.mul_one, Nat.add_zero]
  exact hc
/-- A block of its own: where it lies. -/
theorem own_block {B : Nat} {w : World} {sp : Option Addr} {n c : Nat} {l : List UInt8} (h : OwnL 5 1 cB B w (.slice sp n c) l) : LB w sp l ∧ (∀ a, sp = some a → B ≤ a.block ∧ a.block < w.heap.size ∧ (Value.slice sp n c).ownBlock = some a.block) := by
  obtain ⟨s2, c2, e, hl, hb, ho, _⟩ := OwnL.open kByte.len h
  injection e with e1 e2 e3
  subst e1 e2 e3
  refine ⟨hl, fun a ha => ?_⟩
  have h1 := hb a ha
  refine ⟨h1.2.2.1, h1.2.2.2, (ho a.block).2 ?_⟩
  rw [ha]
  congr 1
  obtain ⟨g, o, s⟩ := a
  have h2 : o = 0 := h1.1
  have h3 : s = none := h1.2.1
  subst h2 h3
  rfl
/-- What a Draw leaves. -/
def DaE (z : World) (A : List UInt8) (n : Nat) (g : Bool) (er : Int) (e : Ending) (w' : World) : Prop := ∃ sa ca, e = .returned (.tuple #[.slice sa n ca, .bool g, .int .i64 er]) ∧ Hid (OwnL 5 1 cB z.heap.size w' (.slice sa n ca) A ∧ Below z.heap.size z w')
theorem da_draw (z : World) (gP gR nq nr nA : Nat) (q rows : List UInt8) (x y : UInt8) (hP : Bx z gP (rowB (mrk q)) 5) (hR : Bx z gR (rowB (mrk rows)) 5) (hq : q.length = nq) (hr : rows.length = nr) (hA : (drawA q x.toNat y.toNat rows).1.length = nA) :
    Calls Tryd.prog 7 #[.slice (some ⟨gP, 0, none⟩) nq (nq + 9), .int .u8 (x.toNat : Int), .int .u8 (y.toNat : Int), .slice (some ⟨gR, 0, none⟩) nr (nr + 9)] z (DaE z (drawA q x.toNat y.toNat rows).1 nA (drawA q x.toNat y.toNat rows).2.1 (drawA q x.toNat y.toNat rows).2.2) := by
  have := draw_any z (some ⟨gP, 0, none⟩) (some ⟨gR, 0, none⟩) (nq + 9) (nr + 9) q rows x y (lb_mrk hP) (lb_mrk hR)
  rw [hq, hr] at this
  refine this.mono ?_
  rintro e w' ⟨v, rfl, K⟩
  obtain ⟨s2, c2, rfl, _⟩ := OwnL.open kByte.len K.out.own
  have hk := K.out
  rw [hA] at hk ⊢
  exact ⟨s2, c2, rfl, ⟨hk.own, hk.low⟩⟩
theorem da_rdraw (z : World) (sp spR : Option Addr) (cap capR nq nr nA : Nat) (q rows : List UInt8) (x y : UInt8) (hP : LB z sp q) (hR : LB z spR rows) (hq : q.length = nq) (hr : rows.length = nr) (hA : (drawA q x.toNat y.toNat rows).1.length = nA) :
    Calls Tryd.prog 8 #[.slice sp nq cap, .int .u8 (x.toNat : Int), .int .u8 (y.toNat : Int), .slice spR nr capR] z (DaE z (drawA q x.toNat y.toNat rows).1 nA (drawA q x.toNat y.toNat rows).2.1 (drawA q x.toNat y.toNat rows).2.2) := by
  have := rdraw_any z sp spR cap capR q rows x y hP hR
  rw [hq, hr] at this
  refine this.mono ?_
  rintro e w' ⟨v, rfl, K⟩
  obtain ⟨s2, c2, rfl, _⟩ := OwnL.open kByte.len K.out.own
  have hk := K.out
  rw [hA] at hk ⊢
  exact ⟨s2, c2, rfl, ⟨hk.own, hk.low⟩⟩
theorem same_own (y : World) (sa sb : Option Addr) (ca cb n : Nat) (A : List UInt8) (ha : LB y sa A) (hb : LB y sb A) (hn : A.length = n) (h : n ≤ 4000000000) :
    Calls Tryd.prog 10 #[.slice sa n ca, .slice sb n cb] y fun e w' => e = .returned (.bool true) ∧ Below y.heap.size y w' := by
  have := same_any y sa sb ca cb A A ha hb (by omega) (by omega)
  rw [decide_eq_true rfl, hn] at this
  exact this
theorem draw_most (q rows : List UInt8) (x y : Nat) : (drawA q x y rows).1.length ≤ 256 := by
  unfold drawA
  split
  · rename_i h
    show (drawS x y rows q _).1.length ≤ 256
    rw [draw_len]
    omega
  · simp
/-- Three rows of one kind: the first one may be written over. -/
structure Ow3 (w : World) (b1 b2 nA : Nat) (A : List UInt8) (sa sb sw : Option Addr) (ca cb cw : Nat) (z : World) : Prop where
  low : Below w.heap.size w z
  oa : OwnL 5 1 cB b1 z (.slice sa nA ca) A
  ob : OwnL 5 1 cB b2 z (.slice sb nA cb) A
  ow : OwnL 5 1 cB b2 z (.slice sw nA cw) A
  ha : ∀ g, (Value.slice sa nA ca).ownBlock = some g → g < b2
  wb : w.heap.size ≤ b1
  bb : b1 ≤ b2
theorem Ow3.below {w : World} {b1 b2 nA : Nat} {A : List UInt8} {sa sb sw : Option Addr} {ca cb cw : Nat} {z z' : World} (h : Ow3 w b1 b2 nA A sa sb sw ca cb cw z) (hb : Below z.heap.size z z') : Ow3 w b1 b2 nA A sa sb sw ca cb cw z' :=
  ⟨h.low.trans (hb.mono h.low.size), h.oa.below hb, h.ob.below hb, h.ow.below hb, h.ha, h.wb, h.bb⟩
theorem Ow3.cu {w : World} {b1 b2 nA g : Nat} {A : List UInt8} {sa sb sw : Option Addr} {ca cb cw : Nat} {z z' : World} (h : Ow3 w b1 b2 nA A sa sb sw ca cb cw z) (k : CuL w.heap.size (fun q _ => q = g) z z') (hg : g < b1) : Ow3 w b1 b2 nA A sa sb sw ca cb cw z' := by
  have hk : ∀ q, b1 ≤ q → q < z.heap.size → z'.heap[q]? = z.heap[q]? := fun q hq hz => k.blk q hz fun _ e => by omega
  exact ⟨h.low.trans k.low, h.oa.keepB fun q e => hk q (h.oa.lt q e).1 (h.oa.lt q e).2, h.ob.keepB fun q e => hk q (Nat.le_trans h.bb (h.ob.lt q e).1) (h.ob.lt q e).2, h.ow.keepB fun q e => hk q (Nat.le_trans h.bb (h.ow.lt q e).1) (h.ow.lt q e).2, h.ha, h.wb, h.bb⟩
theorem Ow3.wiped {w : World} {b1 b2 nA : Nat} {A : List UInt8} {sa sb sw : Option Addr} {ca cb cw : Nat} {z z' : World} (h : Ow3 w b1 b2 nA A sa sb sw ca cb cw z) (k : CuL b1 (fun q _ => (Value.slice sa nA ca).ownBlock = some q) z z') : LB z' sb A ∧ LB z' sw A ∧ Below w.heap.size w z' := by
  have hk : ∀ q, b2 ≤ q → q < z.heap.size → z'.heap[q]? = z.heap[q]? := fun q hq hz => k.blk q hz fun _ e => by have := h.ha q e; omega
  exact ⟨(own_block (h.ob.keepB fun q e => hk q (h.ob.lt q e).1 (h.ob.lt q e).2)).1, (own_block (h.ow.keepB fun q e => hk q (h.ow.lt q e).1 (h.ow.lt q e).2)).1, h.low.trans (k.low.mono h.wb)⟩
theorem cu_low {B B' : Nat} {F : Nat → Nat → Prop} {y z : World} (k : CuL B F y z) (hB : B' ≤ y.heap.size) (hF : ∀ q j, F q j → B' ≤ q) : Below B' y z :=
  ⟨k.low.os, k.low.tape, k.low.output, k.low.size, fun q hq => k.blk q (by omega) fun j h => by have := hF q j h; omega⟩
end Go.Proofs.YtiplellfpagclaaDoor
