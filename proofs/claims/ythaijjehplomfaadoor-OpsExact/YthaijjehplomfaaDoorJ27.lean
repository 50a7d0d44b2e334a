/- An order that names a label taken up: takeUse. -/
import Derived.Test.YthaijjehplomfaaDoorJ26
namespace Go.Proofs.YthaijjehplomfaaDoor
open Go Go.RowKit
set_option linter.unusedVariables false
set_option maxHeartbeats 1000000
set_option maxRecDepth 20000

/-- A use's cells. -/
def us9 (u : Us) : Array Value := #[.int .i64 (u.ln : Int), .int .i64 (u.pl : Int), .int .u8 u.o.op, .int .u8 u.o.x, .int .u8 u.o.y, .int .u8 u.o.n, .int .u8 u.o.b, .int .u16 u.o.a, .string u.lb]
def us0 : Us := ⟨0, 0, od0, ⟨#[]⟩⟩
theorem infoUs : (Tryd.prog.info? 108).map (fun i => (i.zero, i.size, i.bytes)) = some (some (.agg (us9 us0)), 9, 40) := by kernel_rfl
theorem us_one (u : Us) : ∀ v ∈ usC u, v.oneCell' = true := fun v hv => by
  simp [usC] at hv
  rcases hv with rfl | rfl | rfl | rfl | rfl | rfl | rfl | rfl | rfl <;> rfl
theorem kUs : KdL (α := Us) 75 108 9 40 usC := by
  obtain ⟨i, hi, hz0, hz1, hz2⟩ := info_parts infoUs
  exact ⟨Tryd.underlying75, ⟨i, _, hi, hz0, hz1, hz2, rfl⟩, fun _ => rfl, us_one, by decide, by decide⟩
/-- A use put behind, the box not yet written. -/
theorem Pg.appU {w : World} {P g : Nat} {vb vu : Value} {bs : List UInt8} {F : ByteArray → Option Nat} {us : List Us} {y z : World} {v' : Value} {us' : List Us} (h : Pg w P g vb vu bs F us y) (A : AppNL 108 9 usC w.heap.size vu us us' v' y z) :
    Bx z P #[vb, .map (some g), vu] 77 ∧ OwnL 5 1 cU w.heap.size z vb bs ∧ MapF z g (fun s => (F s).map fun a => .int .u16 (a : Int)) ∧ OwnL 108 9 usC w.heap.size z v' (us ++ us') ∧ Below w.heap.size w z ∧ Kp y z := by
  have off : ∀ q cs t, Bx y q cs t → t ≠ 108 → z.heap[q]? = y.heap[q]? := fun q cs t hx ht => A.cu.blk q (heap_lt hx) fun j hF => by
    obtain ⟨cs', hx'⟩ := h.us.ty q hF.1
    exact Bx.unlike hx hx' ht rfl
  refine ⟨(off P _ _ h.box (by decide)).trans h.box, h.bs.keepB fun q e => ?_, h.mp.keep (A.cu.blk g h.mp.lt fun j hF => ?_), A.own, h.low.trans A.cu.low, ?_, fun q o hx hr => ?_, fun q cs t hx _ a _ => (off q cs t hx a).trans hx⟩
  · obtain ⟨cs, hx⟩ := h.bs.ty q e
    exact off q cs _ hx (by decide)
  · obtain ⟨cs', hx'⟩ := h.us.ty g hF.1
    exact map_ne h.mp hx' rfl
  · exact A.cu.low.size
  · refine (A.cu.blk q (Array.getElem?_eq_some_iff.1 hx).1 fun j hF => ?_).trans hx
    obtain ⟨cs', hx'⟩ := h.us.ty q hF.1
    exact rec_ne hx hr hx' rfl
theorem Pg.putU {w : World} {P g : Nat} {vb vu : Value} {bs : List UInt8} {F : ByteArray → Option Nat} {us : List Us} {vu' : Value} {z x : World} (hbox : Bx z P #[vb, .map (some g), vu] 77) (hb : OwnL 5 1 cU w.heap.size z vb bs) (hm : MapF z g (fun s => (F s).map fun a => .int .u16 (a : Int))) (hu : OwnL 108 9 usC w.heap.size z vu' us) (gP : w.heap.size ≤ P) (gg : w.heap.size ≤ g) (low : Below w.heap.size w z)
    (hx : x = z.setCell ⟨P, 2, none⟩ vu') : Pg w P g vb vu' bs F us x ∧ Kp z x := by
  subst hx
  have oth : ∀ q, q ≠ P → (z.setCell ⟨P, 2, none⟩ vu').heap[q]? = z.heap[q]? := fun q hq => heap_setCell_other z ⟨P, 2, none⟩ q vu' hq
  refine ⟨⟨heap_setCell_same z P 2 _ _ vu' hbox, hb.keepB fun q e => oth q fun e' => ?_, hm.keep (oth g (map_ne hm hbox)), hu.keepB fun q e => oth q fun e' => ?_, gP, gg, low.trans ((Below.refl _ z).setCell (p := ⟨P, 2, none⟩) gP vu')⟩, by simp, fun q o hx hr => (oth q (rec_ne hx hr hbox)).trans hx, fun q cs t hx _ _ hp => (oth q (Bx.unlike hx hbox hp)).trans hx⟩
  · obtain ⟨cs, hx⟩ := hb.ty q e
    subst e'
    exact Bx.unlike hx hbox (by decide) rfl
  · obtain ⟨cs, hx⟩ := hu.ty q e
    subst e'
    exact Bx.unlike hx hbox (by decide) rfl
def MidU (w : World) (P g : Nat) (vb vu : Value) (bs : List UInt8) (F : ByteArray → Option Nat) (us : List Us) (u : Us) (v : Value) (y : World) : Prop :=
  Bx y P #[vb, .map (some g), vu] 77 ∧ OwnL 5 1 cU w.heap.size y vb bs ∧ MapF y g (fun s => (F s).map fun a => .int .u16 (a : Int)) ∧ OwnL 108 9 usC w.heap.size y v (us ++ [u]) ∧ Below w.heap.size w y ∧ w.heap.size ≤ P ∧ w.heap.size ≤ g
def actU (x0 x1 x2 x3 x4 x5 x6 x7 x8 x9 x10 x11 x12 x13 x14 x15 x16 x17 x18 x19 x20 x21 x22 x23 v24 v25 v26 v27 v28 v29 v30 v31 v32 v33 v34 v35 v36 v37 v38 v39 v40 v41 : Value) : Act := ⟨#[x0, x1, x2, x3, x4, x5, x6, x7, x8, x9, x10, x11, x12, x13, x14, x15, x16, x17, x18, x19, x20, x21, x22, x23, v24, v25, v26, v27, v28, v29, v30, v31, v32, v33, v34, v35, v36, v37, v38, v39, v40, v41, undef, undef, undef], []⟩
def IU (w : World) (P g : Nat) (vb vu : Value) (bs : List UInt8) (F : ByteArray → Option Nat) (us : List Us) (u : Us) (y0 : World) (x0 x1 x2 x3 x4 x5 x6 x7 x8 x9 x10 x11 x12 x13 x14 x15 x16 x17 x18 x19 x20 x21 x22 x23 : Value) (s : Array Bool) (a : Act) (y : World) : Prop := s.size = 19 ∧ Kp y0 y ∧ ∃ (v24 v25 v26 v27 v28 v29 v30 v31 v32 v33 v34 v35 v36 v37 v38 v39 v40 v41 : Value), a = actU x0 x1 x2 x3 x4 x5 x6 x7 x8 x9 x10 x11 x12 x13 x14 x15 x16 x17 x18 x19 x20 x21 x22 x23 v24 v25 v26 v27 v28 v29 v30 v31 v32 v33 v34 v35 v36 v37 v38 v39 v40 v41
  ∧ (s.getD 0 false = true → v24 = .pointer (some ⟨P, 0, none⟩))
  ∧ (s.getD 1 false = true → v25 = .pointer (some ⟨P, 0, none⟩))
  ∧ (s.getD 2 false = true → v26 = .pointer (some ⟨P, 0, none⟩))
  ∧ (s.getD 3 false = true → v27 = .pointer (some ⟨P, 2, none⟩))
  ∧ (s.getD 4 false = true → v28 = vu)
  ∧ (s.getD 5 false = true → v29 = .int .i64 (u.ln : Int))
  ∧ (s.getD 6 false = true → v30 = .pointer (some ⟨P, 0, none⟩))
  ∧ (s.getD 7 false = true → v31 = .pointer (some ⟨P, 0, none⟩))
  ∧ (s.getD 8 false = true → v32 = .pointer (some ⟨P, 0, none⟩))
  ∧ (s.getD 9 false = true → v33 = vb)
  ∧ (s.getD 10 false = true → v34 = .int .i64 (u.pl : Int))
  ∧ (s.getD 11 false = true → v35 = .agg (o6 u.o))
  ∧ (s.getD 12 false = true → v36 = .string u.lb)
  ∧ (s.getD 13 false = true → v37 = .agg (us9 u))
  ∧ (s.getD 14 false = true → s.getD 15 false = false → ∃ g0, v38 = .slice (some ⟨g0, 0, none⟩) 1 1 ∧ Bx y g0 (us9 u) 108)
  ∧ (s.getD 16 false = true → v40 = .pointer (some ⟨P, 0, none⟩))
  ∧ (s.getD 17 false = true → v41 = .pointer (some ⟨P, 2, none⟩))
  ∧ (s.getD 15 false = true → s.getD 4 false = true ∧ s.getD 14 false = true)
  ∧ (s.getD 18 false = true → s.getD 15 false = true)
  ∧ (s.getD 15 false = false → Pg w P g vb vu bs F us y)
  ∧ (s.getD 15 false = true → s.getD 18 false = false → MidU w P g vb vu bs F us u v39 y)
  ∧ (s.getD 18 false = true → ∃ vu', Pg w P g vb vu' bs F (us ++ [u]) y)
theorem putU24 (x0 x1 x2 x3 x4 x5 x6 x7 x8 x9 x10 x11 x12 x13 x14 x15 x16 x17 x18 x19 x20 x21 x22 x23 v24 v25 v26 v27 v28 v29 v30 v31 v32 v33 v34 v35 v36 v37 v38 v39 v40 v41 v : Value) : (actU x0 x1 x2 x3 x4 x5 x6 x7 x8 x9 x10 x11 x12 x13 x14 x15 x16 x17 x18 x19 x20 x21 x22 x23 v24 v25 v26 v27 v28 v29 v30 v31 v32 v33 v34 v35 v36 v37 v38 v39 v40 v41).put (some 24) v = actU x0 x1 x2 x3 x4 x5 x6 x7 x8 x9 x10 x11 x12 x13 x14 x15 x16 x17 x18 x19 x20 x21 x22 x23 v v25 v26 v27 v28 v29 v30 v31 v32 v33 v34 v35 v36 v37 v38 v39 v40 v41 := by kernel_rfl
theorem putU25 (x0 x1 x2 x3 x4 x5 x6 x7 x8 x9 x10 x11 x12 x13 x14 x15 x16 x17 x18 x19 x20 x21 x22 x23 v24 v25 v26 v27 v28 v29 v30 v31 v32 v33 v34 v35 v36 v37 v38 v39 v40 v41 v : Value) : (actU x0 x1 x2 x3 x4 x5 x6 x7 x8 x9 x10 x11 x12 x13 x14 x15 x16 x17 x18 x19 x20 x21 x22 x23 v24 v25 v26 v27 v28 v29 v30 v31 v32 v33 v34 v35 v36 v37 v38 v39 v40 v41).put (some 25) v = actU x0 x1 x2 x3 x4 x5 x6 x7 x8 x9 x10 x11 x12 x13 x14 x15 x16 x17 x18 x19 x20 x21 x22 x23 v24 v v26 v27 v28 v29 v30 v31 v32 v33 v34 v35 v36 v37 v38 v39 v40 v41 := by kernel_rfl
theorem putU26 (x0 x1 x2 x3 x4 x5 x6 x7 x8 x9 x10 x11 x12 x13 x14 x15 x16 x17 x18 x19 x20 x21 x22 x23 v24 v25 v26 v27 v28 v29 v30 v31 v32 v33 v34 v35 v36 v37 v38 v39 v40 v41 v : Value) : (actU x0 x1 x2 x3 x4 x5 x6 x7 x8 x9 x10 x11 x12 x13 x14 x15 x16 x17 x18 x19 x20 x21 x22 x23 v24 v25 v26 v27 v28 v29 v30 v31 v32 v33 v34 v35 v36 v37 v38 v39 v40 v41).put (some 26) v = actU x0 x1 x2 x3 x4 x5 x6 x7 x8 x9 x10 x11 x12 x13 x14 x15 x16 x17 x18 x19 x20 x21 x22 x23 v24 v25 v v27 v28 v29 v30 v31 v32 v33 v34 v35 v36 v37 v38 v39 v40 v41 := by kernel_rfl
theorem putU27 (x0 x1 x2 x3 x4 x5 x6 x7 x8 x9 x10 x11 x12 x13 x14 x15 x16 x17 x18 x19 x20 x21 x22 x23 v24 v25 v26 v27 v28 v29 v30 v31 v32 v33 v34 v35 v36 v37 v38 v39 v40 v41 v : Value) : (actU x0 x1 x2 x3 x4 x5 x6 x7 x8 x9 x10 x11 x12 x13 x14 x15 x16 x17 x18 x19 x20 x21 x22 x23 v24 v25 v26 v27 v28 v29 v30 v31 v32 v33 v34 v35 v36 v37 v38 v39 v40 v41).put (some 27) v = actU x0 x1 x2 x3 x4 x5 x6 x7 x8 x9 x10 x11 x12 x13 x14 x15 x16 x17 x18 x19 x20 x21 x22 x23 v24 v25 v26 v v28 v29 v30 v31 v32 v33 v34 v35 v36 v37 v38 v39 v40 v41 := by kernel_rfl
theorem putU28 (x0 x1 x2 x3 x4 x5 x6 x7 x8 x9 x10 x11 x12 x13 x14 x15 x16 x17 x18 x19 x20 x21 x22 x23 v24 v25 v26 v27 v28 v29 v30 v31 v32 v33 v34 v35 v36 v37 v38 v39 v40 v41 v : Value) : (actU x0 x1 x2 x3 x4 x5 x6 x7 x8 x9 x10 x11 x12 x13 x14 x15 x16 x17 x18 x19 x20 x21 x22 x23 v24 v25 v26 v27 v28 v29 v30 v31 v32 v33 v34 v35 v36 v37 v38 v39 v40 v41).put (some 28) v = actU x0 x1 x2 x3 x4 x5 x6 x7 x8 x9 x10 x11 x12 x13 x14 x15 x16 x17 x18 x19 x20 x21 x22 x23 v24 v25 v26 v27 v v29 v30 v31 v32 v33 v34 v35 v36 v37 v38 v39 v40 v41 := by kernel_rfl
theorem putU29 (x0 x1 x2 x3 x4 x5 x6 x7 x8 x9 x10 x11 x12 x13 x14 x15 x16 x17 x18 x19 x20 x21 x22 x23 v24 v25 v26 v27 v28 v29 v30 v31 v32 v33 v34 v35 v36 v37 v38 v39 v40 v41 v : Value) : (actU x0 x1 x2 x3 x4 x5 x6 x7 x8 x9 x10 x11 x12 x13 x14 x15 x16 x17 x18 x19 x20 x21 x22 x23 v24 v25 v26 v27 v28 v29 v30 v31 v32 v33 v34 v35 v36 v37 v38 v39 v40 v41).put (some 29) v = actU x0 x1 x2 x3 x4 x5 x6 x7 x8 x9 x10 x11 x12 x13 x14 x15 x16 x17 x18 x19 x20 x21 x22 x23 v24 v25 v26 v27 v28 v v30 v31 v32 v33 v34 v35 v36 v37 v38 v39 v40 v41 := by kernel_rfl
theorem putU30 (x0 x1 x2 x3 x4 x5 x6 x7 x8 x9 x10 x11 x12 x13 x14 x15 x16 x17 x18 x19 x20 x21 x22 x23 v24 v25 v26 v27 v28 v29 v30 v31 v32 v33 v34 v35 v36 v37 v38 v39 v40 v41 v : Value) : (actU x0 x1 x2 x3 x4 x5 x6 x7 x8 x9 x10 x11 x12 x13 x14 x15 x16 x17 x18 x19 x20 x21 x22 x23 v24 v25 v26 v27 v28 v29 v30 v31 v32 v33 v34 v35 v36 v37 v38 v39 v40 v41).put (some 30) v = actU x0 x1 x2 x3 x4 x5 x6 x7 x8 x9 x10 x11 x12 x13 x14 x15 x16 x17 x18 x19 x20 x21 x22 x23 v24 v25 v26 v27 v28 v29 v v31 v32 v33 v34 v35 v36 v37 v38 v39 v40 v41 := by kernel_rfl
theorem putU31 (x0 x1 x2 x3 x4 x5 x6 x7 x8 x9 x10 x11 x12 x13 x14 x15 x16 x17 x18 x19 x20 x21 x22 x23 v24 v25 v26 v27 v28 v29 v30 v31 v32 v33 v34 v35 v36 v37 v38 v39 v40 v41 v : Value) : (actU x0 x1 x2 x3 x4 x5 x6 x7 x8 x9 x10 x11 x12 x13 x14 x15 x16 x17 x18 x19 x20 x21 x22 x23 v24 v25 v26 v27 v28 v29 v30 v31 v32 v33 v34 v35 v36 v37 v38 v39 v40 v41).put (some 31) v = actU x0 x1 x2 x3 x4 x5 x6 x7 x8 x9 x10 x11 x12 x13 x14 x15 x16 x17 x18 x19 x20 x21 x22 x23 v24 v25 v26 v27 v28 v29 v30 v v32 v33 v34 v35 v36 v37 v38 v39 v40 v41 := by kernel_rfl
theorem putU32 (x0 x1 x2 x3 x4 x5 x6 x7 x8 x9 x10 x11 x12 x13 x14 x15 x16 x17 x18 x19 x20 x21 x22 x23 v24 v25 v26 v27 v28 v29 v30 v31 v32 v33 v34 v35 v36 v37 v38 v39 v40 v41 v : Value) : (actU x0 x1 x2 x3 x4 x5 x6 x7 x8 x9 x10 x11 x12 x13 x14 x15 x16 x17 x18 x19 x20 x21 x22 x23 v24 v25 v26 v27 v28 v29 v30 v31 v32 v33 v34 v35 v36 v37 v38 v39 v40 v41).put (some 32) v = actU x0 x1 x2 x3 x4 x5 x6 x7 x8 x9 x10 x11 x12 x13 x14 x15 x16 x17 x18 x19 x20 x21 x22 x23 v24 v25 v26 v27 v28 v29 v30 v31 v v33 v34 v35 v36 v37 v38 v39 v40 v41 := by kernel_rfl
theorem putU33 (x0 x1 x2 x3 x4 x5 x6 x7 x8 x9 x10 x11 x12 x13 x14 x15 x16 x17 x18 x19 x20 x21 x22 x23 v24 v25 v26 v27 v28 v29 v30 v31 v32 v33 v34 v35 v36 v37 v38 v39 v40 v41 v : Value) : (actU x0 x1 x2 x3 x4 x5 x6 x7 x8 x9 x10 x11 x12 x13 x14 x15 x16 x17 x18 x19 x20 x21 x22 x23 v24 v25 v26 v27 v28 v29 v30 v31 v32 v33 v34 v35 v36 v37 v38 v39 v40 v41).put (some 33) v = actU x0 x1 x2 x3 x4 x5 x6 x7 x8 x9 x10 x11 x12 x13 x14 x15 x16 x17 x18 x19 x20 x21 x22 x23 v24 v25 v26 v27 v28 v29 v30 v31 v32 v v34 v35 v36 v37 v38 v39 v40 v41 := by kernel_rfl
theorem putU34 (x0 x1 x2 x3 x4 x5 x6 x7 x8 x9 x10 x11 x12 x13 x14 x15 x16 x17 x18 x19 x20 x21 x22 x23 v24 v25 v26 v27 v28 v29 v30 v31 v32 v33 v34 v35 v36 v37 v38 v39 v40 v41 v : Value) : (actU x0 x1 x2 x3 x4 x5 x6 x7 x8 x9 x10 x11 x12 x13 x14 x15 x16 x17 x18 x19 x20 x21 x22 x23 v24 v25 v26 v27 v28 v29 v30 v31 v32 v33 v34 v35 v36 v37 v38 v39 v40 v41).put (some 34) v = actU x0 x1 x2 x3 x4 x5 x6 x7 x8 x9 x10 x11 x12 x13 x14 x15 x16 x17 x18 x19 x20 x21 x22 x23 v24 v25 v26 v27 v28 v29 v30 v31 v32 v33 v v35 v36 v37 v38 v39 v40 v41 := by kernel_rfl
theorem putU35 (x0 x1 x2 x3 x4 x5 x6 x7 x8 x9 x10 x11 x12 x13 x14 x15 x16 x17 x18 x19 x20 x21 x22 x23 v24 v25 v26 v27 v28 v29 v30 v31 v32 v33 v34 v35 v36 v37 v38 v39 v40 v41 v : Value) : (actU x0 x1 x2 x3 x4 x5 x6 x7 x8 x9 x10 x11 x12 x13 x14 x15 x16 x17 x18 x19 x20 x21 x22 x23 v24 v25 v26 v27 v28 v29 v30 v31 v32 v33 v34 v35 v36 v37 v38 v39 v40 v41).put (some 35) v = actU x0 x1 x2 x3 x4 x5 x6 x7 x8 x9 x10 x11 x12 x13 x14 x15 x16 x17 x18 x19 x20 x21 x22 x23 v24 v25 v26 v27 v28 v29 v30 v31 v32 v33 v34 v v36 v37 v38 v39 v40 v41 := by kernel_rfl
theorem putU36 (x0 x1 x2 x3 x4 x5 x6 x7 x8 x9 x10 x11 x12 x13 x14 x15 x16 x17 x18 x19 x20 x21 x22 x23 v24 v25 v26 v27 v28 v29 v30 v31 v32 v33 v34 v35 v36 v37 v38 v39 v40 v41 v : Value) : (actU x0 x1 x2 x3 x4 x5 x6 x7 x8 x9 x10 x11 x12 x13 x14 x15 x16 x17 x18 x19 x20 x21 x22 x23 v24 v25 v26 v27 v28 v29 v30 v31 v32 v33 v34 v35 v36 v37 v38 v39 v40 v41).put (some 36) v = actU x0 x1 x2 x3 x4 x5 x6 x7 x8 x9 x10 x11 x12 x13 x14 x15 x16 x17 x18 x19 x20 x21 x22 x23 v24 v25 v26 v27 v28 v29 v30 v31 v32 v33 v34 v35 v v37 v38 v39 v40 v41 := by kernel_rfl
theorem putU37 (x0 x1 x2 x3 x4 x5 x6 x7 x8 x9 x10 x11 x12 x13 x14 x15 x16 x17 x18 x19 x20 x21 x22 x23 v24 v25 v26 v27 v28 v29 v30 v31 v32 v33 v34 v35 v36 v37 v38 v39 v40 v41 v : Value) : (actU x0 x1 x2 x3 x4 x5 x6 x7 x8 x9 x10 x11 x12 x13 x14 x15 x16 x17 x18 x19 x20 x21 x22 x23 v24 v25 v26 v27 v28 v29 v30 v31 v32 v33 v34 v35 v36 v37 v38 v39 v40 v41).put (some 37) v = actU x0 x1 x2 x3 x4 x5 x6 x7 x8 x9 x10 x11 x12 x13 x14 x15 x16 x17 x18 x19 x20 x21 x22 x23 v24 v25 v26 v27 v28 v29 v30 v31 v32 v33 v34 v35 v36 v v38 v39 v40 v41 := by kernel_rfl
theorem putU38 (x0 x1 x2 x3 x4 x5 x6 x7 x8 x9 x10 x11 x12 x13 x14 x15 x16 x17 x18 x19 x20 x21 x22 x23 v24 v25 v26 v27 v28 v29 v30 v31 v32 v33 v34 v35 v36 v37 v38 v39 v40 v41 v : Value) : (actU x0 x1 x2 x3 x4 x5 x6 x7 x8 x9 x10 x11 x12 x13 x14 x15 x16 x17 x18 x19 x20 x21 x22 x23 v24 v25 v26 v27 v28 v29 v30 v31 v32 v33 v34 v35 v36 v37 v38 v39 v40 v41).put (some 38) v = actU x0 x1 x2 x3 x4 x5 x6 x7 x8 x9 x10 x11 x12 x13 x14 x15 x16 x17 x18 x19 x20 x21 x22 x23 v24 v25 v26 v27 v28 v29 v30 v31 v32 v33 v34 v35 v36 v37 v v39 v40 v41 := by kernel_rfl
theorem putU39 (x0 x1 x2 x3 x4 x5 x6 x7 x8 x9 x10 x11 x12 x13 x14 x15 x16 x17 x18 x19 x20 x21 x22 x23 v24 v25 v26 v27 v28 v29 v30 v31 v32 v33 v34 v35 v36 v37 v38 v39 v40 v41 v : Value) : (actU x0 x1 x2 x3 x4 x5 x6 x7 x8 x9 x10 x11 x12 x13 x14 x15 x16 x17 x18 x19 x20 x21 x22 x23 v24 v25 v26 v27 v28 v29 v30 v31 v32 v33 v34 v35 v36 v37 v38 v39 v40 v41).put (some 39) v = actU x0 x1 x2 x3 x4 x5 x6 x7 x8 x9 x10 x11 x12 x13 x14 x15 x16 x17 x18 x19 x20 x21 x22 x23 v24 v25 v26 v27 v28 v29 v30 v31 v32 v33 v34 v35 v36 v37 v38 v v40 v41 := by kernel_rfl
theorem putU40 (x0 x1 x2 x3 x4 x5 x6 x7 x8 x9 x10 x11 x12 x13 x14 x15 x16 x17 x18 x19 x20 x21 x22 x23 v24 v25 v26 v27 v28 v29 v30 v31 v32 v33 v34 v35 v36 v37 v38 v39 v40 v41 v : Value) : (actU x0 x1 x2 x3 x4 x5 x6 x7 x8 x9 x10 x11 x12 x13 x14 x15 x16 x17 x18 x19 x20 x21 x22 x23 v24 v25 v26 v27 v28 v29 v30 v31 v32 v33 v34 v35 v36 v37 v38 v39 v40 v41).put (some 40) v = actU x0 x1 x2 x3 x4 x5 x6 x7 x8 x9 x10 x11 x12 x13 x14 x15 x16 x17 x18 x19 x20 x21 x22 x23 v24 v25 v26 v27 v28 v29 v30 v31 v32 v33 v34 v35 v36 v37 v38 v39 v v41 := by kernel_rfl
theorem putU41 (x0 x1 x2 x3 x4 x5 x6 x7 x8 x9 x10 x11 x12 x13 x14 x15 x16 x17 x18 x19 x20 x21 x22 x23 v24 v25 v26 v27 v28 v29 v30 v31 v32 v33 v34 v35 v36 v37 v38 v39 v40 v41 v : Value) : (actU x0 x1 x2 x3 x4 x5 x6 x7 x8 x9 x10 x11 x12 x13 x14 x15 x16 x17 x18 x19 x20 x21 x22 x23 v24 v25 v26 v27 v28 v29 v30 v31 v32 v33 v34 v35 v36 v37 v38 v39 v40 v41).put (some 41) v = actU x0 x1 x2 x3 x4 x5 x6 x7 x8 x9 x10 x11 x12 x13 x14 x15 x16 x17 x18 x19 x20 x21 x22 x23 v24 v25 v26 v27 v28 v29 v30 v31 v32 v33 v34 v35 v36 v37 v38 v39 v40 v := by kernel_rfl
theorem putUn (x0 x1 x2 x3 x4 x5 x6 x7 x8 x9 x10 x11 x12 x13 x14 x15 x16 x17 x18 x19 x20 x21 x22 x23 v24 v25 v26 v27 v28 v29 v30 v31 v32 v33 v34 v35 v36 v37 v38 v39 v40 v41 v : Value) : (actU x0 x1 x2 x3 x4 x5 x6 x7 x8 x9 x10 x11 x12 x13 x14 x15 x16 x17 x18 x19 x20 x21 x22 x23 v24 v25 v26 v27 v28 v29 v30 v31 v32 v33 v34 v35 v36 v37 v38 v39 v40 v41).put none v = actU x0 x1 x2 x3 x4 x5 x6 x7 x8 x9 x10 x11 x12 x13 x14 x15 x16 x17 x18 x19 x20 x21 x22 x23 v24 v25 v26 v27 v28 v29 v30 v31 v32 v33 v34 v35 v36 v37 v38 v39 v40 v41 := by kernel_rfl
theorem evU0 (x0 x1 x2 x3 x4 x5 x6 x7 x8 x9 x10 x11 x12 x13 x14 x15 x16 x17 x18 x19 x20 x21 x22 x23 v24 v25 v26 v27 v28 v29 v30 v31 v32 v33 v34 v35 v36 v37 v38 v39 v40 v41 : Value) : (actU x0 x1 x2 x3 x4 x5 x6 x7 x8 x9 x10 x11 x12 x13 x14 x15 x16 x17 x18 x19 x20 x21 x22 x23 v24 v25 v26 v27 v28 v29 v30 v31 v32 v33 v34 v35 v36 v37 v38 v39 v40 v41).eval (.tmp 0) = x0 := by kernel_rfl
theorem evU1 (x0 x1 x2 x3 x4 x5 x6 x7 x8 x9 x10 x11 x12 x13 x14 x15 x16 x17 x18 x19 x20 x21 x22 x23 v24 v25 v26 v27 v28 v29 v30 v31 v32 v33 v34 v35 v36 v37 v38 v39 v40 v41 : Value) : (actU x0 x1 x2 x3 x4 x5 x6 x7 x8 x9 x10 x11 x12 x13 x14 x15 x16 x17 x18 x19 x20 x21 x22 x23 v24 v25 v26 v27 v28 v29 v30 v31 v32 v33 v34 v35 v36 v37 v38 v39 v40 v41).eval (.tmp 1) = x1 := by kernel_rfl
theorem evU3 (x0 x1 x2 x3 x4 x5 x6 x7 x8 x9 x10 x11 x12 x13 x14 x15 x16 x17 x18 x19 x20 x21 x22 x23 v24 v25 v26 v27 v28 v29 v30 v31 v32 v33 v34 v35 v36 v37 v38 v39 v40 v41 : Value) : (actU x0 x1 x2 x3 x4 x5 x6 x7 x8 x9 x10 x11 x12 x13 x14 x15 x16 x17 x18 x19 x20 x21 x22 x23 v24 v25 v26 v27 v28 v29 v30 v31 v32 v33 v34 v35 v36 v37 v38 v39 v40 v41).eval (.tmp 3) = x3 := by kernel_rfl
theorem evU9 (x0 x1 x2 x3 x4 x5 x6 x7 x8 x9 x10 x11 x12 x13 x14 x15 x16 x17 x18 x19 x20 x21 x22 x23 v24 v25 v26 v27 v28 v29 v30 v31 v32 v33 v34 v35 v36 v37 v38 v39 v40 v41 : Value) : (actU x0 x1 x2 x3 x4 x5 x6 x7 x8 x9 x10 x11 x12 x13 x14 x15 x16 x17 x18 x19 x20 x21 x22 x23 v24 v25 v26 v27 v28 v29 v30 v31 v32 v33 v34 v35 v36 v37 v38 v39 v40 v41).eval (.tmp 9) = x9 := by kernel_rfl
theorem evU24 (x0 x1 x2 x3 x4 x5 x6 x7 x8 x9 x10 x11 x12 x13 x14 x15 x16 x17 x18 x19 x20 x21 x22 x23 v24 v25 v26 v27 v28 v29 v30 v31 v32 v33 v34 v35 v36 v37 v38 v39 v40 v41 : Value) : (actU x0 x1 x2 x3 x4 x5 x6 x7 x8 x9 x10 x11 x12 x13 x14 x15 x16 x17 x18 x19 x20 x21 x22 x23 v24 v25 v26 v27 v28 v29 v30 v31 v32 v33 v34 v35 v36 v37 v38 v39 v40 v41).eval (.tmp 24) = v24 := by kernel_rfl
theorem evU25 (x0 x1 x2 x3 x4 x5 x6 x7 x8 x9 x10 x11 x12 x13 x14 x15 x16 x17 x18 x19 x20 x21 x22 x23 v24 v25 v26 v27 v28 v29 v30 v31 v32 v33 v34 v35 v36 v37 v38 v39 v40 v41 : Value) : (actU x0 x1 x2 x3 x4 x5 x6 x7 x8 x9 x10 x11 x12 x13 x14 x15 x16 x17 x18 x19 x20 x21 x22 x23 v24 v25 v26 v27 v28 v29 v30 v31 v32 v33 v34 v35 v36 v37 v38 v39 v40 v41).eval (.tmp 25) = v25 := by kernel_rfl
theorem evU26 (x0 x1 x2 x3 x4 x5 x6 x7 x8 x9 x10 x11 x12 x13 x14 x15 x16 x17 x18 x19 x20 x21 x22 x23 v24 v25 v26 v27 v28 v29 v30 v31 v32 v33 v34 v35 v36 v37 v38 v39 v40 v41 : Value) : (actU x0 x1 x2 x3 x4 x5 x6 x7 x8 x9 x10 x11 x12 x13 x14 x15 x16 x17 x18 x19 x20 x21 x22 x23 v24 v25 v26 v27 v28 v29 v30 v31 v32 v33 v34 v35 v36 v37 v38 v39 v40 v41).eval (.tmp 26) = v26 := by kernel_rfl
theorem evU27 (x0 x1 x2 x3 x4 x5 x6 x7 x8 x9 x10 x11 x12 x13 x14 x15 x16 x17 x18 x19 x20 x21 x22 x23 v24 v25 v26 v27 v28 v29 v30 v31 v32 v33 v34 v35 v36 v37 v38 v39 v40 v41 : Value) : (actU x0 x1 x2 x3 x4 x5 x6 x7 x8 x9 x10 x11 x12 x13 x14 x15 x16 x17 x18 x19 x20 x21 x22 x23 v24 v25 v26 v27 v28 v29 v30 v31 v32 v33 v34 v35 v36 v37 v38 v39 v40 v41).eval (.tmp 27) = v27 := by kernel_rfl
theorem evU28 (x0 x1 x2 x3 x4 x5 x6 x7 x8 x9 x10 x11 x12 x13 x14 x15 x16 x17 x18 x19 x20 x21 x22 x23 v24 v25 v26 v27 v28 v29 v30 v31 v32 v33 v34 v35 v36 v37 v38 v39 v40 v41 : Value) : (actU x0 x1 x2 x3 x4 x5 x6 x7 x8 x9 x10 x11 x12 x13 x14 x15 x16 x17 x18 x19 x20 x21 x22 x23 v24 v25 v26 v27 v28 v29 v30 v31 v32 v33 v34 v35 v36 v37 v38 v39 v40 v41).eval (.tmp 28) = v28 := by kernel_rfl
theorem evU29 (x0 x1 x2 x3 x4 x5 x6 x7 x8 x9 x10 x11 x12 x13 x14 x15 x16 x17 x18 x19 x20 x21 x22 x23 v24 v25 v26 v27 v28 v29 v30 v31 v32 v33 v34 v35 v36 v37 v38 v39 v40 v41 : Value) : (actU x0 x1 x2 x3 x4 x5 x6 x7 x8 x9 x10 x11 x12 x13 x14 x15 x16 x17 x18 x19 x20 x21 x22 x23 v24 v25 v26 v27 v28 v29 v30 v31 v32 v33 v34 v35 v36 v37 v38 v39 v40 v41).eval (.tmp 29) = v29 := by kernel_rfl
theorem evU30 (x0 x1 x2 x3 x4 x5 x6 x7 x8 x9 x10 x11 x12 x13 x14 x15 x16 x17 x18 x19 x20 x21 x22 x23 v24 v25 v26 v27 v28 v29 v30 v31 v32 v33 v34 v35 v36 v37 v38 v39 v40 v41 : Value) : (actU x0 x1 x2 x3 x4 x5 x6 x7 x8 x9 x10 x11 x12 x13 x14 x15 x16 x17 x18 x19 x20 x21 x22 x23 v24 v25 v26 v27 v28 v29 v30 v31 v32 v33 v34 v35 v36 v37 v38 v39 v40 v41).eval (.tmp 30) = v30 := by kernel_rfl
theorem evU31 (x0 x1 x2 x3 x4 x5 x6 x7 x8 x9 x10 x11 x12 x13 x14 x15 x16 x17 x18 x19 x20 x21 x22 x23 v24 v25 v26 v27 v28 v29 v30 v31 v32 v33 v34 v35 v36 v37 v38 v39 v40 v41 : Value) : (actU x0 x1 x2 x3 x4 x5 x6 x7 x8 x9 x10 x11 x12 x13 x14 x15 x16 x17 x18 x19 x20 x21 x22 x23 v24 v25 v26 v27 v28 v29 v30 v31 v32 v33 v34 v35 v36 v37 v38 v39 v40 v41).eval (.tmp 31) = v31 := by kernel_rfl
theorem evU32 (x0 x1 x2 x3 x4 x5 x6 x7 x8 x9 x10 x11 x12 x13 x14 x15 x16 x17 x18 x19 x20 x21 x22 x23 v24 v25 v26 v27 v28 v29 v30 v31 v32 v33 v34 v35 v36 v37 v38 v39 v40 v41 : Value) : (actU x0 x1 x2 x3 x4 x5 x6 x7 x8 x9 x10 x11 x12 x13 x14 x15 x16 x17 x18 x19 x20 x21 x22 x23 v24 v25 v26 v27 v28 v29 v30 v31 v32 v33 v34 v35 v36 v37 v38 v39 v40 v41).eval (.tmp 32) = v32 := by kernel_rfl
theorem evU33 (x0 x1 x2 x3 x4 x5 x6 x7 x8 x9 x10 x11 x12 x13 x14 x15 x16 x17 x18 x19 x20 x21 x22 x23 v24 v25 v26 v27 v28 v29 v30 v31 v32 v33 v34 v35 v36 v37 v38 v39 v40 v41 : Value) : (actU x0 x1 x2 x3 x4 x5 x6 x7 x8 x9 x10 x11 x12 x13 x14 x15 x16 x17 x18 x19 x20 x21 x22 x23 v24 v25 v26 v27 v28 v29 v30 v31 v32 v33 v34 v35 v36 v37 v38 v39 v40 v41).eval (.tmp 33) = v33 := by kernel_rfl
theorem evU34 (x0 x1 x2 x3 x4 x5 x6 x7 x8 x9 x10 x11 x12 x13 x14 x15 x16 x17 x18 x19 x20 x21 x22 x23 v24 v25 v26 v27 v28 v29 v30 v31 v32 v33 v34 v35 v36 v37 v38 v39 v40 v41 : Value) : (actU x0 x1 x2 x3 x4 x5 x6 x7 x8 x9 x10 x11 x12 x13 x14 x15 x16 x17 x18 x19 x20 x21 x22 x23 v24 v25 v26 v27 v28 v29 v30 v31 v32 v33 v34 v35 v36 v37 v38 v39 v40 v41).eval (.tmp 34) = v34 := by kernel_rfl
theorem evU35 (x0 x1 x2 x3 x4 x5 x6 x7 x8 x9 x10 x11 x12 x13 x14 x15 x16 x17 x18 x19 x20 x21 x22 x23 v24 v25 v26 v27 v28 v29 v30 v31 v32 v33 v34 v35 v36 v37 v38 v39 v40 v41 : Value) : (actU x0 x1 x2 x3 x4 x5 x6 x7 x8 x9 x10 x11 x12 x13 x14 x15 x16 x17 x18 x19 x20 x21 x22 x23 v24 v25 v26 v27 v28 v29 v30 v31 v32 v33 v34 v35 v36 v37 v38 v39 v40 v41).eval (.tmp 35) = v35 := by kernel_rfl
theorem evU36 (x0 x1 x2 x3 x4 x5 x6 x7 x8 x9 x10 x11 x12 x13 x14 x15 x16 x17 x18 x19 x20 x21 x22 x23 v24 v25 v26 v27 v28 v29 v30 v31 v32 v33 v34 v35 v36 v37 v38 v39 v40 v41 : Value) : (actU x0 x1 x2 x3 x4 x5 x6 x7 x8 x9 x10 x11 x12 x13 x14 x15 x16 x17 x18 x19 x20 x21 x22 x23 v24 v25 v26 v27 v28 v29 v30 v31 v32 v33 v34 v35 v36 v37 v38 v39 v40 v41).eval (.tmp 36) = v36 := by kernel_rfl
theorem evU37 (x0 x1 x2 x3 x4 x5 x6 x7 x8 x9 x10 x11 x12 x13 x14 x15 x16 x17 x18 x19 x20 x21 x22 x23 v24 v25 v26 v27 v28 v29 v30 v31 v32 v33 v34 v35 v36 v37 v38 v39 v40 v41 : Value) : (actU x0 x1 x2 x3 x4 x5 x6 x7 x8 x9 x10 x11 x12 x13 x14 x15 x16 x17 x18 x19 x20 x21 x22 x23 v24 v25 v26 v27 v28 v29 v30 v31 v32 v33 v34 v35 v36 v37 v38 v39 v40 v41).eval (.tmp 37) = v37 := by kernel_rfl
theorem evU38 (x0 x1 x2 x3 x4 x5 x6 x7 x8 x9 x10 x11 x12 x13 x14 x15 x16 x17 x18 x19 x20 x21 x22 x23 v24 v25 v26 v27 v28 v29 v30 v31 v32 v33 v34 v35 v36 v37 v38 v39 v40 v41 : Value) : (actU x0 x1 x2 x3 x4 x5 x6 x7 x8 x9 x10 x11 x12 x13 x14 x15 x16 x17 x18 x19 x20 x21 x22 x23 v24 v25 v26 v27 v28 v29 v30 v31 v32 v33 v34 v35 v36 v37 v38 v39 v40 v41).eval (.tmp 38) = v38 := by kernel_rfl
theorem evU39 (x0 x1 x2 x3 x4 x5 x6 x7 x8 x9 x10 x11 x12 x13 x14 x15 x16 x17 x18 x19 x20 x21 x22 x23 v24 v25 v26 v27 v28 v29 v30 v31 v32 v33 v34 v35 v36 v37 v38 v39 v40 v41 : Value) : (actU x0 x1 x2 x3 x4 x5 x6 x7 x8 x9 x10 x11 x12 x13 x14 x15 x16 x17 x18 x19 x20 x21 x22 x23 v24 v25 v26 v27 v28 v29 v30 v31 v32 v33 v34 v35 v36 v37 v38 v39 v40 v41).eval (.tmp 39) = v39 := by kernel_rfl
theorem evU40 (x0 x1 x2 x3 x4 x5 x6 x7 x8 x9 x10 x11 x12 x13 x14 x15 x16 x17 x18 x19 x20 x21 x22 x23 v24 v25 v26 v27 v28 v29 v30 v31 v32 v33 v34 v35 v36 v37 v38 v39 v40 v41 : Value) : (actU x0 x1 x2 x3 x4 x5 x6 x7 x8 x9 x10 x11 x12 x13 x14 x15 x16 x17 x18 x19 x20 x21 x22 x23 v24 v25 v26 v27 v28 v29 v30 v31 v32 v33 v34 v35 v36 v37 v38 v39 v40 v41).eval (.tmp 40) = v40 := by kernel_rfl
theorem evU41 (x0 x1 x2 x3 x4 x5 x6 x7 x8 x9 x10 x11 x12 x13 x14 x15 x16 x17 x18 x19 x20 x21 x22 x23 v24 v25 v26 v27 v28 v29 v30 v31 v32 v33 v34 v35 v36 v37 v38 v39 v40 v41 : Value) : (actU x0 x1 x2 x3 x4 x5 x6 x7 x8 x9 x10 x11 x12 x13 x14 x15 x16 x17 x18 x19 x20 x21 x22 x23 v24 v25 v26 v27 v28 v29 v30 v31 v32 v33 v34 v35 v36 v37 v38 v39 v40 v41).eval (.tmp 41) = v41 := by kernel_rfl
theorem lt19u {i : Nat} (h : i < 19) : i = 0 ∨ i = 1 ∨ i = 2 ∨ i = 3 ∨ i = 4 ∨ i = 5 ∨ i = 6 ∨ i = 7 ∨ i = 8 ∨ i = 9 ∨ i = 10 ∨ i = 11 ∨ i = 12 ∨ i = 13 ∨ i = 14 ∨ i = 15 ∨ i = 16 ∨ i = 17 ∨ i = 18 := by omega
theorem regU {ops : Array Oper} {Q : Exit → Act → World → Prop} {id : Nat} {a : Act} {y0 : World} (w : World) (P g : Nat) (spb : Option Addr) (nb capb : Nat) (spu : Option Addr) (nu capu : Nat) (bs : List UInt8) (F : ByteArray → Option Nat) (us : List Us) (u : Us) (hpl : u.pl = nb) (hus : us.length ≤ 100000) (qo : Nat) (hq : Bx y0 qo (o6 u.o) 30) (x0 x1 x2 x3 x4 x5 x6 x7 x8 x9 x10 x11 x12 x13 x14 x15 x16 x17 x18 x19 x20 x21 x22 x23 : Value) (h0 : x0 = .pointer (some ⟨P, 0, none⟩)) (h1 : x1 = .int .i64 (u.ln : Int)) (h3 : x3 = .string u.lb) (h9 : x9 = .pointer (some ⟨qo, 0, none⟩)) (hsz : ops.size = 19) (hu : upB .any ops = true)
    (oq0 : OpA ops 0 (some 24) (.move (.tmp 0)) [])
    (oq1 : OpA ops 1 (some 25) (.move (.tmp 0)) [])
    (oq2 : OpA ops 2 (some 26) (.nilCheck (.tmp 25)) [1])
    (oq3 : OpA ops 3 (some 27) (.fieldAddr 77 (.tmp 26) 2) [2])
    (oq4 : OpA ops 4 (some 28) (.load 75 (.tmp 27)) [3])
    (oq5 : OpA ops 5 (some 29) (.move (.tmp 1)) [])
    (oq6 : OpA ops 6 (some 30) (.move (.tmp 0)) [])
    (oq7 : OpA ops 7 (some 31) (.nilCheck (.tmp 30)) [6])
    (oq8 : OpA ops 8 (some 32) (.fieldAddr 77 (.tmp 31) 0) [7])
    (oq9 : OpA ops 9 (some 33) (.load 45 (.tmp 32)) [8])
    (oq10 : OpA ops 10 (some 34) (.call { callee := .builtin .len, args := #[.tmp 33], argTypes := #[45] }) [9])
    (oq11 : OpA ops 11 (some 35) (.load 30 (.tmp 9)) [])
    (oq12 : OpA ops 12 (some 36) (.move (.tmp 3)) [])
    (oq13 : OpA ops 13 (some 37) (.build 108 #[(0, .tmp 29), (1, .tmp 34), (2, .tmp 35), (3, .tmp 36)]) [5, 10, 11, 12])
    (oq14 : OpA ops 14 (some 38) (.buildSlice 75 1 #[(0, .tmp 37)]) [13])
    (oq15 : OpA ops 15 (some 39) (.call { callee := .builtin .append, args := #[.tmp 28, .tmp 38], argTypes := #[75, 75] }) [4, 14])
    (oq16 : OpA ops 16 (some 40) (.nilCheck (.tmp 24)) [0, 15])
    (oq17 : OpA ops 17 (some 41) (.fieldAddr 77 (.tmp 40) 2) [16, 15])
    (oq18 : OpA ops 18 none (.store 75 (.tmp 41) (.tmp 39)) [17, 15])
    (hP : Pg w P g (.slice spb nb capb) (.slice spu nu capu) bs F us y0) (ha : a = actU x0 x1 x2 x3 x4 x5 x6 x7 x8 x9 x10 x11 x12 x13 x14 x15 x16 x17 x18 x19 x20 x21 x22 x23 undef undef undef undef undef undef undef undef undef undef undef undef undef undef undef undef undef undef)
    (fin : ∀ (y : World) (vu' : Value) (v24 v25 v26 v27 v28 v29 v30 v31 v32 v33 v34 v35 v36 v37 v38 v39 v40 v41 : Value), Hid (Pg w P g (.slice spb nb capb) vu' bs F (us ++ [u]) y) → Hid (Kp y0 y) → Q .normal (actU x0 x1 x2 x3 x4 x5 x6 x7 x8 x9 x10 x11 x12 x13 x14 x15 x16 x17 x18 x19 x20 x21 x22 x23 v24 v25 v26 v27 v28 v29 v30 v31 v32 v33 v34 v35 v36 v37 v38 v39 v40 v41) y) : (Code.region id ops true).wp Tryd.prog Q a y0 := by
  have bd : ∀ x : World, Below x.heap.size x x.drew := fun x => ⟨rfl, rfl, rfl, Nat.le_refl _, fun _ _ => rfl⟩
  refine region_inv2 (IU w P g (.slice spb nb capb) (.slice spu nu capu) bs F us u y0 x0 x1 x2 x3 x4 x5 x6 x7 x8 x9 x10 x11 x12 x13 x14 x15 x16 x17 x18 x19 x20 x21 x22 x23) (by kernel_rfl) hu (fun s a y h => by rw [h.1, hsz]) ?_ ?_ ?_
  · rw [hsz]
    refine ⟨rfl, Kp.of_below (bd y0), undef, undef, undef, undef, undef, undef, undef, undef, undef, undef, undef, undef, undef, undef, undef, undef, undef, undef, ha, fun h => absurd h (by decide), fun h => absurd h (by decide), fun h => absurd h (by decide), fun h => absurd h (by decide), fun h => absurd h (by decide), fun h => absurd h (by decide), fun h => absurd h (by decide), fun h => absurd h (by decide), fun h => absurd h (by decide), fun h => absurd h (by decide), fun h => absurd h (by decide), fun h => absurd h (by decide), fun h => absurd h (by decide), fun h => absurd h (by decide), fun h _ => absurd h (by decide), fun h => absurd h (by decide), fun h => absurd h (by decide), fun h => absurd h (by decide), fun h => absurd h (by decide), fun _ => hP.below (bd y0), fun h _ => absurd h (by decide), fun h => absurd h (by decide)⟩
  · intro s a y i o hI hoi hnd haf
    have hi : i < 19 := by rw [← hsz]; exact (Array.getElem?_eq_some_iff.1 hoi).1
    obtain ⟨hs, hk, v24, v25, v26, v27, v28, v29, v30, v31, v32, v33, v34, v35, v36, v37, v38, v39, v40, v41, rfl, c0, c1, c2, c3, c4, c5, c6, c7, c8, c9, c10, c11, c12, c13, c14, c16, c17, d1, d2, m0, m1, m2⟩ := hI
    have hset : ∀ j, (s.setIfInBounds i true).getD j false = if j = i then true else s.getD j false := fun j => getD_set s i j (by omega)
    have hsz' : (s.setIfInBounds i true).size = 19 := by simpa using hs
    have hb0 : y.cell? ⟨P, 0, none⟩ = some (.slice spb nb capb) := by
      rcases q15 : s.getD 15 false with _ | _
      · exact (m0 q15).box.c 0 _ rfl
      · rcases q18 : s.getD 18 false with _ | _
        · exact (m1 q15 q18).1.c 0 _ rfl
        · obtain ⟨vu', hh⟩ := m2 q18
          exact hh.box.c 0 _ rfl
    rcases lt19u hi with rfl | rfl | rfl | rfl | rfl | rfl | rfl | rfl | rfl | rfl | rfl | rfl | rfl | rfl | rfl | rfl | rfl | rfl | rfl
    · obtain ⟨o', ho', og, od, oo, ow⟩ := oq0
      rw [ho'] at hoi
      injection hoi with hoi
      subst hoi
      refine wpOp_val (.pointer (some ⟨P, 0, none⟩)) ho' og ?_ ?_
      · unfold execOp; simp only [oo, evU0, h0, Sem.run_pure]
      · rw [od, putU24]
        exact ⟨hsz', hk, .pointer (some ⟨P, 0, none⟩), v25, v26, v27, v28, v29, v30, v31, v32, v33, v34, v35, v36, v37, v38, v39, v40, v41, rfl, fun _ => rfl, fun h0 => c1 (by rw [hset] at h0; simpa using h0), fun h0 => c2 (by rw [hset] at h0; simpa using h0), fun h0 => c3 (by rw [hset] at h0; simpa using h0), fun h0 => c4 (by rw [hset] at h0; simpa using h0), fun h0 => c5 (by rw [hset] at h0; simpa using h0), fun h0 => c6 (by rw [hset] at h0; simpa using h0), fun h0 => c7 (by rw [hset] at h0; simpa using h0), fun h0 => c8 (by rw [hset] at h0; simpa using h0), fun h0 => c9 (by rw [hset] at h0; simpa using h0), fun h0 => c10 (by rw [hset] at h0; simpa using h0), fun h0 => c11 (by rw [hset] at h0; simpa using h0), fun h0 => c12 (by rw [hset] at h0; simpa using h0), fun h0 => c13 (by rw [hset] at h0; simpa using h0), fun h0 h1 => c14 (by rw [hset] at h0; simpa using h0) (by rw [hset] at h1; simpa using h1), fun h0 => c16 (by rw [hset] at h0; simpa using h0), fun h0 => c17 (by rw [hset] at h0; simpa using h0), fun h0 => ⟨by rw [hset]; split; rfl; exact (d1 (by rw [hset] at h0; simpa using h0)).1, by rw [hset]; split; rfl; exact (d1 (by rw [hset] at h0; simpa using h0)).2⟩, fun h0 => by rw [hset]; split; rfl; exact d2 (by rw [hset] at h0; simpa using h0), fun h0 => m0 (by rw [hset] at h0; simpa using h0), fun h0 h1 => m1 (by rw [hset] at h0; simpa using h0) (by rw [hset] at h1; simpa using h1), fun h0 => m2 (by rw [hset] at h0; simpa using h0)⟩
    · obtain ⟨o', ho', og, od, oo, ow⟩ := oq1
      rw [ho'] at hoi
      injection hoi with hoi
      subst hoi
      refine wpOp_val (.pointer (some ⟨P, 0, none⟩)) ho' og ?_ ?_
      · unfold execOp; simp only [oo, evU0, h0, Sem.run_pure]
      · rw [od, putU25]
        exact ⟨hsz', hk, v24, .pointer (some ⟨P, 0, none⟩), v26, v27, v28, v29, v30, v31, v32, v33, v34, v35, v36, v37, v38, v39, v40, v41, rfl, fun h0 => c0 (by rw [hset] at h0; simpa using h0), fun _ => rfl, fun h0 => c2 (by rw [hset] at h0; simpa using h0), fun h0 => c3 (by rw [hset] at h0; simpa using h0), fun h0 => c4 (by rw [hset] at h0; simpa using h0), fun h0 => c5 (by rw [hset] at h0; simpa using h0), fun h0 => c6 (by rw [hset] at h0; simpa using h0), fun h0 => c7 (by rw [hset] at h0; simpa using h0), fun h0 => c8 (by rw [hset] at h0; simpa using h0), fun h0 => c9 (by rw [hset] at h0; simpa using h0), fun h0 => c10 (by rw [hset] at h0; simpa using h0), fun h0 => c11 (by rw [hset] at h0; simpa using h0), fun h0 => c12 (by rw [hset] at h0; simpa using h0), fun h0 => c13 (by rw [hset] at h0; simpa using h0), fun h0 h1 => c14 (by rw [hset] at h0; simpa using h0) (by rw [hset] at h1; simpa using h1), fun h0 => c16 (by rw [hset] at h0; simpa using h0), fun h0 => c17 (by rw [hset] at h0; simpa using h0), fun h0 => ⟨by rw [hset]; split; rfl; exact (d1 (by rw [hset] at h0; simpa using h0)).1, by rw [hset]; split; rfl; exact (d1 (by rw [hset] at h0; simpa using h0)).2⟩, fun h0 => by rw [hset]; split; rfl; exact d2 (by rw [hset] at h0; simpa using h0), fun h0 => m0 (by rw [hset] at h0; simpa using h0), fun h0 h1 => m1 (by rw [hset] at h0; simpa using h0) (by rw [hset] at h1; simpa using h1), fun h0 => m2 (by rw [hset] at h0; simpa using h0)⟩
    · obtain ⟨o', ho', og, od, oo, ow⟩ := oq2
      rw [ho'] at hoi
      injection hoi with hoi
      subst hoi
      have y1 : s.getD 1 false = true := by
        obtain ⟨e, m, b, n⟩ := ow 1 (by simp)
        have := haf e m b
        rwa [n] at this
      refine wpOp_val (.pointer (some ⟨P, 0, none⟩)) ho' og ?_ ?_
      · have e := c1 y1; subst e; unfold execOp; simp only [oo, evU25, Sem.run_pure]
      · rw [od, putU26]
        exact ⟨hsz', hk, v24, v25, .pointer (some ⟨P, 0, none⟩), v27, v28, v29, v30, v31, v32, v33, v34, v35, v36, v37, v38, v39, v40, v41, rfl, fun h0 => c0 (by rw [hset] at h0; simpa using h0), fun h0 => c1 (by rw [hset] at h0; simpa using h0), fun _ => rfl, fun h0 => c3 (by rw [hset] at h0; simpa using h0), fun h0 => c4 (by rw [hset] at h0; simpa using h0), fun h0 => c5 (by rw [hset] at h0; simpa using h0), fun h0 => c6 (by rw [hset] at h0; simpa using h0), fun h0 => c7 (by rw [hset] at h0; simpa using h0), fun h0 => c8 (by rw [hset] at h0; simpa using h0), fun h0 => c9 (by rw [hset] at h0; simpa using h0), fun h0 => c10 (by rw [hset] at h0; simpa using h0), fun h0 => c11 (by rw [hset] at h0; simpa using h0), fun h0 => c12 (by rw [hset] at h0; simpa using h0), fun h0 => c13 (by rw [hset] at h0; simpa using h0), fun h0 h1 => c14 (by rw [hset] at h0; simpa using h0) (by rw [hset] at h1; simpa using h1), fun h0 => c16 (by rw [hset] at h0; simpa using h0), fun h0 => c17 (by rw [hset] at h0; simpa using h0), fun h0 => ⟨by rw [hset]; split; rfl; exact (d1 (by rw [hset] at h0; simpa using h0)).1, by rw [hset]; split; rfl; exact (d1 (by rw [hset] at h0; simpa using h0)).2⟩, fun h0 => by rw [hset]; split; rfl; exact d2 (by rw [hset] at h0; simpa using h0), fun h0 => m0 (by rw [hset] at h0; simpa using h0), fun h0 h1 => m1 (by rw [hset] at h0; simpa using h0) (by rw [hset] at h1; simpa using h1), fun h0 => m2 (by rw [hset] at h0; simpa using h0)⟩
    · obtain ⟨o', ho', og, od, oo, ow⟩ := oq3
      rw [ho'] at hoi
      injection hoi with hoi
      subst hoi
      have y2 : s.getD 2 false = true := by
        obtain ⟨e, m, b, n⟩ := ow 2 (by simp)
        have := haf e m b
        rwa [n] at this
      refine wpOp_val (.pointer (some ⟨P, 2, none⟩)) ho' og ?_ ?_
      · have e := c2 y2; subst e; unfold execOp; simp only [oo, evU26]; show _ = _; kernel_rfl
      · rw [od, putU27]
        exact ⟨hsz', hk, v24, v25, v26, .pointer (some ⟨P, 2, none⟩), v28, v29, v30, v31, v32, v33, v34, v35, v36, v37, v38, v39, v40, v41, rfl, fun h0 => c0 (by rw [hset] at h0; simpa using h0), fun h0 => c1 (by rw [hset] at h0; simpa using h0), fun h0 => c2 (by rw [hset] at h0; simpa using h0), fun _ => rfl, fun h0 => c4 (by rw [hset] at h0; simpa using h0), fun h0 => c5 (by rw [hset] at h0; simpa using h0), fun h0 => c6 (by rw [hset] at h0; simpa using h0), fun h0 => c7 (by rw [hset] at h0; simpa using h0), fun h0 => c8 (by rw [hset] at h0; simpa using h0), fun h0 => c9 (by rw [hset] at h0; simpa using h0), fun h0 => c10 (by rw [hset] at h0; simpa using h0), fun h0 => c11 (by rw [hset] at h0; simpa using h0), fun h0 => c12 (by rw [hset] at h0; simpa using h0), fun h0 => c13 (by rw [hset] at h0; simpa using h0), fun h0 h1 => c14 (by rw [hset] at h0; simpa using h0) (by rw [hset] at h1; simpa using h1), fun h0 => c16 (by rw [hset] at h0; simpa using h0), fun h0 => c17 (by rw [hset] at h0; simpa using h0), fun h0 => ⟨by rw [hset]; split; rfl; exact (d1 (by rw [hset] at h0; simpa using h0)).1, by rw [hset]; split; rfl; exact (d1 (by rw [hset] at h0; simpa using h0)).2⟩, fun h0 => by rw [hset]; split; rfl; exact d2 (by rw [hset] at h0; simpa using h0), fun h0 => m0 (by rw [hset] at h0; simpa using h0), fun h0 h1 => m1 (by rw [hset] at h0; simpa using h0) (by rw [hset] at h1; simpa using h1), fun h0 => m2 (by rw [hset] at h0; simpa using h0)⟩
    · obtain ⟨o', ho', og, od, oo, ow⟩ := oq4
      rw [ho'] at hoi
      injection hoi with hoi
      subst hoi
      have y3 : s.getD 3 false = true := by
        obtain ⟨e, m, b, n⟩ := ow 3 (by simp)
        have := haf e m b
        rwa [n] at this
      refine wpOp_val (.slice spu nu capu) ho' og ?_ ?_
      · have e := c3 y3; subst e; have n15 : s.getD 15 false = false := by rcases hh : s.getD 15 false with _ | _; rfl; rw [(d1 hh).1] at hnd; cases hnd
        have x := (m0 n15).box.c 2 (.slice spu nu capu) rfl
        unfold execOp; simp only [oo, evU27]; go_simp
      · rw [od, putU28]
        exact ⟨hsz', hk, v24, v25, v26, v27, .slice spu nu capu, v29, v30, v31, v32, v33, v34, v35, v36, v37, v38, v39, v40, v41, rfl, fun h0 => c0 (by rw [hset] at h0; simpa using h0), fun h0 => c1 (by rw [hset] at h0; simpa using h0), fun h0 => c2 (by rw [hset] at h0; simpa using h0), fun h0 => c3 (by rw [hset] at h0; simpa using h0), fun _ => rfl, fun h0 => c5 (by rw [hset] at h0; simpa using h0), fun h0 => c6 (by rw [hset] at h0; simpa using h0), fun h0 => c7 (by rw [hset] at h0; simpa using h0), fun h0 => c8 (by rw [hset] at h0; simpa using h0), fun h0 => c9 (by rw [hset] at h0; simpa using h0), fun h0 => c10 (by rw [hset] at h0; simpa using h0), fun h0 => c11 (by rw [hset] at h0; simpa using h0), fun h0 => c12 (by rw [hset] at h0; simpa using h0), fun h0 => c13 (by rw [hset] at h0; simpa using h0), fun h0 h1 => c14 (by rw [hset] at h0; simpa using h0) (by rw [hset] at h1; simpa using h1), fun h0 => c16 (by rw [hset] at h0; simpa using h0), fun h0 => c17 (by rw [hset] at h0; simpa using h0), fun h0 => ⟨by rw [hset]; split; rfl; exact (d1 (by rw [hset] at h0; simpa using h0)).1, by rw [hset]; split; rfl; exact (d1 (by rw [hset] at h0; simpa using h0)).2⟩, fun h0 => by rw [hset]; split; rfl; exact d2 (by rw [hset] at h0; simpa using h0), fun h0 => m0 (by rw [hset] at h0; simpa using h0), fun h0 h1 => m1 (by rw [hset] at h0; simpa using h0) (by rw [hset] at h1; simpa using h1), fun h0 => m2 (by rw [hset] at h0; simpa using h0)⟩
    · obtain ⟨o', ho', og, od, oo, ow⟩ := oq5
      rw [ho'] at hoi
      injection hoi with hoi
      subst hoi
      refine wpOp_val (.int .i64 (u.ln : Int)) ho' og ?_ ?_
      · unfold execOp; simp only [oo, evU1, h1, Sem.run_pure]
      · rw [od, putU29]
        exact ⟨hsz', hk, v24, v25, v26, v27, v28, .int .i64 (u.ln : Int), v30, v31, v32, v33, v34, v35, v36, v37, v38, v39, v40, v41, rfl, fun h0 => c0 (by rw [hset] at h0; simpa using h0), fun h0 => c1 (by rw [hset] at h0; simpa using h0), fun h0 => c2 (by rw [hset] at h0; simpa using h0), fun h0 => c3 (by rw [hset] at h0; simpa using h0), fun h0 => c4 (by rw [hset] at h0; simpa using h0), fun _ => rfl, fun h0 => c6 (by rw [hset] at h0; simpa using h0), fun h0 => c7 (by rw [hset] at h0; simpa using h0), fun h0 => c8 (by rw [hset] at h0; simpa using h0), fun h0 => c9 (by rw [hset] at h0; simpa using h0), fun h0 => c10 (by rw [hset] at h0; simpa using h0), fun h0 => c11 (by rw [hset] at h0; simpa using h0), fun h0 => c12 (by rw [hset] at h0; simpa using h0), fun h0 => c13 (by rw [hset] at h0; simpa using h0), fun h0 h1 => c14 (by rw [hset] at h0; simpa using h0) (by rw [hset] at h1; simpa using h1), fun h0 => c16 (by rw [hset] at h0; simpa using h0), fun h0 => c17 (by rw [hset] at h0; simpa using h0), fun h0 => ⟨by rw [hset]; split; rfl; exact (d1 (by rw [hset] at h0; simpa using h0)).1, by rw [hset]; split; rfl; exact (d1 (by rw [hset] at h0; simpa using h0)).2⟩, fun h0 => by rw [hset]; split; rfl; exact d2 (by rw [hset] at h0; simpa using h0), fun h0 => m0 (by rw [hset] at h0; simpa using h0), fun h0 h1 => m1 (by rw [hset] at h0; simpa using h0) (by rw [hset] at h1; simpa using h1), fun h0 => m2 (by rw [hset] at h0; simpa using h0)⟩
    · obtain ⟨o', ho', og, od, oo, ow⟩ := oq6
      rw [ho'] at hoi
      injection hoi with hoi
      subst hoi
      refine wpOp_val (.pointer (some ⟨P, 0, none⟩)) ho' og ?_ ?_
      · unfold execOp; simp only [oo, evU0, h0, Sem.run_pure]
      · rw [od, putU30]
        exact ⟨hsz', hk, v24, v25, v26, v27, v28, v29, .pointer (some ⟨P, 0, none⟩), v31, v32, v33, v34, v35, v36, v37, v38, v39, v40, v41, rfl, fun h0 => c0 (by rw [hset] at h0; simpa using h0), fun h0 => c1 (by rw [hset] at h0; simpa using h0), fun h0 => c2 (by rw [hset] at h0; simpa using h0), fun h0 => c3 (by rw [hset] at h0; simpa using h0), fun h0 => c4 (by rw [hset] at h0; simpa using h0), fun h0 => c5 (by rw [hset] at h0; simpa using h0), fun _ => rfl, fun h0 => c7 (by rw [hset] at h0; simpa using h0), fun h0 => c8 (by rw [hset] at h0; simpa using h0), fun h0 => c9 (by rw [hset] at h0; simpa using h0), fun h0 => c10 (by rw [hset] at h0; simpa using h0), fun h0 => c11 (by rw [hset] at h0; simpa using h0), fun h0 => c12 (by rw [hset] at h0; simpa using h0), fun h0 => c13 (by rw [hset] at h0; simpa using h0), fun h0 h1 => c14 (by rw [hset] at h0; simpa using h0) (by rw [hset] at h1; simpa using h1), fun h0 => c16 (by rw [hset] at h0; simpa using h0), fun h0 => c17 (by rw [hset] at h0; simpa using h0), fun h0 => ⟨by rw [hset]; split; rfl; exact (d1 (by rw [hset] at h0; simpa using h0)).1, by rw [hset]; split; rfl; exact (d1 (by rw [hset] at h0; simpa using h0)).2⟩, fun h0 => by rw [hset]; split; rfl; exact d2 (by rw [hset] at h0; simpa using h0), fun h0 => m0 (by rw [hset] at h0; simpa using h0), fun h0 h1 => m1 (by rw [hset] at h0; simpa using h0) (by rw [hset] at h1; simpa using h1), fun h0 => m2 (by rw [hset] at h0; simpa using h0)⟩
    · obtain ⟨o', ho', og, od, oo, ow⟩ := oq7
      rw [ho'] at hoi
      injection hoi with hoi
      subst hoi
      have y6 : s.getD 6 false = true := by
        obtain ⟨e, m, b, n⟩ := ow 6 (by simp)
        have := haf e m b
        rwa [n] at this
      refine wpOp_val (.pointer (some ⟨P, 0, none⟩)) ho' og ?_ ?_
      · have e := c6 y6; subst e; unfold execOp; simp only [oo, evU30, Sem.run_pure]
      · rw [od, putU31]
        exact ⟨hsz', hk, v24, v25, v26, v27, v28, v29, v30, .pointer (some ⟨P, 0, none⟩), v32, v33, v34, v35, v36, v37, v38, v39, v40, v41, rfl, fun h0 => c0 (by rw [hset] at h0; simpa using h0), fun h0 => c1 (by rw [hset] at h0; simpa using h0), fun h0 => c2 (by rw [hset] at h0; simpa using h0), fun h0 => c3 (by rw [hset] at h0; simpa using h0), fun h0 => c4 (by rw [hset] at h0; simpa using h0), fun h0 => c5 (by rw [hset] at h0; simpa using h0), fun h0 => c6 (by rw [hset] at h0; simpa using h0), fun _ => rfl, fun h0 => c8 (by rw [hset] at h0; simpa using h0), fun h0 => c9 (by rw [hset] at h0; simpa using h0), fun h0 => c10 (by rw [hset] at h0; simpa using h0), fun h0 => c11 (by rw [hset] at h0; simpa using h0), fun h0 => c12 (by rw [hset] at h0; simpa using h0), fun h0 => c13 (by rw [hset] at h0; simpa using h0), fun h0 h1 => c14 (by rw [hset] at h0; simpa using h0) (by rw [hset] at h1; simpa using h1), fun h0 => c16 (by rw [hset] at h0; simpa using h0), fun h0 => c17 (by rw [hset] at h0; simpa using h0), fun h0 => ⟨by rw [hset]; split; rfl; exact (d1 (by rw [hset] at h0; simpa using h0)).1, by rw [hset]; split; rfl; exact (d1 (by rw [hset] at h0; simpa using h0)).2⟩, fun h0 => by rw [hset]; split; rfl; exact d2 (by rw [hset] at h0; simpa using h0), fun h0 => m0 (by rw [hset] at h0; simpa using h0), fun h0 h1 => m1 (by rw [hset] at h0; simpa using h0) (by rw [hset] at h1; simpa using h1), fun h0 => m2 (by rw [hset] at h0; simpa using h0)⟩
    · obtain ⟨o', ho', og, od, oo, ow⟩ := oq8
      rw [ho'] at hoi
      injection hoi with hoi
      subst hoi
      have y7 : s.getD 7 false = true := by
        obtain ⟨e, m, b, n⟩ := ow 7 (by simp)
        have := haf e m b
        rwa [n] at this
      refine wpOp_val (.pointer (some ⟨P, 0, none⟩)) ho' og ?_ ?_
      · have e := c7 y7; subst e; unfold execOp; simp only [oo, evU31]; show _ = _; kernel_rfl
      · rw [od, putU32]
        exact ⟨hsz', hk, v24, v25, v26, v27, v28, v29, v30, v31, .pointer (some ⟨P, 0, none⟩), v33, v34, v35, v36, v37, v38, v39, v40, v41, rfl, fun h0 => c0 (by rw [hset] at h0; simpa using h0), fun h0 => c1 (by rw [hset] at h0; simpa using h0), fun h0 => c2 (by rw [hset] at h0; simpa using h0), fun h0 => c3 (by rw [hset] at h0; simpa using h0), fun h0 => c4 (by rw [hset] at h0; simpa using h0), fun h0 => c5 (by rw [hset] at h0; simpa using h0), fun h0 => c6 (by rw [hset] at h0; simpa using h0), fun h0 => c7 (by rw [hset] at h0; simpa using h0), fun _ => rfl, fun h0 => c9 (by rw [hset] at h0; simpa using h0), fun h0 => c10 (by rw [hset] at h0; simpa using h0), fun h0 => c11 (by rw [hset] at h0; simpa using h0), fun h0 => c12 (by rw [hset] at h0; simpa using h0), fun h0 => c13 (by rw [hset] at h0; simpa using h0), fun h0 h1 => c14 (by rw [hset] at h0; simpa using h0) (by rw [hset] at h1; simpa using h1), fun h0 => c16 (by rw [hset] at h0; simpa using h0), fun h0 => c17 (by rw [hset] at h0; simpa using h0), fun h0 => ⟨by rw [hset]; split; rfl; exact (d1 (by rw [hset] at h0; simpa using h0)).1, by rw [hset]; split; rfl; exact (d1 (by rw [hset] at h0; simpa using h0)).2⟩, fun h0 => by rw [hset]; split; rfl; exact d2 (by rw [hset] at h0; simpa using h0), fun h0 => m0 (by rw [hset] at h0; simpa using h0), fun h0 h1 => m1 (by rw [hset] at h0; simpa using h0) (by rw [hset] at h1; simpa using h1), fun h0 => m2 (by rw [hset] at h0; simpa using h0)⟩
    · obtain ⟨o', ho', og, od, oo, ow⟩ := oq9
      rw [ho'] at hoi
      injection hoi with hoi
      subst hoi
      have y8 : s.getD 8 false = true := by
        obtain ⟨e, m, b, n⟩ := ow 8 (by simp)
        have := haf e m b
        rwa [n] at this
      refine wpOp_val (.slice spb nb capb) ho' og ?_ ?_
      · have e := c8 y8; subst e
        unfold execOp; simp only [oo, evU32]; go_simp
      · rw [od, putU33]
        exact ⟨hsz', hk, v24, v25, v26, v27, v28, v29, v30, v31, v32, .slice spb nb capb, v34, v35, v36, v37, v38, v39, v40, v41, rfl, fun h0 => c0 (by rw [hset] at h0; simpa using h0), fun h0 => c1 (by rw [hset] at h0; simpa using h0), fun h0 => c2 (by rw [hset] at h0; simpa using h0), fun h0 => c3 (by rw [hset] at h0; simpa using h0), fun h0 => c4 (by rw [hset] at h0; simpa using h0), fun h0 => c5 (by rw [hset] at h0; simpa using h0), fun h0 => c6 (by rw [hset] at h0; simpa using h0), fun h0 => c7 (by rw [hset] at h0; simpa using h0), fun h0 => c8 (by rw [hset] at h0; simpa using h0), fun _ => rfl, fun h0 => c10 (by rw [hset] at h0; simpa using h0), fun h0 => c11 (by rw [hset] at h0; simpa using h0), fun h0 => c12 (by rw [hset] at h0; simpa using h0), fun h0 => c13 (by rw [hset] at h0; simpa using h0), fun h0 h1 => c14 (by rw [hset] at h0; simpa using h0) (by rw [hset] at h1; simpa using h1), fun h0 => c16 (by rw [hset] at h0; simpa using h0), fun h0 => c17 (by rw [hset] at h0; simpa using h0), fun h0 => ⟨by rw [hset]; split; rfl; exact (d1 (by rw [hset] at h0; simpa using h0)).1, by rw [hset]; split; rfl; exact (d1 (by rw [hset] at h0; simpa using h0)).2⟩, fun h0 => by rw [hset]; split; rfl; exact d2 (by rw [hset] at h0; simpa using h0), fun h0 => m0 (by rw [hset] at h0; simpa using h0), fun h0 h1 => m1 (by rw [hset] at h0; simpa using h0) (by rw [hset] at h1; simpa using h1), fun h0 => m2 (by rw [hset] at h0; simpa using h0)⟩
    · obtain ⟨o', ho', og, od, oo, ow⟩ := oq10
      rw [ho'] at hoi
      injection hoi with hoi
      subst hoi
      have y9 : s.getD 9 false = true := by
        obtain ⟨e, m, b, n⟩ := ow 9 (by simp)
        have := haf e m b
        rwa [n] at this
      refine wpOp_val (.int .i64 (u.pl : Int)) ho' og ?_ ?_
      · rw [hpl]
        have e : (actU x0 x1 x2 x3 x4 x5 x6 x7 x8 x9 x10 x11 x12 x13 x14 x15 x16 x17 x18 x19 x20 x21 x22 x23 v24 v25 v26 v27 v28 v29 v30 v31 v32 v33 v34 v35 v36 v37 v38 v39 v40 v41).eval (.tmp 33) = .slice spb nb capb := (evU33 ..).trans (c9 y9)
        generalize actU x0 x1 x2 x3 x4 x5 x6 x7 x8 x9 x10 x11 x12 x13 x14 x15 x16 x17 x18 x19 x20 x21 x22 x23 v24 v25 v26 v27 v28 v29 v30 v31 v32 v33 v34 v35 v36 v37 v38 v39 v40 v41 = A at e
        simp only [Act.eval, Array.getD_eq_getD_getElem?] at e
        unfold execOp; simp only [oo]; go_simp
      · rw [od, putU34]
        exact ⟨hsz', hk, v24, v25, v26, v27, v28, v29, v30, v31, v32, v33, .int .i64 (u.pl : Int), v35, v36, v37, v38, v39, v40, v41, rfl, fun h0 => c0 (by rw [hset] at h0; simpa using h0), fun h0 => c1 (by rw [hset] at h0; simpa using h0), fun h0 => c2 (by rw [hset] at h0; simpa using h0), fun h0 => c3 (by rw [hset] at h0; simpa using h0), fun h0 => c4 (by rw [hset] at h0; simpa using h0), fun h0 => c5 (by rw [hset] at h0; simpa using h0), fun h0 => c6 (by rw [hset] at h0; simpa using h0), fun h0 => c7 (by rw [hset] at h0; simpa using h0), fun h0 => c8 (by rw [hset] at h0; simpa using h0), fun h0 => c9 (by rw [hset] at h0; simpa using h0), fun _ => rfl, fun h0 => c11 (by rw [hset] at h0; simpa using h0), fun h0 => c12 (by rw [hset] at h0; simpa using h0), fun h0 => c13 (by rw [hset] at h0; simpa using h0), fun h0 h1 => c14 (by rw [hset] at h0; simpa using h0) (by rw [hset] at h1; simpa using h1), fun h0 => c16 (by rw [hset] at h0; simpa using h0), fun h0 => c17 (by rw [hset] at h0; simpa using h0), fun h0 => ⟨by rw [hset]; split; rfl; exact (d1 (by rw [hset] at h0; simpa using h0)).1, by rw [hset]; split; rfl; exact (d1 (by rw [hset] at h0; simpa using h0)).2⟩, fun h0 => by rw [hset]; split; rfl; exact d2 (by rw [hset] at h0; simpa using h0), fun h0 => m0 (by rw [hset] at h0; simpa using h0), fun h0 h1 => m1 (by rw [hset] at h0; simpa using h0) (by rw [hset] at h1; simpa using h1), fun h0 => m2 (by rw [hset] at h0; simpa using h0)⟩
    · obtain ⟨o', ho', og, od, oo, ow⟩ := oq11
      rw [ho'] at hoi
      injection hoi with hoi
      subst hoi
      have hq' := hk.ty qo _ _ hq (by decide) (by decide) (by decide)
      refine wpOp_list ho' ?_
      refine at_load rtO qo (o6 u.o) hq' rfl (.tmp 9) (by unfold Region.wanted; rw [og]) oo ((evU9 ..).trans h9) ?_
      rw [od, putU35]
      exact ⟨hsz', hk, v24, v25, v26, v27, v28, v29, v30, v31, v32, v33, v34, .agg (o6 u.o), v36, v37, v38, v39, v40, v41, rfl, fun h0 => c0 (by rw [hset] at h0; simpa using h0), fun h0 => c1 (by rw [hset] at h0; simpa using h0), fun h0 => c2 (by rw [hset] at h0; simpa using h0), fun h0 => c3 (by rw [hset] at h0; simpa using h0), fun h0 => c4 (by rw [hset] at h0; simpa using h0), fun h0 => c5 (by rw [hset] at h0; simpa using h0), fun h0 => c6 (by rw [hset] at h0; simpa using h0), fun h0 => c7 (by rw [hset] at h0; simpa using h0), fun h0 => c8 (by rw [hset] at h0; simpa using h0), fun h0 => c9 (by rw [hset] at h0; simpa using h0), fun h0 => c10 (by rw [hset] at h0; simpa using h0), fun _ => rfl, fun h0 => c12 (by rw [hset] at h0; simpa using h0), fun h0 => c13 (by rw [hset] at h0; simpa using h0), fun h0 h1 => c14 (by rw [hset] at h0; simpa using h0) (by rw [hset] at h1; simpa using h1), fun h0 => c16 (by rw [hset] at h0; simpa using h0), fun h0 => c17 (by rw [hset] at h0; simpa using h0), fun h0 => ⟨by rw [hset]; split; rfl; exact (d1 (by rw [hset] at h0; simpa using h0)).1, by rw [hset]; split; rfl; exact (d1 (by rw [hset] at h0; simpa using h0)).2⟩, fun h0 => by rw [hset]; split; rfl; exact d2 (by rw [hset] at h0; simpa using h0), fun h0 => m0 (by rw [hset] at h0; simpa using h0), fun h0 h1 => m1 (by rw [hset] at h0; simpa using h0) (by rw [hset] at h1; simpa using h1), fun h0 => m2 (by rw [hset] at h0; simpa using h0)⟩
    · obtain ⟨o', ho', og, od, oo, ow⟩ := oq12
      rw [ho'] at hoi
      injection hoi with hoi
      subst hoi
      refine wpOp_val (.string u.lb) ho' og ?_ ?_
      · unfold execOp; simp only [oo, evU3, h3, Sem.run_pure]
      · rw [od, putU36]
        exact ⟨hsz', hk, v24, v25, v26, v27, v28, v29, v30, v31, v32, v33, v34, v35, .string u.lb, v37, v38, v39, v40, v41, rfl, fun h0 => c0 (by rw [hset] at h0; simpa using h0), fun h0 => c1 (by rw [hset] at h0; simpa using h0), fun h0 => c2 (by rw [hset] at h0; simpa using h0), fun h0 => c3 (by rw [hset] at h0; simpa using h0), fun h0 => c4 (by rw [hset] at h0; simpa using h0), fun h0 => c5 (by rw [hset] at h0; simpa using h0), fun h0 => c6 (by rw [hset] at h0; simpa using h0), fun h0 => c7 (by rw [hset] at h0; simpa using h0), fun h0 => c8 (by rw [hset] at h0; simpa using h0), fun h0 => c9 (by rw [hset] at h0; simpa using h0), fun h0 => c10 (by rw [hset] at h0; simpa using h0), fun h0 => c11 (by rw [hset] at h0; simpa using h0), fun _ => rfl, fun h0 => c13 (by rw [hset] at h0; simpa using h0), fun h0 h1 => c14 (by rw [hset] at h0; simpa using h0) (by rw [hset] at h1; simpa using h1), fun h0 => c16 (by rw [hset] at h0; simpa using h0), fun h0 => c17 (by rw [hset] at h0; simpa using h0), fun h0 => ⟨by rw [hset]; split; rfl; exact (d1 (by rw [hset] at h0; simpa using h0)).1, by rw [hset]; split; rfl; exact (d1 (by rw [hset] at h0; simpa using h0)).2⟩, fun h0 => by rw [hset]; split; rfl; exact d2 (by rw [hset] at h0; simpa using h0), fun h0 => m0 (by rw [hset] at h0; simpa using h0), fun h0 h1 => m1 (by rw [hset] at h0; simpa using h0) (by rw [hset] at h1; simpa using h1), fun h0 => m2 (by rw [hset] at h0; simpa using h0)⟩
    · obtain ⟨o', ho', og, od, oo, ow⟩ := oq13
      rw [ho'] at hoi
      injection hoi with hoi
      subst hoi
      have y5 : s.getD 5 false = true := by
        obtain ⟨e, m, b, n⟩ := ow 5 (by simp)
        have := haf e m b
        rwa [n] at this
      have y10 : s.getD 10 false = true := by
        obtain ⟨e, m, b, n⟩ := ow 10 (by simp)
        have := haf e m b
        rwa [n] at this
      have y11 : s.getD 11 false = true := by
        obtain ⟨e, m, b, n⟩ := ow 11 (by simp)
        have := haf e m b
        rwa [n] at this
      have y12 : s.getD 12 false = true := by
        obtain ⟨e, m, b, n⟩ := ow 12 (by simp)
        have := haf e m b
        rwa [n] at this
      refine wpOp_val (.agg (us9 u)) ho' og ?_ ?_
      · have e29 : (actU x0 x1 x2 x3 x4 x5 x6 x7 x8 x9 x10 x11 x12 x13 x14 x15 x16 x17 x18 x19 x20 x21 x22 x23 v24 v25 v26 v27 v28 v29 v30 v31 v32 v33 v34 v35 v36 v37 v38 v39 v40 v41).eval (.tmp 29) = .int .i64 (u.ln : Int) := (evU29 ..).trans (c5 y5)
        have e34 : (actU x0 x1 x2 x3 x4 x5 x6 x7 x8 x9 x10 x11 x12 x13 x14 x15 x16 x17 x18 x19 x20 x21 x22 x23 v24 v25 v26 v27 v28 v29 v30 v31 v32 v33 v34 v35 v36 v37 v38 v39 v40 v41).eval (.tmp 34) = .int .i64 (u.pl : Int) := (evU34 ..).trans (c10 y10)
        have e35 : (actU x0 x1 x2 x3 x4 x5 x6 x7 x8 x9 x10 x11 x12 x13 x14 x15 x16 x17 x18 x19 x20 x21 x22 x23 v24 v25 v26 v27 v28 v29 v30 v31 v32 v33 v34 v35 v36 v37 v38 v39 v40 v41).eval (.tmp 35) = .agg (o6 u.o) := (evU35 ..).trans (c11 y11)
        have e36 : (actU x0 x1 x2 x3 x4 x5 x6 x7 x8 x9 x10 x11 x12 x13 x14 x15 x16 x17 x18 x19 x20 x21 x22 x23 v24 v25 v26 v27 v28 v29 v30 v31 v32 v33 v34 v35 v36 v37 v38 v39 v40 v41).eval (.tmp 36) = .string u.lb := (evU36 ..).trans (c12 y12)
        unfold execOp; simp only [oo, List.map_toArray, List.map_cons, List.map_nil, e29, e34, e35, e36]
        show _ = _
        kernel_rfl
      · rw [od, putU37]
        exact ⟨hsz', hk, v24, v25, v26, v27, v28, v29, v30, v31, v32, v33, v34, v35, v36, .agg (us9 u), v38, v39, v40, v41, rfl, fun h0 => c0 (by rw [hset] at h0; simpa using h0), fun h0 => c1 (by rw [hset] at h0; simpa using h0), fun h0 => c2 (by rw [hset] at h0; simpa using h0), fun h0 => c3 (by rw [hset] at h0; simpa using h0), fun h0 => c4 (by rw [hset] at h0; simpa using h0), fun h0 => c5 (by rw [hset] at h0; simpa using h0), fun h0 => c6 (by rw [hset] at h0; simpa using h0), fun h0 => c7 (by rw [hset] at h0; simpa using h0), fun h0 => c8 (by rw [hset] at h0; simpa using h0), fun h0 => c9 (by rw [hset] at h0; simpa using h0), fun h0 => c10 (by rw [hset] at h0; simpa using h0), fun h0 => c11 (by rw [hset] at h0; simpa using h0), fun h0 => c12 (by rw [hset] at h0; simpa using h0), fun _ => rfl, fun h0 h1 => c14 (by rw [hset] at h0; simpa using h0) (by rw [hset] at h1; simpa using h1), fun h0 => c16 (by rw [hset] at h0; simpa using h0), fun h0 => c17 (by rw [hset] at h0; simpa using h0), fun h0 => ⟨by rw [hset]; split; rfl; exact (d1 (by rw [hset] at h0; simpa using h0)).1, by rw [hset]; split; rfl; exact (d1 (by rw [hset] at h0; simpa using h0)).2⟩, fun h0 => by rw [hset]; split; rfl; exact d2 (by rw [hset] at h0; simpa using h0), fun h0 => m0 (by rw [hset] at h0; simpa using h0), fun h0 h1 => m1 (by rw [hset] at h0; simpa using h0) (by rw [hset] at h1; simpa using h1), fun h0 => m2 (by rw [hset] at h0; simpa using h0)⟩
    · obtain ⟨o', ho', og, od, oo, ow⟩ := oq14
      rw [ho'] at hoi
      injection hoi with hoi
      subst hoi
      have y13 : s.getD 13 false = true := by
        obtain ⟨e, m, b, n⟩ := ow 13 (by simp)
        have := haf e m b
        rwa [n] at this
      have n15 : s.getD 15 false = false := by
        rcases hh : s.getD 15 false with _ | _
        · rfl
        · rw [(d1 hh).2] at hnd; cases hnd
      have e37 : (actU x0 x1 x2 x3 x4 x5 x6 x7 x8 x9 x10 x11 x12 x13 x14 x15 x16 x17 x18 x19 x20 x21 x22 x23 v24 v25 v26 v27 v28 v29 v30 v31 v32 v33 v34 v35 v36 v37 v38 v39 v40 v41).eval (.tmp 37) = .agg (us9 u) := (evU37 ..).trans (c13 y13)
      obtain ⟨ib, hib, hz0, hz1, hz2⟩ := info_parts infoUs
      refine wpOp_of ho' (by unfold Region.wanted; rw [og]) ?_
      refine wp_buildSlice 75 108 1 _ oo (us9 u) ib (.agg (us9 us0)) Tryd.underlying75 hib hz0 (by rw [hz1]; decide) (by rw [hz1]; decide) ?_ ?_
      · have e : ((#[(0, .tmp 37)] : Array (Nat × Operand)).map fun (i, x) => (i, (actU x0 x1 x2 x3 x4 x5 x6 x7 x8 x9 x10 x11 x12 x13 x14 x15 x16 x17 x18 x19 x20 x21 x22 x23 v24 v25 v26 v27 v28 v29 v30 v31 v32 v33 v34 v35 v36 v37 v38 v39 v40 v41).eval x)).toList = [(0, .agg (us9 u))] := by simp [e37]
        rw [e, hz1]
        show _ = _
        kernel_rfl
      · have hb := below1 y (.cells (us9 u) 108)
        rw [od, putU38]
        exact ⟨hsz', hk.trans (Kp.of_below hb), v24, v25, v26, v27, v28, v29, v30, v31, v32, v33, v34, v35, v36, v37, .slice (some ⟨y.heap.size, 0, none⟩) 1 1, v39, v40, v41, rfl, fun h0 => c0 (by rw [hset] at h0; simpa using h0), fun h0 => c1 (by rw [hset] at h0; simpa using h0), fun h0 => c2 (by rw [hset] at h0; simpa using h0), fun h0 => c3 (by rw [hset] at h0; simpa using h0), fun h0 => c4 (by rw [hset] at h0; simpa using h0), fun h0 => c5 (by rw [hset] at h0; simpa using h0), fun h0 => c6 (by rw [hset] at h0; simpa using h0), fun h0 => c7 (by rw [hset] at h0; simpa using h0), fun h0 => c8 (by rw [hset] at h0; simpa using h0), fun h0 => c9 (by rw [hset] at h0; simpa using h0), fun h0 => c10 (by rw [hset] at h0; simpa using h0), fun h0 => c11 (by rw [hset] at h0; simpa using h0), fun h0 => c12 (by rw [hset] at h0; simpa using h0), fun h0 => c13 (by rw [hset] at h0; simpa using h0), fun _ _ => ⟨y.heap.size, rfl, alloc_last' y _⟩, fun h0 => c16 (by rw [hset] at h0; simpa using h0), fun h0 => c17 (by rw [hset] at h0; simpa using h0), fun h0 => ⟨by rw [hset]; split; rfl; exact (d1 (by rw [hset] at h0; simpa using h0)).1, by rw [hset]; split; rfl; exact (d1 (by rw [hset] at h0; simpa using h0)).2⟩, fun h0 => by rw [hset]; split; rfl; exact d2 (by rw [hset] at h0; simpa using h0), fun h0 => (m0 n15).below hb, fun h0 h1 => absurd (show s.getD 15 false = true by rw [hset] at h0; simpa using h0) (by rw [n15]; simp), fun h0 => absurd (d2 (by rw [hset] at h0; simpa using h0)) (by rw [n15]; simp)⟩
    · obtain ⟨o', ho', og, od, oo, ow⟩ := oq15
      rw [ho'] at hoi
      injection hoi with hoi
      subst hoi
      have y4 : s.getD 4 false = true := by
        obtain ⟨e, m, b, n⟩ := ow 4 (by simp)
        have := haf e m b
        rwa [n] at this
      have y14 : s.getD 14 false = true := by
        obtain ⟨e, m, b, n⟩ := ow 14 (by simp)
        have := haf e m b
        rwa [n] at this
      have n18 : s.getD 18 false = false := by
        rcases hh : s.getD 18 false with _ | _
        · rfl
        · rw [d2 hh] at hnd; cases hnd
      have hp := m0 hnd
      obtain ⟨g0, e38, b38⟩ := c14 y14 hnd
      have q28 : (actU x0 x1 x2 x3 x4 x5 x6 x7 x8 x9 x10 x11 x12 x13 x14 x15 x16 x17 x18 x19 x20 x21 x22 x23 v24 v25 v26 v27 v28 v29 v30 v31 v32 v33 v34 v35 v36 v37 v38 v39 v40 v41).eval (.tmp 28) = .slice spu nu capu := (evU28 ..).trans (c4 y4)
      have q38 : (actU x0 x1 x2 x3 x4 x5 x6 x7 x8 x9 x10 x11 x12 x13 x14 x15 x16 x17 x18 x19 x20 x21 x22 x23 v24 v25 v26 v27 v28 v29 v30 v31 v32 v33 v34 v35 v36 v37 v38 v39 v40 v41).eval (.tmp 38) = .slice (some ⟨g0, 0, none⟩) 1 1 := (evU38 ..).trans e38
      have hlies : LiesL 9 usC y (some ⟨g0, 0, none⟩) [u] := by
        intro j b hj
        match j, hj with
        | 0, hj =>
          simp at hj
          subst hj
          refine ⟨g0, 0, rfl, fun i v hv => ?_⟩
          refine b38.c _ _ ?_
          rw [show (0 : Nat) + 0 * 9 + i = i by omega]
          rw [← Array.getElem?_toList]
          exact hv
      refine wpOp_list ho' ?_
      refine at_appNL kUs og (.tmp 28) (.tmp 38) oo w.heap.size (.slice spu nu capu) us q28 hp.us g0 0 1 1 [u] rfl q38 hlies (by decide) (by omega) hp.low.size ?_
      intro v' z A
      have A2 := hp.appU A.out
      rw [od, putU39]
      exact ⟨hsz', hk.trans A2.2.2.2.2.2, v24, v25, v26, v27, v28, v29, v30, v31, v32, v33, v34, v35, v36, v37, v38, v', v40, v41, rfl, fun h0 => c0 (by rw [hset] at h0; simpa using h0), fun h0 => c1 (by rw [hset] at h0; simpa using h0), fun h0 => c2 (by rw [hset] at h0; simpa using h0), fun h0 => c3 (by rw [hset] at h0; simpa using h0), fun h0 => c4 (by rw [hset] at h0; simpa using h0), fun h0 => c5 (by rw [hset] at h0; simpa using h0), fun h0 => c6 (by rw [hset] at h0; simpa using h0), fun h0 => c7 (by rw [hset] at h0; simpa using h0), fun h0 => c8 (by rw [hset] at h0; simpa using h0), fun h0 => c9 (by rw [hset] at h0; simpa using h0), fun h0 => c10 (by rw [hset] at h0; simpa using h0), fun h0 => c11 (by rw [hset] at h0; simpa using h0), fun h0 => c12 (by rw [hset] at h0; simpa using h0), fun h0 => c13 (by rw [hset] at h0; simpa using h0), fun _ h1 => absurd h1 (by rw [hset]; simp), fun h0 => c16 (by rw [hset] at h0; simpa using h0), fun h0 => c17 (by rw [hset] at h0; simpa using h0), fun _ => ⟨by rw [hset]; simpa using y4, by rw [hset]; simpa using y14⟩, fun h0 => by rw [hset]; split; rfl; exact d2 (by rw [hset] at h0; simpa using h0), fun h0 => absurd h0 (by rw [hset]; simp), fun _ _ => ⟨A2.1, A2.2.1, A2.2.2.1, A2.2.2.2.1, A2.2.2.2.2.1, hp.geP, hp.geg⟩, fun h0 => absurd (show s.getD 18 false = true by rw [hset] at h0; simpa using h0) (by rw [n18]; simp)⟩
    · obtain ⟨o', ho', og, od, oo, ow⟩ := oq16
      rw [ho'] at hoi
      injection hoi with hoi
      subst hoi
      have y0 : s.getD 0 false = true := by
        obtain ⟨e, m, b, n⟩ := ow 0 (by simp)
        have := haf e m b
        rwa [n] at this
      have y15 : s.getD 15 false = true := by
        obtain ⟨e, m, b, n⟩ := ow 15 (by simp)
        have := haf e m b
        rwa [n] at this
      refine wpOp_val (.pointer (some ⟨P, 0, none⟩)) ho' og ?_ ?_
      · have e := c0 y0; subst e; unfold execOp; simp only [oo, evU24, Sem.run_pure]
      · rw [od, putU40]
        exact ⟨hsz', hk, v24, v25, v26, v27, v28, v29, v30, v31, v32, v33, v34, v35, v36, v37, v38, v39, .pointer (some ⟨P, 0, none⟩), v41, rfl, fun h0 => c0 (by rw [hset] at h0; simpa using h0), fun h0 => c1 (by rw [hset] at h0; simpa using h0), fun h0 => c2 (by rw [hset] at h0; simpa using h0), fun h0 => c3 (by rw [hset] at h0; simpa using h0), fun h0 => c4 (by rw [hset] at h0; simpa using h0), fun h0 => c5 (by rw [hset] at h0; simpa using h0), fun h0 => c6 (by rw [hset] at h0; simpa using h0), fun h0 => c7 (by rw [hset] at h0; simpa using h0), fun h0 => c8 (by rw [hset] at h0; simpa using h0), fun h0 => c9 (by rw [hset] at h0; simpa using h0), fun h0 => c10 (by rw [hset] at h0; simpa using h0), fun h0 => c11 (by rw [hset] at h0; simpa using h0), fun h0 => c12 (by rw [hset] at h0; simpa using h0), fun h0 => c13 (by rw [hset] at h0; simpa using h0), fun h0 h1 => c14 (by rw [hset] at h0; simpa using h0) (by rw [hset] at h1; simpa using h1), fun _ => rfl, fun h0 => c17 (by rw [hset] at h0; simpa using h0), fun h0 => ⟨by rw [hset]; split; rfl; exact (d1 (by rw [hset] at h0; simpa using h0)).1, by rw [hset]; split; rfl; exact (d1 (by rw [hset] at h0; simpa using h0)).2⟩, fun h0 => by rw [hset]; split; rfl; exact d2 (by rw [hset] at h0; simpa using h0), fun h0 => m0 (by rw [hset] at h0; simpa using h0), fun h0 h1 => m1 (by rw [hset] at h0; simpa using h0) (by rw [hset] at h1; simpa using h1), fun h0 => m2 (by rw [hset] at h0; simpa using h0)⟩
    · obtain ⟨o', ho', og, od, oo, ow⟩ := oq17
      rw [ho'] at hoi
      injection hoi with hoi
      subst hoi
      have y16 : s.getD 16 false = true := by
        obtain ⟨e, m, b, n⟩ := ow 16 (by simp)
        have := haf e m b
        rwa [n] at this
      have y15 : s.getD 15 false = true := by
        obtain ⟨e, m, b, n⟩ := ow 15 (by simp)
        have := haf e m b
        rwa [n] at this
      refine wpOp_val (.pointer (some ⟨P, 2, none⟩)) ho' og ?_ ?_
      · have e := c16 y16; subst e; unfold execOp; simp only [oo, evU40]; show _ = _; kernel_rfl
      · rw [od, putU41]
        exact ⟨hsz', hk, v24, v25, v26, v27, v28, v29, v30, v31, v32, v33, v34, v35, v36, v37, v38, v39, v40, .pointer (some ⟨P, 2, none⟩), rfl, fun h0 => c0 (by rw [hset] at h0; simpa using h0), fun h0 => c1 (by rw [hset] at h0; simpa using h0), fun h0 => c2 (by rw [hset] at h0; simpa using h0), fun h0 => c3 (by rw [hset] at h0; simpa using h0), fun h0 => c4 (by rw [hset] at h0; simpa using h0), fun h0 => c5 (by rw [hset] at h0; simpa using h0), fun h0 => c6 (by rw [hset] at h0; simpa using h0), fun h0 => c7 (by rw [hset] at h0; simpa using h0), fun h0 => c8 (by rw [hset] at h0; simpa using h0), fun h0 => c9 (by rw [hset] at h0; simpa using h0), fun h0 => c10 (by rw [hset] at h0; simpa using h0), fun h0 => c11 (by rw [hset] at h0; simpa using h0), fun h0 => c12 (by rw [hset] at h0; simpa using h0), fun h0 => c13 (by rw [hset] at h0; simpa using h0), fun h0 h1 => c14 (by rw [hset] at h0; simpa using h0) (by rw [hset] at h1; simpa using h1), fun h0 => c16 (by rw [hset] at h0; simpa using h0), fun _ => rfl, fun h0 => ⟨by rw [hset]; split; rfl; exact (d1 (by rw [hset] at h0; simpa using h0)).1, by rw [hset]; split; rfl; exact (d1 (by rw [hset] at h0; simpa using h0)).2⟩, fun h0 => by rw [hset]; split; rfl; exact d2 (by rw [hset] at h0; simpa using h0), fun h0 => m0 (by rw [hset] at h0; simpa using h0), fun h0 h1 => m1 (by rw [hset] at h0; simpa using h0) (by rw [hset] at h1; simpa using h1), fun h0 => m2 (by rw [hset] at h0; simpa using h0)⟩
    · obtain ⟨o', ho', og, od, oo, ow⟩ := oq18
      rw [ho'] at hoi
      injection hoi with hoi
      subst hoi
      have y17 : s.getD 17 false = true := by
        obtain ⟨e, m, b, n⟩ := ow 17 (by simp)
        have := haf e m b
        rwa [n] at this
      have y15 : s.getD 15 false = true := by
        obtain ⟨e, m, b, n⟩ := ow 15 (by simp)
        have := haf e m b
        rwa [n] at this
      obtain ⟨B1, B2, B3, B4, B5, B6, B7⟩ := m1 y15 hnd
      obtain ⟨sp2, cap2, e39, _, _, _, _⟩ := B4.open kUs.len
      have q41 : (actU x0 x1 x2 x3 x4 x5 x6 x7 x8 x9 x10 x11 x12 x13 x14 x15 x16 x17 x18 x19 x20 x21 x22 x23 v24 v25 v26 v27 v28 v29 v30 v31 v32 v33 v34 v35 v36 v37 v38 v39 v40 v41).eval (.tmp 41) = .pointer (some ⟨P, 2, none⟩) := (evU41 ..).trans (c17 y17)
      have q39 : (actU x0 x1 x2 x3 x4 x5 x6 x7 x8 x9 x10 x11 x12 x13 x14 x15 x16 x17 x18 x19 x20 x21 x22 x23 v24 v25 v26 v27 v28 v29 v30 v31 v32 v33 v34 v35 v36 v37 v38 v39 v40 v41).eval (.tmp 39) = .slice sp2 (us ++ [u]).length cap2 := (evU39 ..).trans e39
      have k1 := B1.c 2 (.slice spu nu capu) rfl
      have k2 := B1.fz 2
      have hput := Pg.putU B1 B2 B3 B4 B6 B7 B5 rfl
      rw [e39] at hput
      refine wpOp_skip (w' := y.setCell ⟨P, 2, none⟩ (.slice sp2 (us ++ [u]).length cap2)) ho' og ?_ ?_
      · generalize (us ++ [u]).length = nn at q39
        generalize actU x0 x1 x2 x3 x4 x5 x6 x7 x8 x9 x10 x11 x12 x13 x14 x15 x16 x17 x18 x19 x20 x21 x22 x23 v24 v25 v26 v27 v28 v29 v30 v31 v32 v33 v34 v35 v36 v37 v38 v39 v40 v41 = A at q41 q39
        simp only [Act.eval, Array.getD_eq_getD_getElem?] at q41 q39
        unfold execOp; simp only [oo]; go_simp
      · rw [od, putUn]
        exact ⟨hsz', hk.trans hput.2, v24, v25, v26, v27, v28, v29, v30, v31, v32, v33, v34, v35, v36, v37, v38, v39, v40, v41, rfl, fun h0 => c0 (by rw [hset] at h0; simpa using h0), fun h0 => c1 (by rw [hset] at h0; simpa using h0), fun h0 => c2 (by rw [hset] at h0; simpa using h0), fun h0 => c3 (by rw [hset] at h0; simpa using h0), fun h0 => c4 (by rw [hset] at h0; simpa using h0), fun h0 => c5 (by rw [hset] at h0; simpa using h0), fun h0 => c6 (by rw [hset] at h0; simpa using h0), fun h0 => c7 (by rw [hset] at h0; simpa using h0), fun h0 => c8 (by rw [hset] at h0; simpa using h0), fun h0 => c9 (by rw [hset] at h0; simpa using h0), fun h0 => c10 (by rw [hset] at h0; simpa using h0), fun h0 => c11 (by rw [hset] at h0; simpa using h0), fun h0 => c12 (by rw [hset] at h0; simpa using h0), fun h0 => c13 (by rw [hset] at h0; simpa using h0), fun _ h1 => absurd (show s.getD 15 false = false by rw [hset] at h1; simpa using h1) (by rw [y15]; simp), fun h0 => c16 (by rw [hset] at h0; simpa using h0), fun h0 => c17 (by rw [hset] at h0; simpa using h0), fun h0 => ⟨by rw [hset]; split; rfl; exact (d1 (by rw [hset] at h0; simpa using h0)).1, by rw [hset]; split; rfl; exact (d1 (by rw [hset] at h0; simpa using h0)).2⟩, fun _ => by rw [hset]; simpa using y15, fun h0 => absurd (show s.getD 15 false = false by rw [hset] at h0; simpa using h0) (by rw [y15]; simp), fun _ h1 => absurd h1 (by rw [hset]; simp), fun _ => ⟨_, hput.1⟩⟩
  · intro s a y hI hall
    obtain ⟨hs, hk, v24, v25, v26, v27, v28, v29, v30, v31, v32, v33, v34, v35, v36, v37, v38, v39, v40, v41, rfl, c0, c1, c2, c3, c4, c5, c6, c7, c8, c9, c10, c11, c12, c13, c14, c16, c17, d1, d2, m0, m1, m2⟩ := hI
    obtain ⟨vu', hp⟩ := m2 (hall 18 (by omega))
    exact fin y vu' v24 v25 v26 v27 v28 v29 v30 v31 v32 v33 v34 v35 v36 v37 v38 v39 v40 v41 hp hk
end Go.Proofs.YthaijjehplomfaaDoor
