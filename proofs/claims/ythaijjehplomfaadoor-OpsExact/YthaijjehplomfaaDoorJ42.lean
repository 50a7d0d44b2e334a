/- The document's own: a line taken up, case by case. -/
import Derived.Test.YthaijjehplomfaaDoorJ41
namespace Go.Proofs.YthaijjehplomfaaDoor
open Go Go.RowKit
set_option linter.unusedVariables false
set_option maxHeartbeats 1000000
set_option maxRecDepth 20000

/-- The seven rows of what the document's program has. -/
def vsD (t : Std) (k : Nat) : List Value := match k with
  | 0 => t.1.map byV
  | 1 => (t.2.1.map (·.1)).map fun s => Value.string s
  | 2 => (t.2.1.map (·.2)).map fun a : Nat => Value.int .i64 (a : Int)
  | 3 => (t.2.2.map (·.lb)).map fun s => Value.string s
  | 4 => (t.2.2.map (·.o.op)).map fun a : Nat => Value.int .u8 (a : Int)
  | 5 => (t.2.2.map (·.pl)).map fun a : Nat => Value.int .i64 (a : Int)
  | _ => (t.2.2.map (·.ln)).map fun a : Nat => Value.int .i64 (a : Int)
theorem Qp.cong {w : World} {P : Nat} {v : Nat → Value} {vs vs' : Nat → List Value} {y : World} (h : Qp w P v vs y) (e : ∀ k, k < 7 → vs k = vs' k) : Qp w P v vs' y :=
  ⟨h.box, fun k hk => by rw [← e k hk]; exact h.own k hk, h.ap, h.gP, h.low⟩
theorem Qp.cell {w : World} {P : Nat} {v : Nat → Value} {vs : Nat → List Value} {y : World} (h : Qp w P v vs y) (k : Nat) (hk : k < 7) : ∃ sp c, v k = .slice sp (vs k).length c ∧ y.cell? ⟨P, k, none⟩ = some (.slice sp (vs k).length c) := by
  obtain ⟨sp, c, e, _⟩ := OwnL.open (c := one1) (fun _ => rfl) (h.own k hk)
  exact ⟨sp, c, e, e ▸ bx_row h.box k hk⟩
/-- A label's address, in the program's box. -/
theorem Qp.labelAt {w : World} {P : Nat} {v : Nat → Value} {t : Std} {y : World} (h : Qp w P v (vsD t) y) (hn : t.2.1.length ≤ 100000) (name : ByteArray) :
    Calls Tryd.prog 35 #[.pointer (some ⟨P, 0, none⟩), .string name] y fun e w' => e = .returned (.int .i64 (lookV (lookN t.2.1 name))) ∧ w' = y := by
  have hs : OwnL 9 1 (fun s => [Value.string s]) w.heap.size y (v 1) (t.2.1.map (·.1)) := OwnL.vals.2 (h.own 1 (by decide))
  have ha : OwnL 3 1 (fun a : Nat => [Value.int .i64 (a : Int)]) w.heap.size y (v 2) (t.2.1.map (·.2)) := OwnL.vals.2 (h.own 2 (by decide))
  obtain ⟨sn, cn, e1, l1, _⟩ := hs.open kS1.len
  obtain ⟨sa, ca, e2, l2, _⟩ := ha.open kI1.len
  have c1 := bx_row h.box 1 (by decide)
  have c2 := bx_row h.box 2 (by decide)
  rw [e1, List.length_map] at c1
  rw [e2, List.length_map] at c2
  exact rlabel_any y P t.2.1.length cn ca sn sa t.2.1 name rfl hn c1 c2 l1 l2
/-- A world with a line's item. -/
structure Nb (y2 : World) (X : Array Value) (y : World) : Prop where
  low : Below y2.heap.size y2 y
  bx : Bx y y2.heap.size X 111
theorem Nb.new (y2 : World) (X : Array Value) : Nb y2 X (y2.alloc (.cells X 111)) := ⟨below1 .., alloc_last' ..⟩
theorem Nb.put {y2 : World} {X Y : Array Value} {y z : World} (h : Nb y2 X y) (k : Bx z y2.heap.size Y 111 ∧ (∀ B, B ≤ y2.heap.size → Below B y z) ∧ ∀ q, q ≠ y2.heap.size → z.heap[q]? = y.heap[q]?) : Nb y2 Y z := ⟨h.low.trans (k.2.1 _ (Nat.le_refl _)), k.1⟩
/-- The item beside the rows. -/
theorem Lq.of {w y0 y1 y2 y4 : World} {P : Nat} {v : Nat → Value} {vs : Nat → List Value} {sp : Option Addr} {c op : Nat} {lab asks : ByteArray} {d : List UInt8} (hQ : Qp w P v vs y0) (h1 : Below y0.heap.size y0 y1) (h2 : Below y1.heap.size y1 y2) (K : Nb y2 (it4 (.slice sp d.length c) lab asks op) y4)
    (hl : LiesL 1 cU y2 sp d) (ha : ∀ a, sp = some a → y1.heap.size ≤ a.block ∧ a.block < y2.heap.size) : Lq w P y2.heap.size v vs sp c op lab asks d y4 := by
  have q2 : Below y0.heap.size y0 y2 := h1.trans (h2.mono h1.size)
  have q4 : Below y0.heap.size y0 y4 := q2.trans (K.low.mono q2.size)
  refine ⟨hQ.keep q4, K.bx, Nat.le_trans hQ.low.size q2.size, lies_eqH hl fun a e => K.low.block _ (ha a e).2, fun a e => ?_⟩
  have h3 := ha a e
  have h4 := heap_lt hQ.box
  have := h1.size
  have := K.low.size
  have := hQ.low.size
  refine ⟨by omega, by omega, by omega, fun k hk e' => ?_⟩
  have := ((hQ.own k hk).lt _ e').2
  omega
theorem line_blank (w y0 : World) (P n : Nat) (s : ByteArray) (hW : Hid (∀ z, Calls Tryd.prog 29 #[.string s] z fun e w' => ∃ sp cap, e = .returned (.slice sp 0 cap) ∧ Below z.heap.size z w')) :
    Calls Tryd.prog 34 #[.pointer (some ⟨P, 0, none⟩), .string s, .int .i64 (n : Int)] y0 fun e z => e = .returned (.int .i64 0) ∧ Below y0.heap.size y0 z := by
  go_enter Tryd.func34, Tryd.ntmps34
  go_wp2_with (go_at_call 29; refine (hW.out _).mono ?_; rintro e y1 ⟨sp, cap, rfl, b1⟩; have hb1 : Hid (Below y0.heap.size y0 y1) := b1; clear b1)
  go_ret
  exact ⟨rfl, hb1.out⟩
theorem line_none (w y0 : World) (P n : Nat) (v : Nat → Value) (t : Std) (hQ : Hid (Qp w P v (vsD t) y0)) (hby : Hid (t.1.length ≤ 3232)) (hnm : Hid (t.2.1.length ≤ 100000)) (s : ByteArray) (ws : List ByteArray) (m : Nat) (hm0 : ((m : Int) == 0) = false)
    (hW : Hid (∀ z, Calls Tryd.prog 29 #[.string s] z fun e w' => ∃ g cap, e = .returned (.slice (some ⟨g, 0, none⟩) m cap) ∧ Hid (LiesL 1 strC w' (some ⟨g, 0, none⟩) ws) ∧ Below z.heap.size z w'))
    (hI : Hid (∀ z g cap, LiesL 1 strC z (some ⟨g, 0, none⟩) ws → Calls Tryd.prog 53 #[.slice (some ⟨g, 0, none⟩) m cap] z (ItE z none))) :
    Calls Tryd.prog 34 #[.pointer (some ⟨P, 0, none⟩), .string s, .int .i64 (n : Int)] y0 fun e z => e = .returned (.int .i64 161) ∧ Below w.heap.size w z := by
  go_enter Tryd.func34, Tryd.ntmps34
  go_wp2_with (first
    | ((with_reducible refine at_st rtI y2.heap.size it0 X ?_ ?_ ?_ ?_ (.tmp 8) (.tmp 18) ?_ ?_ ?_ ?_ ?_); exact K3.out.bx; rfl; exact hXs.out.1; exact hXs.out.2; rfl; rfl; rfl; rfl; intro y4 hw4; have K4 : Hid (Nb y2 X y4) := K3.out.put hw4.out; skip)
    | ((with_reducible refine gen_world (y2.alloc (.cells #[.slice none 0 0, .string ⟨#[]⟩, .string ⟨#[]⟩, .int .u8 0] 111)) (Nb y2 it0) ?_ ?_); exact Nb.new _ _; intro y3 K3)
    | (go_at_call 53; refine (hI.out _ _ _ L1.out).mono ?_; rintro e y2 ⟨b2, X, rfl, xs1, xs2⟩; have hb2 : Hid (Below y1.heap.size y1 y2) := b2; have hXs : Hid (X.size = 4 ∧ X.all (·.oneCell') = true) := ⟨xs1, xs2⟩; clear b2 xs1 xs2)
    | (go_at_call 29; refine (hW.out _).mono ?_; rintro e y1 ⟨g, cap, rfl, L1, b1⟩; have hb1 : Hid (Below y0.heap.size y0 y1) := b1; clear b1))
  go_ret
  refine ⟨rfl, ?_⟩
  have q1 := hQ.out.low.trans (hb1.out.mono hQ.out.low.size)
  have q2 := q1.trans (hb2.out.mono q1.size)
  exact q2.trans (K4.out.low.mono q2.size)
theorem line_old (w y0 : World) (P n : Nat) (v : Nat → Value) (t : Std) (hQ : Hid (Qp w P v (vsD t) y0)) (hby : Hid (t.1.length ≤ 3232)) (hnm : Hid (t.2.1.length ≤ 100000)) (s : ByteArray) (ws : List ByteArray) (m : Nat) (hm0 : ((m : Int) == 0) = false)
    (hW : Hid (∀ z, Calls Tryd.prog 29 #[.string s] z fun e w' => ∃ g cap, e = .returned (.slice (some ⟨g, 0, none⟩) m cap) ∧ Hid (LiesL 1 strC w' (some ⟨g, 0, none⟩) ws) ∧ Below z.heap.size z w')) (lab : ByteArray) (d : List UInt8) (a : Nat) (ql : lab.toList.isEmpty = false) (hlk : Hid (lookV (lookN t.2.1 lab) = (a : Int)))
    (hI : Hid (∀ z g cap, LiesL 1 strC z (some ⟨g, 0, none⟩) ws → Calls Tryd.prog 53 #[.slice (some ⟨g, 0, none⟩) m cap] z (ItE z (some (d, lab, ⟨#[]⟩, 0))))) :
    Calls Tryd.prog 34 #[.pointer (some ⟨P, 0, none⟩), .string s, .int .i64 (n : Int)] y0 fun e z => e = .returned (.int .i64 161) ∧ Below w.heap.size w z := by
  have hle : (0 : Int) ≤ (a : Int) := by omega
  obtain ⟨sb, cb, hv0, _⟩ := hQ.out.cell 0 (by decide)
  rw [show (vsD t 0).length = t.1.length from List.length_map ..] at hv0
  go_enter Tryd.func34, Tryd.ntmps34
  go_wp2_with (first
    | ((with_reducible refine at_st rtI y2.heap.size it0 #[.slice sp d.length c, .string lab, .string ⟨#[]⟩, .int .u8 0] ?_ ?_ ?_ ?_ (.tmp 8) (.tmp 18) ?_ ?_ ?_ ?_ ?_); exact K3.out.bx; rfl; rfl; simp [Value.oneCell']; rfl; rfl; rfl; rfl; intro y4 hw4; have K4 : Hid (Nb y2 #[.slice sp d.length c, .string lab, .string ⟨#[]⟩, .int .u8 0] y4) := K3.out.put hw4.out; have L4 : Hid (Lq w P y2.heap.size v (vsD t) sp c 0 lab ⟨#[]⟩ d y4) := Lq.of hQ.out hb1.out hb2.out K4.out hl2.out ha2.out; have x0 := K4.out.bx.c 0 _ rfl; have x1 := K4.out.bx.c 1 _ rfl; have x2 := K4.out.bx.c 2 _ rfl; have x3 := K4.out.bx.c 3 _ rfl; have p0 := bx_row L4.out.q.box 0 (by decide); rw [hv0] at p0)
    | ((with_reducible refine gen_world (y2.alloc (.cells #[.slice none 0 0, .string ⟨#[]⟩, .string ⟨#[]⟩, .int .u8 0] 111)) (Nb y2 it0) ?_ ?_); exact Nb.new _ _; intro y3 K3)
    | (go_at_call 53; refine (hI.out _ _ _ L1.out).mono ?_; rintro e y2 ⟨b2, sp, c, rfl, l2, a2⟩; have hb2 : Hid (Below y1.heap.size y1 y2) := b2; have hl2 : Hid (LiesL 1 cU y2 sp d) := l2; have ha2 : Hid (∀ a, sp = some a → y1.heap.size ≤ a.block ∧ a.block < y2.heap.size) := a2; clear b2 l2 a2)
    | (go_at_call 35; refine (L4.out.q.labelAt hnm.out lab).mono ?_; rintro e z ⟨rfl, hz⟩; rw [hlk.out]; replace hz := hz.symm; subst hz)
    | (go_at_call 29; refine (hW.out _).mono ?_; rintro e y1 ⟨g, cap, rfl, L1, b1⟩; have hb1 : Hid (Below y0.heap.size y0 y1) := b1; clear b1))
  go_ret
  exact ⟨rfl, L4.out.q.low⟩
theorem line_over (w y0 : World) (P n : Nat) (v : Nat → Value) (t : Std) (hQ : Hid (Qp w P v (vsD t) y0)) (hby : Hid (t.1.length ≤ 3232)) (hnm : Hid (t.2.1.length ≤ 100000)) (s : ByteArray) (ws : List ByteArray) (m : Nat) (hm0 : ((m : Int) == 0) = false)
    (hW : Hid (∀ z, Calls Tryd.prog 29 #[.string s] z fun e w' => ∃ g cap, e = .returned (.slice (some ⟨g, 0, none⟩) m cap) ∧ Hid (LiesL 1 strC w' (some ⟨g, 0, none⟩) ws) ∧ Below z.heap.size z w')) (asks : ByteArray) (op : Nat) (d : List UInt8) (hdl : Hid (d.length ≤ 4294967290)) (hov : 3232 < t.1.length + d.length)
    (hI : Hid (∀ z g cap, LiesL 1 strC z (some ⟨g, 0, none⟩) ws → Calls Tryd.prog 53 #[.slice (some ⟨g, 0, none⟩) m cap] z (ItE z (some (d, ⟨#[]⟩, asks, op))))) :
    Calls Tryd.prog 34 #[.pointer (some ⟨P, 0, none⟩), .string s, .int .i64 (n : Int)] y0 fun e z => e = .returned (.int .i64 2) ∧ Below w.heap.size w z := by
  obtain ⟨sb, cb, hv0, _⟩ := hQ.out.cell 0 (by decide)
  rw [show (vsD t 0).length = t.1.length from List.length_map ..] at hv0
  have hs1 : IntKind.i64.wrap ((t.1.length : Int) + (d.length : Int)) = (t.1.length : Int) + (d.length : Int) := by have := hby.out; have := hdl.out; rw [IntKind.wrap_i64]; omega
  have hov2 : (3232 : Int) < (t.1.length : Int) + (d.length : Int) := by omega
  clear hov
  go_enter Tryd.func34, Tryd.ntmps34
  go_wp2_with (first
    | ((with_reducible refine at_st rtI y2.heap.size it0 #[.slice sp d.length c, .string ⟨#[]⟩, .string asks, .int .u8 (op : Int)] ?_ ?_ ?_ ?_ (.tmp 8) (.tmp 18) ?_ ?_ ?_ ?_ ?_); exact K3.out.bx; rfl; rfl; simp [Value.oneCell']; rfl; rfl; rfl; rfl; intro y4 hw4; have K4 : Hid (Nb y2 #[.slice sp d.length c, .string ⟨#[]⟩, .string asks, .int .u8 (op : Int)] y4) := K3.out.put hw4.out; have L4 : Hid (Lq w P y2.heap.size v (vsD t) sp c op ⟨#[]⟩ asks d y4) := Lq.of hQ.out hb1.out hb2.out K4.out hl2.out ha2.out; have x0 := K4.out.bx.c 0 _ rfl; have x1 := K4.out.bx.c 1 _ rfl; have x2 := K4.out.bx.c 2 _ rfl; have x3 := K4.out.bx.c 3 _ rfl; have p0 := bx_row L4.out.q.box 0 (by decide); rw [hv0] at p0)
    | ((with_reducible refine gen_world (y2.alloc (.cells #[.slice none 0 0, .string ⟨#[]⟩, .string ⟨#[]⟩, .int .u8 0] 111)) (Nb y2 it0) ?_ ?_); exact Nb.new _ _; intro y3 K3)
    | (go_at_call 53; refine (hI.out _ _ _ L1.out).mono ?_; rintro e y2 ⟨b2, sp, c, rfl, l2, a2⟩; have hb2 : Hid (Below y1.heap.size y1 y2) := b2; have hl2 : Hid (LiesL 1 cU y2 sp d) := l2; have ha2 : Hid (∀ a, sp = some a → y1.heap.size ≤ a.block ∧ a.block < y2.heap.size) := a2; clear b2 l2 a2)
    | (go_at_call 29; refine (hW.out _).mono ?_; rintro e y1 ⟨g, cap, rfl, L1, b1⟩; have hb1 : Hid (Below y0.heap.size y0 y1) := b1; clear b1))
  refine regM P y2.heap.size t.1.length cb d.length c sb sp true hs1 (decide_eq_true hov2) 34 (Nat.le_of_ble_eq_true (by kernel_rfl)) (by decide) (by kernel_rfl) (by kernel_rfl) (by kernel_rfl) (by kernel_rfl) (by exact ⟨_, rfl, rfl, rfl, rfl, by kernel_rfl⟩) (by exact ⟨_, rfl, rfl, rfl, rfl, by kernel_rfl⟩) (by exact ⟨_, rfl, rfl, rfl, rfl, by kernel_rfl⟩) (by exact ⟨_, rfl, rfl, rfl, rfl, by kernel_rfl⟩) (by exact ⟨_, rfl, rfl, rfl, rfl, by kernel_rfl⟩) (by exact ⟨_, rfl, rfl, rfl, rfl, by kernel_rfl⟩) (by exact ⟨_, rfl, rfl, rfl, rfl, by kernel_rfl⟩) (by exact ⟨_, rfl, rfl, rfl, rfl, by kernel_rfl⟩) (by exact ⟨_, rfl, rfl, rfl, rfl, by kernel_rfl⟩) (by exact ⟨_, rfl, rfl, rfl, rfl, by kernel_rfl⟩) (by first | exact p0 | exact (L4.out.drew.q.cell 0 (by decide)).elim) (by first | exact x0) ?_
  have L4d : Hid (Lq w P y2.heap.size v (vsD t) sp c _ _ _ d y4.drew) := L4.out.drew
  have x0d := L4d.out.x.c 0 (.slice sp d.length c) rfl
  have x1d := L4d.out.x.c 1 (.string ⟨#[]⟩) rfl
  have x2d := L4d.out.x.c 2 (.string asks) rfl
  have x3d := L4d.out.x.c 3 (.int .u8 (op : Int)) rfl
  have p0d := bx_row L4d.out.q.box 0 (by decide)
  rw [hv0] at p0d
  generalize y4.drew = y5 at L4d x0d x1d x2d x3d p0d ⊢
  clear x0 x1 x2 x3 p0 L4 K4
  simp only [puts, Act.put, Nat.reduceAdd, List.setIfInBounds_toArray, List.set_cons_zero, List.set_cons_succ]
  go_wp2
  go_ret
  exact ⟨rfl, L4d.out.q.low⟩
end Go.Proofs.YthaijjehplomfaaDoor
