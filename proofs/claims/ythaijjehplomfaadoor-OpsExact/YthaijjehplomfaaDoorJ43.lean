/- The document's own: a line taken up: bytes, a label, an order that asks. -/
import Derived.Test.YthaijjehplomfaaDoorJ42
namespace Go.Proofs.YthaijjehplomfaaDoor
open Go Go.RowKit
set_option linter.unusedVariables false
set_option maxHeartbeats 1000000
set_option maxRecDepth 20000

theorem len10 (l : List Value) (h : l.length = 10) : ∃ a0 a1 a2 a3 a4 a5 a6 a7 a8 a9, l = [a0, a1, a2, a3, a4, a5, a6, a7, a8, a9] := by
  match l, h with
  | [a0, a1, a2, a3, a4, a5, a6, a7, a8, a9], _ => exact ⟨a0, a1, a2, a3, a4, a5, a6, a7, a8, a9, rfl⟩
theorem len11 (l : List Value) (h : l.length = 11) : ∃ a0 a1 a2 a3 a4 a5 a6 a7 a8 a9 a10, l = [a0, a1, a2, a3, a4, a5, a6, a7, a8, a9, a10] := by
  match l, h with
  | [a0, a1, a2, a3, a4, a5, a6, a7, a8, a9, a10], _ => exact ⟨a0, a1, a2, a3, a4, a5, a6, a7, a8, a9, a10, rfl⟩
theorem len14 (l : List Value) (h : l.length = 14) : ∃ a0 a1 a2 a3 a4 a5 a6 a7 a8 a9 a10 a11 a12 a13, l = [a0, a1, a2, a3, a4, a5, a6, a7, a8, a9, a10, a11, a12, a13] := by
  match l, h with
  | [a0, a1, a2, a3, a4, a5, a6, a7, a8, a9, a10, a11, a12, a13], _ => exact ⟨a0, a1, a2, a3, a4, a5, a6, a7, a8, a9, a10, a11, a12, a13, rfl⟩
theorem len15 (l : List Value) (h : l.length = 15) : ∃ a0 a1 a2 a3 a4 a5 a6 a7 a8 a9 a10 a11 a12 a13 a14, l = [a0, a1, a2, a3, a4, a5, a6, a7, a8, a9, a10, a11, a12, a13, a14] := by
  match l, h with
  | [a0, a1, a2, a3, a4, a5, a6, a7, a8, a9, a10, a11, a12, a13, a14], _ => exact ⟨a0, a1, a2, a3, a4, a5, a6, a7, a8, a9, a10, a11, a12, a13, a14, rfl⟩
theorem vsD_fit (t : Std) (n : Nat) (d : List UInt8) (k : Nat) (hk : k < 7) : upQ (vsD t) 0 (t.1.map byV ++ d.map byV) k = vsD (itD n (d, ⟨#[]⟩, ⟨#[]⟩, 0) t) k := by
  match k, hk with
  | 0, _ => exact List.map_append.symm
  | 1, _ => rfl
  | 2, _ => rfl
  | 3, _ => rfl
  | 4, _ => rfl
  | 5, _ => rfl
  | 6, _ => rfl
theorem line_fit (w y0 : World) (P n : Nat) (v : Nat → Value) (t : Std) (hQ : Hid (Qp w P v (vsD t) y0)) (hby : Hid (t.1.length ≤ 3232)) (hnm : Hid (t.2.1.length ≤ 100000)) (s : ByteArray) (ws : List ByteArray) (m : Nat) (hm0 : ((m : Int) == 0) = false)
    (hW : Hid (∀ z, Calls Tryd.prog 29 #[.string s] z fun e w' => ∃ g cap, e = .returned (.slice (some ⟨g, 0, none⟩) m cap) ∧ Hid (LiesL 1 strC w' (some ⟨g, 0, none⟩) ws) ∧ Below z.heap.size z w')) (d : List UInt8) (hdl : Hid (d.length ≤ 1000000)) (hov : t.1.length + d.length ≤ 3232)
    (hI : Hid (∀ z g cap, LiesL 1 strC z (some ⟨g, 0, none⟩) ws → Calls Tryd.prog 53 #[.slice (some ⟨g, 0, none⟩) m cap] z (ItE z (some (d, ⟨#[]⟩, ⟨#[]⟩, 0))))) :
    Calls Tryd.prog 34 #[.pointer (some ⟨P, 0, none⟩), .string s, .int .i64 (n : Int)] y0 fun e z => e = .returned (.int .i64 0) ∧ ∃ v', Qp w P v' (vsD (itD n (d, ⟨#[]⟩, ⟨#[]⟩, 0) t)) z := by
  obtain ⟨sb, cb, hv0, _⟩ := hQ.out.cell 0 (by decide)
  rw [show (vsD t 0).length = t.1.length from List.length_map ..] at hv0
  have hs1 : IntKind.i64.wrap ((t.1.length : Int) + (d.length : Int)) = (t.1.length : Int) + (d.length : Int) := by have := hby.out; have := hdl.out; rw [IntKind.wrap_i64]; omega
  have hov2 : ¬ (3232 : Int) < (t.1.length : Int) + (d.length : Int) := by omega
  clear hov
  go_enter Tryd.func34, Tryd.ntmps34
  go_wp2_with (first
    | ((with_reducible refine at_st rtI y2.heap.size it0 #[.slice sp d.length c, .string ⟨#[]⟩, .string ⟨#[]⟩, .int .u8 0] ?_ ?_ ?_ ?_ (.tmp 8) (.tmp 18) ?_ ?_ ?_ ?_ ?_); exact K3.out.bx; rfl; rfl; simp [Value.oneCell']; rfl; rfl; rfl; rfl; intro y4 hw4; have K4 : Hid (Nb y2 #[.slice sp d.length c, .string ⟨#[]⟩, .string ⟨#[]⟩, .int .u8 0] y4) := K3.out.put hw4.out; have L4 : Hid (Lq w P y2.heap.size v (vsD t) sp c 0 ⟨#[]⟩ ⟨#[]⟩ d y4) := Lq.of hQ.out hb1.out hb2.out K4.out hl2.out ha2.out; have x0 := K4.out.bx.c 0 _ rfl; have x1 := K4.out.bx.c 1 _ rfl; have x2 := K4.out.bx.c 2 _ rfl; have x3 := K4.out.bx.c 3 _ rfl; have p0 := bx_row L4.out.q.box 0 (by decide); rw [hv0] at p0)
    | ((with_reducible refine gen_world (y2.alloc (.cells #[.slice none 0 0, .string ⟨#[]⟩, .string ⟨#[]⟩, .int .u8 0] 111)) (Nb y2 it0) ?_ ?_); exact Nb.new _ _; intro y3 K3)
    | (go_at_call 53; refine (hI.out _ _ _ L1.out).mono ?_; rintro e y2 ⟨b2, sp, c, rfl, l2, a2⟩; have hb2 : Hid (Below y1.heap.size y1 y2) := b2; have hl2 : Hid (LiesL 1 cU y2 sp d) := l2; have ha2 : Hid (∀ a, sp = some a → y1.heap.size ≤ a.block ∧ a.block < y2.heap.size) := a2; clear b2 l2 a2)
    | (go_at_call 29; refine (hW.out _).mono ?_; rintro e y1 ⟨g, cap, rfl, L1, b1⟩; have hb1 : Hid (Below y0.heap.size y0 y1) := b1; clear b1))
  refine regM P y2.heap.size t.1.length cb d.length c sb sp false hs1 (decide_eq_false (by have := hov2; omega)) 34 (Nat.le_of_ble_eq_true (by kernel_rfl)) (by decide) (by kernel_rfl) (by kernel_rfl) (by kernel_rfl) (by kernel_rfl) (by exact ⟨_, rfl, rfl, rfl, rfl, by kernel_rfl⟩) (by exact ⟨_, rfl, rfl, rfl, rfl, by kernel_rfl⟩) (by exact ⟨_, rfl, rfl, rfl, rfl, by kernel_rfl⟩) (by exact ⟨_, rfl, rfl, rfl, rfl, by kernel_rfl⟩) (by exact ⟨_, rfl, rfl, rfl, rfl, by kernel_rfl⟩) (by exact ⟨_, rfl, rfl, rfl, rfl, by kernel_rfl⟩) (by exact ⟨_, rfl, rfl, rfl, rfl, by kernel_rfl⟩) (by exact ⟨_, rfl, rfl, rfl, rfl, by kernel_rfl⟩) (by exact ⟨_, rfl, rfl, rfl, rfl, by kernel_rfl⟩) (by exact ⟨_, rfl, rfl, rfl, rfl, by kernel_rfl⟩) (by first | exact p0 | exact (L4.out.drew.q.cell 0 (by decide)).elim) (by first | exact x0) ?_
  have L4d : Hid (Lq w P y2.heap.size v (vsD t) sp c _ _ _ d y4.drew) := L4.out.drew
  have x0d := L4d.out.x.c 0 (.slice sp d.length c) rfl
  have x1d := L4d.out.x.c 1 (.string ⟨#[]⟩) rfl
  have x2d := L4d.out.x.c 2 (.string ⟨#[]⟩) rfl
  have x3d := L4d.out.x.c 3 (.int .u8 0) rfl
  have p0d := bx_row L4d.out.q.box 0 (by decide)
  rw [hv0] at p0d
  generalize y4.drew = y5 at L4d x0d x1d x2d x3d p0d ⊢
  clear x0 x1 x2 x3 p0 L4 K4
  simp only [puts, Act.put, Nat.reduceAdd, List.setIfInBounds_toArray, List.set_cons_zero, List.set_cons_succ]
  go_wp2
  refine regJ w P y2.heap.size v (vsD t) sp c 0 ⟨#[]⟩ ⟨#[]⟩ d t.1 hdl.out rfl (by have := hby.out; omega) 122 (Nat.le_of_ble_eq_true (by kernel_rfl)) (by decide) (by kernel_rfl) (by kernel_rfl) (by kernel_rfl) (by kernel_rfl) (by exact ⟨_, rfl, rfl, rfl, rfl, by kernel_rfl⟩) (by exact ⟨_, rfl, rfl, rfl, rfl, by kernel_rfl⟩) (by exact ⟨_, rfl, rfl, rfl, rfl, by kernel_rfl⟩) (by exact ⟨_, rfl, rfl, rfl, rfl, by kernel_rfl⟩) (by exact ⟨_, rfl, rfl, rfl, rfl, by kernel_rfl⟩) (by exact ⟨_, rfl, rfl, rfl, rfl, by kernel_rfl⟩) (by exact ⟨_, rfl, rfl, rfl, rfl, by kernel_rfl⟩) (by exact ⟨_, rfl, rfl, rfl, rfl, by kernel_rfl⟩) (by exact ⟨_, rfl, rfl, rfl, rfl, by kernel_rfl⟩) (by exact ⟨_, rfl, rfl, rfl, rfl, by kernel_rfl⟩) (by exact ⟨_, rfl, rfl, rfl, rfl, by kernel_rfl⟩) (by kernel_rfl) (by kernel_rfl) (by kernel_rfl) (by first | exact L4d.out | exact L4d.out.drew | exact L4d.out.drew.drew) ?_
  intro vals z5 v5 hv hL5
  obtain ⟨e0, e1, e2, e3, e4, e5, e6, e7, e8, e9, rfl⟩ := len10 vals hv
  simp only [puts, Act.put, Nat.reduceAdd, List.setIfInBounds_toArray, List.set_cons_zero, List.set_cons_succ]
  go_wp2
  go_ret
  exact ⟨rfl, _, hL5.out.q.cong fun k hk => vsD_fit t n d k hk⟩
theorem vsD_new (t : Std) (n : Nat) (d : List UInt8) (lab : ByteArray) (hlab : ¬ lab = ⟨#[]⟩) (k : Nat) (hk : k < 7) : upQ (upQ (upQ (vsD t) 1 ((t.2.1.map (·.1)).map (fun s => Value.string s) ++ [.string lab])) 2 ((t.2.1.map (·.2)).map (fun a : Nat => Value.int .i64 (a : Int)) ++ [.int .i64 ((512 + t.1.length : Nat) : Int)])) 0 (t.1.map byV ++ d.map byV) k = vsD (itD n (d, lab, ⟨#[]⟩, 0) t) k := by
  unfold itD
  simp only [if_neg hlab, if_true]
  match k, hk with
  | 0, _ => exact List.map_append.symm
  | 1, _ => simp [upQ, vsD]
  | 2, _ => simp [upQ, vsD]
  | 3, _ => rfl
  | 4, _ => rfl
  | 5, _ => rfl
  | 6, _ => rfl
theorem line_new (w y0 : World) (P n : Nat) (v : Nat → Value) (t : Std) (hQ : Hid (Qp w P v (vsD t) y0)) (hby : Hid (t.1.length ≤ 3232)) (hnm : Hid (t.2.1.length ≤ 100000)) (s : ByteArray) (ws : List ByteArray) (m : Nat) (hm0 : ((m : Int) == 0) = false)
    (hW : Hid (∀ z, Calls Tryd.prog 29 #[.string s] z fun e w' => ∃ g cap, e = .returned (.slice (some ⟨g, 0, none⟩) m cap) ∧ Hid (LiesL 1 strC w' (some ⟨g, 0, none⟩) ws) ∧ Below z.heap.size z w')) (hus : Hid (t.2.2.length ≤ 100000)) (lab : ByteArray) (hlab : Hid (¬ lab = ⟨#[]⟩)) (d : List UInt8) (hdl : Hid (d.length ≤ 1000000)) (hov : t.1.length + d.length ≤ 3232) (ql : lab.toList.isEmpty = false) (hlk : Hid (lookV (lookN t.2.1 lab) = -1))
    (hI : Hid (∀ z g cap, LiesL 1 strC z (some ⟨g, 0, none⟩) ws → Calls Tryd.prog 53 #[.slice (some ⟨g, 0, none⟩) m cap] z (ItE z (some (d, lab, ⟨#[]⟩, 0))))) :
    Calls Tryd.prog 34 #[.pointer (some ⟨P, 0, none⟩), .string s, .int .i64 (n : Int)] y0 fun e z => e = .returned (.int .i64 0) ∧ ∃ v', Qp w P v' (vsD (itD n (d, lab, ⟨#[]⟩, 0) t)) z := by
  obtain ⟨sb, cb, hv0, _⟩ := hQ.out.cell 0 (by decide)
  rw [show (vsD t 0).length = t.1.length from List.length_map ..] at hv0
  have hs1 : IntKind.i64.wrap ((t.1.length : Int) + (d.length : Int)) = (t.1.length : Int) + (d.length : Int) := by have := hby.out; have := hdl.out; rw [IntKind.wrap_i64]; omega
  have hov2 : ¬ (3232 : Int) < (t.1.length : Int) + (d.length : Int) := by omega
  clear hov
  go_enter Tryd.func34, Tryd.ntmps34
  go_wp2_with (first
    | ((with_reducible refine at_st rtI y2.heap.size it0 #[.slice sp d.length c, .string lab, .string ⟨#[]⟩, .int .u8 0] ?_ ?_ ?_ ?_ (.tmp 8) (.tmp 18) ?_ ?_ ?_ ?_ ?_); exact K3.out.bx; rfl; rfl; simp [Value.oneCell']; rfl; rfl; rfl; rfl; intro y4 hw4; have K4 : Hid (Nb y2 #[.slice sp d.length c, .string lab, .string ⟨#[]⟩, .int .u8 0] y4) := K3.out.put hw4.out; have L4 : Hid (Lq w P y2.heap.size v (vsD t) sp c 0 lab ⟨#[]⟩ d y4) := Lq.of hQ.out hb1.out hb2.out K4.out hl2.out ha2.out; have x0 := K4.out.bx.c 0 _ rfl; have x1 := K4.out.bx.c 1 _ rfl; have x2 := K4.out.bx.c 2 _ rfl; have x3 := K4.out.bx.c 3 _ rfl; have p0 := bx_row L4.out.q.box 0 (by decide); rw [hv0] at p0)
    | ((with_reducible refine gen_world (y2.alloc (.cells #[.slice none 0 0, .string ⟨#[]⟩, .string ⟨#[]⟩, .int .u8 0] 111)) (Nb y2 it0) ?_ ?_); exact Nb.new _ _; intro y3 K3)
    | (go_at_call 53; refine (hI.out _ _ _ L1.out).mono ?_; rintro e y2 ⟨b2, sp, c, rfl, l2, a2⟩; have hb2 : Hid (Below y1.heap.size y1 y2) := b2; have hl2 : Hid (LiesL 1 cU y2 sp d) := l2; have ha2 : Hid (∀ a, sp = some a → y1.heap.size ≤ a.block ∧ a.block < y2.heap.size) := a2; clear b2 l2 a2)
    | (go_at_call 35; refine (L4.out.q.labelAt hnm.out lab).mono ?_; rintro e z ⟨rfl, hz⟩; rw [hlk.out]; replace hz := hz.symm; subst hz)
    | (go_at_call 29; refine (hW.out _).mono ?_; rintro e y1 ⟨g, cap, rfl, L1, b1⟩; have hb1 : Hid (Below y0.heap.size y0 y1) := b1; clear b1))
  refine regM P y2.heap.size t.1.length cb d.length c sb sp false hs1 (decide_eq_false (by have := hov2; omega)) 34 (Nat.le_of_ble_eq_true (by kernel_rfl)) (by decide) (by kernel_rfl) (by kernel_rfl) (by kernel_rfl) (by kernel_rfl) (by exact ⟨_, rfl, rfl, rfl, rfl, by kernel_rfl⟩) (by exact ⟨_, rfl, rfl, rfl, rfl, by kernel_rfl⟩) (by exact ⟨_, rfl, rfl, rfl, rfl, by kernel_rfl⟩) (by exact ⟨_, rfl, rfl, rfl, rfl, by kernel_rfl⟩) (by exact ⟨_, rfl, rfl, rfl, rfl, by kernel_rfl⟩) (by exact ⟨_, rfl, rfl, rfl, rfl, by kernel_rfl⟩) (by exact ⟨_, rfl, rfl, rfl, rfl, by kernel_rfl⟩) (by exact ⟨_, rfl, rfl, rfl, rfl, by kernel_rfl⟩) (by exact ⟨_, rfl, rfl, rfl, rfl, by kernel_rfl⟩) (by exact ⟨_, rfl, rfl, rfl, rfl, by kernel_rfl⟩) (by first | exact p0 | exact (L4.out.drew.q.cell 0 (by decide)).elim) (by first | exact x0) ?_
  have L4d : Hid (Lq w P y2.heap.size v (vsD t) sp c _ _ _ d y4.drew) := L4.out.drew
  have x0d := L4d.out.x.c 0 (.slice sp d.length c) rfl
  have x1d := L4d.out.x.c 1 (.string lab) rfl
  have x2d := L4d.out.x.c 2 (.string ⟨#[]⟩) rfl
  have x3d := L4d.out.x.c 3 (.int .u8 0) rfl
  have p0d := bx_row L4d.out.q.box 0 (by decide)
  rw [hv0] at p0d
  generalize y4.drew = y5 at L4d x0d x1d x2d x3d p0d ⊢
  clear x0 x1 x2 x3 p0 L4 K4
  simp only [puts, Act.put, Nat.reduceAdd, List.setIfInBounds_toArray, List.set_cons_zero, List.set_cons_succ]
  go_wp2
  refine regF w P y2.heap.size v (vsD t) sp c 0 lab ⟨#[]⟩ d (cc := (fun s => Value.string s)) kS1 stS agS8 agS1 lab (.string lab) rfl (bsS lab) 1 1 (by decide) (by decide) rfl (t.2.1.map (·.1)) rfl rfl (by simp only [List.length_map]; have := hnm.out; have := hus.out; omega) 47 (Nat.le_of_ble_eq_true (by kernel_rfl)) (by decide) (by kernel_rfl) (by kernel_rfl) (by kernel_rfl) (by kernel_rfl) (by exact ⟨_, rfl, rfl, rfl, rfl, by kernel_rfl⟩) (by exact ⟨_, rfl, rfl, rfl, rfl, by kernel_rfl⟩) (by exact ⟨_, rfl, rfl, rfl, rfl, by kernel_rfl⟩) (by exact ⟨_, rfl, rfl, rfl, rfl, by kernel_rfl⟩) (by exact ⟨_, rfl, rfl, rfl, rfl, by kernel_rfl⟩) (by exact ⟨_, rfl, rfl, rfl, rfl, by kernel_rfl⟩) (by exact ⟨_, rfl, rfl, rfl, rfl, by kernel_rfl⟩) (by exact ⟨_, rfl, rfl, rfl, rfl, by kernel_rfl⟩) (by exact ⟨_, rfl, rfl, rfl, rfl, by kernel_rfl⟩) (by exact ⟨_, rfl, rfl, rfl, rfl, by kernel_rfl⟩) (by exact ⟨_, rfl, rfl, rfl, rfl, by kernel_rfl⟩) (by exact ⟨_, rfl, rfl, rfl, rfl, by kernel_rfl⟩) (by kernel_rfl) (by kernel_rfl) (by kernel_rfl) (by kernel_rfl) (by first | exact L4d.out | exact L4d.out.drew | exact L4d.out.drew.drew) ?_
  intro vals z5 v5 hv hL5
  obtain ⟨e0, e1, e2, e3, e4, e5, e6, e7, e8, e9, e10, rfl⟩ := len11 vals hv
  simp only [puts, Act.put, Nat.reduceAdd, List.setIfInBounds_toArray, List.set_cons_zero, List.set_cons_succ]
  go_wp2
  refine regG w P y2.heap.size (upQ v 1 v5) (upQ (vsD t) 1 ((t.2.1.map (·.1)).map (fun s => Value.string s) ++ [.string lab])) sp c 0 lab ⟨#[]⟩ d sb t.1.length cb (t.2.1.map (·.2)) hv0 (by have := hby.out; omega) rfl (by simp only [List.length_map]; have := hnm.out; have := hus.out; omega) 58 (Nat.le_of_ble_eq_true (by kernel_rfl)) (by decide) (by kernel_rfl) (by kernel_rfl) (by kernel_rfl) (by kernel_rfl) (by exact ⟨_, rfl, rfl, rfl, rfl, by kernel_rfl⟩) (by exact ⟨_, rfl, rfl, rfl, rfl, by kernel_rfl⟩) (by exact ⟨_, rfl, rfl, rfl, rfl, by kernel_rfl⟩) (by exact ⟨_, rfl, rfl, rfl, rfl, by kernel_rfl⟩) (by exact ⟨_, rfl, rfl, rfl, rfl, by kernel_rfl⟩) (by exact ⟨_, rfl, rfl, rfl, rfl, by kernel_rfl⟩) (by exact ⟨_, rfl, rfl, rfl, rfl, by kernel_rfl⟩) (by exact ⟨_, rfl, rfl, rfl, rfl, by kernel_rfl⟩) (by exact ⟨_, rfl, rfl, rfl, rfl, by kernel_rfl⟩) (by exact ⟨_, rfl, rfl, rfl, rfl, by kernel_rfl⟩) (by exact ⟨_, rfl, rfl, rfl, rfl, by kernel_rfl⟩) (by exact ⟨_, rfl, rfl, rfl, rfl, by kernel_rfl⟩) (by exact ⟨_, rfl, rfl, rfl, rfl, by kernel_rfl⟩) (by exact ⟨_, rfl, rfl, rfl, rfl, by kernel_rfl⟩) (by exact ⟨_, rfl, rfl, rfl, rfl, by kernel_rfl⟩) (by exact ⟨_, rfl, rfl, rfl, rfl, by kernel_rfl⟩) (by kernel_rfl) (by kernel_rfl) (by kernel_rfl) (by kernel_rfl) (by first | exact hL5.out | exact hL5.out.drew | exact hL5.out.drew.drew) ?_
  intro vals z6 v6 hv hL6
  obtain ⟨e0, e1, e2, e3, e4, e5, e6, e7, e8, e9, e10, e11, e12, e13, e14, rfl⟩ := len15 vals hv
  simp only [puts, Act.put, Nat.reduceAdd, List.setIfInBounds_toArray, List.set_cons_zero, List.set_cons_succ]
  have x2 := hL6.out.x.c 2 (.string ⟨#[]⟩) rfl
  go_wp2
  refine regJ w P y2.heap.size (upQ (upQ v 1 v5) 2 v6) (upQ (upQ (vsD t) 1 ((t.2.1.map (·.1)).map (fun s => Value.string s) ++ [.string lab])) 2 ((t.2.1.map (·.2)).map (fun a : Nat => Value.int .i64 (a : Int)) ++ [.int .i64 ((512 + t.1.length : Nat) : Int)])) sp c 0 lab ⟨#[]⟩ d t.1 hdl.out rfl (by have := hby.out; omega) 122 (Nat.le_of_ble_eq_true (by kernel_rfl)) (by decide) (by kernel_rfl) (by kernel_rfl) (by kernel_rfl) (by kernel_rfl) (by exact ⟨_, rfl, rfl, rfl, rfl, by kernel_rfl⟩) (by exact ⟨_, rfl, rfl, rfl, rfl, by kernel_rfl⟩) (by exact ⟨_, rfl, rfl, rfl, rfl, by kernel_rfl⟩) (by exact ⟨_, rfl, rfl, rfl, rfl, by kernel_rfl⟩) (by exact ⟨_, rfl, rfl, rfl, rfl, by kernel_rfl⟩) (by exact ⟨_, rfl, rfl, rfl, rfl, by kernel_rfl⟩) (by exact ⟨_, rfl, rfl, rfl, rfl, by kernel_rfl⟩) (by exact ⟨_, rfl, rfl, rfl, rfl, by kernel_rfl⟩) (by exact ⟨_, rfl, rfl, rfl, rfl, by kernel_rfl⟩) (by exact ⟨_, rfl, rfl, rfl, rfl, by kernel_rfl⟩) (by exact ⟨_, rfl, rfl, rfl, rfl, by kernel_rfl⟩) (by kernel_rfl) (by kernel_rfl) (by kernel_rfl) (by first | exact hL6.out | exact hL6.out.drew | exact hL6.out.drew.drew) ?_
  intro vals z7 v7 hv hL7
  obtain ⟨e0, e1, e2, e3, e4, e5, e6, e7, e8, e9, rfl⟩ := len10 vals hv
  simp only [puts, Act.put, Nat.reduceAdd, List.setIfInBounds_toArray, List.set_cons_zero, List.set_cons_succ]
  go_wp2
  go_ret
  exact ⟨rfl, _, hL7.out.q.cong fun k hk => vsD_new t n d lab hlab.out k hk⟩
theorem vsD_ask (t : Std) (n : Nat) (d : List UInt8) (asks : ByteArray) (op : Nat) (hasks : ¬ asks = ⟨#[]⟩) (k : Nat) (hk : k < 7) : upQ (upQ (upQ (upQ (upQ (vsD t) 3 ((t.2.2.map (·.lb)).map (fun s => Value.string s) ++ [.string asks])) 4 ((t.2.2.map (·.o.op)).map (fun a : Nat => Value.int .u8 (a : Int)) ++ [.int .u8 (op : Int)])) 5 ((t.2.2.map (·.pl)).map (fun a : Nat => Value.int .i64 (a : Int)) ++ [.int .i64 (t.1.length : Int)])) 6 ((t.2.2.map (·.ln)).map (fun a : Nat => Value.int .i64 (a : Int)) ++ [.int .i64 (n : Int)])) 0 (t.1.map byV ++ d.map byV) k = vsD (itD n (d, ⟨#[]⟩, asks, op) t) k := by
  unfold itD
  simp only [if_neg hasks, if_true]
  match k, hk with
  | 0, _ => exact List.map_append.symm
  | 1, _ => rfl
  | 2, _ => rfl
  | 3, _ => simp [upQ, vsD]
  | 4, _ => simp [upQ, vsD, useO]
  | 5, _ => simp [upQ, vsD]
  | 6, _ => simp [upQ, vsD]
theorem line_ask (w y0 : World) (P n : Nat) (v : Nat → Value) (t : Std) (hQ : Hid (Qp w P v (vsD t) y0)) (hby : Hid (t.1.length ≤ 3232)) (hnm : Hid (t.2.1.length ≤ 100000)) (s : ByteArray) (ws : List ByteArray) (m : Nat) (hm0 : ((m : Int) == 0) = false)
    (hW : Hid (∀ z, Calls Tryd.prog 29 #[.string s] z fun e w' => ∃ g cap, e = .returned (.slice (some ⟨g, 0, none⟩) m cap) ∧ Hid (LiesL 1 strC w' (some ⟨g, 0, none⟩) ws) ∧ Below z.heap.size z w')) (hus : Hid (t.2.2.length ≤ 100000)) (asks : ByteArray) (op : Nat) (hasks : Hid (¬ asks = ⟨#[]⟩)) (d : List UInt8) (hdl : Hid (d.length ≤ 1000000)) (hov : t.1.length + d.length ≤ 3232) (ql : asks.toList.isEmpty = false)
    (hI : Hid (∀ z g cap, LiesL 1 strC z (some ⟨g, 0, none⟩) ws → Calls Tryd.prog 53 #[.slice (some ⟨g, 0, none⟩) m cap] z (ItE z (some (d, ⟨#[]⟩, asks, op))))) :
    Calls Tryd.prog 34 #[.pointer (some ⟨P, 0, none⟩), .string s, .int .i64 (n : Int)] y0 fun e z => e = .returned (.int .i64 0) ∧ ∃ v', Qp w P v' (vsD (itD n (d, ⟨#[]⟩, asks, op) t)) z := by
  obtain ⟨sb, cb, hv0, _⟩ := hQ.out.cell 0 (by decide)
  rw [show (vsD t 0).length = t.1.length from List.length_map ..] at hv0
  have hs1 : IntKind.i64.wrap ((t.1.length : Int) + (d.length : Int)) = (t.1.length : Int) + (d.length : Int) := by have := hby.out; have := hdl.out; rw [IntKind.wrap_i64]; omega
  have hov2 : ¬ (3232 : Int) < (t.1.length : Int) + (d.length : Int) := by omega
  clear hov
  go_enter Tryd.func34, Tryd.ntmps34
  go_wp2_with (first
    | ((with_reducible refine at_st rtI y2.heap.size it0 #[.slice sp d.length c, .string ⟨#[]⟩, .string asks, .int .u8 (op : Int)] ?_ ?_ ?_ ?_ (.tmp 8) (.tmp 18) ?_ ?_ ?_ ?_ ?_); exact K3.out.bx; rfl; rfl; simp [Value.oneCell']; rfl; rfl; rfl; rfl; intro y4 hw4; have K4 : Hid (Nb y2 #[.slice sp d.length c, .string ⟨#[]⟩, .string asks, .int .u8 (op : Int)] y4) := K3.out.put hw4.out; have L4 : Hid (Lq w P y2.heap.size v (vsD t) sp c op ⟨#[]⟩ asks d y4) := Lq.of hQ.out hb1.out hb2.out K4.out hl2.out ha2.out; have x0 := K4.out.bx.c 0 _ rfl; have x1 := K4.out.bx.c 1 _ rfl; have x2 := K4.out.bx.c 2 _ rfl; have x3 := K4.out.bx.c 3 _ rfl; have p0 := bx_row L4.out.q.box 0 (by decide); rw [hv0] at p0)
    | ((with_reducible refine gen_world (y2.alloc (.cells #[.slice none 0 0, .string ⟨#[]⟩, .string ⟨#[]⟩, .int .u8 0] 111)) (Nb y2 it0) ?_ ?_); exact Nb.new _ _; intro y3 K3)
    | (go_at_call 53; refine (hI.out _ _ _ L1.out).mono ?_; rintro e y2 ⟨b2, sp, c, rfl, l2, a2⟩; have hb2 : Hid (Below y1.heap.size y1 y2) := b2; have hl2 : Hid (LiesL 1 cU y2 sp d) := l2; have ha2 : Hid (∀ a, sp = some a → y1.heap.size ≤ a.block ∧ a.block < y2.heap.size) := a2; clear b2 l2 a2)
    | (go_at_call 29; refine (hW.out _).mono ?_; rintro e y1 ⟨g, cap, rfl, L1, b1⟩; have hb1 : Hid (Below y0.heap.size y0 y1) := b1; clear b1))
  refine regM P y2.heap.size t.1.length cb d.length c sb sp false hs1 (decide_eq_false (by have := hov2; omega)) 34 (Nat.le_of_ble_eq_true (by kernel_rfl)) (by decide) (by kernel_rfl) (by kernel_rfl) (by kernel_rfl) (by kernel_rfl) (by exact ⟨_, rfl, rfl, rfl, rfl, by kernel_rfl⟩) (by exact ⟨_, rfl, rfl, rfl, rfl, by kernel_rfl⟩) (by exact ⟨_, rfl, rfl, rfl, rfl, by kernel_rfl⟩) (by exact ⟨_, rfl, rfl, rfl, rfl, by kernel_rfl⟩) (by exact ⟨_, rfl, rfl, rfl, rfl, by kernel_rfl⟩) (by exact ⟨_, rfl, rfl, rfl, rfl, by kernel_rfl⟩) (by exact ⟨_, rfl, rfl, rfl, rfl, by kernel_rfl⟩) (by exact ⟨_, rfl, rfl, rfl, rfl, by kernel_rfl⟩) (by exact ⟨_, rfl, rfl, rfl, rfl, by kernel_rfl⟩) (by exact ⟨_, rfl, rfl, rfl, rfl, by kernel_rfl⟩) (by first | exact p0 | exact (L4.out.drew.q.cell 0 (by decide)).elim) (by first | exact x0) ?_
  have L4d : Hid (Lq w P y2.heap.size v (vsD t) sp c _ _ _ d y4.drew) := L4.out.drew
  have x0d := L4d.out.x.c 0 (.slice sp d.length c) rfl
  have x1d := L4d.out.x.c 1 (.string ⟨#[]⟩) rfl
  have x2d := L4d.out.x.c 2 (.string asks) rfl
  have x3d := L4d.out.x.c 3 (.int .u8 (op : Int)) rfl
  have p0d := bx_row L4d.out.q.box 0 (by decide)
  rw [hv0] at p0d
  generalize y4.drew = y5 at L4d x0d x1d x2d x3d p0d ⊢
  clear x0 x1 x2 x3 p0 L4 K4
  simp only [puts, Act.put, Nat.reduceAdd, List.setIfInBounds_toArray, List.set_cons_zero, List.set_cons_succ]
  go_wp2
  refine regF w P y2.heap.size v (vsD t) sp c op ⟨#[]⟩ asks d (cc := (fun s => Value.string s)) kS1 stS agS8 agS1 asks (.string asks) rfl (bsS asks) 3 2 (by decide) (by decide) rfl (t.2.2.map (·.lb)) rfl rfl (by simp only [List.length_map]; have := hnm.out; have := hus.out; omega) 76 (Nat.le_of_ble_eq_true (by kernel_rfl)) (by decide) (by kernel_rfl) (by kernel_rfl) (by kernel_rfl) (by kernel_rfl) (by exact ⟨_, rfl, rfl, rfl, rfl, by kernel_rfl⟩) (by exact ⟨_, rfl, rfl, rfl, rfl, by kernel_rfl⟩) (by exact ⟨_, rfl, rfl, rfl, rfl, by kernel_rfl⟩) (by exact ⟨_, rfl, rfl, rfl, rfl, by kernel_rfl⟩) (by exact ⟨_, rfl, rfl, rfl, rfl, by kernel_rfl⟩) (by exact ⟨_, rfl, rfl, rfl, rfl, by kernel_rfl⟩) (by exact ⟨_, rfl, rfl, rfl, rfl, by kernel_rfl⟩) (by exact ⟨_, rfl, rfl, rfl, rfl, by kernel_rfl⟩) (by exact ⟨_, rfl, rfl, rfl, rfl, by kernel_rfl⟩) (by exact ⟨_, rfl, rfl, rfl, rfl, by kernel_rfl⟩) (by exact ⟨_, rfl, rfl, rfl, rfl, by kernel_rfl⟩) (by exact ⟨_, rfl, rfl, rfl, rfl, by kernel_rfl⟩) (by kernel_rfl) (by kernel_rfl) (by kernel_rfl) (by kernel_rfl) (by first | exact L4d.out | exact L4d.out.drew | exact L4d.out.drew.drew) ?_
  intro vals z5 v5 hv hL5
  obtain ⟨e0, e1, e2, e3, e4, e5, e6, e7, e8, e9, e10, rfl⟩ := len11 vals hv
  simp only [puts, Act.put, Nat.reduceAdd, List.setIfInBounds_toArray, List.set_cons_zero, List.set_cons_succ]
  go_wp2
  refine regF w P y2.heap.size (upQ v 3 v5) (upQ (vsD t) 3 ((t.2.2.map (·.lb)).map (fun s => Value.string s) ++ [.string asks])) sp c op ⟨#[]⟩ asks d (cc := (fun a : Nat => Value.int .u8 (a : Int))) kO1 stO agO8 agO1 op (.int .u8 (op : Int)) rfl (bsO op) 4 3 (by decide) (by decide) rfl (t.2.2.map (·.o.op)) rfl rfl (by simp only [List.length_map]; have := hnm.out; have := hus.out; omega) 87 (Nat.le_of_ble_eq_true (by kernel_rfl)) (by decide) (by kernel_rfl) (by kernel_rfl) (by kernel_rfl) (by kernel_rfl) (by exact ⟨_, rfl, rfl, rfl, rfl, by kernel_rfl⟩) (by exact ⟨_, rfl, rfl, rfl, rfl, by kernel_rfl⟩) (by exact ⟨_, rfl, rfl, rfl, rfl, by kernel_rfl⟩) (by exact ⟨_, rfl, rfl, rfl, rfl, by kernel_rfl⟩) (by exact ⟨_, rfl, rfl, rfl, rfl, by kernel_rfl⟩) (by exact ⟨_, rfl, rfl, rfl, rfl, by kernel_rfl⟩) (by exact ⟨_, rfl, rfl, rfl, rfl, by kernel_rfl⟩) (by exact ⟨_, rfl, rfl, rfl, rfl, by kernel_rfl⟩) (by exact ⟨_, rfl, rfl, rfl, rfl, by kernel_rfl⟩) (by exact ⟨_, rfl, rfl, rfl, rfl, by kernel_rfl⟩) (by exact ⟨_, rfl, rfl, rfl, rfl, by kernel_rfl⟩) (by exact ⟨_, rfl, rfl, rfl, rfl, by kernel_rfl⟩) (by kernel_rfl) (by kernel_rfl) (by kernel_rfl) (by kernel_rfl) (by first | exact hL5.out | exact hL5.out.drew | exact hL5.out.drew.drew) ?_
  intro vals z6 v6 hv hL6
  obtain ⟨e0, e1, e2, e3, e4, e5, e6, e7, e8, e9, e10, rfl⟩ := len11 vals hv
  simp only [puts, Act.put, Nat.reduceAdd, List.setIfInBounds_toArray, List.set_cons_zero, List.set_cons_succ]
  go_wp2
  refine regH w P y2.heap.size (upQ (upQ v 3 v5) 4 v6) (upQ (upQ (vsD t) 3 ((t.2.2.map (·.lb)).map (fun s => Value.string s) ++ [.string asks])) 4 ((t.2.2.map (·.o.op)).map (fun a : Nat => Value.int .u8 (a : Int)) ++ [.int .u8 (op : Int)])) sp c op ⟨#[]⟩ asks d sb t.1.length cb (t.2.2.map (·.pl)) hv0 rfl (by simp only [List.length_map]; have := hnm.out; have := hus.out; omega) 98 (Nat.le_of_ble_eq_true (by kernel_rfl)) (by decide) (by kernel_rfl) (by kernel_rfl) (by kernel_rfl) (by kernel_rfl) (by exact ⟨_, rfl, rfl, rfl, rfl, by kernel_rfl⟩) (by exact ⟨_, rfl, rfl, rfl, rfl, by kernel_rfl⟩) (by exact ⟨_, rfl, rfl, rfl, rfl, by kernel_rfl⟩) (by exact ⟨_, rfl, rfl, rfl, rfl, by kernel_rfl⟩) (by exact ⟨_, rfl, rfl, rfl, rfl, by kernel_rfl⟩) (by exact ⟨_, rfl, rfl, rfl, rfl, by kernel_rfl⟩) (by exact ⟨_, rfl, rfl, rfl, rfl, by kernel_rfl⟩) (by exact ⟨_, rfl, rfl, rfl, rfl, by kernel_rfl⟩) (by exact ⟨_, rfl, rfl, rfl, rfl, by kernel_rfl⟩) (by exact ⟨_, rfl, rfl, rfl, rfl, by kernel_rfl⟩) (by exact ⟨_, rfl, rfl, rfl, rfl, by kernel_rfl⟩) (by exact ⟨_, rfl, rfl, rfl, rfl, by kernel_rfl⟩) (by exact ⟨_, rfl, rfl, rfl, rfl, by kernel_rfl⟩) (by exact ⟨_, rfl, rfl, rfl, rfl, by kernel_rfl⟩) (by exact ⟨_, rfl, rfl, rfl, rfl, by kernel_rfl⟩) (by kernel_rfl) (by kernel_rfl) (by kernel_rfl) (by kernel_rfl) (by first | exact hL6.out | exact hL6.out.drew | exact hL6.out.drew.drew) ?_
  intro vals z7 v7 hv hL7
  obtain ⟨e0, e1, e2, e3, e4, e5, e6, e7, e8, e9, e10, e11, e12, e13, rfl⟩ := len14 vals hv
  simp only [puts, Act.put, Nat.reduceAdd, List.setIfInBounds_toArray, List.set_cons_zero, List.set_cons_succ]
  have hr : OwnL 3 1 (fun a : Nat => [Value.int .i64 (a : Int)]) w.heap.size z7 (v 6) (t.2.2.map (·.ln)) := OwnL.vals.2 (hL7.out.q.own 6 (by decide))
  obtain ⟨s6, c6, e6, _⟩ := hr.open kI1.len
  rw [List.length_map] at e6
  have p6 := bx_row hL7.out.q.box 6 (by decide)
  rw [show (upQ (upQ (upQ v 3 v5) 4 v6) 5 v7) 6 = v 6 from rfl, e6] at p6
  have hr' : Hid _ := hr
  clear hr
  go_wp2_with (first
    | (refine at_bsI1 n (.tmp 117) rfl rfl rfl ?_)
    | ((with_reducible refine gen_world (z7.alloc (.cells #[.int .i64 (n : Int)] 3)) (fun z => Lq w P y2.heap.size (upQ (upQ (upQ v 3 v5) 4 v6) 5 v7) (upQ (upQ (upQ (vsD t) 3 ((t.2.2.map (·.lb)).map (fun s => Value.string s) ++ [.string asks])) 4 ((t.2.2.map (·.o.op)).map (fun a : Nat => Value.int .u8 (a : Int)) ++ [.int .u8 (op : Int)])) 5 ((t.2.2.map (·.pl)).map (fun a : Nat => Value.int .i64 (a : Int)) ++ [.int .i64 (t.1.length : Int)])) sp c op ⟨#[]⟩ asks d z ∧ Bx z z7.heap.size #[.int .i64 (n : Int)] 3) ?_ ?_); (exact ⟨hL7.out.keep (below1 _ _), alloc_last' _ _⟩); intro z8 K8; have p8 := bx_row K8.out.1.q.box 6 (by decide); rw [show (upQ (upQ (upQ v 3 v5) 4 v6) 5 v7) 6 = v 6 from rfl, e6] at p8)
    | (refine at_appL kI1 rfl (.tmp 116) (.tmp 118) rfl w.heap.size (v 6) (t.2.2.map (·.ln)) (by rw [e6]; try rfl) (by exact OwnL.vals.2 (K8.out.1.q.own 6 (by decide))) z7.heap.size n rfl K8.out.2 (by simp only [List.length_map]; have := hus.out; omega) K8.out.1.q.low.size ?_; intro v8 z9 AA; obtain ⟨r1, r2, r3, r4⟩ := app1_q AA.out; obtain ⟨sp2, c2, e2, _⟩ := AA.out.own.open kI1.len; simp only [List.length_append, List.length_map, List.length_cons, List.length_nil, Nat.zero_add] at e2; have hset := K8.out.1.set (k := 6) (by decide) r1 r2 r3 r4; have f9 := hset.1.fz 6; have p9 := bx_row hset.1 6 (by decide); rw [show (upQ (upQ (upQ v 3 v5) 4 v6) 5 v7) 6 = v 6 from rfl, e6] at p9; rw [e2] at hset; have hset' : Hid _ := hset.2.2.2; subst e2; clear hset r1 r2 r3 r4 AA))
  refine regJ w P y2.heap.size (upQ (upQ (upQ (upQ v 3 v5) 4 v6) 5 v7) 6 (.slice sp2 (t.2.2.length + 1) c2)) (upQ (upQ (upQ (upQ (vsD t) 3 ((t.2.2.map (·.lb)).map (fun s => Value.string s) ++ [.string asks])) 4 ((t.2.2.map (·.o.op)).map (fun a : Nat => Value.int .u8 (a : Int)) ++ [.int .u8 (op : Int)])) 5 ((t.2.2.map (·.pl)).map (fun a : Nat => Value.int .i64 (a : Int)) ++ [.int .i64 (t.1.length : Int)])) 6 ((t.2.2.map (·.ln)).map (fun a : Nat => Value.int .i64 (a : Int)) ++ [.int .i64 (n : Int)])) sp c op ⟨#[]⟩ asks d t.1 hdl.out rfl (by have := hby.out; omega) 122 (Nat.le_of_ble_eq_true (by kernel_rfl)) (by decide) (by kernel_rfl) (by kernel_rfl) (by kernel_rfl) (by kernel_rfl) (by exact ⟨_, rfl, rfl, rfl, rfl, by kernel_rfl⟩) (by exact ⟨_, rfl, rfl, rfl, rfl, by kernel_rfl⟩) (by exact ⟨_, rfl, rfl, rfl, rfl, by kernel_rfl⟩) (by exact ⟨_, rfl, rfl, rfl, rfl, by kernel_rfl⟩) (by exact ⟨_, rfl, rfl, rfl, rfl, by kernel_rfl⟩) (by exact ⟨_, rfl, rfl, rfl, rfl, by kernel_rfl⟩) (by exact ⟨_, rfl, rfl, rfl, rfl, by kernel_rfl⟩) (by exact ⟨_, rfl, rfl, rfl, rfl, by kernel_rfl⟩) (by exact ⟨_, rfl, rfl, rfl, rfl, by kernel_rfl⟩) (by exact ⟨_, rfl, rfl, rfl, rfl, by kernel_rfl⟩) (by exact ⟨_, rfl, rfl, rfl, rfl, by kernel_rfl⟩) (by kernel_rfl) (by kernel_rfl) (by kernel_rfl) (by first | exact hset'.out | exact hset'.out.drew | exact hset'.out.drew.drew) ?_
  intro vals z9 v9 hv hL9
  obtain ⟨e0, e1, e2, e3, e4, e5, e6, e7, e8, e9, rfl⟩ := len10 vals hv
  simp only [puts, Act.put, Nat.reduceAdd, List.setIfInBounds_toArray, List.set_cons_zero, List.set_cons_succ]
  go_wp2
  go_ret
  exact ⟨rfl, _, hL9.out.q.cong fun k hk => vsD_ask t n d asks op hasks.out k hk⟩
end Go.Proofs.YthaijjehplomfaaDoor
