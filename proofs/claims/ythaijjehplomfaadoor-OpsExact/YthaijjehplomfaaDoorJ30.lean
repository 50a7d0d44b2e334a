/- The labels' addresses laid into the orders that name them: settle's region. -/
import Derived.Test.YthaijjehplomfaaDoorJ29
namespace Go.Proofs.YthaijjehplomfaaDoor
open Go Go.RowKit
set_option linter.unusedVariables false
set_option maxHeartbeats 1000000
set_option maxRecDepth 20000

section
variable {α : Type} {T t : TypeId} {s bts : Nat} {c : α → List Value}
theorem rowL_set1 (hc : ∀ x, (c x).length = s) (i : Nat) (v : Value) (hi : i < s) (x : List α) : ∀ (k : Nat) (a e : α), x[k]? = some a → c e = (c a).set i v → rowL c (x.set k e) = (rowL c x).set (k * s + i) v := by
  induction x with
  | nil => intro k a e h; simp at h
  | cons y x ih =>
    intro k a e h he
    cases k with
    | zero =>
      simp at h
      subst h
      rw [List.set_cons_zero, rowL_cons, rowL_cons, he, Nat.zero_mul, Nat.zero_add, List.set_append_left _ _ (by rw [hc]; exact hi)]
    | succ k =>
      simp only [List.getElem?_cons_succ] at h
      rw [List.set_cons_succ, rowL_cons, rowL_cons, ih k a e h he, List.set_append_right _ _ (by rw [hc, Nat.succ_mul]; omega), hc, show (k + 1) * s + i - s = k * s + i by rw [Nat.succ_mul]; omega]
/-- One cell of an owned row is set. -/
theorem OwnL.set1 (hc : ∀ x, (c x).length = s) {B : Nat} {w : World} {g n cap : Nat} {x : List α} (h : OwnL t s c B w (.slice (some ⟨g, 0, none⟩) n cap) x) (k i : Nat) (a e : α) (v : Value) (hk : x[k]? = some a) (hi : i < s) (he : c e = (c a).set i v) : OwnL t s c B (w.setCell ⟨g, k * s + i, none⟩ v) (.slice (some ⟨g, 0, none⟩) n cap) (x.set k e) ∧ w.frozen? ⟨g, k * s + i, none⟩ = false ∧ B ≤ g := by
  obtain ⟨h1, h2⟩ := h
  rcases h2 with ⟨h0, _⟩ | ⟨g', cap', cur, hv, hb, hg, hn, hm, hs, ht⟩
  · simp at h0
  · simp at hv
    obtain ⟨rfl, hn', rfl⟩ := hv
    refine ⟨⟨by rw [rowL_len hc], .inr ⟨g, cap, _, by rw [List.length_set, hn'], hb, heap_setCell_same w g (k * s + i) cur t v hg, by rw [List.length_set]; exact hn, hm, ?_, ?_⟩⟩, frozen_heap hg _, hb⟩
    · rw [Array.size_setIfInBounds]; exact hs
    · rw [List.length_set, rowL_set1 hc i v hi x k a e hk he, ← ht, Array.toList_setIfInBounds, List.take_set]
end
/-- One byte of a program is set. -/
theorem Pg.setB {w : World} {P g gb nb capb : Nat} {vu : Value} {bs : List UInt8} {F : ByteArray → Option Nat} {us : List Us} {y : World} (h : Pg w P g (.slice (some ⟨gb, 0, none⟩) nb capb) vu bs F us y) (k : Nat) (a b : UInt8) (hk : bs[k]? = some a) :
    Pg w P g (.slice (some ⟨gb, 0, none⟩) nb capb) vu (bs.set k b) F us (y.setCell ⟨gb, k, none⟩ (byV b)) ∧ Kp y (y.setCell ⟨gb, k, none⟩ (byV b)) ∧ y.cell? ⟨gb, k, none⟩ = some (byV a) ∧ y.frozen? ⟨gb, k, none⟩ = false ∧ ∀ q cs t, Bx y q cs t → t ≠ 5 → Bx (y.setCell ⟨gb, k, none⟩ (byV b)) q cs t := by
  have s1 := h.bs.set1 kU.len k 0 a b (byV b) hk (by decide) rfl
  rw [Nat.mul_one, Nat.add_zero] at s1
  obtain ⟨cur, hx⟩ := h.bs.ty gb rfl
  have oth : ∀ q, q ≠ gb → (y.setCell ⟨gb, k, none⟩ (byV b)).heap[q]? = y.heap[q]? := fun q hq => heap_setCell_other y ⟨gb, k, none⟩ q _ hq
  have off : ∀ q cs t, Bx y q cs t → t ≠ 5 → Bx (y.setCell ⟨gb, k, none⟩ (byV b)) q cs t := fun q cs t hq ht => (oth q (Bx.unlike hq hx ht)).trans hq
  refine ⟨⟨off _ _ _ h.box (by decide), s1.1, h.mp.keep (oth g (map_ne h.mp hx)), h.us.keepB fun q e => ?_, h.geP, h.geg, h.low.trans ((Below.refl _ y).setCell (p := ⟨gb, k, none⟩) s1.2.2 (byV b))⟩, ⟨by simp, fun q o hq hr => (oth q (rec_ne hq hr hx)).trans hq, fun q cs t hq ht _ _ => off q cs t hq ht⟩, ?_, s1.2.1, off⟩
  · obtain ⟨cs, hx'⟩ := h.us.ty q e
    exact oth q (Bx.unlike hx' hx (by decide))
  · obtain ⟨sp, cp, e, hl, _, _, _⟩ := h.bs.open kU.len
    injection e with e1 e2 e3
    subst e1
    obtain ⟨g', o', e', hr⟩ := hl k a hk
    injection e' with e'
    injection e' with e1 e2
    subst e1
    subst e2
    have := hr 0 (byV a) rfl
    rw [Nat.zero_add, Nat.mul_one, Nat.add_zero] at this
    exact this
def actS (x0 x1 x2 x3 x4 x5 x6 x7 x8 x9 x10 x11 x12 x13 x14 x15 x16 x17 x18 x19 x20 x21 x22 x23 x24 x25 x26 x27 x28 x29 x30 x31 x32 x33 x34 x35 x36 x37 x38 x39 x40 x41 x61 v42 v43 v44 v45 v46 v47 v48 v49 v50 v51 v52 v53 v54 v55 v56 v57 v58 v59 v60 : Value) : Act := ⟨#[x0, x1, x2, x3, x4, x5, x6, x7, x8, x9, x10, x11, x12, x13, x14, x15, x16, x17, x18, x19, x20, x21, x22, x23, x24, x25, x26, x27, x28, x29, x30, x31, x32, x33, x34, x35, x36, x37, x38, x39, x40, x41, v42, v43, v44, v45, v46, v47, v48, v49, v50, v51, v52, v53, v54, v55, v56, v57, v58, v59, v60, x61], []⟩
def IS (w : World) (P g gb nb capb : Nat) (vu : Value) (bs : List UInt8) (F : ByteArray → Option Nat) (us : List Us) (u : Us) (q X : Nat) (hi lo : UInt8) (y0 : World) (x0 x1 x2 x3 x4 x5 x6 x7 x8 x9 x10 x11 x12 x13 x14 x15 x16 x17 x18 x19 x20 x21 x22 x23 x24 x25 x26 x27 x28 x29 x30 x31 x32 x33 x34 x35 x36 x37 x38 x39 x40 x41 x61 : Value) (s : Array Bool) (a : Act) (y : World) : Prop := s.size = 21 ∧ Kp y0 y ∧ Bx y q (us9 u) 108 ∧ ∃ (v42 v43 v44 v45 v46 v47 v48 v49 v50 v51 v52 v53 v54 v55 v56 v57 v58 v59 v60 : Value), a = actS x0 x1 x2 x3 x4 x5 x6 x7 x8 x9 x10 x11 x12 x13 x14 x15 x16 x17 x18 x19 x20 x21 x22 x23 x24 x25 x26 x27 x28 x29 x30 x31 x32 x33 x34 x35 x36 x37 x38 x39 x40 x41 x61 v42 v43 v44 v45 v46 v47 v48 v49 v50 v51 v52 v53 v54 v55 v56 v57 v58 v59 v60
  ∧ (s.getD 0 false = true → v42 = .pointer (some ⟨P, 0, none⟩))
  ∧ (s.getD 1 false = true → v43 = .pointer (some ⟨P, 0, none⟩))
  ∧ (s.getD 2 false = true → v44 = .pointer (some ⟨P, 0, none⟩))
  ∧ (s.getD 3 false = true → v45 = .slice (some ⟨gb, 0, none⟩) nb capb)
  ∧ (s.getD 4 false = true → v46 = .pointer (some ⟨q, 1, none⟩))
  ∧ (s.getD 5 false = true → v47 = .int .i64 (u.pl : Int))
  ∧ (s.getD 6 false = true → v48 = .pointer (some ⟨P, 0, none⟩))
  ∧ (s.getD 7 false = true → v49 = .pointer (some ⟨P, 0, none⟩))
  ∧ (s.getD 8 false = true → v50 = .pointer (some ⟨P, 0, none⟩))
  ∧ (s.getD 9 false = true → v51 = .slice (some ⟨gb, 0, none⟩) nb capb)
  ∧ (s.getD 10 false = true → v52 = .pointer (some ⟨q, 1, none⟩))
  ∧ (s.getD 11 false = true → v53 = .int .i64 (u.pl : Int))
  ∧ (s.getD 12 false = true → v54 = .int .i64 ((u.pl + 1 : Nat) : Int))
  ∧ (s.getD 13 false = true → v55 = .int .u16 (X : Int))
  ∧ (s.getD 14 false = true → v56 = byV hi)
  ∧ (s.getD 15 false = true → v57 = .int .u16 (X : Int))
  ∧ (s.getD 16 false = true → v58 = byV lo)
  ∧ (s.getD 17 false = true → v59 = .pointer (some ⟨gb, u.pl, none⟩))
  ∧ (s.getD 19 false = true → v60 = .pointer (some ⟨gb, u.pl + 1, none⟩))
  ∧ (s.getD 20 false = true → s.getD 18 false = true)
  ∧ (s.getD 18 false = false → Pg w P g (.slice (some ⟨gb, 0, none⟩) nb capb) vu bs F us y)
  ∧ (s.getD 18 false = true → s.getD 20 false = false → Pg w P g (.slice (some ⟨gb, 0, none⟩) nb capb) vu (bs.set u.pl hi) F us y)
  ∧ (s.getD 20 false = true → Pg w P g (.slice (some ⟨gb, 0, none⟩) nb capb) vu ((bs.set u.pl hi).set (u.pl + 1) lo) F us y)
theorem putS42 (x0 x1 x2 x3 x4 x5 x6 x7 x8 x9 x10 x11 x12 x13 x14 x15 x16 x17 x18 x19 x20 x21 x22 x23 x24 x25 x26 x27 x28 x29 x30 x31 x32 x33 x34 x35 x36 x37 x38 x39 x40 x41 x61 v42 v43 v44 v45 v46 v47 v48 v49 v50 v51 v52 v53 v54 v55 v56 v57 v58 v59 v60 v : Value) : (actS x0 x1 x2 x3 x4 x5 x6 x7 x8 x9 x10 x11 x12 x13 x14 x15 x16 x17 x18 x19 x20 x21 x22 x23 x24 x25 x26 x27 x28 x29 x30 x31 x32 x33 x34 x35 x36 x37 x38 x39 x40 x41 x61 v42 v43 v44 v45 v46 v47 v48 v49 v50 v51 v52 v53 v54 v55 v56 v57 v58 v59 v60).put (some 42) v = actS x0 x1 x2 x3 x4 x5 x6 x7 x8 x9 x10 x11 x12 x13 x14 x15 x16 x17 x18 x19 x20 x21 x22 x23 x24 x25 x26 x27 x28 x29 x30 x31 x32 x33 x34 x35 x36 x37 x38 x39 x40 x41 x61 v v43 v44 v45 v46 v47 v48 v49 v50 v51 v52 v53 v54 v55 v56 v57 v58 v59 v60 := by kernel_rfl
theorem putS43 (x0 x1 x2 x3 x4 x5 x6 x7 x8 x9 x10 x11 x12 x13 x14 x15 x16 x17 x18 x19 x20 x21 x22 x23 x24 x25 x26 x27 x28 x29 x30 x31 x32 x33 x34 x35 x36 x37 x38 x39 x40 x41 x61 v42 v43 v44 v45 v46 v47 v48 v49 v50 v51 v52 v53 v54 v55 v56 v57 v58 v59 v60 v : Value) : (actS x0 x1 x2 x3 x4 x5 x6 x7 x8 x9 x10 x11 x12 x13 x14 x15 x16 x17 x18 x19 x20 x21 x22 x23 x24 x25 x26 x27 x28 x29 x30 x31 x32 x33 x34 x35 x36 x37 x38 x39 x40 x41 x61 v42 v43 v44 v45 v46 v47 v48 v49 v50 v51 v52 v53 v54 v55 v56 v57 v58 v59 v60).put (some 43) v = actS x0 x1 x2 x3 x4 x5 x6 x7 x8 x9 x10 x11 x12 x13 x14 x15 x16 x17 x18 x19 x20 x21 x22 x23 x24 x25 x26 x27 x28 x29 x30 x31 x32 x33 x34 x35 x36 x37 x38 x39 x40 x41 x61 v42 v v44 v45 v46 v47 v48 v49 v50 v51 v52 v53 v54 v55 v56 v57 v58 v59 v60 := by kernel_rfl
theorem putS44 (x0 x1 x2 x3 x4 x5 x6 x7 x8 x9 x10 x11 x12 x13 x14 x15 x16 x17 x18 x19 x20 x21 x22 x23 x24 x25 x26 x27 x28 x29 x30 x31 x32 x33 x34 x35 x36 x37 x38 x39 x40 x41 x61 v42 v43 v44 v45 v46 v47 v48 v49 v50 v51 v52 v53 v54 v55 v56 v57 v58 v59 v60 v : Value) : (actS x0 x1 x2 x3 x4 x5 x6 x7 x8 x9 x10 x11 x12 x13 x14 x15 x16 x17 x18 x19 x20 x21 x22 x23 x24 x25 x26 x27 x28 x29 x30 x31 x32 x33 x34 x35 x36 x37 x38 x39 x40 x41 x61 v42 v43 v44 v45 v46 v47 v48 v49 v50 v51 v52 v53 v54 v55 v56 v57 v58 v59 v60).put (some 44) v = actS x0 x1 x2 x3 x4 x5 x6 x7 x8 x9 x10 x11 x12 x13 x14 x15 x16 x17 x18 x19 x20 x21 x22 x23 x24 x25 x26 x27 x28 x29 x30 x31 x32 x33 x34 x35 x36 x37 x38 x39 x40 x41 x61 v42 v43 v v45 v46 v47 v48 v49 v50 v51 v52 v53 v54 v55 v56 v57 v58 v59 v60 := by kernel_rfl
theorem putS45 (x0 x1 x2 x3 x4 x5 x6 x7 x8 x9 x10 x11 x12 x13 x14 x15 x16 x17 x18 x19 x20 x21 x22 x23 x24 x25 x26 x27 x28 x29 x30 x31 x32 x33 x34 x35 x36 x37 x38 x39 x40 x41 x61 v42 v43 v44 v45 v46 v47 v48 v49 v50 v51 v52 v53 v54 v55 v56 v57 v58 v59 v60 v : Value) : (actS x0 x1 x2 x3 x4 x5 x6 x7 x8 x9 x10 x11 x12 x13 x14 x15 x16 x17 x18 x19 x20 x21 x22 x23 x24 x25 x26 x27 x28 x29 x30 x31 x32 x33 x34 x35 x36 x37 x38 x39 x40 x41 x61 v42 v43 v44 v45 v46 v47 v48 v49 v50 v51 v52 v53 v54 v55 v56 v57 v58 v59 v60).put (some 45) v = actS x0 x1 x2 x3 x4 x5 x6 x7 x8 x9 x10 x11 x12 x13 x14 x15 x16 x17 x18 x19 x20 x21 x22 x23 x24 x25 x26 x27 x28 x29 x30 x31 x32 x33 x34 x35 x36 x37 x38 x39 x40 x41 x61 v42 v43 v44 v v46 v47 v48 v49 v50 v51 v52 v53 v54 v55 v56 v57 v58 v59 v60 := by kernel_rfl
theorem putS46 (x0 x1 x2 x3 x4 x5 x6 x7 x8 x9 x10 x11 x12 x13 x14 x15 x16 x17 x18 x19 x20 x21 x22 x23 x24 x25 x26 x27 x28 x29 x30 x31 x32 x33 x34 x35 x36 x37 x38 x39 x40 x41 x61 v42 v43 v44 v45 v46 v47 v48 v49 v50 v51 v52 v53 v54 v55 v56 v57 v58 v59 v60 v : Value) : (actS x0 x1 x2 x3 x4 x5 x6 x7 x8 x9 x10 x11 x12 x13 x14 x15 x16 x17 x18 x19 x20 x21 x22 x23 x24 x25 x26 x27 x28 x29 x30 x31 x32 x33 x34 x35 x36 x37 x38 x39 x40 x41 x61 v42 v43 v44 v45 v46 v47 v48 v49 v50 v51 v52 v53 v54 v55 v56 v57 v58 v59 v60).put (some 46) v = actS x0 x1 x2 x3 x4 x5 x6 x7 x8 x9 x10 x11 x12 x13 x14 x15 x16 x17 x18 x19 x20 x21 x22 x23 x24 x25 x26 x27 x28 x29 x30 x31 x32 x33 x34 x35 x36 x37 x38 x39 x40 x41 x61 v42 v43 v44 v45 v v47 v48 v49 v50 v51 v52 v53 v54 v55 v56 v57 v58 v59 v60 := by kernel_rfl
theorem putS47 (x0 x1 x2 x3 x4 x5 x6 x7 x8 x9 x10 x11 x12 x13 x14 x15 x16 x17 x18 x19 x20 x21 x22 x23 x24 x25 x26 x27 x28 x29 x30 x31 x32 x33 x34 x35 x36 x37 x38 x39 x40 x41 x61 v42 v43 v44 v45 v46 v47 v48 v49 v50 v51 v52 v53 v54 v55 v56 v57 v58 v59 v60 v : Value) : (actS x0 x1 x2 x3 x4 x5 x6 x7 x8 x9 x10 x11 x12 x13 x14 x15 x16 x17 x18 x19 x20 x21 x22 x23 x24 x25 x26 x27 x28 x29 x30 x31 x32 x33 x34 x35 x36 x37 x38 x39 x40 x41 x61 v42 v43 v44 v45 v46 v47 v48 v49 v50 v51 v52 v53 v54 v55 v56 v57 v58 v59 v60).put (some 47) v = actS x0 x1 x2 x3 x4 x5 x6 x7 x8 x9 x10 x11 x12 x13 x14 x15 x16 x17 x18 x19 x20 x21 x22 x23 x24 x25 x26 x27 x28 x29 x30 x31 x32 x33 x34 x35 x36 x37 x38 x39 x40 x41 x61 v42 v43 v44 v45 v46 v v48 v49 v50 v51 v52 v53 v54 v55 v56 v57 v58 v59 v60 := by kernel_rfl
theorem putS48 (x0 x1 x2 x3 x4 x5 x6 x7 x8 x9 x10 x11 x12 x13 x14 x15 x16 x17 x18 x19 x20 x21 x22 x23 x24 x25 x26 x27 x28 x29 x30 x31 x32 x33 x34 x35 x36 x37 x38 x39 x40 x41 x61 v42 v43 v44 v45 v46 v47 v48 v49 v50 v51 v52 v53 v54 v55 v56 v57 v58 v59 v60 v : Value) : (actS x0 x1 x2 x3 x4 x5 x6 x7 x8 x9 x10 x11 x12 x13 x14 x15 x16 x17 x18 x19 x20 x21 x22 x23 x24 x25 x26 x27 x28 x29 x30 x31 x32 x33 x34 x35 x36 x37 x38 x39 x40 x41 x61 v42 v43 v44 v45 v46 v47 v48 v49 v50 v51 v52 v53 v54 v55 v56 v57 v58 v59 v60).put (some 48) v = actS x0 x1 x2 x3 x4 x5 x6 x7 x8 x9 x10 x11 x12 x13 x14 x15 x16 x17 x18 x19 x20 x21 x22 x23 x24 x25 x26 x27 x28 x29 x30 x31 x32 x33 x34 x35 x36 x37 x38 x39 x40 x41 x61 v42 v43 v44 v45 v46 v47 v v49 v50 v51 v52 v53 v54 v55 v56 v57 v58 v59 v60 := by kernel_rfl
theorem putS49 (x0 x1 x2 x3 x4 x5 x6 x7 x8 x9 x10 x11 x12 x13 x14 x15 x16 x17 x18 x19 x20 x21 x22 x23 x24 x25 x26 x27 x28 x29 x30 x31 x32 x33 x34 x35 x36 x37 x38 x39 x40 x41 x61 v42 v43 v44 v45 v46 v47 v48 v49 v50 v51 v52 v53 v54 v55 v56 v57 v58 v59 v60 v : Value) : (actS x0 x1 x2 x3 x4 x5 x6 x7 x8 x9 x10 x11 x12 x13 x14 x15 x16 x17 x18 x19 x20 x21 x22 x23 x24 x25 x26 x27 x28 x29 x30 x31 x32 x33 x34 x35 x36 x37 x38 x39 x40 x41 x61 v42 v43 v44 v45 v46 v47 v48 v49 v50 v51 v52 v53 v54 v55 v56 v57 v58 v59 v60).put (some 49) v = actS x0 x1 x2 x3 x4 x5 x6 x7 x8 x9 x10 x11 x12 x13 x14 x15 x16 x17 x18 x19 x20 x21 x22 x23 x24 x25 x26 x27 x28 x29 x30 x31 x32 x33 x34 x35 x36 x37 x38 x39 x40 x41 x61 v42 v43 v44 v45 v46 v47 v48 v v50 v51 v52 v53 v54 v55 v56 v57 v58 v59 v60 := by kernel_rfl
theorem putS50 (x0 x1 x2 x3 x4 x5 x6 x7 x8 x9 x10 x11 x12 x13 x14 x15 x16 x17 x18 x19 x20 x21 x22 x23 x24 x25 x26 x27 x28 x29 x30 x31 x32 x33 x34 x35 x36 x37 x38 x39 x40 x41 x61 v42 v43 v44 v45 v46 v47 v48 v49 v50 v51 v52 v53 v54 v55 v56 v57 v58 v59 v60 v : Value) : (actS x0 x1 x2 x3 x4 x5 x6 x7 x8 x9 x10 x11 x12 x13 x14 x15 x16 x17 x18 x19 x20 x21 x22 x23 x24 x25 x26 x27 x28 x29 x30 x31 x32 x33 x34 x35 x36 x37 x38 x39 x40 x41 x61 v42 v43 v44 v45 v46 v47 v48 v49 v50 v51 v52 v53 v54 v55 v56 v57 v58 v59 v60).put (some 50) v = actS x0 x1 x2 x3 x4 x5 x6 x7 x8 x9 x10 x11 x12 x13 x14 x15 x16 x17 x18 x19 x20 x21 x22 x23 x24 x25 x26 x27 x28 x29 x30 x31 x32 x33 x34 x35 x36 x37 x38 x39 x40 x41 x61 v42 v43 v44 v45 v46 v47 v48 v49 v v51 v52 v53 v54 v55 v56 v57 v58 v59 v60 := by kernel_rfl
theorem putS51 (x0 x1 x2 x3 x4 x5 x6 x7 x8 x9 x10 x11 x12 x13 x14 x15 x16 x17 x18 x19 x20 x21 x22 x23 x24 x25 x26 x27 x28 x29 x30 x31 x32 x33 x34 x35 x36 x37 x38 x39 x40 x41 x61 v42 v43 v44 v45 v46 v47 v48 v49 v50 v51 v52 v53 v54 v55 v56 v57 v58 v59 v60 v : Value) : (actS x0 x1 x2 x3 x4 x5 x6 x7 x8 x9 x10 x11 x12 x13 x14 x15 x16 x17 x18 x19 x20 x21 x22 x23 x24 x25 x26 x27 x28 x29 x30 x31 x32 x33 x34 x35 x36 x37 x38 x39 x40 x41 x61 v42 v43 v44 v45 v46 v47 v48 v49 v50 v51 v52 v53 v54 v55 v56 v57 v58 v59 v60).put (some 51) v = actS x0 x1 x2 x3 x4 x5 x6 x7 x8 x9 x10 x11 x12 x13 x14 x15 x16 x17 x18 x19 x20 x21 x22 x23 x24 x25 x26 x27 x28 x29 x30 x31 x32 x33 x34 x35 x36 x37 x38 x39 x40 x41 x61 v42 v43 v44 v45 v46 v47 v48 v49 v50 v v52 v53 v54 v55 v56 v57 v58 v59 v60 := by kernel_rfl
theorem putS52 (x0 x1 x2 x3 x4 x5 x6 x7 x8 x9 x10 x11 x12 x13 x14 x15 x16 x17 x18 x19 x20 x21 x22 x23 x24 x25 x26 x27 x28 x29 x30 x31 x32 x33 x34 x35 x36 x37 x38 x39 x40 x41 x61 v42 v43 v44 v45 v46 v47 v48 v49 v50 v51 v52 v53 v54 v55 v56 v57 v58 v59 v60 v : Value) : (actS x0 x1 x2 x3 x4 x5 x6 x7 x8 x9 x10 x11 x12 x13 x14 x15 x16 x17 x18 x19 x20 x21 x22 x23 x24 x25 x26 x27 x28 x29 x30 x31 x32 x33 x34 x35 x36 x37 x38 x39 x40 x41 x61 v42 v43 v44 v45 v46 v47 v48 v49 v50 v51 v52 v53 v54 v55 v56 v57 v58 v59 v60).put (some 52) v = actS x0 x1 x2 x3 x4 x5 x6 x7 x8 x9 x10 x11 x12 x13 x14 x15 x16 x17 x18 x19 x20 x21 x22 x23 x24 x25 x26 x27 x28 x29 x30 x31 x32 x33 x34 x35 x36 x37 x38 x39 x40 x41 x61 v42 v43 v44 v45 v46 v47 v48 v49 v50 v51 v v53 v54 v55 v56 v57 v58 v59 v60 := by kernel_rfl
theorem putS53 (x0 x1 x2 x3 x4 x5 x6 x7 x8 x9 x10 x11 x12 x13 x14 x15 x16 x17 x18 x19 x20 x21 x22 x23 x24 x25 x26 x27 x28 x29 x30 x31 x32 x33 x34 x35 x36 x37 x38 x39 x40 x41 x61 v42 v43 v44 v45 v46 v47 v48 v49 v50 v51 v52 v53 v54 v55 v56 v57 v58 v59 v60 v : Value) : (actS x0 x1 x2 x3 x4 x5 x6 x7 x8 x9 x10 x11 x12 x13 x14 x15 x16 x17 x18 x19 x20 x21 x22 x23 x24 x25 x26 x27 x28 x29 x30 x31 x32 x33 x34 x35 x36 x37 x38 x39 x40 x41 x61 v42 v43 v44 v45 v46 v47 v48 v49 v50 v51 v52 v53 v54 v55 v56 v57 v58 v59 v60).put (some 53) v = actS x0 x1 x2 x3 x4 x5 x6 x7 x8 x9 x10 x11 x12 x13 x14 x15 x16 x17 x18 x19 x20 x21 x22 x23 x24 x25 x26 x27 x28 x29 x30 x31 x32 x33 x34 x35 x36 x37 x38 x39 x40 x41 x61 v42 v43 v44 v45 v46 v47 v48 v49 v50 v51 v52 v v54 v55 v56 v57 v58 v59 v60 := by kernel_rfl
theorem putS54 (x0 x1 x2 x3 x4 x5 x6 x7 x8 x9 x10 x11 x12 x13 x14 x15 x16 x17 x18 x19 x20 x21 x22 x23 x24 x25 x26 x27 x28 x29 x30 x31 x32 x33 x34 x35 x36 x37 x38 x39 x40 x41 x61 v42 v43 v44 v45 v46 v47 v48 v49 v50 v51 v52 v53 v54 v55 v56 v57 v58 v59 v60 v : Value) : (actS x0 x1 x2 x3 x4 x5 x6 x7 x8 x9 x10 x11 x12 x13 x14 x15 x16 x17 x18 x19 x20 x21 x22 x23 x24 x25 x26 x27 x28 x29 x30 x31 x32 x33 x34 x35 x36 x37 x38 x39 x40 x41 x61 v42 v43 v44 v45 v46 v47 v48 v49 v50 v51 v52 v53 v54 v55 v56 v57 v58 v59 v60).put (some 54) v = actS x0 x1 x2 x3 x4 x5 x6 x7 x8 x9 x10 x11 x12 x13 x14 x15 x16 x17 x18 x19 x20 x21 x22 x23 x24 x25 x26 x27 x28 x29 x30 x31 x32 x33 x34 x35 x36 x37 x38 x39 x40 x41 x61 v42 v43 v44 v45 v46 v47 v48 v49 v50 v51 v52 v53 v v55 v56 v57 v58 v59 v60 := by kernel_rfl
theorem putS55 (x0 x1 x2 x3 x4 x5 x6 x7 x8 x9 x10 x11 x12 x13 x14 x15 x16 x17 x18 x19 x20 x21 x22 x23 x24 x25 x26 x27 x28 x29 x30 x31 x32 x33 x34 x35 x36 x37 x38 x39 x40 x41 x61 v42 v43 v44 v45 v46 v47 v48 v49 v50 v51 v52 v53 v54 v55 v56 v57 v58 v59 v60 v : Value) : (actS x0 x1 x2 x3 x4 x5 x6 x7 x8 x9 x10 x11 x12 x13 x14 x15 x16 x17 x18 x19 x20 x21 x22 x23 x24 x25 x26 x27 x28 x29 x30 x31 x32 x33 x34 x35 x36 x37 x38 x39 x40 x41 x61 v42 v43 v44 v45 v46 v47 v48 v49 v50 v51 v52 v53 v54 v55 v56 v57 v58 v59 v60).put (some 55) v = actS x0 x1 x2 x3 x4 x5 x6 x7 x8 x9 x10 x11 x12 x13 x14 x15 x16 x17 x18 x19 x20 x21 x22 x23 x24 x25 x26 x27 x28 x29 x30 x31 x32 x33 x34 x35 x36 x37 x38 x39 x40 x41 x61 v42 v43 v44 v45 v46 v47 v48 v49 v50 v51 v52 v53 v54 v v56 v57 v58 v59 v60 := by kernel_rfl
theorem putS56 (x0 x1 x2 x3 x4 x5 x6 x7 x8 x9 x10 x11 x12 x13 x14 x15 x16 x17 x18 x19 x20 x21 x22 x23 x24 x25 x26 x27 x28 x29 x30 x31 x32 x33 x34 x35 x36 x37 x38 x39 x40 x41 x61 v42 v43 v44 v45 v46 v47 v48 v49 v50 v51 v52 v53 v54 v55 v56 v57 v58 v59 v60 v : Value) : (actS x0 x1 x2 x3 x4 x5 x6 x7 x8 x9 x10 x11 x12 x13 x14 x15 x16 x17 x18 x19 x20 x21 x22 x23 x24 x25 x26 x27 x28 x29 x30 x31 x32 x33 x34 x35 x36 x37 x38 x39 x40 x41 x61 v42 v43 v44 v45 v46 v47 v48 v49 v50 v51 v52 v53 v54 v55 v56 v57 v58 v59 v60).put (some 56) v = actS x0 x1 x2 x3 x4 x5 x6 x7 x8 x9 x10 x11 x12 x13 x14 x15 x16 x17 x18 x19 x20 x21 x22 x23 x24 x25 x26 x27 x28 x29 x30 x31 x32 x33 x34 x35 x36 x37 x38 x39 x40 x41 x61 v42 v43 v44 v45 v46 v47 v48 v49 v50 v51 v52 v53 v54 v55 v v57 v58 v59 v60 := by kernel_rfl
theorem putS57 (x0 x1 x2 x3 x4 x5 x6 x7 x8 x9 x10 x11 x12 x13 x14 x15 x16 x17 x18 x19 x20 x21 x22 x23 x24 x25 x26 x27 x28 x29 x30 x31 x32 x33 x34 x35 x36 x37 x38 x39 x40 x41 x61 v42 v43 v44 v45 v46 v47 v48 v49 v50 v51 v52 v53 v54 v55 v56 v57 v58 v59 v60 v : Value) : (actS x0 x1 x2 x3 x4 x5 x6 x7 x8 x9 x10 x11 x12 x13 x14 x15 x16 x17 x18 x19 x20 x21 x22 x23 x24 x25 x26 x27 x28 x29 x30 x31 x32 x33 x34 x35 x36 x37 x38 x39 x40 x41 x61 v42 v43 v44 v45 v46 v47 v48 v49 v50 v51 v52 v53 v54 v55 v56 v57 v58 v59 v60).put (some 57) v = actS x0 x1 x2 x3 x4 x5 x6 x7 x8 x9 x10 x11 x12 x13 x14 x15 x16 x17 x18 x19 x20 x21 x22 x23 x24 x25 x26 x27 x28 x29 x30 x31 x32 x33 x34 x35 x36 x37 x38 x39 x40 x41 x61 v42 v43 v44 v45 v46 v47 v48 v49 v50 v51 v52 v53 v54 v55 v56 v v58 v59 v60 := by kernel_rfl
theorem putS58 (x0 x1 x2 x3 x4 x5 x6 x7 x8 x9 x10 x11 x12 x13 x14 x15 x16 x17 x18 x19 x20 x21 x22 x23 x24 x25 x26 x27 x28 x29 x30 x31 x32 x33 x34 x35 x36 x37 x38 x39 x40 x41 x61 v42 v43 v44 v45 v46 v47 v48 v49 v50 v51 v52 v53 v54 v55 v56 v57 v58 v59 v60 v : Value) : (actS x0 x1 x2 x3 x4 x5 x6 x7 x8 x9 x10 x11 x12 x13 x14 x15 x16 x17 x18 x19 x20 x21 x22 x23 x24 x25 x26 x27 x28 x29 x30 x31 x32 x33 x34 x35 x36 x37 x38 x39 x40 x41 x61 v42 v43 v44 v45 v46 v47 v48 v49 v50 v51 v52 v53 v54 v55 v56 v57 v58 v59 v60).put (some 58) v = actS x0 x1 x2 x3 x4 x5 x6 x7 x8 x9 x10 x11 x12 x13 x14 x15 x16 x17 x18 x19 x20 x21 x22 x23 x24 x25 x26 x27 x28 x29 x30 x31 x32 x33 x34 x35 x36 x37 x38 x39 x40 x41 x61 v42 v43 v44 v45 v46 v47 v48 v49 v50 v51 v52 v53 v54 v55 v56 v57 v v59 v60 := by kernel_rfl
theorem putS59 (x0 x1 x2 x3 x4 x5 x6 x7 x8 x9 x10 x11 x12 x13 x14 x15 x16 x17 x18 x19 x20 x21 x22 x23 x24 x25 x26 x27 x28 x29 x30 x31 x32 x33 x34 x35 x36 x37 x38 x39 x40 x41 x61 v42 v43 v44 v45 v46 v47 v48 v49 v50 v51 v52 v53 v54 v55 v56 v57 v58 v59 v60 v : Value) : (actS x0 x1 x2 x3 x4 x5 x6 x7 x8 x9 x10 x11 x12 x13 x14 x15 x16 x17 x18 x19 x20 x21 x22 x23 x24 x25 x26 x27 x28 x29 x30 x31 x32 x33 x34 x35 x36 x37 x38 x39 x40 x41 x61 v42 v43 v44 v45 v46 v47 v48 v49 v50 v51 v52 v53 v54 v55 v56 v57 v58 v59 v60).put (some 59) v = actS x0 x1 x2 x3 x4 x5 x6 x7 x8 x9 x10 x11 x12 x13 x14 x15 x16 x17 x18 x19 x20 x21 x22 x23 x24 x25 x26 x27 x28 x29 x30 x31 x32 x33 x34 x35 x36 x37 x38 x39 x40 x41 x61 v42 v43 v44 v45 v46 v47 v48 v49 v50 v51 v52 v53 v54 v55 v56 v57 v58 v v60 := by kernel_rfl
theorem putS60 (x0 x1 x2 x3 x4 x5 x6 x7 x8 x9 x10 x11 x12 x13 x14 x15 x16 x17 x18 x19 x20 x21 x22 x23 x24 x25 x26 x27 x28 x29 x30 x31 x32 x33 x34 x35 x36 x37 x38 x39 x40 x41 x61 v42 v43 v44 v45 v46 v47 v48 v49 v50 v51 v52 v53 v54 v55 v56 v57 v58 v59 v60 v : Value) : (actS x0 x1 x2 x3 x4 x5 x6 x7 x8 x9 x10 x11 x12 x13 x14 x15 x16 x17 x18 x19 x20 x21 x22 x23 x24 x25 x26 x27 x28 x29 x30 x31 x32 x33 x34 x35 x36 x37 x38 x39 x40 x41 x61 v42 v43 v44 v45 v46 v47 v48 v49 v50 v51 v52 v53 v54 v55 v56 v57 v58 v59 v60).put (some 60) v = actS x0 x1 x2 x3 x4 x5 x6 x7 x8 x9 x10 x11 x12 x13 x14 x15 x16 x17 x18 x19 x20 x21 x22 x23 x24 x25 x26 x27 x28 x29 x30 x31 x32 x33 x34 x35 x36 x37 x38 x39 x40 x41 x61 v42 v43 v44 v45 v46 v47 v48 v49 v50 v51 v52 v53 v54 v55 v56 v57 v58 v59 v := by kernel_rfl
theorem putSn (x0 x1 x2 x3 x4 x5 x6 x7 x8 x9 x10 x11 x12 x13 x14 x15 x16 x17 x18 x19 x20 x21 x22 x23 x24 x25 x26 x27 x28 x29 x30 x31 x32 x33 x34 x35 x36 x37 x38 x39 x40 x41 x61 v42 v43 v44 v45 v46 v47 v48 v49 v50 v51 v52 v53 v54 v55 v56 v57 v58 v59 v60 v : Value) : (actS x0 x1 x2 x3 x4 x5 x6 x7 x8 x9 x10 x11 x12 x13 x14 x15 x16 x17 x18 x19 x20 x21 x22 x23 x24 x25 x26 x27 x28 x29 x30 x31 x32 x33 x34 x35 x36 x37 x38 x39 x40 x41 x61 v42 v43 v44 v45 v46 v47 v48 v49 v50 v51 v52 v53 v54 v55 v56 v57 v58 v59 v60).put none v = actS x0 x1 x2 x3 x4 x5 x6 x7 x8 x9 x10 x11 x12 x13 x14 x15 x16 x17 x18 x19 x20 x21 x22 x23 x24 x25 x26 x27 x28 x29 x30 x31 x32 x33 x34 x35 x36 x37 x38 x39 x40 x41 x61 v42 v43 v44 v45 v46 v47 v48 v49 v50 v51 v52 v53 v54 v55 v56 v57 v58 v59 v60 := by kernel_rfl
theorem evS0 (x0 x1 x2 x3 x4 x5 x6 x7 x8 x9 x10 x11 x12 x13 x14 x15 x16 x17 x18 x19 x20 x21 x22 x23 x24 x25 x26 x27 x28 x29 x30 x31 x32 x33 x34 x35 x36 x37 x38 x39 x40 x41 x61 v42 v43 v44 v45 v46 v47 v48 v49 v50 v51 v52 v53 v54 v55 v56 v57 v58 v59 v60 : Value) : (actS x0 x1 x2 x3 x4 x5 x6 x7 x8 x9 x10 x11 x12 x13 x14 x15 x16 x17 x18 x19 x20 x21 x22 x23 x24 x25 x26 x27 x28 x29 x30 x31 x32 x33 x34 x35 x36 x37 x38 x39 x40 x41 x61 v42 v43 v44 v45 v46 v47 v48 v49 v50 v51 v52 v53 v54 v55 v56 v57 v58 v59 v60).eval (.tmp 0) = x0 := by kernel_rfl
theorem evS5 (x0 x1 x2 x3 x4 x5 x6 x7 x8 x9 x10 x11 x12 x13 x14 x15 x16 x17 x18 x19 x20 x21 x22 x23 x24 x25 x26 x27 x28 x29 x30 x31 x32 x33 x34 x35 x36 x37 x38 x39 x40 x41 x61 v42 v43 v44 v45 v46 v47 v48 v49 v50 v51 v52 v53 v54 v55 v56 v57 v58 v59 v60 : Value) : (actS x0 x1 x2 x3 x4 x5 x6 x7 x8 x9 x10 x11 x12 x13 x14 x15 x16 x17 x18 x19 x20 x21 x22 x23 x24 x25 x26 x27 x28 x29 x30 x31 x32 x33 x34 x35 x36 x37 x38 x39 x40 x41 x61 v42 v43 v44 v45 v46 v47 v48 v49 v50 v51 v52 v53 v54 v55 v56 v57 v58 v59 v60).eval (.tmp 5) = x5 := by kernel_rfl
theorem evS8 (x0 x1 x2 x3 x4 x5 x6 x7 x8 x9 x10 x11 x12 x13 x14 x15 x16 x17 x18 x19 x20 x21 x22 x23 x24 x25 x26 x27 x28 x29 x30 x31 x32 x33 x34 x35 x36 x37 x38 x39 x40 x41 x61 v42 v43 v44 v45 v46 v47 v48 v49 v50 v51 v52 v53 v54 v55 v56 v57 v58 v59 v60 : Value) : (actS x0 x1 x2 x3 x4 x5 x6 x7 x8 x9 x10 x11 x12 x13 x14 x15 x16 x17 x18 x19 x20 x21 x22 x23 x24 x25 x26 x27 x28 x29 x30 x31 x32 x33 x34 x35 x36 x37 x38 x39 x40 x41 x61 v42 v43 v44 v45 v46 v47 v48 v49 v50 v51 v52 v53 v54 v55 v56 v57 v58 v59 v60).eval (.tmp 8) = x8 := by kernel_rfl
theorem evS42 (x0 x1 x2 x3 x4 x5 x6 x7 x8 x9 x10 x11 x12 x13 x14 x15 x16 x17 x18 x19 x20 x21 x22 x23 x24 x25 x26 x27 x28 x29 x30 x31 x32 x33 x34 x35 x36 x37 x38 x39 x40 x41 x61 v42 v43 v44 v45 v46 v47 v48 v49 v50 v51 v52 v53 v54 v55 v56 v57 v58 v59 v60 : Value) : (actS x0 x1 x2 x3 x4 x5 x6 x7 x8 x9 x10 x11 x12 x13 x14 x15 x16 x17 x18 x19 x20 x21 x22 x23 x24 x25 x26 x27 x28 x29 x30 x31 x32 x33 x34 x35 x36 x37 x38 x39 x40 x41 x61 v42 v43 v44 v45 v46 v47 v48 v49 v50 v51 v52 v53 v54 v55 v56 v57 v58 v59 v60).eval (.tmp 42) = v42 := by kernel_rfl
theorem evS43 (x0 x1 x2 x3 x4 x5 x6 x7 x8 x9 x10 x11 x12 x13 x14 x15 x16 x17 x18 x19 x20 x21 x22 x23 x24 x25 x26 x27 x28 x29 x30 x31 x32 x33 x34 x35 x36 x37 x38 x39 x40 x41 x61 v42 v43 v44 v45 v46 v47 v48 v49 v50 v51 v52 v53 v54 v55 v56 v57 v58 v59 v60 : Value) : (actS x0 x1 x2 x3 x4 x5 x6 x7 x8 x9 x10 x11 x12 x13 x14 x15 x16 x17 x18 x19 x20 x21 x22 x23 x24 x25 x26 x27 x28 x29 x30 x31 x32 x33 x34 x35 x36 x37 x38 x39 x40 x41 x61 v42 v43 v44 v45 v46 v47 v48 v49 v50 v51 v52 v53 v54 v55 v56 v57 v58 v59 v60).eval (.tmp 43) = v43 := by kernel_rfl
theorem evS44 (x0 x1 x2 x3 x4 x5 x6 x7 x8 x9 x10 x11 x12 x13 x14 x15 x16 x17 x18 x19 x20 x21 x22 x23 x24 x25 x26 x27 x28 x29 x30 x31 x32 x33 x34 x35 x36 x37 x38 x39 x40 x41 x61 v42 v43 v44 v45 v46 v47 v48 v49 v50 v51 v52 v53 v54 v55 v56 v57 v58 v59 v60 : Value) : (actS x0 x1 x2 x3 x4 x5 x6 x7 x8 x9 x10 x11 x12 x13 x14 x15 x16 x17 x18 x19 x20 x21 x22 x23 x24 x25 x26 x27 x28 x29 x30 x31 x32 x33 x34 x35 x36 x37 x38 x39 x40 x41 x61 v42 v43 v44 v45 v46 v47 v48 v49 v50 v51 v52 v53 v54 v55 v56 v57 v58 v59 v60).eval (.tmp 44) = v44 := by kernel_rfl
theorem evS45 (x0 x1 x2 x3 x4 x5 x6 x7 x8 x9 x10 x11 x12 x13 x14 x15 x16 x17 x18 x19 x20 x21 x22 x23 x24 x25 x26 x27 x28 x29 x30 x31 x32 x33 x34 x35 x36 x37 x38 x39 x40 x41 x61 v42 v43 v44 v45 v46 v47 v48 v49 v50 v51 v52 v53 v54 v55 v56 v57 v58 v59 v60 : Value) : (actS x0 x1 x2 x3 x4 x5 x6 x7 x8 x9 x10 x11 x12 x13 x14 x15 x16 x17 x18 x19 x20 x21 x22 x23 x24 x25 x26 x27 x28 x29 x30 x31 x32 x33 x34 x35 x36 x37 x38 x39 x40 x41 x61 v42 v43 v44 v45 v46 v47 v48 v49 v50 v51 v52 v53 v54 v55 v56 v57 v58 v59 v60).eval (.tmp 45) = v45 := by kernel_rfl
theorem evS46 (x0 x1 x2 x3 x4 x5 x6 x7 x8 x9 x10 x11 x12 x13 x14 x15 x16 x17 x18 x19 x20 x21 x22 x23 x24 x25 x26 x27 x28 x29 x30 x31 x32 x33 x34 x35 x36 x37 x38 x39 x40 x41 x61 v42 v43 v44 v45 v46 v47 v48 v49 v50 v51 v52 v53 v54 v55 v56 v57 v58 v59 v60 : Value) : (actS x0 x1 x2 x3 x4 x5 x6 x7 x8 x9 x10 x11 x12 x13 x14 x15 x16 x17 x18 x19 x20 x21 x22 x23 x24 x25 x26 x27 x28 x29 x30 x31 x32 x33 x34 x35 x36 x37 x38 x39 x40 x41 x61 v42 v43 v44 v45 v46 v47 v48 v49 v50 v51 v52 v53 v54 v55 v56 v57 v58 v59 v60).eval (.tmp 46) = v46 := by kernel_rfl
theorem evS47 (x0 x1 x2 x3 x4 x5 x6 x7 x8 x9 x10 x11 x12 x13 x14 x15 x16 x17 x18 x19 x20 x21 x22 x23 x24 x25 x26 x27 x28 x29 x30 x31 x32 x33 x34 x35 x36 x37 x38 x39 x40 x41 x61 v42 v43 v44 v45 v46 v47 v48 v49 v50 v51 v52 v53 v54 v55 v56 v57 v58 v59 v60 : Value) : (actS x0 x1 x2 x3 x4 x5 x6 x7 x8 x9 x10 x11 x12 x13 x14 x15 x16 x17 x18 x19 x20 x21 x22 x23 x24 x25 x26 x27 x28 x29 x30 x31 x32 x33 x34 x35 x36 x37 x38 x39 x40 x41 x61 v42 v43 v44 v45 v46 v47 v48 v49 v50 v51 v52 v53 v54 v55 v56 v57 v58 v59 v60).eval (.tmp 47) = v47 := by kernel_rfl
theorem evS48 (x0 x1 x2 x3 x4 x5 x6 x7 x8 x9 x10 x11 x12 x13 x14 x15 x16 x17 x18 x19 x20 x21 x22 x23 x24 x25 x26 x27 x28 x29 x30 x31 x32 x33 x34 x35 x36 x37 x38 x39 x40 x41 x61 v42 v43 v44 v45 v46 v47 v48 v49 v50 v51 v52 v53 v54 v55 v56 v57 v58 v59 v60 : Value) : (actS x0 x1 x2 x3 x4 x5 x6 x7 x8 x9 x10 x11 x12 x13 x14 x15 x16 x17 x18 x19 x20 x21 x22 x23 x24 x25 x26 x27 x28 x29 x30 x31 x32 x33 x34 x35 x36 x37 x38 x39 x40 x41 x61 v42 v43 v44 v45 v46 v47 v48 v49 v50 v51 v52 v53 v54 v55 v56 v57 v58 v59 v60).eval (.tmp 48) = v48 := by kernel_rfl
theorem evS49 (x0 x1 x2 x3 x4 x5 x6 x7 x8 x9 x10 x11 x12 x13 x14 x15 x16 x17 x18 x19 x20 x21 x22 x23 x24 x25 x26 x27 x28 x29 x30 x31 x32 x33 x34 x35 x36 x37 x38 x39 x40 x41 x61 v42 v43 v44 v45 v46 v47 v48 v49 v50 v51 v52 v53 v54 v55 v56 v57 v58 v59 v60 : Value) : (actS x0 x1 x2 x3 x4 x5 x6 x7 x8 x9 x10 x11 x12 x13 x14 x15 x16 x17 x18 x19 x20 x21 x22 x23 x24 x25 x26 x27 x28 x29 x30 x31 x32 x33 x34 x35 x36 x37 x38 x39 x40 x41 x61 v42 v43 v44 v45 v46 v47 v48 v49 v50 v51 v52 v53 v54 v55 v56 v57 v58 v59 v60).eval (.tmp 49) = v49 := by kernel_rfl
theorem evS50 (x0 x1 x2 x3 x4 x5 x6 x7 x8 x9 x10 x11 x12 x13 x14 x15 x16 x17 x18 x19 x20 x21 x22 x23 x24 x25 x26 x27 x28 x29 x30 x31 x32 x33 x34 x35 x36 x37 x38 x39 x40 x41 x61 v42 v43 v44 v45 v46 v47 v48 v49 v50 v51 v52 v53 v54 v55 v56 v57 v58 v59 v60 : Value) : (actS x0 x1 x2 x3 x4 x5 x6 x7 x8 x9 x10 x11 x12 x13 x14 x15 x16 x17 x18 x19 x20 x21 x22 x23 x24 x25 x26 x27 x28 x29 x30 x31 x32 x33 x34 x35 x36 x37 x38 x39 x40 x41 x61 v42 v43 v44 v45 v46 v47 v48 v49 v50 v51 v52 v53 v54 v55 v56 v57 v58 v59 v60).eval (.tmp 50) = v50 := by kernel_rfl
theorem evS51 (x0 x1 x2 x3 x4 x5 x6 x7 x8 x9 x10 x11 x12 x13 x14 x15 x16 x17 x18 x19 x20 x21 x22 x23 x24 x25 x26 x27 x28 x29 x30 x31 x32 x33 x34 x35 x36 x37 x38 x39 x40 x41 x61 v42 v43 v44 v45 v46 v47 v48 v49 v50 v51 v52 v53 v54 v55 v56 v57 v58 v59 v60 : Value) : (actS x0 x1 x2 x3 x4 x5 x6 x7 x8 x9 x10 x11 x12 x13 x14 x15 x16 x17 x18 x19 x20 x21 x22 x23 x24 x25 x26 x27 x28 x29 x30 x31 x32 x33 x34 x35 x36 x37 x38 x39 x40 x41 x61 v42 v43 v44 v45 v46 v47 v48 v49 v50 v51 v52 v53 v54 v55 v56 v57 v58 v59 v60).eval (.tmp 51) = v51 := by kernel_rfl
theorem evS52 (x0 x1 x2 x3 x4 x5 x6 x7 x8 x9 x10 x11 x12 x13 x14 x15 x16 x17 x18 x19 x20 x21 x22 x23 x24 x25 x26 x27 x28 x29 x30 x31 x32 x33 x34 x35 x36 x37 x38 x39 x40 x41 x61 v42 v43 v44 v45 v46 v47 v48 v49 v50 v51 v52 v53 v54 v55 v56 v57 v58 v59 v60 : Value) : (actS x0 x1 x2 x3 x4 x5 x6 x7 x8 x9 x10 x11 x12 x13 x14 x15 x16 x17 x18 x19 x20 x21 x22 x23 x24 x25 x26 x27 x28 x29 x30 x31 x32 x33 x34 x35 x36 x37 x38 x39 x40 x41 x61 v42 v43 v44 v45 v46 v47 v48 v49 v50 v51 v52 v53 v54 v55 v56 v57 v58 v59 v60).eval (.tmp 52) = v52 := by kernel_rfl
theorem evS53 (x0 x1 x2 x3 x4 x5 x6 x7 x8 x9 x10 x11 x12 x13 x14 x15 x16 x17 x18 x19 x20 x21 x22 x23 x24 x25 x26 x27 x28 x29 x30 x31 x32 x33 x34 x35 x36 x37 x38 x39 x40 x41 x61 v42 v43 v44 v45 v46 v47 v48 v49 v50 v51 v52 v53 v54 v55 v56 v57 v58 v59 v60 : Value) : (actS x0 x1 x2 x3 x4 x5 x6 x7 x8 x9 x10 x11 x12 x13 x14 x15 x16 x17 x18 x19 x20 x21 x22 x23 x24 x25 x26 x27 x28 x29 x30 x31 x32 x33 x34 x35 x36 x37 x38 x39 x40 x41 x61 v42 v43 v44 v45 v46 v47 v48 v49 v50 v51 v52 v53 v54 v55 v56 v57 v58 v59 v60).eval (.tmp 53) = v53 := by kernel_rfl
theorem evS54 (x0 x1 x2 x3 x4 x5 x6 x7 x8 x9 x10 x11 x12 x13 x14 x15 x16 x17 x18 x19 x20 x21 x22 x23 x24 x25 x26 x27 x28 x29 x30 x31 x32 x33 x34 x35 x36 x37 x38 x39 x40 x41 x61 v42 v43 v44 v45 v46 v47 v48 v49 v50 v51 v52 v53 v54 v55 v56 v57 v58 v59 v60 : Value) : (actS x0 x1 x2 x3 x4 x5 x6 x7 x8 x9 x10 x11 x12 x13 x14 x15 x16 x17 x18 x19 x20 x21 x22 x23 x24 x25 x26 x27 x28 x29 x30 x31 x32 x33 x34 x35 x36 x37 x38 x39 x40 x41 x61 v42 v43 v44 v45 v46 v47 v48 v49 v50 v51 v52 v53 v54 v55 v56 v57 v58 v59 v60).eval (.tmp 54) = v54 := by kernel_rfl
theorem evS55 (x0 x1 x2 x3 x4 x5 x6 x7 x8 x9 x10 x11 x12 x13 x14 x15 x16 x17 x18 x19 x20 x21 x22 x23 x24 x25 x26 x27 x28 x29 x30 x31 x32 x33 x34 x35 x36 x37 x38 x39 x40 x41 x61 v42 v43 v44 v45 v46 v47 v48 v49 v50 v51 v52 v53 v54 v55 v56 v57 v58 v59 v60 : Value) : (actS x0 x1 x2 x3 x4 x5 x6 x7 x8 x9 x10 x11 x12 x13 x14 x15 x16 x17 x18 x19 x20 x21 x22 x23 x24 x25 x26 x27 x28 x29 x30 x31 x32 x33 x34 x35 x36 x37 x38 x39 x40 x41 x61 v42 v43 v44 v45 v46 v47 v48 v49 v50 v51 v52 v53 v54 v55 v56 v57 v58 v59 v60).eval (.tmp 55) = v55 := by kernel_rfl
theorem evS56 (x0 x1 x2 x3 x4 x5 x6 x7 x8 x9 x10 x11 x12 x13 x14 x15 x16 x17 x18 x19 x20 x21 x22 x23 x24 x25 x26 x27 x28 x29 x30 x31 x32 x33 x34 x35 x36 x37 x38 x39 x40 x41 x61 v42 v43 v44 v45 v46 v47 v48 v49 v50 v51 v52 v53 v54 v55 v56 v57 v58 v59 v60 : Value) : (actS x0 x1 x2 x3 x4 x5 x6 x7 x8 x9 x10 x11 x12 x13 x14 x15 x16 x17 x18 x19 x20 x21 x22 x23 x24 x25 x26 x27 x28 x29 x30 x31 x32 x33 x34 x35 x36 x37 x38 x39 x40 x41 x61 v42 v43 v44 v45 v46 v47 v48 v49 v50 v51 v52 v53 v54 v55 v56 v57 v58 v59 v60).eval (.tmp 56) = v56 := by kernel_rfl
theorem evS57 (x0 x1 x2 x3 x4 x5 x6 x7 x8 x9 x10 x11 x12 x13 x14 x15 x16 x17 x18 x19 x20 x21 x22 x23 x24 x25 x26 x27 x28 x29 x30 x31 x32 x33 x34 x35 x36 x37 x38 x39 x40 x41 x61 v42 v43 v44 v45 v46 v47 v48 v49 v50 v51 v52 v53 v54 v55 v56 v57 v58 v59 v60 : Value) : (actS x0 x1 x2 x3 x4 x5 x6 x7 x8 x9 x10 x11 x12 x13 x14 x15 x16 x17 x18 x19 x20 x21 x22 x23 x24 x25 x26 x27 x28 x29 x30 x31 x32 x33 x34 x35 x36 x37 x38 x39 x40 x41 x61 v42 v43 v44 v45 v46 v47 v48 v49 v50 v51 v52 v53 v54 v55 v56 v57 v58 v59 v60).eval (.tmp 57) = v57 := by kernel_rfl
theorem evS58 (x0 x1 x2 x3 x4 x5 x6 x7 x8 x9 x10 x11 x12 x13 x14 x15 x16 x17 x18 x19 x20 x21 x22 x23 x24 x25 x26 x27 x28 x29 x30 x31 x32 x33 x34 x35 x36 x37 x38 x39 x40 x41 x61 v42 v43 v44 v45 v46 v47 v48 v49 v50 v51 v52 v53 v54 v55 v56 v57 v58 v59 v60 : Value) : (actS x0 x1 x2 x3 x4 x5 x6 x7 x8 x9 x10 x11 x12 x13 x14 x15 x16 x17 x18 x19 x20 x21 x22 x23 x24 x25 x26 x27 x28 x29 x30 x31 x32 x33 x34 x35 x36 x37 x38 x39 x40 x41 x61 v42 v43 v44 v45 v46 v47 v48 v49 v50 v51 v52 v53 v54 v55 v56 v57 v58 v59 v60).eval (.tmp 58) = v58 := by kernel_rfl
theorem evS59 (x0 x1 x2 x3 x4 x5 x6 x7 x8 x9 x10 x11 x12 x13 x14 x15 x16 x17 x18 x19 x20 x21 x22 x23 x24 x25 x26 x27 x28 x29 x30 x31 x32 x33 x34 x35 x36 x37 x38 x39 x40 x41 x61 v42 v43 v44 v45 v46 v47 v48 v49 v50 v51 v52 v53 v54 v55 v56 v57 v58 v59 v60 : Value) : (actS x0 x1 x2 x3 x4 x5 x6 x7 x8 x9 x10 x11 x12 x13 x14 x15 x16 x17 x18 x19 x20 x21 x22 x23 x24 x25 x26 x27 x28 x29 x30 x31 x32 x33 x34 x35 x36 x37 x38 x39 x40 x41 x61 v42 v43 v44 v45 v46 v47 v48 v49 v50 v51 v52 v53 v54 v55 v56 v57 v58 v59 v60).eval (.tmp 59) = v59 := by kernel_rfl
theorem evS60 (x0 x1 x2 x3 x4 x5 x6 x7 x8 x9 x10 x11 x12 x13 x14 x15 x16 x17 x18 x19 x20 x21 x22 x23 x24 x25 x26 x27 x28 x29 x30 x31 x32 x33 x34 x35 x36 x37 x38 x39 x40 x41 x61 v42 v43 v44 v45 v46 v47 v48 v49 v50 v51 v52 v53 v54 v55 v56 v57 v58 v59 v60 : Value) : (actS x0 x1 x2 x3 x4 x5 x6 x7 x8 x9 x10 x11 x12 x13 x14 x15 x16 x17 x18 x19 x20 x21 x22 x23 x24 x25 x26 x27 x28 x29 x30 x31 x32 x33 x34 x35 x36 x37 x38 x39 x40 x41 x61 v42 v43 v44 v45 v46 v47 v48 v49 v50 v51 v52 v53 v54 v55 v56 v57 v58 v59 v60).eval (.tmp 60) = v60 := by kernel_rfl
theorem lt21s {i : Nat} (h : i < 21) : i = 0 ∨ i = 1 ∨ i = 2 ∨ i = 3 ∨ i = 4 ∨ i = 5 ∨ i = 6 ∨ i = 7 ∨ i = 8 ∨ i = 9 ∨ i = 10 ∨ i = 11 ∨ i = 12 ∨ i = 13 ∨ i = 14 ∨ i = 15 ∨ i = 16 ∨ i = 17 ∨ i = 18 ∨ i = 19 ∨ i = 20 := by omega
theorem regS {ops : Array Oper} {Q : Exit → Act → World → Prop} {id : Nat} {a : Act} {y0 : World} (w : World) (P g gb nb capb : Nat) (vu : Value) (bs : List UInt8) (F : ByteArray → Option Nat) (us : List Us) (u : Us) (q X : Nat) (hi lo : UInt8) (hnb : nb ≤ 100000) (hpl : u.pl + 1 < nb) (a1 a2 : UInt8) (hk1 : bs[u.pl]? = some a1) (hk2 : bs[u.pl + 1]? = some a2) (hX : X ≤ 65535) (hhi : Value.int .u8 ((X : Int) / 256) = byV hi) (hlo : Value.int .u8 ((X : Int) % 256) = byV lo) (hq : Bx y0 q (us9 u) 108) (x0 x1 x2 x3 x4 x5 x6 x7 x8 x9 x10 x11 x12 x13 x14 x15 x16 x17 x18 x19 x20 x21 x22 x23 x24 x25 x26 x27 x28 x29 x30 x31 x32 x33 x34 x35 x36 x37 x38 x39 x40 x41 x61 : Value) (h0 : x0 = .pointer (some ⟨P, 0, none⟩)) (h5 : x5 = .pointer (some ⟨q, 0, none⟩)) (h8 : x8 = .int .u16 (X : Int)) (hsz : ops.size = 21) (hu : upB .any ops = true)
    (oq0 : OpA ops 0 (some 42) (.move (.tmp 0)) [])
    (oq1 : OpA ops 1 (some 43) (.nilCheck (.tmp 42)) [0])
    (oq2 : OpA ops 2 (some 44) (.fieldAddr 77 (.tmp 43) 0) [1])
    (oq3 : OpA ops 3 (some 45) (.load 45 (.tmp 44)) [2])
    (oq4 : OpA ops 4 (some 46) (.fieldAddr 108 (.tmp 5) 1) [])
    (oq5 : OpA ops 5 (some 47) (.load 3 (.tmp 46)) [4])
    (oq6 : OpA ops 6 (some 48) (.move (.tmp 0)) [])
    (oq7 : OpA ops 7 (some 49) (.nilCheck (.tmp 48)) [6])
    (oq8 : OpA ops 8 (some 50) (.fieldAddr 77 (.tmp 49) 0) [7])
    (oq9 : OpA ops 9 (some 51) (.load 45 (.tmp 50)) [8])
    (oq10 : OpA ops 10 (some 52) (.fieldAddr 108 (.tmp 5) 1) [])
    (oq11 : OpA ops 11 (some 53) (.load 3 (.tmp 52)) [10])
    (oq12 : OpA ops 12 (some 54) (.binOp .add 3 (.tmp 53) (.const (.int .i64 1)) 3) [11])
    (oq13 : OpA ops 13 (some 55) (.move (.tmp 8)) [])
    (oq14 : OpA ops 14 (some 56) (.call { callee := .value (.func 51), args := #[.tmp 55], argTypes := #[27] }) [13])
    (oq15 : OpA ops 15 (some 57) (.move (.tmp 8)) [])
    (oq16 : OpA ops 16 (some 58) (.call { callee := .value (.func 52), args := #[.tmp 57], argTypes := #[27] }) [15])
    (oq17 : OpA ops 17 (some 59) (.indexAddr 45 (.tmp 45) (.tmp 47)) [3, 5])
    (oq18 : OpA ops 18 none (.store 5 (.tmp 59) (.tmp 56)) [17, 14])
    (oq19 : OpA ops 19 (some 60) (.indexAddr 45 (.tmp 51) (.tmp 54)) [9, 12])
    (oq20 : OpA ops 20 none (.store 5 (.tmp 60) (.tmp 58)) [19, 16, 18])
    (hP : Pg w P g (.slice (some ⟨gb, 0, none⟩) nb capb) vu bs F us y0) (ha : ∃ v42 v43 v44 v45 v46 v47 v48 v49 v50 v51 v52 v53 v54 v55 v56 v57 v58 v59 v60, a = actS x0 x1 x2 x3 x4 x5 x6 x7 x8 x9 x10 x11 x12 x13 x14 x15 x16 x17 x18 x19 x20 x21 x22 x23 x24 x25 x26 x27 x28 x29 x30 x31 x32 x33 x34 x35 x36 x37 x38 x39 x40 x41 x61 v42 v43 v44 v45 v46 v47 v48 v49 v50 v51 v52 v53 v54 v55 v56 v57 v58 v59 v60)
    (fin : ∀ (y : World) (v42 v43 v44 v45 v46 v47 v48 v49 v50 v51 v52 v53 v54 v55 v56 v57 v58 v59 v60 : Value), Hid (Pg w P g (.slice (some ⟨gb, 0, none⟩) nb capb) vu ((bs.set u.pl hi).set (u.pl + 1) lo) F us y) → Hid (Kp y0 y) → Q .normal (actS x0 x1 x2 x3 x4 x5 x6 x7 x8 x9 x10 x11 x12 x13 x14 x15 x16 x17 x18 x19 x20 x21 x22 x23 x24 x25 x26 x27 x28 x29 x30 x31 x32 x33 x34 x35 x36 x37 x38 x39 x40 x41 x61 v42 v43 v44 v45 v46 v47 v48 v49 v50 v51 v52 v53 v54 v55 v56 v57 v58 v59 v60) y) : (Code.region id ops true).wp Tryd.prog Q a y0 := by
  have bd : ∀ x : World, Below x.heap.size x x.drew := fun x => ⟨rfl, rfl, rfl, Nat.le_refl _, fun _ _ => rfl⟩
  have ix1 : ∀ z, (Instr.indexAt 45 (.slice (some ⟨gb, 0, none⟩) nb capb) (.int .i64 (u.pl : Int))).run Tryd.prog z = .ok (.pointer (some ⟨gb, u.pl, none⟩)) z := fun z => by
    have h := idxP (P := Tryd.prog) (t := 45) (e := 5) (s := 1) (g := gb) (off := 0) (len := nb) (cap := capb) Tryd.underlying45 (by kernel_rfl) .i64 u.pl z (by omega)
    rwa [Nat.mul_one, Nat.zero_add] at h
  have ix2 : ∀ z, (Instr.indexAt 45 (.slice (some ⟨gb, 0, none⟩) nb capb) (.int .i64 ((u.pl + 1 : Nat) : Int))).run Tryd.prog z = .ok (.pointer (some ⟨gb, u.pl + 1, none⟩)) z := fun z => by
    have h := idxP (P := Tryd.prog) (t := 45) (e := 5) (s := 1) (g := gb) (off := 0) (len := nb) (cap := capb) Tryd.underlying45 (by kernel_rfl) .i64 (u.pl + 1) z (by omega)
    rwa [Nat.mul_one, Nat.zero_add] at h
  refine region_inv2 (IS w P g gb nb capb vu bs F us u q X hi lo y0 x0 x1 x2 x3 x4 x5 x6 x7 x8 x9 x10 x11 x12 x13 x14 x15 x16 x17 x18 x19 x20 x21 x22 x23 x24 x25 x26 x27 x28 x29 x30 x31 x32 x33 x34 x35 x36 x37 x38 x39 x40 x41 x61) (by kernel_rfl) hu (fun s a y h => by rw [h.1, hsz]) ?_ ?_ ?_
  · rw [hsz]
    obtain ⟨v42, v43, v44, v45, v46, v47, v48, v49, v50, v51, v52, v53, v54, v55, v56, v57, v58, v59, v60, ha⟩ := ha
    refine ⟨rfl, Kp.of_below (bd y0), (bd y0).block q (heap_lt hq) |>.trans hq, v42, v43, v44, v45, v46, v47, v48, v49, v50, v51, v52, v53, v54, v55, v56, v57, v58, v59, v60, ha, fun h => absurd h (by decide), fun h => absurd h (by decide), fun h => absurd h (by decide), fun h => absurd h (by decide), fun h => absurd h (by decide), fun h => absurd h (by decide), fun h => absurd h (by decide), fun h => absurd h (by decide), fun h => absurd h (by decide), fun h => absurd h (by decide), fun h => absurd h (by decide), fun h => absurd h (by decide), fun h => absurd h (by decide), fun h => absurd h (by decide), fun h => absurd h (by decide), fun h => absurd h (by decide), fun h => absurd h (by decide), fun h => absurd h (by decide), fun h => absurd h (by decide), fun h => absurd h (by decide), fun _ => hP.below (bd y0), fun h _ => absurd h (by decide), fun h => absurd h (by decide)⟩
  · intro s a y i o hI hoi hnd haf
    have hii : i < 21 := by rw [← hsz]; exact (Array.getElem?_eq_some_iff.1 hoi).1
    obtain ⟨hs, hk, hbx, v42, v43, v44, v45, v46, v47, v48, v49, v50, v51, v52, v53, v54, v55, v56, v57, v58, v59, v60, rfl, c0, c1, c2, c3, c4, c5, c6, c7, c8, c9, c10, c11, c12, c13, c14, c15, c16, c17, c19, d2, m0, m1, m2⟩ := hI
    have hset : ∀ j, (s.setIfInBounds i true).getD j false = if j = i then true else s.getD j false := fun j => getD_set s i j (by omega)
    have hsz' : (s.setIfInBounds i true).size = 21 := by simpa using hs
    have hb0 : y.cell? ⟨P, 0, none⟩ = some (.slice (some ⟨gb, 0, none⟩) nb capb) := by
      rcases q18 : s.getD 18 false with _ | _
      · exact (m0 q18).box.c 0 _ rfl
      · rcases q20 : s.getD 20 false with _ | _
        · exact (m1 q18 q20).box.c 0 _ rfl
        · exact (m2 q20).box.c 0 _ rfl
    have hu1 := hbx.c 1 (.int .i64 (u.pl : Int)) rfl
    rcases lt21s hii with rfl | rfl | rfl | rfl | rfl | rfl | rfl | rfl | rfl | rfl | rfl | rfl | rfl | rfl | rfl | rfl | rfl | rfl | rfl | rfl | rfl
    · obtain ⟨o', ho', og, od, oo, ow⟩ := oq0
      rw [ho'] at hoi
      injection hoi with hoi
      subst hoi
      refine wpOp_val (.pointer (some ⟨P, 0, none⟩)) ho' og ?_ ?_
      · unfold execOp; simp only [oo, evS0, h0, Sem.run_pure]
      · rw [od, putS42]
        exact ⟨hsz', hk, hbx, .pointer (some ⟨P, 0, none⟩), v43, v44, v45, v46, v47, v48, v49, v50, v51, v52, v53, v54, v55, v56, v57, v58, v59, v60, rfl, fun _ => rfl, fun h0 => c1 (by rw [hset] at h0; simpa using h0), fun h0 => c2 (by rw [hset] at h0; simpa using h0), fun h0 => c3 (by rw [hset] at h0; simpa using h0), fun h0 => c4 (by rw [hset] at h0; simpa using h0), fun h0 => c5 (by rw [hset] at h0; simpa using h0), fun h0 => c6 (by rw [hset] at h0; simpa using h0), fun h0 => c7 (by rw [hset] at h0; simpa using h0), fun h0 => c8 (by rw [hset] at h0; simpa using h0), fun h0 => c9 (by rw [hset] at h0; simpa using h0), fun h0 => c10 (by rw [hset] at h0; simpa using h0), fun h0 => c11 (by rw [hset] at h0; simpa using h0), fun h0 => c12 (by rw [hset] at h0; simpa using h0), fun h0 => c13 (by rw [hset] at h0; simpa using h0), fun h0 => c14 (by rw [hset] at h0; simpa using h0), fun h0 => c15 (by rw [hset] at h0; simpa using h0), fun h0 => c16 (by rw [hset] at h0; simpa using h0), fun h0 => c17 (by rw [hset] at h0; simpa using h0), fun h0 => c19 (by rw [hset] at h0; simpa using h0), fun h0 => by rw [hset]; split; rfl; exact d2 (by rw [hset] at h0; simpa using h0), fun h0 => m0 (by rw [hset] at h0; simpa using h0), fun h0 h1 => m1 (by rw [hset] at h0; simpa using h0) (by rw [hset] at h1; simpa using h1), fun h0 => m2 (by rw [hset] at h0; simpa using h0)⟩
    · obtain ⟨o', ho', og, od, oo, ow⟩ := oq1
      rw [ho'] at hoi
      injection hoi with hoi
      subst hoi
      have y0 : s.getD 0 false = true := by
        obtain ⟨e, m, b, n⟩ := ow 0 (by simp)
        have := haf e m b
        rwa [n] at this
      refine wpOp_val (.pointer (some ⟨P, 0, none⟩)) ho' og ?_ ?_
      · have e := c0 y0; subst e; unfold execOp; simp only [oo, evS42, Sem.run_pure]
      · rw [od, putS43]
        exact ⟨hsz', hk, hbx, v42, .pointer (some ⟨P, 0, none⟩), v44, v45, v46, v47, v48, v49, v50, v51, v52, v53, v54, v55, v56, v57, v58, v59, v60, rfl, fun h0 => c0 (by rw [hset] at h0; simpa using h0), fun _ => rfl, fun h0 => c2 (by rw [hset] at h0; simpa using h0), fun h0 => c3 (by rw [hset] at h0; simpa using h0), fun h0 => c4 (by rw [hset] at h0; simpa using h0), fun h0 => c5 (by rw [hset] at h0; simpa using h0), fun h0 => c6 (by rw [hset] at h0; simpa using h0), fun h0 => c7 (by rw [hset] at h0; simpa using h0), fun h0 => c8 (by rw [hset] at h0; simpa using h0), fun h0 => c9 (by rw [hset] at h0; simpa using h0), fun h0 => c10 (by rw [hset] at h0; simpa using h0), fun h0 => c11 (by rw [hset] at h0; simpa using h0), fun h0 => c12 (by rw [hset] at h0; simpa using h0), fun h0 => c13 (by rw [hset] at h0; simpa using h0), fun h0 => c14 (by rw [hset] at h0; simpa using h0), fun h0 => c15 (by rw [hset] at h0; simpa using h0), fun h0 => c16 (by rw [hset] at h0; simpa using h0), fun h0 => c17 (by rw [hset] at h0; simpa using h0), fun h0 => c19 (by rw [hset] at h0; simpa using h0), fun h0 => by rw [hset]; split; rfl; exact d2 (by rw [hset] at h0; simpa using h0), fun h0 => m0 (by rw [hset] at h0; simpa using h0), fun h0 h1 => m1 (by rw [hset] at h0; simpa using h0) (by rw [hset] at h1; simpa using h1), fun h0 => m2 (by rw [hset] at h0; simpa using h0)⟩
    · obtain ⟨o', ho', og, od, oo, ow⟩ := oq2
      rw [ho'] at hoi
      injection hoi with hoi
      subst hoi
      have y1 : s.getD 1 false = true := by
        obtain ⟨e, m, b, n⟩ := ow 1 (by simp)
        have := haf e m b
        rwa [n] at this
      refine wpOp_val (.pointer (some ⟨P, 0, none⟩)) ho' og ?_ ?_
      · have e := c1 y1; subst e; unfold execOp; simp only [oo, evS43]; show _ = _; kernel_rfl
      · rw [od, putS44]
        exact ⟨hsz', hk, hbx, v42, v43, .pointer (some ⟨P, 0, none⟩), v45, v46, v47, v48, v49, v50, v51, v52, v53, v54, v55, v56, v57, v58, v59, v60, rfl, fun h0 => c0 (by rw [hset] at h0; simpa using h0), fun h0 => c1 (by rw [hset] at h0; simpa using h0), fun _ => rfl, fun h0 => c3 (by rw [hset] at h0; simpa using h0), fun h0 => c4 (by rw [hset] at h0; simpa using h0), fun h0 => c5 (by rw [hset] at h0; simpa using h0), fun h0 => c6 (by rw [hset] at h0; simpa using h0), fun h0 => c7 (by rw [hset] at h0; simpa using h0), fun h0 => c8 (by rw [hset] at h0; simpa using h0), fun h0 => c9 (by rw [hset] at h0; simpa using h0), fun h0 => c10 (by rw [hset] at h0; simpa using h0), fun h0 => c11 (by rw [hset] at h0; simpa using h0), fun h0 => c12 (by rw [hset] at h0; simpa using h0), fun h0 => c13 (by rw [hset] at h0; simpa using h0), fun h0 => c14 (by rw [hset] at h0; simpa using h0), fun h0 => c15 (by rw [hset] at h0; simpa using h0), fun h0 => c16 (by rw [hset] at h0; simpa using h0), fun h0 => c17 (by rw [hset] at h0; simpa using h0), fun h0 => c19 (by rw [hset] at h0; simpa using h0), fun h0 => by rw [hset]; split; rfl; exact d2 (by rw [hset] at h0; simpa using h0), fun h0 => m0 (by rw [hset] at h0; simpa using h0), fun h0 h1 => m1 (by rw [hset] at h0; simpa using h0) (by rw [hset] at h1; simpa using h1), fun h0 => m2 (by rw [hset] at h0; simpa using h0)⟩
    · obtain ⟨o', ho', og, od, oo, ow⟩ := oq3
      rw [ho'] at hoi
      injection hoi with hoi
      subst hoi
      have y2 : s.getD 2 false = true := by
        obtain ⟨e, m, b, n⟩ := ow 2 (by simp)
        have := haf e m b
        rwa [n] at this
      refine wpOp_val (.slice (some ⟨gb, 0, none⟩) nb capb) ho' og ?_ ?_
      · have e := c2 y2; subst e
        unfold execOp; simp only [oo, evS44]; go_simp
      · rw [od, putS45]
        exact ⟨hsz', hk, hbx, v42, v43, v44, .slice (some ⟨gb, 0, none⟩) nb capb, v46, v47, v48, v49, v50, v51, v52, v53, v54, v55, v56, v57, v58, v59, v60, rfl, fun h0 => c0 (by rw [hset] at h0; simpa using h0), fun h0 => c1 (by rw [hset] at h0; simpa using h0), fun h0 => c2 (by rw [hset] at h0; simpa using h0), fun _ => rfl, fun h0 => c4 (by rw [hset] at h0; simpa using h0), fun h0 => c5 (by rw [hset] at h0; simpa using h0), fun h0 => c6 (by rw [hset] at h0; simpa using h0), fun h0 => c7 (by rw [hset] at h0; simpa using h0), fun h0 => c8 (by rw [hset] at h0; simpa using h0), fun h0 => c9 (by rw [hset] at h0; simpa using h0), fun h0 => c10 (by rw [hset] at h0; simpa using h0), fun h0 => c11 (by rw [hset] at h0; simpa using h0), fun h0 => c12 (by rw [hset] at h0; simpa using h0), fun h0 => c13 (by rw [hset] at h0; simpa using h0), fun h0 => c14 (by rw [hset] at h0; simpa using h0), fun h0 => c15 (by rw [hset] at h0; simpa using h0), fun h0 => c16 (by rw [hset] at h0; simpa using h0), fun h0 => c17 (by rw [hset] at h0; simpa using h0), fun h0 => c19 (by rw [hset] at h0; simpa using h0), fun h0 => by rw [hset]; split; rfl; exact d2 (by rw [hset] at h0; simpa using h0), fun h0 => m0 (by rw [hset] at h0; simpa using h0), fun h0 h1 => m1 (by rw [hset] at h0; simpa using h0) (by rw [hset] at h1; simpa using h1), fun h0 => m2 (by rw [hset] at h0; simpa using h0)⟩
    · obtain ⟨o', ho', og, od, oo, ow⟩ := oq4
      rw [ho'] at hoi
      injection hoi with hoi
      subst hoi
      refine wpOp_val (.pointer (some ⟨q, 1, none⟩)) ho' og ?_ ?_
      · unfold execOp; simp only [oo, evS5, h5]; show _ = _; kernel_rfl
      · rw [od, putS46]
        exact ⟨hsz', hk, hbx, v42, v43, v44, v45, .pointer (some ⟨q, 1, none⟩), v47, v48, v49, v50, v51, v52, v53, v54, v55, v56, v57, v58, v59, v60, rfl, fun h0 => c0 (by rw [hset] at h0; simpa using h0), fun h0 => c1 (by rw [hset] at h0; simpa using h0), fun h0 => c2 (by rw [hset] at h0; simpa using h0), fun h0 => c3 (by rw [hset] at h0; simpa using h0), fun _ => rfl, fun h0 => c5 (by rw [hset] at h0; simpa using h0), fun h0 => c6 (by rw [hset] at h0; simpa using h0), fun h0 => c7 (by rw [hset] at h0; simpa using h0), fun h0 => c8 (by rw [hset] at h0; simpa using h0), fun h0 => c9 (by rw [hset] at h0; simpa using h0), fun h0 => c10 (by rw [hset] at h0; simpa using h0), fun h0 => c11 (by rw [hset] at h0; simpa using h0), fun h0 => c12 (by rw [hset] at h0; simpa using h0), fun h0 => c13 (by rw [hset] at h0; simpa using h0), fun h0 => c14 (by rw [hset] at h0; simpa using h0), fun h0 => c15 (by rw [hset] at h0; simpa using h0), fun h0 => c16 (by rw [hset] at h0; simpa using h0), fun h0 => c17 (by rw [hset] at h0; simpa using h0), fun h0 => c19 (by rw [hset] at h0; simpa using h0), fun h0 => by rw [hset]; split; rfl; exact d2 (by rw [hset] at h0; simpa using h0), fun h0 => m0 (by rw [hset] at h0; simpa using h0), fun h0 h1 => m1 (by rw [hset] at h0; simpa using h0) (by rw [hset] at h1; simpa using h1), fun h0 => m2 (by rw [hset] at h0; simpa using h0)⟩
    · obtain ⟨o', ho', og, od, oo, ow⟩ := oq5
      rw [ho'] at hoi
      injection hoi with hoi
      subst hoi
      have y4 : s.getD 4 false = true := by
        obtain ⟨e, m, b, n⟩ := ow 4 (by simp)
        have := haf e m b
        rwa [n] at this
      refine wpOp_val (.int .i64 (u.pl : Int)) ho' og ?_ ?_
      · have e := c4 y4; subst e
        unfold execOp; simp only [oo, evS46]; go_simp
      · rw [od, putS47]
        exact ⟨hsz', hk, hbx, v42, v43, v44, v45, v46, .int .i64 (u.pl : Int), v48, v49, v50, v51, v52, v53, v54, v55, v56, v57, v58, v59, v60, rfl, fun h0 => c0 (by rw [hset] at h0; simpa using h0), fun h0 => c1 (by rw [hset] at h0; simpa using h0), fun h0 => c2 (by rw [hset] at h0; simpa using h0), fun h0 => c3 (by rw [hset] at h0; simpa using h0), fun h0 => c4 (by rw [hset] at h0; simpa using h0), fun _ => rfl, fun h0 => c6 (by rw [hset] at h0; simpa using h0), fun h0 => c7 (by rw [hset] at h0; simpa using h0), fun h0 => c8 (by rw [hset] at h0; simpa using h0), fun h0 => c9 (by rw [hset] at h0; simpa using h0), fun h0 => c10 (by rw [hset] at h0; simpa using h0), fun h0 => c11 (by rw [hset] at h0; simpa using h0), fun h0 => c12 (by rw [hset] at h0; simpa using h0), fun h0 => c13 (by rw [hset] at h0; simpa using h0), fun h0 => c14 (by rw [hset] at h0; simpa using h0), fun h0 => c15 (by rw [hset] at h0; simpa using h0), fun h0 => c16 (by rw [hset] at h0; simpa using h0), fun h0 => c17 (by rw [hset] at h0; simpa using h0), fun h0 => c19 (by rw [hset] at h0; simpa using h0), fun h0 => by rw [hset]; split; rfl; exact d2 (by rw [hset] at h0; simpa using h0), fun h0 => m0 (by rw [hset] at h0; simpa using h0), fun h0 h1 => m1 (by rw [hset] at h0; simpa using h0) (by rw [hset] at h1; simpa using h1), fun h0 => m2 (by rw [hset] at h0; simpa using h0)⟩
    · obtain ⟨o', ho', og, od, oo, ow⟩ := oq6
      rw [ho'] at hoi
      injection hoi with hoi
      subst hoi
      refine wpOp_val (.pointer (some ⟨P, 0, none⟩)) ho' og ?_ ?_
      · unfold execOp; simp only [oo, evS0, h0, Sem.run_pure]
      · rw [od, putS48]
        exact ⟨hsz', hk, hbx, v42, v43, v44, v45, v46, v47, .pointer (some ⟨P, 0, none⟩), v49, v50, v51, v52, v53, v54, v55, v56, v57, v58, v59, v60, rfl, fun h0 => c0 (by rw [hset] at h0; simpa using h0), fun h0 => c1 (by rw [hset] at h0; simpa using h0), fun h0 => c2 (by rw [hset] at h0; simpa using h0), fun h0 => c3 (by rw [hset] at h0; simpa using h0), fun h0 => c4 (by rw [hset] at h0; simpa using h0), fun h0 => c5 (by rw [hset] at h0; simpa using h0), fun _ => rfl, fun h0 => c7 (by rw [hset] at h0; simpa using h0), fun h0 => c8 (by rw [hset] at h0; simpa using h0), fun h0 => c9 (by rw [hset] at h0; simpa using h0), fun h0 => c10 (by rw [hset] at h0; simpa using h0), fun h0 => c11 (by rw [hset] at h0; simpa using h0), fun h0 => c12 (by rw [hset] at h0; simpa using h0), fun h0 => c13 (by rw [hset] at h0; simpa using h0), fun h0 => c14 (by rw [hset] at h0; simpa using h0), fun h0 => c15 (by rw [hset] at h0; simpa using h0), fun h0 => c16 (by rw [hset] at h0; simpa using h0), fun h0 => c17 (by rw [hset] at h0; simpa using h0), fun h0 => c19 (by rw [hset] at h0; simpa using h0), fun h0 => by rw [hset]; split; rfl; exact d2 (by rw [hset] at h0; simpa using h0), fun h0 => m0 (by rw [hset] at h0; simpa using h0), fun h0 h1 => m1 (by rw [hset] at h0; simpa using h0) (by rw [hset] at h1; simpa using h1), fun h0 => m2 (by rw [hset] at h0; simpa using h0)⟩
    · obtain ⟨o', ho', og, od, oo, ow⟩ := oq7
      rw [ho'] at hoi
      injection hoi with hoi
      subst hoi
      have y6 : s.getD 6 false = true := by
        obtain ⟨e, m, b, n⟩ := ow 6 (by simp)
        have := haf e m b
        rwa [n] at this
      refine wpOp_val (.pointer (some ⟨P, 0, none⟩)) ho' og ?_ ?_
      · have e := c6 y6; subst e; unfold execOp; simp only [oo, evS48, Sem.run_pure]
      · rw [od, putS49]
        exact ⟨hsz', hk, hbx, v42, v43, v44, v45, v46, v47, v48, .pointer (some ⟨P, 0, none⟩), v50, v51, v52, v53, v54, v55, v56, v57, v58, v59, v60, rfl, fun h0 => c0 (by rw [hset] at h0; simpa using h0), fun h0 => c1 (by rw [hset] at h0; simpa using h0), fun h0 => c2 (by rw [hset] at h0; simpa using h0), fun h0 => c3 (by rw [hset] at h0; simpa using h0), fun h0 => c4 (by rw [hset] at h0; simpa using h0), fun h0 => c5 (by rw [hset] at h0; simpa using h0), fun h0 => c6 (by rw [hset] at h0; simpa using h0), fun _ => rfl, fun h0 => c8 (by rw [hset] at h0; simpa using h0), fun h0 => c9 (by rw [hset] at h0; simpa using h0), fun h0 => c10 (by rw [hset] at h0; simpa using h0), fun h0 => c11 (by rw [hset] at h0; simpa using h0), fun h0 => c12 (by rw [hset] at h0; simpa using h0), fun h0 => c13 (by rw [hset] at h0; simpa using h0), fun h0 => c14 (by rw [hset] at h0; simpa using h0), fun h0 => c15 (by rw [hset] at h0; simpa using h0), fun h0 => c16 (by rw [hset] at h0; simpa using h0), fun h0 => c17 (by rw [hset] at h0; simpa using h0), fun h0 => c19 (by rw [hset] at h0; simpa using h0), fun h0 => by rw [hset]; split; rfl; exact d2 (by rw [hset] at h0; simpa using h0), fun h0 => m0 (by rw [hset] at h0; simpa using h0), fun h0 h1 => m1 (by rw [hset] at h0; simpa using h0) (by rw [hset] at h1; simpa using h1), fun h0 => m2 (by rw [hset] at h0; simpa using h0)⟩
    · obtain ⟨o', ho', og, od, oo, ow⟩ := oq8
      rw [ho'] at hoi
      injection hoi with hoi
      subst hoi
      have y7 : s.getD 7 false = true := by
        obtain ⟨e, m, b, n⟩ := ow 7 (by simp)
        have := haf e m b
        rwa [n] at this
      refine wpOp_val (.pointer (some ⟨P, 0, none⟩)) ho' og ?_ ?_
      · have e := c7 y7; subst e; unfold execOp; simp only [oo, evS49]; show _ = _; kernel_rfl
      · rw [od, putS50]
        exact ⟨hsz', hk, hbx, v42, v43, v44, v45, v46, v47, v48, v49, .pointer (some ⟨P, 0, none⟩), v51, v52, v53, v54, v55, v56, v57, v58, v59, v60, rfl, fun h0 => c0 (by rw [hset] at h0; simpa using h0), fun h0 => c1 (by rw [hset] at h0; simpa using h0), fun h0 => c2 (by rw [hset] at h0; simpa using h0), fun h0 => c3 (by rw [hset] at h0; simpa using h0), fun h0 => c4 (by rw [hset] at h0; simpa using h0), fun h0 => c5 (by rw [hset] at h0; simpa using h0), fun h0 => c6 (by rw [hset] at h0; simpa using h0), fun h0 => c7 (by rw [hset] at h0; simpa using h0), fun _ => rfl, fun h0 => c9 (by rw [hset] at h0; simpa using h0), fun h0 => c10 (by rw [hset] at h0; simpa using h0), fun h0 => c11 (by rw [hset] at h0; simpa using h0), fun h0 => c12 (by rw [hset] at h0; simpa using h0), fun h0 => c13 (by rw [hset] at h0; simpa using h0), fun h0 => c14 (by rw [hset] at h0; simpa using h0), fun h0 => c15 (by rw [hset] at h0; simpa using h0), fun h0 => c16 (by rw [hset] at h0; simpa using h0), fun h0 => c17 (by rw [hset] at h0; simpa using h0), fun h0 => c19 (by rw [hset] at h0; simpa using h0), fun h0 => by rw [hset]; split; rfl; exact d2 (by rw [hset] at h0; simpa using h0), fun h0 => m0 (by rw [hset] at h0; simpa using h0), fun h0 h1 => m1 (by rw [hset] at h0; simpa using h0) (by rw [hset] at h1; simpa using h1), fun h0 => m2 (by rw [hset] at h0; simpa using h0)⟩
    · obtain ⟨o', ho', og, od, oo, ow⟩ := oq9
      rw [ho'] at hoi
      injection hoi with hoi
      subst hoi
      have y8 : s.getD 8 false = true := by
        obtain ⟨e, m, b, n⟩ := ow 8 (by simp)
        have := haf e m b
        rwa [n] at this
      refine wpOp_val (.slice (some ⟨gb, 0, none⟩) nb capb) ho' og ?_ ?_
      · have e := c8 y8; subst e
        unfold execOp; simp only [oo, evS50]; go_simp
      · rw [od, putS51]
        exact ⟨hsz', hk, hbx, v42, v43, v44, v45, v46, v47, v48, v49, v50, .slice (some ⟨gb, 0, none⟩) nb capb, v52, v53, v54, v55, v56, v57, v58, v59, v60, rfl, fun h0 => c0 (by rw [hset] at h0; simpa using h0), fun h0 => c1 (by rw [hset] at h0; simpa using h0), fun h0 => c2 (by rw [hset] at h0; simpa using h0), fun h0 => c3 (by rw [hset] at h0; simpa using h0), fun h0 => c4 (by rw [hset] at h0; simpa using h0), fun h0 => c5 (by rw [hset] at h0; simpa using h0), fun h0 => c6 (by rw [hset] at h0; simpa using h0), fun h0 => c7 (by rw [hset] at h0; simpa using h0), fun h0 => c8 (by rw [hset] at h0; simpa using h0), fun _ => rfl, fun h0 => c10 (by rw [hset] at h0; simpa using h0), fun h0 => c11 (by rw [hset] at h0; simpa using h0), fun h0 => c12 (by rw [hset] at h0; simpa using h0), fun h0 => c13 (by rw [hset] at h0; simpa using h0), fun h0 => c14 (by rw [hset] at h0; simpa using h0), fun h0 => c15 (by rw [hset] at h0; simpa using h0), fun h0 => c16 (by rw [hset] at h0; simpa using h0), fun h0 => c17 (by rw [hset] at h0; simpa using h0), fun h0 => c19 (by rw [hset] at h0; simpa using h0), fun h0 => by rw [hset]; split; rfl; exact d2 (by rw [hset] at h0; simpa using h0), fun h0 => m0 (by rw [hset] at h0; simpa using h0), fun h0 h1 => m1 (by rw [hset] at h0; simpa using h0) (by rw [hset] at h1; simpa using h1), fun h0 => m2 (by rw [hset] at h0; simpa using h0)⟩
    · obtain ⟨o', ho', og, od, oo, ow⟩ := oq10
      rw [ho'] at hoi
      injection hoi with hoi
      subst hoi
      refine wpOp_val (.pointer (some ⟨q, 1, none⟩)) ho' og ?_ ?_
      · unfold execOp; simp only [oo, evS5, h5]; show _ = _; kernel_rfl
      · rw [od, putS52]
        exact ⟨hsz', hk, hbx, v42, v43, v44, v45, v46, v47, v48, v49, v50, v51, .pointer (some ⟨q, 1, none⟩), v53, v54, v55, v56, v57, v58, v59, v60, rfl, fun h0 => c0 (by rw [hset] at h0; simpa using h0), fun h0 => c1 (by rw [hset] at h0; simpa using h0), fun h0 => c2 (by rw [hset] at h0; simpa using h0), fun h0 => c3 (by rw [hset] at h0; simpa using h0), fun h0 => c4 (by rw [hset] at h0; simpa using h0), fun h0 => c5 (by rw [hset] at h0; simpa using h0), fun h0 => c6 (by rw [hset] at h0; simpa using h0), fun h0 => c7 (by rw [hset] at h0; simpa using h0), fun h0 => c8 (by rw [hset] at h0; simpa using h0), fun h0 => c9 (by rw [hset] at h0; simpa using h0), fun _ => rfl, fun h0 => c11 (by rw [hset] at h0; simpa using h0), fun h0 => c12 (by rw [hset] at h0; simpa using h0), fun h0 => c13 (by rw [hset] at h0; simpa using h0), fun h0 => c14 (by rw [hset] at h0; simpa using h0), fun h0 => c15 (by rw [hset] at h0; simpa using h0), fun h0 => c16 (by rw [hset] at h0; simpa using h0), fun h0 => c17 (by rw [hset] at h0; simpa using h0), fun h0 => c19 (by rw [hset] at h0; simpa using h0), fun h0 => by rw [hset]; split; rfl; exact d2 (by rw [hset] at h0; simpa using h0), fun h0 => m0 (by rw [hset] at h0; simpa using h0), fun h0 h1 => m1 (by rw [hset] at h0; simpa using h0) (by rw [hset] at h1; simpa using h1), fun h0 => m2 (by rw [hset] at h0; simpa using h0)⟩
    · obtain ⟨o', ho', og, od, oo, ow⟩ := oq11
      rw [ho'] at hoi
      injection hoi with hoi
      subst hoi
      have y10 : s.getD 10 false = true := by
        obtain ⟨e, m, b, n⟩ := ow 10 (by simp)
        have := haf e m b
        rwa [n] at this
      refine wpOp_val (.int .i64 (u.pl : Int)) ho' og ?_ ?_
      · have e := c10 y10; subst e
        unfold execOp; simp only [oo, evS52]; go_simp
      · rw [od, putS53]
        exact ⟨hsz', hk, hbx, v42, v43, v44, v45, v46, v47, v48, v49, v50, v51, v52, .int .i64 (u.pl : Int), v54, v55, v56, v57, v58, v59, v60, rfl, fun h0 => c0 (by rw [hset] at h0; simpa using h0), fun h0 => c1 (by rw [hset] at h0; simpa using h0), fun h0 => c2 (by rw [hset] at h0; simpa using h0), fun h0 => c3 (by rw [hset] at h0; simpa using h0), fun h0 => c4 (by rw [hset] at h0; simpa using h0), fun h0 => c5 (by rw [hset] at h0; simpa using h0), fun h0 => c6 (by rw [hset] at h0; simpa using h0), fun h0 => c7 (by rw [hset] at h0; simpa using h0), fun h0 => c8 (by rw [hset] at h0; simpa using h0), fun h0 => c9 (by rw [hset] at h0; simpa using h0), fun h0 => c10 (by rw [hset] at h0; simpa using h0), fun _ => rfl, fun h0 => c12 (by rw [hset] at h0; simpa using h0), fun h0 => c13 (by rw [hset] at h0; simpa using h0), fun h0 => c14 (by rw [hset] at h0; simpa using h0), fun h0 => c15 (by rw [hset] at h0; simpa using h0), fun h0 => c16 (by rw [hset] at h0; simpa using h0), fun h0 => c17 (by rw [hset] at h0; simpa using h0), fun h0 => c19 (by rw [hset] at h0; simpa using h0), fun h0 => by rw [hset]; split; rfl; exact d2 (by rw [hset] at h0; simpa using h0), fun h0 => m0 (by rw [hset] at h0; simpa using h0), fun h0 h1 => m1 (by rw [hset] at h0; simpa using h0) (by rw [hset] at h1; simpa using h1), fun h0 => m2 (by rw [hset] at h0; simpa using h0)⟩
    · obtain ⟨o', ho', og, od, oo, ow⟩ := oq12
      rw [ho'] at hoi
      injection hoi with hoi
      subst hoi
      have y11 : s.getD 11 false = true := by
        obtain ⟨e, m, b, n⟩ := ow 11 (by simp)
        have := haf e m b
        rwa [n] at this
      refine wpOp_val (.int .i64 ((u.pl + 1 : Nat) : Int)) ho' og ?_ ?_
      · have e : (actS x0 x1 x2 x3 x4 x5 x6 x7 x8 x9 x10 x11 x12 x13 x14 x15 x16 x17 x18 x19 x20 x21 x22 x23 x24 x25 x26 x27 x28 x29 x30 x31 x32 x33 x34 x35 x36 x37 x38 x39 x40 x41 x61 v42 v43 v44 v45 v46 v47 v48 v49 v50 v51 v52 v53 v54 v55 v56 v57 v58 v59 v60).eval (.tmp 53) = .int .i64 (u.pl : Int) := (evS53 ..).trans (c11 y11)
        have hw1 : IntKind.i64.wrap ((u.pl : Int) + 1) = (u.pl : Int) + 1 := by rw [IntKind.wrap_i64]; omega
        generalize actS x0 x1 x2 x3 x4 x5 x6 x7 x8 x9 x10 x11 x12 x13 x14 x15 x16 x17 x18 x19 x20 x21 x22 x23 x24 x25 x26 x27 x28 x29 x30 x31 x32 x33 x34 x35 x36 x37 x38 x39 x40 x41 x61 v42 v43 v44 v45 v46 v47 v48 v49 v50 v51 v52 v53 v54 v55 v56 v57 v58 v59 v60 = A at e
        simp only [Act.eval, Array.getD_eq_getD_getElem?] at e
        unfold execOp; simp only [oo]; go_simp
        try exact hw1
      · rw [od, putS54]
        exact ⟨hsz', hk, hbx, v42, v43, v44, v45, v46, v47, v48, v49, v50, v51, v52, v53, .int .i64 ((u.pl + 1 : Nat) : Int), v55, v56, v57, v58, v59, v60, rfl, fun h0 => c0 (by rw [hset] at h0; simpa using h0), fun h0 => c1 (by rw [hset] at h0; simpa using h0), fun h0 => c2 (by rw [hset] at h0; simpa using h0), fun h0 => c3 (by rw [hset] at h0; simpa using h0), fun h0 => c4 (by rw [hset] at h0; simpa using h0), fun h0 => c5 (by rw [hset] at h0; simpa using h0), fun h0 => c6 (by rw [hset] at h0; simpa using h0), fun h0 => c7 (by rw [hset] at h0; simpa using h0), fun h0 => c8 (by rw [hset] at h0; simpa using h0), fun h0 => c9 (by rw [hset] at h0; simpa using h0), fun h0 => c10 (by rw [hset] at h0; simpa using h0), fun h0 => c11 (by rw [hset] at h0; simpa using h0), fun _ => rfl, fun h0 => c13 (by rw [hset] at h0; simpa using h0), fun h0 => c14 (by rw [hset] at h0; simpa using h0), fun h0 => c15 (by rw [hset] at h0; simpa using h0), fun h0 => c16 (by rw [hset] at h0; simpa using h0), fun h0 => c17 (by rw [hset] at h0; simpa using h0), fun h0 => c19 (by rw [hset] at h0; simpa using h0), fun h0 => by rw [hset]; split; rfl; exact d2 (by rw [hset] at h0; simpa using h0), fun h0 => m0 (by rw [hset] at h0; simpa using h0), fun h0 h1 => m1 (by rw [hset] at h0; simpa using h0) (by rw [hset] at h1; simpa using h1), fun h0 => m2 (by rw [hset] at h0; simpa using h0)⟩
    · obtain ⟨o', ho', og, od, oo, ow⟩ := oq13
      rw [ho'] at hoi
      injection hoi with hoi
      subst hoi
      refine wpOp_val (.int .u16 (X : Int)) ho' og ?_ ?_
      · unfold execOp; simp only [oo, evS8, h8, Sem.run_pure]
      · rw [od, putS55]
        exact ⟨hsz', hk, hbx, v42, v43, v44, v45, v46, v47, v48, v49, v50, v51, v52, v53, v54, .int .u16 (X : Int), v56, v57, v58, v59, v60, rfl, fun h0 => c0 (by rw [hset] at h0; simpa using h0), fun h0 => c1 (by rw [hset] at h0; simpa using h0), fun h0 => c2 (by rw [hset] at h0; simpa using h0), fun h0 => c3 (by rw [hset] at h0; simpa using h0), fun h0 => c4 (by rw [hset] at h0; simpa using h0), fun h0 => c5 (by rw [hset] at h0; simpa using h0), fun h0 => c6 (by rw [hset] at h0; simpa using h0), fun h0 => c7 (by rw [hset] at h0; simpa using h0), fun h0 => c8 (by rw [hset] at h0; simpa using h0), fun h0 => c9 (by rw [hset] at h0; simpa using h0), fun h0 => c10 (by rw [hset] at h0; simpa using h0), fun h0 => c11 (by rw [hset] at h0; simpa using h0), fun h0 => c12 (by rw [hset] at h0; simpa using h0), fun _ => rfl, fun h0 => c14 (by rw [hset] at h0; simpa using h0), fun h0 => c15 (by rw [hset] at h0; simpa using h0), fun h0 => c16 (by rw [hset] at h0; simpa using h0), fun h0 => c17 (by rw [hset] at h0; simpa using h0), fun h0 => c19 (by rw [hset] at h0; simpa using h0), fun h0 => by rw [hset]; split; rfl; exact d2 (by rw [hset] at h0; simpa using h0), fun h0 => m0 (by rw [hset] at h0; simpa using h0), fun h0 h1 => m1 (by rw [hset] at h0; simpa using h0) (by rw [hset] at h1; simpa using h1), fun h0 => m2 (by rw [hset] at h0; simpa using h0)⟩
    · obtain ⟨o', ho', og, od, oo, ow⟩ := oq14
      rw [ho'] at hoi
      injection hoi with hoi
      subst hoi
      have y13 : s.getD 13 false = true := by
        obtain ⟨e, m, b, n⟩ := ow 13 (by simp)
        have := haf e m b
        rwa [n] at this
      have e : (actS x0 x1 x2 x3 x4 x5 x6 x7 x8 x9 x10 x11 x12 x13 x14 x15 x16 x17 x18 x19 x20 x21 x22 x23 x24 x25 x26 x27 x28 x29 x30 x31 x32 x33 x34 x35 x36 x37 x38 x39 x40 x41 x61 v42 v43 v44 v45 v46 v47 v48 v49 v50 v51 v52 v53 v54 v55 v56 v57 v58 v59 v60).eval (.tmp 55) = .int .u16 (X : Int) := (evS55 ..).trans (c13 y13)
      refine wpOp_call 51 #[.int .u16 (X : Int)] _ ho' og ?_ (high_any (X : Int) y (by omega) (by omega)) ?_
      · generalize actS x0 x1 x2 x3 x4 x5 x6 x7 x8 x9 x10 x11 x12 x13 x14 x15 x16 x17 x18 x19 x20 x21 x22 x23 x24 x25 x26 x27 x28 x29 x30 x31 x32 x33 x34 x35 x36 x37 x38 x39 x40 x41 x61 v42 v43 v44 v45 v46 v47 v48 v49 v50 v51 v52 v53 v54 v55 v56 v57 v58 v59 v60 = A at e
        simp only [Act.eval, Array.getD_eq_getD_getElem?] at e
        unfold execOp; simp only [oo]; go_simp
      · rintro e y ⟨rfl, rfl⟩
        refine ⟨_, rfl, ?_⟩
        rw [od, putS56]
        exact ⟨hsz', hk, hbx, v42, v43, v44, v45, v46, v47, v48, v49, v50, v51, v52, v53, v54, v55, .int .u8 ((X : Int) / 256), v57, v58, v59, v60, rfl, fun h0 => c0 (by rw [hset] at h0; simpa using h0), fun h0 => c1 (by rw [hset] at h0; simpa using h0), fun h0 => c2 (by rw [hset] at h0; simpa using h0), fun h0 => c3 (by rw [hset] at h0; simpa using h0), fun h0 => c4 (by rw [hset] at h0; simpa using h0), fun h0 => c5 (by rw [hset] at h0; simpa using h0), fun h0 => c6 (by rw [hset] at h0; simpa using h0), fun h0 => c7 (by rw [hset] at h0; simpa using h0), fun h0 => c8 (by rw [hset] at h0; simpa using h0), fun h0 => c9 (by rw [hset] at h0; simpa using h0), fun h0 => c10 (by rw [hset] at h0; simpa using h0), fun h0 => c11 (by rw [hset] at h0; simpa using h0), fun h0 => c12 (by rw [hset] at h0; simpa using h0), fun h0 => c13 (by rw [hset] at h0; simpa using h0), fun _ => hhi, fun h0 => c15 (by rw [hset] at h0; simpa using h0), fun h0 => c16 (by rw [hset] at h0; simpa using h0), fun h0 => c17 (by rw [hset] at h0; simpa using h0), fun h0 => c19 (by rw [hset] at h0; simpa using h0), fun h0 => by rw [hset]; split; rfl; exact d2 (by rw [hset] at h0; simpa using h0), fun h0 => m0 (by rw [hset] at h0; simpa using h0), fun h0 h1 => m1 (by rw [hset] at h0; simpa using h0) (by rw [hset] at h1; simpa using h1), fun h0 => m2 (by rw [hset] at h0; simpa using h0)⟩
    · obtain ⟨o', ho', og, od, oo, ow⟩ := oq15
      rw [ho'] at hoi
      injection hoi with hoi
      subst hoi
      refine wpOp_val (.int .u16 (X : Int)) ho' og ?_ ?_
      · unfold execOp; simp only [oo, evS8, h8, Sem.run_pure]
      · rw [od, putS57]
        exact ⟨hsz', hk, hbx, v42, v43, v44, v45, v46, v47, v48, v49, v50, v51, v52, v53, v54, v55, v56, .int .u16 (X : Int), v58, v59, v60, rfl, fun h0 => c0 (by rw [hset] at h0; simpa using h0), fun h0 => c1 (by rw [hset] at h0; simpa using h0), fun h0 => c2 (by rw [hset] at h0; simpa using h0), fun h0 => c3 (by rw [hset] at h0; simpa using h0), fun h0 => c4 (by rw [hset] at h0; simpa using h0), fun h0 => c5 (by rw [hset] at h0; simpa using h0), fun h0 => c6 (by rw [hset] at h0; simpa using h0), fun h0 => c7 (by rw [hset] at h0; simpa using h0), fun h0 => c8 (by rw [hset] at h0; simpa using h0), fun h0 => c9 (by rw [hset] at h0; simpa using h0), fun h0 => c10 (by rw [hset] at h0; simpa using h0), fun h0 => c11 (by rw [hset] at h0; simpa using h0), fun h0 => c12 (by rw [hset] at h0; simpa using h0), fun h0 => c13 (by rw [hset] at h0; simpa using h0), fun h0 => c14 (by rw [hset] at h0; simpa using h0), fun _ => rfl, fun h0 => c16 (by rw [hset] at h0; simpa using h0), fun h0 => c17 (by rw [hset] at h0; simpa using h0), fun h0 => c19 (by rw [hset] at h0; simpa using h0), fun h0 => by rw [hset]; split; rfl; exact d2 (by rw [hset] at h0; simpa using h0), fun h0 => m0 (by rw [hset] at h0; simpa using h0), fun h0 h1 => m1 (by rw [hset] at h0; simpa using h0) (by rw [hset] at h1; simpa using h1), fun h0 => m2 (by rw [hset] at h0; simpa using h0)⟩
    · obtain ⟨o', ho', og, od, oo, ow⟩ := oq16
      rw [ho'] at hoi
      injection hoi with hoi
      subst hoi
      have y15 : s.getD 15 false = true := by
        obtain ⟨e, m, b, n⟩ := ow 15 (by simp)
        have := haf e m b
        rwa [n] at this
      have e : (actS x0 x1 x2 x3 x4 x5 x6 x7 x8 x9 x10 x11 x12 x13 x14 x15 x16 x17 x18 x19 x20 x21 x22 x23 x24 x25 x26 x27 x28 x29 x30 x31 x32 x33 x34 x35 x36 x37 x38 x39 x40 x41 x61 v42 v43 v44 v45 v46 v47 v48 v49 v50 v51 v52 v53 v54 v55 v56 v57 v58 v59 v60).eval (.tmp 57) = .int .u16 (X : Int) := (evS57 ..).trans (c15 y15)
      refine wpOp_call 52 #[.int .u16 (X : Int)] _ ho' og ?_ (low_any (X : Int) y (by omega) (by omega)) ?_
      · generalize actS x0 x1 x2 x3 x4 x5 x6 x7 x8 x9 x10 x11 x12 x13 x14 x15 x16 x17 x18 x19 x20 x21 x22 x23 x24 x25 x26 x27 x28 x29 x30 x31 x32 x33 x34 x35 x36 x37 x38 x39 x40 x41 x61 v42 v43 v44 v45 v46 v47 v48 v49 v50 v51 v52 v53 v54 v55 v56 v57 v58 v59 v60 = A at e
        simp only [Act.eval, Array.getD_eq_getD_getElem?] at e
        unfold execOp; simp only [oo]; go_simp
      · rintro e y ⟨rfl, rfl⟩
        refine ⟨_, rfl, ?_⟩
        rw [od, putS58]
        exact ⟨hsz', hk, hbx, v42, v43, v44, v45, v46, v47, v48, v49, v50, v51, v52, v53, v54, v55, v56, v57, .int .u8 ((X : Int) % 256), v59, v60, rfl, fun h0 => c0 (by rw [hset] at h0; simpa using h0), fun h0 => c1 (by rw [hset] at h0; simpa using h0), fun h0 => c2 (by rw [hset] at h0; simpa using h0), fun h0 => c3 (by rw [hset] at h0; simpa using h0), fun h0 => c4 (by rw [hset] at h0; simpa using h0), fun h0 => c5 (by rw [hset] at h0; simpa using h0), fun h0 => c6 (by rw [hset] at h0; simpa using h0), fun h0 => c7 (by rw [hset] at h0; simpa using h0), fun h0 => c8 (by rw [hset] at h0; simpa using h0), fun h0 => c9 (by rw [hset] at h0; simpa using h0), fun h0 => c10 (by rw [hset] at h0; simpa using h0), fun h0 => c11 (by rw [hset] at h0; simpa using h0), fun h0 => c12 (by rw [hset] at h0; simpa using h0), fun h0 => c13 (by rw [hset] at h0; simpa using h0), fun h0 => c14 (by rw [hset] at h0; simpa using h0), fun h0 => c15 (by rw [hset] at h0; simpa using h0), fun _ => hlo, fun h0 => c17 (by rw [hset] at h0; simpa using h0), fun h0 => c19 (by rw [hset] at h0; simpa using h0), fun h0 => by rw [hset]; split; rfl; exact d2 (by rw [hset] at h0; simpa using h0), fun h0 => m0 (by rw [hset] at h0; simpa using h0), fun h0 h1 => m1 (by rw [hset] at h0; simpa using h0) (by rw [hset] at h1; simpa using h1), fun h0 => m2 (by rw [hset] at h0; simpa using h0)⟩
    · obtain ⟨o', ho', og, od, oo, ow⟩ := oq17
      rw [ho'] at hoi
      injection hoi with hoi
      subst hoi
      have y3 : s.getD 3 false = true := by
        obtain ⟨e, m, b, n⟩ := ow 3 (by simp)
        have := haf e m b
        rwa [n] at this
      have y5 : s.getD 5 false = true := by
        obtain ⟨e, m, b, n⟩ := ow 5 (by simp)
        have := haf e m b
        rwa [n] at this
      refine wpOp_val (.pointer (some ⟨gb, u.pl, none⟩)) ho' og ?_ ?_
      · have ea : (actS x0 x1 x2 x3 x4 x5 x6 x7 x8 x9 x10 x11 x12 x13 x14 x15 x16 x17 x18 x19 x20 x21 x22 x23 x24 x25 x26 x27 x28 x29 x30 x31 x32 x33 x34 x35 x36 x37 x38 x39 x40 x41 x61 v42 v43 v44 v45 v46 v47 v48 v49 v50 v51 v52 v53 v54 v55 v56 v57 v58 v59 v60).eval (.tmp 45) = .slice (some ⟨gb, 0, none⟩) nb capb := (evS45 ..).trans (c3 y3)
        have eb : (actS x0 x1 x2 x3 x4 x5 x6 x7 x8 x9 x10 x11 x12 x13 x14 x15 x16 x17 x18 x19 x20 x21 x22 x23 x24 x25 x26 x27 x28 x29 x30 x31 x32 x33 x34 x35 x36 x37 x38 x39 x40 x41 x61 v42 v43 v44 v45 v46 v47 v48 v49 v50 v51 v52 v53 v54 v55 v56 v57 v58 v59 v60).eval (.tmp 47) = .int .i64 (u.pl : Int) := (evS47 ..).trans (c5 y5)
        unfold execOp; simp only [oo, ea, eb, Sem.run_bind, ix1, Result.andThen_ok, Sem.run_pure]
      · rw [od, putS59]
        exact ⟨hsz', hk, hbx, v42, v43, v44, v45, v46, v47, v48, v49, v50, v51, v52, v53, v54, v55, v56, v57, v58, .pointer (some ⟨gb, u.pl, none⟩), v60, rfl, fun h0 => c0 (by rw [hset] at h0; simpa using h0), fun h0 => c1 (by rw [hset] at h0; simpa using h0), fun h0 => c2 (by rw [hset] at h0; simpa using h0), fun h0 => c3 (by rw [hset] at h0; simpa using h0), fun h0 => c4 (by rw [hset] at h0; simpa using h0), fun h0 => c5 (by rw [hset] at h0; simpa using h0), fun h0 => c6 (by rw [hset] at h0; simpa using h0), fun h0 => c7 (by rw [hset] at h0; simpa using h0), fun h0 => c8 (by rw [hset] at h0; simpa using h0), fun h0 => c9 (by rw [hset] at h0; simpa using h0), fun h0 => c10 (by rw [hset] at h0; simpa using h0), fun h0 => c11 (by rw [hset] at h0; simpa using h0), fun h0 => c12 (by rw [hset] at h0; simpa using h0), fun h0 => c13 (by rw [hset] at h0; simpa using h0), fun h0 => c14 (by rw [hset] at h0; simpa using h0), fun h0 => c15 (by rw [hset] at h0; simpa using h0), fun h0 => c16 (by rw [hset] at h0; simpa using h0), fun _ => rfl, fun h0 => c19 (by rw [hset] at h0; simpa using h0), fun h0 => by rw [hset]; split; rfl; exact d2 (by rw [hset] at h0; simpa using h0), fun h0 => m0 (by rw [hset] at h0; simpa using h0), fun h0 h1 => m1 (by rw [hset] at h0; simpa using h0) (by rw [hset] at h1; simpa using h1), fun h0 => m2 (by rw [hset] at h0; simpa using h0)⟩
    · obtain ⟨o', ho', og, od, oo, ow⟩ := oq18
      rw [ho'] at hoi
      injection hoi with hoi
      subst hoi
      have y17 : s.getD 17 false = true := by
        obtain ⟨e, m, b, n⟩ := ow 17 (by simp)
        have := haf e m b
        rwa [n] at this
      have y14 : s.getD 14 false = true := by
        obtain ⟨e, m, b, n⟩ := ow 14 (by simp)
        have := haf e m b
        rwa [n] at this
      have n20 : s.getD 20 false = false := by
        rcases hh : s.getD 20 false with _ | _
        · rfl
        · rw [d2 hh] at hnd; cases hnd
      have hput := (m0 hnd).setB u.pl a1 hi hk1
      have qa : (actS x0 x1 x2 x3 x4 x5 x6 x7 x8 x9 x10 x11 x12 x13 x14 x15 x16 x17 x18 x19 x20 x21 x22 x23 x24 x25 x26 x27 x28 x29 x30 x31 x32 x33 x34 x35 x36 x37 x38 x39 x40 x41 x61 v42 v43 v44 v45 v46 v47 v48 v49 v50 v51 v52 v53 v54 v55 v56 v57 v58 v59 v60).eval (.tmp 59) = .pointer (some ⟨gb, u.pl, none⟩) := (evS59 ..).trans (c17 y17)
      have qb : (actS x0 x1 x2 x3 x4 x5 x6 x7 x8 x9 x10 x11 x12 x13 x14 x15 x16 x17 x18 x19 x20 x21 x22 x23 x24 x25 x26 x27 x28 x29 x30 x31 x32 x33 x34 x35 x36 x37 x38 x39 x40 x41 x61 v42 v43 v44 v45 v46 v47 v48 v49 v50 v51 v52 v53 v54 v55 v56 v57 v58 v59 v60).eval (.tmp 56) = .int .u8 (hi.toNat : Int) := (evS56 ..).trans (c14 y14)
      have k1 : y.cell? ⟨gb, u.pl, none⟩ = some (.int .u8 (a1.toNat : Int)) := hput.2.2.1
      have k2 := hput.2.2.2.1
      refine wpOp_skip (w' := y.setCell ⟨gb, u.pl, none⟩ (.int .u8 (hi.toNat : Int))) ho' og ?_ ?_
      · generalize actS x0 x1 x2 x3 x4 x5 x6 x7 x8 x9 x10 x11 x12 x13 x14 x15 x16 x17 x18 x19 x20 x21 x22 x23 x24 x25 x26 x27 x28 x29 x30 x31 x32 x33 x34 x35 x36 x37 x38 x39 x40 x41 x61 v42 v43 v44 v45 v46 v47 v48 v49 v50 v51 v52 v53 v54 v55 v56 v57 v58 v59 v60 = A at qa qb
        simp only [Act.eval, Array.getD_eq_getD_getElem?] at qa qb
        unfold execOp; simp only [oo]; go_simp
      · rw [od, putSn]
        exact ⟨hsz', hk.trans hput.2.1, hput.2.2.2.2 _ _ _ hbx (by decide), v42, v43, v44, v45, v46, v47, v48, v49, v50, v51, v52, v53, v54, v55, v56, v57, v58, v59, v60, rfl, fun h0 => c0 (by rw [hset] at h0; simpa using h0), fun h0 => c1 (by rw [hset] at h0; simpa using h0), fun h0 => c2 (by rw [hset] at h0; simpa using h0), fun h0 => c3 (by rw [hset] at h0; simpa using h0), fun h0 => c4 (by rw [hset] at h0; simpa using h0), fun h0 => c5 (by rw [hset] at h0; simpa using h0), fun h0 => c6 (by rw [hset] at h0; simpa using h0), fun h0 => c7 (by rw [hset] at h0; simpa using h0), fun h0 => c8 (by rw [hset] at h0; simpa using h0), fun h0 => c9 (by rw [hset] at h0; simpa using h0), fun h0 => c10 (by rw [hset] at h0; simpa using h0), fun h0 => c11 (by rw [hset] at h0; simpa using h0), fun h0 => c12 (by rw [hset] at h0; simpa using h0), fun h0 => c13 (by rw [hset] at h0; simpa using h0), fun h0 => c14 (by rw [hset] at h0; simpa using h0), fun h0 => c15 (by rw [hset] at h0; simpa using h0), fun h0 => c16 (by rw [hset] at h0; simpa using h0), fun h0 => c17 (by rw [hset] at h0; simpa using h0), fun h0 => c19 (by rw [hset] at h0; simpa using h0), fun _ => by rw [hset]; simp, fun h0 => absurd h0 (by rw [hset]; simp), fun _ _ => hput.1, fun h0 => absurd (show s.getD 20 false = true by rw [hset] at h0; simpa using h0) (by rw [n20]; simp)⟩
    · obtain ⟨o', ho', og, od, oo, ow⟩ := oq19
      rw [ho'] at hoi
      injection hoi with hoi
      subst hoi
      have y9 : s.getD 9 false = true := by
        obtain ⟨e, m, b, n⟩ := ow 9 (by simp)
        have := haf e m b
        rwa [n] at this
      have y12 : s.getD 12 false = true := by
        obtain ⟨e, m, b, n⟩ := ow 12 (by simp)
        have := haf e m b
        rwa [n] at this
      refine wpOp_val (.pointer (some ⟨gb, u.pl + 1, none⟩)) ho' og ?_ ?_
      · have ea : (actS x0 x1 x2 x3 x4 x5 x6 x7 x8 x9 x10 x11 x12 x13 x14 x15 x16 x17 x18 x19 x20 x21 x22 x23 x24 x25 x26 x27 x28 x29 x30 x31 x32 x33 x34 x35 x36 x37 x38 x39 x40 x41 x61 v42 v43 v44 v45 v46 v47 v48 v49 v50 v51 v52 v53 v54 v55 v56 v57 v58 v59 v60).eval (.tmp 51) = .slice (some ⟨gb, 0, none⟩) nb capb := (evS51 ..).trans (c9 y9)
        have eb : (actS x0 x1 x2 x3 x4 x5 x6 x7 x8 x9 x10 x11 x12 x13 x14 x15 x16 x17 x18 x19 x20 x21 x22 x23 x24 x25 x26 x27 x28 x29 x30 x31 x32 x33 x34 x35 x36 x37 x38 x39 x40 x41 x61 v42 v43 v44 v45 v46 v47 v48 v49 v50 v51 v52 v53 v54 v55 v56 v57 v58 v59 v60).eval (.tmp 54) = .int .i64 ((u.pl + 1 : Nat) : Int) := (evS54 ..).trans (c12 y12)
        unfold execOp; simp only [oo, ea, eb, Sem.run_bind, ix2, Result.andThen_ok, Sem.run_pure]
      · rw [od, putS60]
        exact ⟨hsz', hk, hbx, v42, v43, v44, v45, v46, v47, v48, v49, v50, v51, v52, v53, v54, v55, v56, v57, v58, v59, .pointer (some ⟨gb, u.pl + 1, none⟩), rfl, fun h0 => c0 (by rw [hset] at h0; simpa using h0), fun h0 => c1 (by rw [hset] at h0; simpa using h0), fun h0 => c2 (by rw [hset] at h0; simpa using h0), fun h0 => c3 (by rw [hset] at h0; simpa using h0), fun h0 => c4 (by rw [hset] at h0; simpa using h0), fun h0 => c5 (by rw [hset] at h0; simpa using h0), fun h0 => c6 (by rw [hset] at h0; simpa using h0), fun h0 => c7 (by rw [hset] at h0; simpa using h0), fun h0 => c8 (by rw [hset] at h0; simpa using h0), fun h0 => c9 (by rw [hset] at h0; simpa using h0), fun h0 => c10 (by rw [hset] at h0; simpa using h0), fun h0 => c11 (by rw [hset] at h0; simpa using h0), fun h0 => c12 (by rw [hset] at h0; simpa using h0), fun h0 => c13 (by rw [hset] at h0; simpa using h0), fun h0 => c14 (by rw [hset] at h0; simpa using h0), fun h0 => c15 (by rw [hset] at h0; simpa using h0), fun h0 => c16 (by rw [hset] at h0; simpa using h0), fun h0 => c17 (by rw [hset] at h0; simpa using h0), fun _ => rfl, fun h0 => by rw [hset]; split; rfl; exact d2 (by rw [hset] at h0; simpa using h0), fun h0 => m0 (by rw [hset] at h0; simpa using h0), fun h0 h1 => m1 (by rw [hset] at h0; simpa using h0) (by rw [hset] at h1; simpa using h1), fun h0 => m2 (by rw [hset] at h0; simpa using h0)⟩
    · obtain ⟨o', ho', og, od, oo, ow⟩ := oq20
      rw [ho'] at hoi
      injection hoi with hoi
      subst hoi
      have y19 : s.getD 19 false = true := by
        obtain ⟨e, m, b, n⟩ := ow 19 (by simp)
        have := haf e m b
        rwa [n] at this
      have y16 : s.getD 16 false = true := by
        obtain ⟨e, m, b, n⟩ := ow 16 (by simp)
        have := haf e m b
        rwa [n] at this
      have y18 : s.getD 18 false = true := by
        obtain ⟨e, m, b, n⟩ := ow 18 (by simp)
        have := haf e m b
        rwa [n] at this
      have hput := (m1 y18 hnd).setB (u.pl + 1) a2 lo (by rw [List.getElem?_set_ne (by omega)]; exact hk2)
      have qa : (actS x0 x1 x2 x3 x4 x5 x6 x7 x8 x9 x10 x11 x12 x13 x14 x15 x16 x17 x18 x19 x20 x21 x22 x23 x24 x25 x26 x27 x28 x29 x30 x31 x32 x33 x34 x35 x36 x37 x38 x39 x40 x41 x61 v42 v43 v44 v45 v46 v47 v48 v49 v50 v51 v52 v53 v54 v55 v56 v57 v58 v59 v60).eval (.tmp 60) = .pointer (some ⟨gb, u.pl + 1, none⟩) := (evS60 ..).trans (c19 y19)
      have qb : (actS x0 x1 x2 x3 x4 x5 x6 x7 x8 x9 x10 x11 x12 x13 x14 x15 x16 x17 x18 x19 x20 x21 x22 x23 x24 x25 x26 x27 x28 x29 x30 x31 x32 x33 x34 x35 x36 x37 x38 x39 x40 x41 x61 v42 v43 v44 v45 v46 v47 v48 v49 v50 v51 v52 v53 v54 v55 v56 v57 v58 v59 v60).eval (.tmp 58) = .int .u8 (lo.toNat : Int) := (evS58 ..).trans (c16 y16)
      have k1 : y.cell? ⟨gb, (u.pl + 1), none⟩ = some (.int .u8 (a2.toNat : Int)) := hput.2.2.1
      have k2 := hput.2.2.2.1
      refine wpOp_skip (w' := y.setCell ⟨gb, (u.pl + 1), none⟩ (.int .u8 (lo.toNat : Int))) ho' og ?_ ?_
      · generalize actS x0 x1 x2 x3 x4 x5 x6 x7 x8 x9 x10 x11 x12 x13 x14 x15 x16 x17 x18 x19 x20 x21 x22 x23 x24 x25 x26 x27 x28 x29 x30 x31 x32 x33 x34 x35 x36 x37 x38 x39 x40 x41 x61 v42 v43 v44 v45 v46 v47 v48 v49 v50 v51 v52 v53 v54 v55 v56 v57 v58 v59 v60 = A at qa qb
        simp only [Act.eval, Array.getD_eq_getD_getElem?] at qa qb
        unfold execOp; simp only [oo]; go_simp
      · rw [od, putSn]
        exact ⟨hsz', hk.trans hput.2.1, hput.2.2.2.2 _ _ _ hbx (by decide), v42, v43, v44, v45, v46, v47, v48, v49, v50, v51, v52, v53, v54, v55, v56, v57, v58, v59, v60, rfl, fun h0 => c0 (by rw [hset] at h0; simpa using h0), fun h0 => c1 (by rw [hset] at h0; simpa using h0), fun h0 => c2 (by rw [hset] at h0; simpa using h0), fun h0 => c3 (by rw [hset] at h0; simpa using h0), fun h0 => c4 (by rw [hset] at h0; simpa using h0), fun h0 => c5 (by rw [hset] at h0; simpa using h0), fun h0 => c6 (by rw [hset] at h0; simpa using h0), fun h0 => c7 (by rw [hset] at h0; simpa using h0), fun h0 => c8 (by rw [hset] at h0; simpa using h0), fun h0 => c9 (by rw [hset] at h0; simpa using h0), fun h0 => c10 (by rw [hset] at h0; simpa using h0), fun h0 => c11 (by rw [hset] at h0; simpa using h0), fun h0 => c12 (by rw [hset] at h0; simpa using h0), fun h0 => c13 (by rw [hset] at h0; simpa using h0), fun h0 => c14 (by rw [hset] at h0; simpa using h0), fun h0 => c15 (by rw [hset] at h0; simpa using h0), fun h0 => c16 (by rw [hset] at h0; simpa using h0), fun h0 => c17 (by rw [hset] at h0; simpa using h0), fun h0 => c19 (by rw [hset] at h0; simpa using h0), fun _ => by rw [hset]; simpa using y18, fun h0 => absurd (show s.getD 18 false = false by rw [hset] at h0; simpa using h0) (by rw [y18]; simp), fun _ h1 => absurd h1 (by rw [hset]; simp), fun _ => hput.1⟩
  · intro s a y hI hall
    obtain ⟨hs, hk, hbx, v42, v43, v44, v45, v46, v47, v48, v49, v50, v51, v52, v53, v54, v55, v56, v57, v58, v59, v60, rfl, c0, c1, c2, c3, c4, c5, c6, c7, c8, c9, c10, c11, c12, c13, c14, c15, c16, c17, c19, d2, m0, m1, m2⟩ := hI
    exact fin y v42 v43 v44 v45 v46 v47 v48 v49 v50 v51 v52 v53 v54 v55 v56 v57 v58 v59 v60 (m2 (hall 20 (by omega))) hk
end Go.Proofs.YthaijjehplomfaaDoor
