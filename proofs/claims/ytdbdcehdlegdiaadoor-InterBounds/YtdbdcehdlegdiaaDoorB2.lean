/- In how many cycles an order is done: the program's table. -/
import Derived.Test.YtdbdcehdlegdiaaDoorP8
import Derived.Test.YtdbdcehdlegdiaaDoorTab
namespace Go.Proofs.YtdbdcehdlegdiaaDoor
open Go Go.RowKit
set_option linter.unusedVariables false
set_option maxHeartbeats 1000000
set_option maxRecDepth 100000

def bndL : List Nat := [0, 0, 6336, 1944, 1924, 1944, 1924, 1924, 1928, 1918, 1920, 1932, 1954, 1954, 1954, 1954, 1928, 1922, 1934, 1938, 7018, 1928, 1932, 1924, 2124, 1932, 1936, 1948, 1962, 2266, 2372, 2218]
/-- What the table of bounds holds. -/
structure Tb (w : World) : Prop where
  c : ∀ i : Nat, i < 32 → w.cell? ⟨0, i, none⟩ = some (.int .i64 (bndL.getD i 0 : Nat))
  size : 0 < w.heap.size
theorem Tb.below {w w' : World} (h : Tb w) (hb : Below w.heap.size w w') : Tb w' := ⟨fun i hi => (hb.cell h.size).trans (h.c i hi), Nat.lt_of_lt_of_le h.size hb.size⟩
/-- What Bound says. -/
def bnd (o : Od) : Nat := if (encW o).isSome then bndL.getD o.op 0 else 0
theorem bnd_pos : ∀ i, i < 32 → 2 ≤ i → 0 < bndL.getD i 0 ∧ bndL.getD i 0 ≤ (if i = 2 ∨ i = 20 then 20000 else 6000) := by decide +kernel
theorem enc_op {o : Od} (h : (encW o).isSome = true) : 1 ≤ o.op ∧ o.op ≤ 31 := by
  obtain ⟨w, hw⟩ := Option.isSome_iff_exists.1 h
  obtain ⟨i, i1, _, i3, _⟩ := enc_row hw
  rw [i3]
  exact op_bnd i i1
theorem bound_any (w : World) (o : Od) (ho : OdR o) (T : Hid (Tb w)) : Calls Tryd.prog 4 #[.agg (o6 o)] w fun e w' => e = .returned (.int .i64 (bnd o : Nat)) ∧ Below w.heap.size w w' := by
  have hen := fun z => encode_any z o ho
  rcases he : (encW o).isSome with _ | _
  · have hb : bnd o = 0 := by unfold bnd; rw [he]; rfl
    rw [hb]
    rw [he] at hen
    obtain ⟨V, hV⟩ : ∃ z : Int, ((((encW o).getD 0 : Nat)) : Int) = z := ⟨_, rfl⟩
    rw [hV] at hen
    have hen' : Hid (∀ z, Calls Tryd.prog 6 #[.agg (o6 o)] z fun e w' => e = .returned (.tuple #[.int .u16 V, .int .i64 160]) ∧ Below z.heap.size z w') := hen
    clear hen ho he hb hV
    go_enter Tryd.func4, Tryd.ntmps4
    go_wp2_with (first
      | (go_at_call 6; refine (hen'.out y0).mono ?_; rintro e y1 ⟨rfl, H⟩; have K1 : Hid (Fm w [(w.heap.size, o6 o, 25)] y1) := K0.out.below H; clear H)
      | ((with_reducible refine gen_world (w.alloc (.cells (o6 o) 25)) (Fm w [(w.heap.size, o6 o, 25)]) ?_ ?_); exact Fm.one w _ _; intro y0 K0)
      | ((with_reducible refine at_load rtO w.heap.size (o6 o) ?_ ?_ (.tmp 1) ?_ ?_ ?_ ?_); exact K0.out.bx 0 _ _ _ rfl; rfl; kernel_rfl; rfl; rfl))
    go_ret
    exact ⟨rfl, K1.out.low⟩
  · have hop := enc_op he
    obtain ⟨N, hN⟩ : ∃ z, bndL.getD o.op 0 = z := ⟨_, rfl⟩
    have hb : bnd o = N := by unfold bnd; rw [he, ← hN]; rfl
    rw [hb]
    rw [he] at hen
    obtain ⟨V, hV⟩ : ∃ z : Int, ((((encW o).getD 0 : Nat)) : Int) = z := ⟨_, rfl⟩
    rw [hV] at hen
    obtain ⟨op, hpo⟩ : ∃ z, o.op = z := ⟨_, rfl⟩
    have hen' : Hid (∀ z, Calls Tryd.prog 6 #[.agg (o6 o)] z fun e w' => e = .returned (.tuple #[.int .u16 V, .int .i64 0]) ∧ Below z.heap.size z w') := hen
    have hc : Hid (∀ y, Below w.heap.size w y → y.cell? ⟨0, op, none⟩ = some (.int .i64 (N : Int))) := fun y hy => by
      have := (T.out.below hy).c op (by omega)
      rw [this, ← hN, hpo]
    have h0 : Hid ((o6 o)[0]? = some (.int .u8 (op : Int))) := by rw [← hpo]; exact (rfl : _ = _)
    obtain ⟨OC, hOC⟩ : ∃ z : Array Value, Hid (z = o6 o) := ⟨_, (rfl : o6 o = o6 o)⟩
    have sO : Hid (OC.size = 6) := by rw [hOC.out]; exact (rfl : _ = _)
    rw [← hOC.out] at hen' h0 ⊢
    have ix := fun v => idx (g := 0) (off := 0) (N := 32) (s := 1) Tryd.underlying31 (by kernel_rfl) .u8 op v (by omega)
    simp only [Nat.zero_add, Nat.mul_one] at ix
    have iop : (op : Int) < 256 := by omega
    clear hen ho he hb hV hpo hop hN
    go_enter Tryd.func4, Tryd.ntmps4
    go_wp2_with (first
      | (go_at_call 6; refine (hen'.out y0).mono ?_; rintro e y1 ⟨rfl, H⟩; have K1 : Hid (Fm w [(w.heap.size, OC, 25)] y1) := K0.out.below H; clear H; have c0 := (K1.out.bx 0 _ _ _ rfl).c 0 _ h0.out; have cN := hc.out y1 K1.out.low)
      | ((with_reducible refine gen_world (w.alloc (.cells OC 25)) (Fm w [(w.heap.size, OC, 25)]) ?_ ?_); exact Fm.one w _ _; intro y0 K0)
      | ((with_reducible refine at_load rtO w.heap.size OC ?_ ?_ (.tmp 1) ?_ ?_ ?_ ?_); exact K0.out.bx 0 _ _ _ rfl; exact sO.out; kernel_rfl; rfl; rfl))
    go_ret
    exact ⟨rfl, K1.out.low⟩
end Go.Proofs.YtdbdcehdlegdiaaDoor
