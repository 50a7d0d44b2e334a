/- The statements' own: an object's bytes stand in a memory. The statements' own: a source with one item more. -/
import Derived.Test.YthbdpceobnkflaaDoorJ32
import Derived.Test.YthbdpceobnkflaaDoorJ20
import Derived.BigQuiet
import Derived.Test.YthbdpceobnkflaaDoorJ23
import Derived.Test.YthbdpceobnkflaaDoorJ31
namespace Go.Proofs.YthbdpceobnkflaaDoor
open Go Go.RowKit
set_option linter.unusedVariables false
set_option maxHeartbeats 3000000
set_option maxRecDepth 20000

/-- A block's bytes stand in a memory. -/
def StA (M : List UInt8) (b : Bb) : Prop := 0 ≤ b.1.a ∧ b.1.a + (b.1.m : Int) ≤ 65536 ∧ ∀ (k : Nat) (v : UInt8), b.2[k]? = some v → M[b.1.a.toNat + k]? = some v
theorem stands_true (w : World) (ob : Oo) (h : Hid (Lo w ob)) (g : Nat) (M : List UInt8) (hM : Hid (Bx w g (rU M) 5)) (hs : Hid (∀ b ∈ ob.B, StA M b)) :
    Calls Tryd.prog 19 #[.agg (oC ob), .slice (some ⟨g, 0, none⟩) 65536 65536] w fun e w' => e = .returned (.bool true) ∧ Hid (Below w.heap.size w w') := by
  have K0 : Hid (Fm w [(w.heap.size, oC ob, 29)] (w.alloc (.cells (oC ob) 29))) := Fm.one w _ _
  obtain ⟨n, hn'⟩ : ∃ n, ob.B.length = n := ⟨_, rfl⟩
  have hnn : Hid (ob.B.length = n) := hn'
  obtain ⟨bp, hbp⟩ : ∃ q, ob.bp = q := ⟨_, rfl⟩
  obtain ⟨bcp, hbc⟩ : ∃ q, ob.bc = q := ⟨_, rfl⟩
  have hd : Hid (∀ y, Fm w [(w.heap.size, oC ob, 29)] y → y.cell? ⟨w.heap.size, 0, none⟩ = some (.slice bp n bcp)) := fun y hy => by
    have h0 := (hy.bx 0 _ _ _ rfl).c 0 (.slice ob.bp ob.B.length ob.bc) rfl
    rw [hbp, hn', hbc] at h0
    exact h0
  have hl : Hid (LiesL 2 cK w bp (ob.B.map (·.1))) := by rw [← hbp]; exact h.out.b
  have hg : Hid (∀ x ∈ ob.B, LB8 w x.1.sp x.2 ∧ x.2.length = x.1.m) := h.out.g
  have n1 : (n : Int) ≤ 2147483647 := by have := h.out.n.1; omega
  clear hn' hbp hbc h
  have e0 := hd.out _ K0.out
  go_enter Tryd.func19, Tryd.ntmps19
  go_wp2
  go_loopw [5] (fun t wz => ∃ (i : Nat) (y : World), y = wz ∧ t = .int .i64 (i : Int) ∧ Hid (i ≤ n) ∧ Hid (Fm w [(w.heap.size, oC ob, 29)] y)) (fun t _ => (n - intOf t).toNat)
  case atStart => exact ⟨0, _, rfl, rfl, Nat.zero_le _, K0⟩
  case round =>
    clear e0
    obtain ⟨i, y, rfl, rfl, J, K⟩ := hrel
    have e0 := hd.out _ K.out
    by_cases hlt : i < n
    · obtain ⟨x, hx⟩ : ∃ x, ob.B[i]? = some x := ⟨_, List.getElem?_eq_getElem (by rw [hnn.out]; exact hlt)⟩
      obtain ⟨gb, o, rfl, hcx⟩ := hl.out i x.1 (by rw [List.getElem?_map, hx]; rfl)
      have hcy : Hid (y.rangeAt gb (o + i * 2) (k2 x.1).toList) := range_keep hcx K.out.low
      have hxm := List.mem_of_getElem? hx
      obtain ⟨s1, s2, s3⟩ := hs.out x hxm
      obtain ⟨g1, g2⟩ := hg.out x hxm
      have hgy : Hid (LB8 y x.1.sp x.2) := g1.below K.out.low
      have hMy : Hid (Bx y g (rU M) 5) := hM.out.below K.out.low
      have ij := fun w => idxP (P := Tryd.prog) (g := gb) (off := o) (len := n) (cap := bcp) Tryd.underlying25 (s := 2) (by kernel_rfl) .i64 i w hlt
      have hii : (i : Int) < n := by omega
      have hlt' : Hid (i < n) := hlt
      obtain ⟨⟨a, bs, m, bc⟩, l⟩ := x
      obtain ⟨p, rfl⟩ : ∃ p : Nat, a = (p : Int) := ⟨a.toNat, (Int.toNat_of_nonneg s1).symm⟩
      have hpm : p + m ≤ 65536 := by have : (p : Int) + (m : Int) ≤ 65536 := s2; omega
      obtain ⟨od, hsl, hod⟩ := slBoth g p m hpm
      have s3' : ∀ (k : Nat) (v : UInt8), l[k]? = some v → M[p + k]? = some v := s3
      have g2' : l.length = m := g2
      have hLM : Hid (∀ u, Below y.heap.size y u → LB8 u (some ⟨g, od, none⟩) l) := fun u hu j b hj => by
        have hj' := (List.getElem?_eq_some_iff.1 hj).1
        refine ⟨g, od, rfl, ?_⟩
        rw [hod (by omega)]
        obtain ⟨g', o', e', c'⟩ := lb_bx (hMy.out.below hu) (p + j) b (s3' j b hj)
        cases e'
        rw [Nat.zero_add] at c'
        exact c'
      have hSm0 : Hid (∀ u, Below y.heap.size y u → Calls Tryd.prog 13 #[.slice (some ⟨g, od, none⟩) m (65536 - p), .slice bs m bc] u fun e w' => e = .returned (.bool true) ∧ Hid (Below u.heap.size u w')) := fun u hu => by
        have := sameO_true u (some ⟨g, od, none⟩) bs (65536 - p) bc l (hLM.out u hu) (hgy.out.below hu) (by omega)
        rw [g2'] at this
        exact this
      have wl : IntKind.i64.wrap ((p : Int) + (m : Int)) = (p : Int) + (m : Int) := by rw [IntKind.wrap_i64]; omega
      have q0 : decide ((p : Int) < 0) = false := decide_eq_false (by omega)
      have q1 : decide ((p : Int) + (m : Int) > 65536) = false := decide_eq_false (by omega)
      have q2 : (p : Int) + (m : Int) ≤ 65536 := by omega
      have q3 : (0 : Int) ≤ (p : Int) := by omega
      clear hlt hx hcx hxm s1 s2 s3 g1 g2 g2' s3' hLM hod hpm hgy hMy
      go_wp2_with (first
        | ((with_reducible refine at_loadm rtK gb (o + i * 2) (k2 ⟨(p : Int), bs, m, bc⟩) ?_ ?_ (.tmp 17) ?_ ?_ ?_ ?_); exact hcy.out; rfl; (first | rfl | kernel_rfl); rfl; rfl)
        | ((with_reducible refine gen_world (y.alloc (.cells #[.int .i64 0, .slice none 0 0] 46)) (Fm y [(y.heap.size, k2 zK, 46)]) ?_ ?_); exact Fm.one y _ _; intro y3 K3)
        | ((with_reducible refine at_st rtK y.heap.size (k2 zK) (k2 ⟨(p : Int), bs, m, bc⟩) ?_ ?_ ?_ ?_ (.tmp 6) (.tmp 18) ?_ ?_ ?_ ?_ ?_); exact K3.out.bx 0 _ _ _ rfl; rfl; rfl; exact oneK _; rfl; rfl; rfl; rfl; intro y4 hw4; have K4 : Hid (Fm y [(y.heap.size, k2 ⟨(p : Int), bs, m, bc⟩, 46)] y4) := K3.out.put 0 _ _ _ _ rfl hw4.out; clear hw4 K3))
      have hSm : Hid (∀ u, Below y4.heap.size y4 u → Calls Tryd.prog 13 #[.slice (some ⟨g, od, none⟩) m (65536 - p), .slice bs m bc] u fun e w' => e = .returned (.bool true) ∧ Hid (Below u.heap.size u w')) := fun u hu => hSm0.out u (K4.out.low.trans (hu.mono K4.out.low.size))
      clear hSm0 hcy
      refine wp_region_quiet (C := fun x => Below y4.heap.size y4 x) (by kernel_rfl) (by kernel_rfl) ⟨rfl, rfl, rfl, Nat.le_refl _, fun _ _ => rfl⟩ ?_
      simp only []
      with_reducible refine quiet_one (.pointer (some ⟨y.heap.size, 0, none⟩)) ?_ ?_ ?_
      · kernel_rfl
      · intro u9 hy
        go_simp
      with_reducible refine quiet_one (.int .i64 (p : Int)) ?_ ?_ ?_
      · kernel_rfl
      · intro u9 hy
        have x := ((K4.out.below hy).bx 0 _ _ _ rfl).c 0 (.int .i64 (p : Int)) rfl; go_simp
      with_reducible refine quiet_one (.bool false) ?_ ?_ ?_
      · kernel_rfl
      · intro u9 hy
        go_simp
      with_reducible refine quiet_one (.bool false) ?_ ?_ ?_
      · kernel_rfl
      · intro u9 hy
        go_simp
      with_reducible refine quiet_one (.pointer (some ⟨y.heap.size, 0, none⟩)) ?_ ?_ ?_
      · kernel_rfl
      · intro u9 hy
        go_simp
      with_reducible refine quiet_one (.int .i64 (p : Int)) ?_ ?_ ?_
      · kernel_rfl
      · intro u9 hy
        have x := ((K4.out.below hy).bx 0 _ _ _ rfl).c 0 (.int .i64 (p : Int)) rfl; go_simp
      with_reducible refine quiet_one (.pointer (some ⟨y.heap.size, 1, none⟩)) ?_ ?_ ?_
      · kernel_rfl
      · intro u9 hy
        go_simp
      with_reducible refine quiet_one (.slice bs m bc) ?_ ?_ ?_
      · kernel_rfl
      · intro u9 hy
        have x := ((K4.out.below hy).bx 0 _ _ _ rfl).c 1 (.slice bs m bc) rfl; go_simp
      with_reducible refine quiet_one (.int .i64 (m : Int)) ?_ ?_ ?_
      · kernel_rfl
      · intro u9 hy
        go_simp
      with_reducible refine quiet_one (.int .i64 ((p : Int) + (m : Int))) ?_ ?_ ?_
      · kernel_rfl
      · intro u9 hy
        go_simp
      with_reducible refine quiet_one (.slice (some ⟨g, 0, none⟩) 65536 65536) ?_ ?_ ?_
      · kernel_rfl
      · intro u9 hy
        go_simp
      with_reducible refine quiet_one (.int .i64 65536) ?_ ?_ ?_
      · kernel_rfl
      · intro u9 hy
        go_simp
      with_reducible refine quiet_one (.bool false) ?_ ?_ ?_
      · kernel_rfl
      · intro u9 hy
        go_simp
      with_reducible refine quiet_one (.bool false) ?_ ?_ ?_
      · kernel_rfl
      · intro u9 hy
        go_simp
      with_reducible refine quiet_one (.bool false) ?_ ?_ ?_
      · kernel_rfl
      · intro u9 hy
        go_simp
      with_reducible refine quiet_one (.slice (some ⟨g, 0, none⟩) 65536 65536) ?_ ?_ ?_
      · kernel_rfl
      · intro u9 hy
        go_simp
      with_reducible refine quiet_one (.pointer (some ⟨y.heap.size, 0, none⟩)) ?_ ?_ ?_
      · kernel_rfl
      · intro u9 hy
        go_simp
      with_reducible refine quiet_one (.int .i64 (p : Int)) ?_ ?_ ?_
      · kernel_rfl
      · intro u9 hy
        have x := ((K4.out.below hy).bx 0 _ _ _ rfl).c 0 (.int .i64 (p : Int)) rfl; go_simp
      with_reducible refine quiet_one (.pointer (some ⟨y.heap.size, 0, none⟩)) ?_ ?_ ?_
      · kernel_rfl
      · intro u9 hy
        go_simp
      with_reducible refine quiet_one (.int .i64 (p : Int)) ?_ ?_ ?_
      · kernel_rfl
      · intro u9 hy
        have x := ((K4.out.below hy).bx 0 _ _ _ rfl).c 0 (.int .i64 (p : Int)) rfl; go_simp
      with_reducible refine quiet_one (.pointer (some ⟨y.heap.size, 1, none⟩)) ?_ ?_ ?_
      · kernel_rfl
      · intro u9 hy
        go_simp
      with_reducible refine quiet_one (.slice bs m bc) ?_ ?_ ?_
      · kernel_rfl
      · intro u9 hy
        have x := ((K4.out.below hy).bx 0 _ _ _ rfl).c 1 (.slice bs m bc) rfl; go_simp
      with_reducible refine quiet_one (.int .i64 (m : Int)) ?_ ?_ ?_
      · kernel_rfl
      · intro u9 hy
        go_simp
      with_reducible refine quiet_one (.int .i64 ((p : Int) + (m : Int))) ?_ ?_ ?_
      · kernel_rfl
      · intro u9 hy
        go_simp
      with_reducible refine quiet_one (.slice (some ⟨g, od, none⟩) m (65536 - p)) ?_ ?_ ?_
      · kernel_rfl
      · intro u9 hy
        have x := hsl u9; go_simp
      with_reducible refine quiet_one (.pointer (some ⟨y.heap.size, 1, none⟩)) ?_ ?_ ?_
      · kernel_rfl
      · intro u9 hy
        go_simp
      with_reducible refine quiet_one (.slice bs m bc) ?_ ?_ ?_
      · kernel_rfl
      · intro u9 hy
        have x := ((K4.out.below hy).bx 0 _ _ _ rfl).c 1 (.slice bs m bc) rfl; go_simp
      with_reducible refine quiet_one (.bool true) ?_ ?_ ?_
      · kernel_rfl
      · intro u9 hy
        have d := (hSm.out u9 hy).mono fun e w' (h : _ ∧ _) => And.intro h.1 (Below.trans hy (h.2.out.mono hy.size))
        go_simp
        all_goals exact d
      with_reducible refine quiet_one (.bool false) ?_ ?_ ?_
      · kernel_rfl
      · intro u9 hy
        go_simp
      with_reducible refine quiet_one (.bool false) ?_ ?_ ?_
      · kernel_rfl
      · intro u9 hy
        go_simp
      refine wpQuiet_nil ?_
      intro y5 hy5
      have K5 : Hid (Fm w [(w.heap.size, oC ob, 29)] y5) := K.out.below (K4.out.low.trans (hy5.mono K4.out.low.size))
      clear hy5 hSm
      go_simp
      go_wp2
      go_roundw
      case rel => exact ⟨i + 1, _, rfl, by simp, hlt'.out, K5⟩
      case measure => have := hlt'.out; simp [intOf]; omega
    · have hie : i = n := by have := J.out; omega
      subst hie
      clear hlt
      go_wp2
      go_ret
      exact ⟨rfl, K.out.low⟩
end Go.Proofs.YthbdpceobnkflaaDoor

namespace Go.Proofs.YthbdpceobnkflaaDoor
open Go Go.RowKit
set_option linter.unusedVariables false
set_option maxHeartbeats 3000000
set_option maxRecDepth 20000

section
variable {α : Type} {T t : TypeId} {s bts : Nat} {c : α → List Value}
/-- Append of any list, also an empty one. -/
theorem at_appA (K : KdL T t s bts c) {ops : Array Oper} {rest : List Oper} {o : Oper} {a : Act} {w : World} {Q : Exit → Act → World → Prop} (hgd : o.guard = none) (sl x : Operand)
    (ho : o.op = .call { callee := .builtin .append, args := #[sl, x], argTypes := #[T, T] }) (B : Nat) (v : Value) (l : List α) (hs : a.eval sl = v) (hown : OwnL t s c B w v l)
    (p : Option Addr) (m cm : Nat) (us : List α) (hm : us.length = m) (hx : a.eval x = .slice p m cm) (hu : LiesL s c w p us) (hn : l.length + m ≤ 100000000000) (hB : B ≤ w.heap.size)
    (k : ∀ v' w', Hid (AppNL t s c B v l us v' w w') → wpList Tryd.prog ops Q rest (a.put o.dst v') w') : wpList Tryd.prog ops Q (o :: rest) a w := by
  by_cases h0 : m = 0
  · subst h0
    have hl0 : us = [] := List.eq_nil_of_length_eq_zero hm
    subst hl0
    refine wpList_plain hgd fun K' hK => ?_
    have hrun := run_app0 K w o.type B v l hown p cm
    unfold Oper.wp
    simp [execOp, ho, resolve, invoke, builtin, hs, hx, hrun, Result.andThen]
    exact hK _ _ (k v w ⟨by rw [List.append_nil]; exact hown, fun g hg => .inl hg, CuL.refl _ _ _⟩)
  · obtain ⟨gb, ob, rfl, _⟩ := hu 0 _ (List.getElem?_eq_getElem (by omega))
    exact at_appNL K hgd sl x ho B v l hs hown gb ob m cm us hm hx hu (by omega) hn hB k
end
theorem kIt : KdL (α := Ri) 22 40 6 80 c6 := by
  obtain ⟨i, hi, hz0, hz1, hz2⟩ := info_parts infoIt9
  exact ⟨Tryd.underlying22, ⟨i, _, hi, hz0, hz1, hz2, rfl⟩, fun x => rfl, fun x v hv => by
    have := one6 x
    rw [Array.all_eq_true'] at this
    exact this v (by unfold c6 at hv; simpa using hv), by decide, by decide⟩
/-- The items ahead of a place, and those from it on. -/
theorem slTake (sp : Option Addr) (n cap k : Nat) (h : k ≤ n) (hc : n ≤ cap) : ∃ sp1, (∀ v, (Instr.sliceAt 22 (.slice sp n cap) none (some (.int .i64 (k : Int))) none).run Tryd.prog v = .ok (.slice sp1 k cap) v) ∧ ∀ (w : World) (l : List Ri), LiesL 6 c6 w sp l → LiesL 6 c6 w sp1 (l.take k) := by
  refine ⟨if cap = 0 then sp else sp.map (·.add (0 * 6)), fun v => ?_, fun w l hl j r hj => ?_⟩
  · have hu : Tryd.prog.underlying 22 = some (.slice (Tryd.prog.elem 22)) := by kernel_rfl
    rw [run_sliceAt_slice v _ _ _ _ _ hu, run_slice_h v _ _ _ _ hu .i64 (k : Int) (by omega) (by omega)]
    have hz : ∀ v, (sizeOf (Tryd.prog.elem 22)).run Tryd.prog v = .ok 6 v := fun v => by kernel_rfl
    rw [hz]
    simp only [Result.andThen_ok, sliced, Int.toNat_natCast, Nat.sub_zero]
  · have hj' : l[j]? = some r := by
      rw [List.getElem?_take] at hj
      split at hj
      · exact hj
      · cases hj
    obtain ⟨g, o, rfl, hr⟩ := hl j r hj'
    refine ⟨g, o, ?_, hr⟩
    split
    · rfl
    · simp [Addr.add_lit]
theorem slDrop (sp : Option Addr) (n cap k : Nat) (h : k ≤ n) (hc : n ≤ cap) : ∃ sp1, (∀ v, (Instr.sliceAt 22 (.slice sp n cap) (some (.int .i64 (k : Int))) none none).run Tryd.prog v = .ok (.slice sp1 (n - k) (cap - k)) v) ∧ ∀ (w : World) (l : List Ri), l.length = n → LiesL 6 c6 w sp l → LiesL 6 c6 w sp1 (l.drop k) := by
  refine ⟨if cap = k then sp else sp.map (·.add (k * 6)), fun v => ?_, fun w l hn hl j r hj => ?_⟩
  · have hu : Tryd.prog.underlying 22 = some (.slice (Tryd.prog.elem 22)) := by kernel_rfl
    rw [run_sliceAt_slice v _ _ _ _ _ hu, run_slice_l v _ _ _ _ hu .i64 (k : Int) (by omega) (by omega)]
    have hz : ∀ v, (sizeOf (Tryd.prog.elem 22)).run Tryd.prog v = .ok 6 v := fun v => by kernel_rfl
    rw [hz]
    simp only [Result.andThen_ok, sliced, Int.toNat_natCast]
  · rw [List.getElem?_drop] at hj
    obtain ⟨g, o, rfl, hr⟩ := hl (k + j) r hj
    have hlt := (List.getElem?_eq_some_iff.1 hj).1
    refine ⟨g, o + k * 6, ?_, ?_⟩
    · rw [if_neg (by omega)]
      simp [Addr.add_lit]
    · rw [show o + k * 6 + j * 6 = o + (k + j) * 6 by omega]
      exact hr
theorem fill1 (r : Ri) : Instr.fill (fun i => some (i * 6, 6)) ((Array.range (1 * 6)).map ((Value.agg (i6 z0)).cells[· % (Value.agg (i6 z0)).cells.size]!)) [(0, .agg (i6 r))] = some (rowL c6 [r]).toArray := by kernel_rfl
theorem at_bs1 {ops : Array Oper} {rest : List Oper} {o : Oper} {a : Act} {w : World} {Q : Exit → Act → World → Prop} (r : Ri) (x0 : Operand) (hgd : o.guard = none) (ho : o.op = .buildSlice 22 1 #[(0, x0)]) (h0 : a.eval x0 = .agg (i6 r))
    (h : wpList Tryd.prog ops Q rest (a.put o.dst (.slice (some ⟨w.heap.size, 0, none⟩) 1 1)) (w.alloc (.cells (rowL c6 [r]).toArray 40))) : wpList Tryd.prog ops Q (o :: rest) a w := wpList_plain hgd fun _ hK => by
  obtain ⟨i, hi, hz0, hz1, hz2⟩ := info_parts infoIt9
  refine wp_buildSlice 22 40 1 #[(0, x0)] ho (rowL c6 [r]).toArray i _ Tryd.underlying22 hi hz0 (by rw [hz1]; decide) (by rw [hz1]; decide) ?_ (hK _ _ h)
  rw [hz1]
  have e : (#[(0, x0)].map fun (i, x) => (i, a.eval x)).toList = [(0, .agg (i6 r))] := by simp [h0]
  rw [e]
  exact fill1 r
def PuE (w : World) (l : List Ri) (e : Ending) (z : World) : Prop := ∃ sp cap, e = .returned (.slice sp l.length cap) ∧ Hid (Below w.heap.size w z ∧ LiesL 6 c6 z sp l)
theorem put_any (w : World) (sp : Option Addr) (cap : Nat) (l : List Ri) (hl : Hid (LiesL 6 c6 w sp l)) (hc : l.length ≤ cap) (hn : l.length ≤ 2147483647) (k : Nat) (hk : k ≤ l.length) (x : Ri) :
    Calls Tryd.prog 16 #[.slice sp l.length cap, .int .i64 (k : Int), .agg (i6 x)] w (PuE w (l.take k ++ [x] ++ l.drop k)) := by
  have K0 : Hid (Fm w [(w.heap.size, i6 x, 40)] (w.alloc (.cells (i6 x) 40))) := Fm.one w _ _
  obtain ⟨n, hn'⟩ : ∃ n, l.length = n := ⟨_, rfl⟩
  rw [hn'] at hc hn hk ⊢
  obtain ⟨sp1, e1, f1⟩ := slTake sp n cap k hk hc
  obtain ⟨sp2, e2, f2⟩ := slDrop sp n cap k hk hc
  have L1 : Hid (∀ z, Below w.heap.size w z → LiesL 6 c6 z sp1 (l.take k)) := fun z hz => f1 z l (hl.out.below hz)
  have L2 : Hid (∀ z, Below w.heap.size w z → LiesL 6 c6 z sp2 (l.drop k)) := fun z hz => f2 z l hn' (hl.out.below hz)
  have t1 : (l.take k).length = k := by rw [List.length_take]; omega
  have t2 : (l.drop k).length = n - k := by rw [List.length_drop, hn']
  have hT : Hid ((l.take k).length = k ∧ (l.drop k).length = n - k ∧ k ≤ n ∧ n ≤ 2147483647) := ⟨t1, t2, hk, hn⟩
  generalize l.take k = A at L1 hT ⊢
  generalize l.drop k = D at L2 hT ⊢
  clear f1 f2 t1 t2 hk hn hc hn'
  go_enter Tryd.func16, Tryd.ntmps16
  go_wp2_with (first
    | ((with_reducible refine gen_world (w.alloc (.cells (i6 x) 40)) (fun y => Fm w [(w.heap.size, i6 x, 40)] y ∧ y.heap.size = w.heap.size + 1) ?_ ?_); exact ⟨K0.out, (by simp : (w.alloc (.cells (i6 x) 40)).heap.size = w.heap.size + 1)⟩; intro y K1)
    | (at_builtin; refine at_appA kIt rfl (.tmp 8) (.tmp 11) rfl (w.heap.size + 1) (.slice none 0 0) [] rfl (OwnL.nil _ _) sp1 k cap A ?_ rfl (L1.out _ K1.out.1.low) ?_ ?_ ?_; exact hT.out.1; (have := hT.out; simp; omega); (rw [K1.out.2]; exact Nat.le_refl _); intro v1 u1 H1; have P1 : Hid (OwnL 40 6 c6 (w.heap.size + 1) u1 v1 ([] ++ A) ∧ Below (w.heap.size + 1) y u1 ∧ Fm w [(w.heap.size, i6 x, 40)] u1) := ⟨H1.out.own, H1.out.cu.low, K1.out.1.below (by rw [K1.out.2]; exact H1.out.cu.low)⟩; clear H1)
    | ((with_reducible refine at_load rt6 w.heap.size (i6 x) ?_ ?_ (.tmp 5) ?_ ?_ ?_ ?_); exact P1.out.2.2.bx 0 _ _ _ rfl; rfl; (first | rfl | kernel_rfl); rfl; rfl)
    | ((with_reducible refine at_bs1 x (.tmp 14) ?_ ?_ ?_ ?_); rfl; rfl; rfl)
    | (at_builtin; refine at_appA kIt rfl (.tmp 13) (.tmp 15) rfl (w.heap.size + 1) v1 ([] ++ A) rfl (P1.out.1.alloc _) (some ⟨u1.heap.size, 0, none⟩) 1 1 [x] rfl rfl (lies_new kIt.len _ _ _) ?_ ?_ ?_; (have := hT.out; simp; omega); (have h1 := P1.out.2.1.size; have h2 := K1.out.2; simp; omega); intro v2 u2 H2; have P2 : Hid (OwnL 40 6 c6 (w.heap.size + 1) u2 v2 ([] ++ A ++ [x]) ∧ Below w.heap.size w u2 ∧ w.heap.size + 1 ≤ u2.heap.size) := ⟨H2.out.own, P1.out.2.2.low.trans (((below1 u1 _).mono P1.out.2.2.low.size).trans (H2.out.cu.low.mono (Nat.le_succ _))), (by have h1 := P1.out.2.1.size; have h2 := K1.out.2; have h3 := H2.out.cu.low.size; simp at h3; omega)⟩; clear H2)
    | (at_builtin; refine at_appA kIt rfl (.tmp 17) (.tmp 20) rfl (w.heap.size + 1) v2 ([] ++ A ++ [x]) rfl P2.out.1 sp2 (n - k) (cap - k) D ?_ rfl (L2.out _ P2.out.2.1) ?_ ?_ ?_; exact hT.out.2.1; (have := hT.out; simp; omega); exact P2.out.2.2; intro v3 u3 H3; have P3 : Hid (OwnL 40 6 c6 (w.heap.size + 1) u3 v3 ([] ++ A ++ [x] ++ D) ∧ Below w.heap.size w u3) := ⟨H3.out.own, P2.out.2.1.trans (H3.out.cu.low.mono (Nat.le_succ _))⟩; clear H3))
  go_ret
  obtain ⟨sp9, cap9, rfl, h9, _⟩ := P3.out.1.open kIt.len
  rw [List.nil_append] at h9 ⊢
  exact ⟨sp9, cap9, rfl, P3.out.2, h9⟩
end Go.Proofs.YthbdpceobnkflaaDoor
