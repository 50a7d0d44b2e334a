/- The law's own book: keep of nothing, walked. -/
import Derived.Test.YtbllnjifmcodbaaDoorKeepW
import Derived.Test.YtbllnjifmcodbaaDoorLent
namespace Go.Proofs.YtbllnjifmcodbaaDoor
open Go.RowKit
set_option linter.unusedVariables false
set_option maxHeartbeats 2000000
set_option maxRecDepth 20000

theorem step_append_none {P : Program} {ops : Array Oper} {o : Oper} {a : Act} {w : World} {K : Act → World → Prop} {Q : Exit → Act → World → Prop} {E : Prop}
    (hg : o.guard = none) (s x : Operand) (t : TypeId) (ho : o.op = Op.call { callee := Callee.builtin Builtin.append, args := #[s, x], argTypes := #[t, t] })
    (base : Nat) (e : TypeId) (i : TypeInfo) (size : Nat) (ht : P.underlying t = some (.slice e)) (hi : P.info? e = some i)
    (v : Value) (n : Nat) (xs : List Value) (hs : a.eval s = v) (hown : w.ownsRow base e size v n xs) (hx : a.eval x = .slice none 0 0)
    (h : K (a.put o.dst v) w) :
    if Region.wanted o (yielded ops a.tmps) = true then Oper.wp P o a w K Q else E := by
  have hw : Region.wanted o (yielded ops a.tmps) = true := by simp [Region.wanted, hg]
  rw [if_pos hw]
  have hrun := run_append_owned_none (P := P) (w := w) base t o.type e i size ht hi v n xs hown
  unfold Oper.wp
  simp [execOp, ho, resolve, invoke, builtin, hs, hx, hrun, Result.andThen]
  exact h
theorem one_at2 (y : World) (v : Value) : ∀ (j : Nat) (u : Value), [v][j]? = some u → ((y.alloc (.cells #[] 5)).alloc (.cells #[v] 37)).cell? ((⟨y.heap.size + 1, 0, none⟩ : Addr).add j) = some u := by
  have := one_at (y.alloc (.cells #[] 5)) v
  rw [show (y.alloc (.cells #[] 5)).heap.size = y.heap.size + 1 by simp] at this
  exact this
theorem keep_fin0 {w w0 w3 y : World} {B kb lo q : Nat} {es : List En} {T V T1 V1 : Value} {o : Obj} (hq : w0 = w.drewN q) (hb : Bk w0 B kb es T V) (h : S2 w0 (y.alloc (.cells #[] 5)) B kb es V T1 (.slice none 0 0)) (hB : B ≤ kb) (hBs : B ≤ w.heap.size)
    (hg0 : w0.heap.size ≤ y.heap.size) (hg1 : (y.alloc (.cells #[] 5)).heap[y.heap.size]? = some (.cells #[] 5 (0, 0)))
    (hlo : lo ≤ w.heap.size ∧ ∀ (j : Nat) (e : En), es[j]? = some e → ∀ b, e.tv.ownBlock = some b → b < lo)
    (ho : w3.ownsRow B 37 1 V1 (es.length + 1) (es.map En.wv ++ [.slice (some ⟨y.heap.size, 0, none⟩) 0 0])) (hg : ((y.alloc (.cells #[] 5)).alloc o).grownBy w3 V.ownBlock) :
    Bk (w3.setCell ⟨kb, 1, none⟩ V1) B kb (es ++ [⟨.slice none 0 0, .slice (some ⟨y.heap.size, 0, none⟩) 0 0, []⟩]) T1 V1 ∧ Below B w (w3.setCell ⟨kb, 1, none⟩ V1) := by
  subst hq
  have hs2 := h.low.size
  have := s4 (lo := lo) hb h hB hBs ho hg (Nat.le_trans hBs hs2) ⟨by simp, .inl ⟨rfl, rfl⟩⟩ ⟨y.heap.size, 0, #[], rfl, hg0, hg1, rfl⟩ hlo.1 hlo.2 (fun b hb => by simp [Value.ownBlock] at hb)
  exact ⟨this.1, (below_drewN (Below.refl _ _)).trans this.2⟩

theorem keep_nil (w : World) (B kb lo : Nat) (es : List En) (T V : Value) (hb : Hid (Bk w B kb es T V))
    (hB : B ≤ kb) (hBs : B ≤ w.heap.size) (hes : Hid (es.length ≤ 2147483647)) (hlo : Hid (lo ≤ w.heap.size ∧ ∀ (j : Nat) (e : En), es[j]? = some e → ∀ b, e.tv.ownBlock = some b → b < lo)) :
    Calls Tryd.prog 28 #[.pointer (some ⟨kb, 0, none⟩), .slice none 0 0, .slice none 0 0] w fun e w' => e = .returned (.bool true) ∧ ∃ wv T' V', Bk w' B kb (es ++ [⟨.slice none 0 0, wv, []⟩]) T' V' ∧ Below B w w' := by
  obtain ⟨i0, hi, hz0, hz1, hz2⟩ := info_parts info37
  obtain ⟨i5, hi5, hy0, hy1, hy2⟩ := info_parts info5'
  have hs := same_true w none none 0 0 0 (fun _ => 0) (by omega) (fun j hj => absurd hj (by omega))
  go_enter Tryd.func28, Tryd.ntmps28
  go_wp2_with (first
    | (go_at_call 15; refine hs.mono ?_; rintro e w0 ⟨rfl, q, hq⟩; have hb0 : Hid (Bk w0 B kb es T V) := (by rw [hq]; exact hb.out.drewN); have c0 : w0.cell? ⟨kb, 0, none⟩ = some T := (by rw [cell_heap hb0.out.book]; rfl); have c1 : w0.cell? ⟨kb, 1, none⟩ = some V := (by rw [cell_heap hb0.out.book]; rfl); have hq' : Hid (w0 = w.drewN q) := hq; clear hq)
    | (at_builtin; refine wpList_append_own _ rfl (.tmp 15) (.tmp 17) 43 rfl B 37 i0 (.slice none 0 0) 1 24 Tryd.underlying43 hi hz0 hz1 hz2 rfl (by decide) T es.length (es.map En.tv) rfl (hb0.out.told.alloc _) ⟨w0.heap.size, 0, none⟩ 1 1 [.slice none 0 0] rfl rfl ?a1 ?a2 ?a3 ?a4 ?a5 ?_))
  case a1 => exact one_at w0 _
  case a2 => simp [Value.oneCell']
  case a3 => have := hes.out; unfold maxLen; omega
  case a4 => have := hes.out; omega
  case a5 => rw [hq'.out]; simp; show B ≤ w.heap.size + 1; omega
  intro T1 w1 ho1 hg1 _
  obtain ⟨g1, p1, rfl⟩ := own_form ho1
  have H1 := s1 hb0.out (by rw [hq'.out]; exact hBs) ho1 hg1
  have c2 : w1.cell? ⟨kb, 0, none⟩ = some T := by rw [cell_heap H1.book]; rfl
  have f2 := frozen_heap H1.book 0
  have H2 : Hid (S2 w0 (w1.setCell ⟨kb, 0, none⟩ (.slice (some ⟨g1, 0, none⟩) (es.length + 1) p1)) B kb es V (.slice (some ⟨g1, 0, none⟩) (es.length + 1) p1) (.slice none 0 0)) := s2 H1 hB
  clear ho1 hg1 H1
  go_wp2
  obtain ⟨y, hy⟩ : ∃ y, w1.setCell ⟨kb, 0, none⟩ (.slice (some ⟨g1, 0, none⟩) (es.length + 1) p1) = y := ⟨_, rfl⟩
  rw [hy] at H2
  rw [hy]
  clear hy c2 f2 c0 c1
  have cy : y.cell? ⟨kb, 1, none⟩ = some V := by rw [cell_heap H2.out.book]; rfl
  have fy := frozen_heap H2.out.book 1
  have sB0 : B ≤ w0.heap.size := by rw [hq'.out]; exact hBs
  have sw : w0.heap.size ≤ y.heap.size := H2.out.low.size
  have sy : B ≤ y.heap.size := Nat.le_trans (by rw [hq'.out]; exact hBs) sw
  have own0 := World.ownsRow_made (e := 5) (size := 1) (base := y.heap.size) y #[] 0 (Nat.le_refl _) (Nat.zero_le _) rfl
  have ny : ∀ o, (y.alloc o).cell? ⟨kb, 1, none⟩ = some V := fun o => by rw [cell_heap (alloc_at H2.out.book)]; rfl
  go_region_law ((first
      | (refine step_append_none rfl (.tmp 26) (.tmp 27) 37 rfl y.heap.size 5 i5 1 Tryd.underlying37 hi5 _ 0 [] (by rfl) own0 (by rfl) ?_
         have H3 : Hid (S2 w0 (y.alloc (.cells #[] 5)) B kb es V (.slice (some ⟨g1, 0, none⟩) (es.length + 1) p1) (.slice none 0 0)) := s3 H2.out ⟨rfl, rfl, rfl, Nat.le_refl _, fun _ _ _ => rfl⟩ sy
         have cz : (y.alloc (.cells #[] 5)).cell? ⟨kb, 1, none⟩ = some V := (by rw [cell_heap H3.out.book]; rfl)
         have nz : ∀ o, ((y.alloc (.cells #[] 5)).alloc o).cell? ⟨kb, 1, none⟩ = some V := (fun o => by rw [cell_heap (alloc_at H3.out.book)]; rfl)
         skip)
      | (refine step_append_own rfl (.tmp 25) (.tmp 29) 43 rfl B 37 i0 (.slice none 0 0) 1 24 Tryd.underlying43 hi hz0 hz1 hz2 rfl (by decide) V es.length (es.map En.wv) (by rfl) (H3.out.want.alloc _) ⟨y.heap.size + 1, 0, none⟩ 1 1 [.slice (some ⟨y.heap.size, 0, none⟩) 0 0] (by rfl) rfl (one_at2 y _) (by simp [Value.oneCell']) (by have := hes.out; unfold maxLen; omega) (by have := hes.out; omega) (by have := H3.out.low.size; have := Nat.le_trans sB0 this; simp; omega) ?_
         intro V1 w3 ho3 hg3 _
         obtain ⟨g3, p3, rfl⟩ := own_form ho3
         have k4 := grown_at (H3.out.want.alloc _) ⟨hg3.os, hg3.tape, hg3.output, hg3.size, hg3.block⟩ (alloc_at H3.out.book) (by decide)
         have c4 : w3.cell? ⟨kb, 1, none⟩ = some V := (by rw [cell_heap k4]; rfl)
         have f4 := frozen_heap k4 1
         have HF : Hid (Bk (w3.setCell ⟨kb, 1, none⟩ (.slice (some ⟨g3, 0, none⟩) (es.length + 1) p3)) B kb (es ++ [⟨.slice none 0 0, .slice (some ⟨y.heap.size, 0, none⟩) 0 0, []⟩]) _ _ ∧ Below B w (w3.setCell ⟨kb, 1, none⟩ (.slice (some ⟨g3, 0, none⟩) (es.length + 1) p3))) := keep_fin0 hq'.out hb0.out H3.out hB hBs sw (alloc_last' y _) hlo.out ho3 ⟨hg3.os, hg3.tape, hg3.output, hg3.size, hg3.block⟩
         clear k4 ho3 hg3)))
  all_goals
    go_wp2
    go_ret
    exact ⟨rfl, _, _, _, HF.out⟩
end Go.Proofs.YtbllnjifmcodbaaDoor
